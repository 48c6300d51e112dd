import PyProof.Rows.All
import Wide.All
import OpenK.AllK
import Wide.FinOn
import PyProof.DictFindH
import PyProof.DictRoadsH
import Lean
import PyProof.EqAt
import PyProof.EqKinds
import PyProof.TupleCall
import PyProof.NeKinds
import PyProof.ListRange
import PyProof.TupleOfSeq
import KE.KSortTup
import PyProof.TupleKey
import PyProof.Rows.SetFrom
import PyProof.SetRoads
import KE.KDictList
import KE.KDictOf
import PyProof.AttrMiss
import PyProof.IsiH_list
import PyProof.AutoListH
import PySem.Challenge.RW_noughtways_k66_all_marks
set_option Elab.async false
set_option linter.all false
set_option maxRecDepth 100000
namespace L2
open PySem
section
variable {prog:Program} {w:World} {K:Type} [DecidableEq K] {knd:HeapKind prog w K} {A:Around} {E:Value → Shared → Prop} {s:Shared}
end
open PySem PySem.Spec PyProof.Rows
noncomputable abbrev Key:=Sum Int Str
noncomputable def Ql3:Key → Value → Bool
 | .inl k,v=>Value.isInt k v
 | .inr x,v=>Value.isStrOf x v
noncomputable def keyH (w:World):Key → Int
 | .inl k=>hashInt k
 | .inr x=>hashStr w x
theorem Qa7:∀ {k:Key} {v:Value},Ql3 k v = true → (∃ i t,k = Sum.inl i ∧ v = Value.int i t) ∨ (∃ x t,k = Sum.inr x ∧ v = Value.str x t)
 | .inl i,v,h=>by
  obtain ⟨t,e⟩:=Value.isInt_shape (k:=i) (v:=v) h
  exact .inl ⟨i,t,rfl,e⟩
 | .inr x,v,h=>by
  obtain ⟨t,e⟩:=Value.isStrOf_shape (x:=x) (v:=v) h
  exact .inr ⟨x,t,rfl,e⟩
theorem Qst (i:Int) (t:Tok):Ql3 (.inl i) (.int i t) = true:=by simp [Ql3,Value.isInt]
theorem Qsu (x:Str) (t:Tok):Ql3 (.inr x) (.str x t) = true:=by simp [Ql3,Value.isStrOf]
theorem Q2s (a b:Int):decide ((Sum.inl a:Key) = Sum.inl b) = (a == b):=by
 by_cases e:a = b
 ·subst e; simp
 ·have h:¬ (Sum.inl a:Key) = Sum.inl b:=fun q=>e (Sum.inl.inj q)
  rw [decide_eq_false h]
  exact (beq_eq_false_iff_ne.mpr e).symm
theorem Q2t (a b:Str):decide ((Sum.inr a:Key) = Sum.inr b) = decide (a = b):=by
 by_cases e:a = b
 ·subst e; simp
 ·have h:¬ (Sum.inr a:Key) = Sum.inr b:=fun q=>e (Sum.inr.inj q)
  rw [decide_eq_false h,decide_eq_false e]
theorem Q2u (a:Int) (b:Str):decide ((Sum.inl a:Key) = Sum.inr b) = false:=decide_eq_false (fun q=>nomatch q)
theorem Q2v (a:Str) (b:Int):decide ((Sum.inr a:Key) = Sum.inl b) = false:=decide_eq_false (fun q=>nomatch q)
noncomputable def Qc1 (prog:Program) (w:World):PySem.KeyKind prog w Key where
 is:=Ql3
 hash:=keyH w
 inj:=fun v a b ha hb=>by
  rcases Qa7 ha with ⟨i,t,rfl,rfl⟩ | ⟨x,t,rfl,rfl⟩
  ·rcases Qa7 hb with ⟨j,u,rfl,e⟩ | ⟨y,u,rfl,e⟩
   ·injection e with e1 _; rw [e1]
   ·exact nomatch e
  ·rcases Qa7 hb with ⟨j,u,rfl,e⟩ | ⟨y,u,rfl,e⟩
   ·exact nomatch e
   ·injection e with e1 _; rw [e1]
 byValue:=fun k v h=>by
  rcases Qa7 h with ⟨i,t,rfl,rfl⟩ | ⟨x,t,rfl,rfl⟩ <;> rfl
 pyHash:=fun hv h=>by
  rcases Qa7 hv with ⟨i,t,rfl,rfl⟩ | ⟨x,t,rfl,rfl⟩
  ·exact wpAny_pyHash_int h
  ·exact wpAny_pyHash_str h
 eqBool:=fun hu hv h=>by
  rcases Qa7 hu with ⟨i,t,rfl,rfl⟩ | ⟨x,t,rfl,rfl⟩
  ·rcases Qa7 hv with ⟨j,u,rfl,rfl⟩ | ⟨y,u,rfl,rfl⟩
   ·rw [Q2s] at h; exact wpAny_eqBool_int h
   ·rw [Q2u] at h; exact SeqAt.EqAt.int_str i t y u _ _ _ _ h
  ·rcases Qa7 hv with ⟨j,u,rfl,rfl⟩ | ⟨y,u,rfl,rfl⟩
   ·rw [Q2v] at h; exact SeqAt.EqAt.str_int x t j u _ _ _ _ h
   ·rw [Q2t] at h; exact wpAny_eqBool_str h
 «strs»:=fun k x t v h=>by
  rcases Qa7 h with ⟨i,u,rfl,e⟩ | ⟨y,u,rfl,e⟩
  ·exact nomatch e
  ·injection e with e1 _
   subst e1
   cases v <;> rfl
theorem Qod (prog:Program) (w:World) (i:Int) (t:Tok):(Qc1 prog w).is (.inl i) (.int i t) = true:=Qst i t
theorem Qoe (prog:Program) (w:World) (x:Str) (t:Tok):(Qc1 prog w).is (.inr x) (.str x t) = true:=Qsu x t
inductive V where
 | non | bl (b:Bool) | int (i:Int) | str (x:Str) | byt (b:Array UInt8) | flt (b:UInt64) | ref (a:Addr) | ty (n:String)
 deriving DecidableEq
noncomputable def RelV:V → Value → Prop
 | .non,u=>u = Value.none
 | .bl b,u=>u = Value.bool b
 | .int i,u=>∃ t,u = Value.int i t
 | .str x,u=>∃ t,u = Value.str x t
 | .byt b,u=>∃ t,u = Value.bytes b t
 | .flt b,u=>∃ t,u = Value.float b t
 | .ref a,u=>u = Value.ref a
 | .ty n,u=>u = Value.type n
noncomputable abbrev Vals:List V → List Value → Prop:=Paired RelV
theorem Vals.length {xs:List V} {us:List Value} (r:Vals xs us):xs.length = us.length:=Paired.length r
theorem Vals.get:∀ {xs:List V} {us:List Value} {i:Nat} {x:V},Vals xs us → xs[i]? = some x → ∃ u,us[i]? = some u ∧ RelV x u
 | _,_,_,_,.nil,e=>by simp at e
 | _,_,0,_,.cons r _,e=>by simp at e; subst e; exact ⟨_,rfl,r⟩
 | _,_,i + 1,x,.cons _ t,e=>by
  obtain ⟨u,h1,h2⟩:=Vals.get (i:=i) (x:=x) t (by simpa using e)
  exact ⟨u,by simpa using h1,h2⟩
theorem Vals.set {x:V} {u:Value} (r:RelV x u):∀ {xs:List V} {us:List Value} (i:Nat),Vals xs us → Vals (xs.set i x) (us.set i u)
 | _,_,_,.nil=>.nil
 | _,_,0,.cons _ t=>.cons r t
 | _,_,i + 1,.cons q t=>.cons q (Vals.set r i t)
theorem Vals.append:∀ {xs ys:List V} {us ws:List Value},Vals xs us → Vals ys ws → Vals (xs ++ ys) (us ++ ws)
 | _,_,_,_,.nil,s=>s
 | _,_,_,_,.cons r t,s=>.cons r (Vals.append t s)
theorem Vals.take:∀ {xs:List V} {us:List Value} (n:Nat),Vals xs us → Vals (xs.take n) (us.take n)
 | _,_,0,_=>.nil
 | _,_,_ + 1,.nil=>.nil
 | _,_,n + 1,.cons r t=>.cons r (Vals.take n t)
theorem Vals.drop:∀ {xs:List V} {us:List Value} (n:Nat),Vals xs us → Vals (xs.drop n) (us.drop n)
 | _,_,0,r=>r
 | _,_,_ + 1,.nil=>.nil
 | _,_,n + 1,.cons _ t=>Vals.drop n t
noncomputable def RelO:Option V → Option Value → Prop
 | some v,some u=>RelV v u
 | none,none=>True
 | _,_=>False
noncomputable def KV {κ:Type}:List (κ × V) → List (κ × Value) → Prop:=Paired fun (p:κ × V) (q:κ × Value)=>p.1 = q.1 ∧ RelV p.2 q.2
noncomputable def kV:Key → V
 | .inl i=>.int i
 | .inr x=>.str x
inductive HO where
  | lst (xs:List V)
  | tup (xs:List V)
  | dK (kvs:List (Key × V)) | dT (kvs:List (List Key × V))
  | set (S:Int → Bool) (n:Nat)
  | ins (C dx:Addr) (fs:List (Str × V))
  | own (x:Addr)
  | xd (fs:List (Str × V))
  | met (f x:Addr)
  | rng (lo hi:Int)
  | frz (o:Obj) (u:HO)
  | tbl (q:Str)
 | cod (q:Str)
  | ext (φ:Heap → Prop)
noncomputable abbrev Hp:=Addr → Option HO
noncomputable def upd (H:Hp) (a:Addr) (o:HO):Hp:=fun b=>if b = a then some o else H b
theorem Qi {H:Hp} {a:Addr} {o:HO}:upd H a o a = some o:=by unfold upd; rw [if_pos rfl]
theorem Qv {H:Hp} {a b:Addr} {o:HO} (h:b ≠ a):upd H a o b = H b:=by unfold upd; rw [if_neg h]
theorem Qa2 {H:Hp} {a b:Addr} {o:HO} (h:H a = some o) (h':H b = none):a ≠ b:=by
 intro e; subst e; rw [h] at h'; cases h'
noncomputable def IsTupD (h:Heap) (a:Addr) (its:Array Value):Prop:=∃ o,h.get? a = some o ∧ o.cls = .type "tuple" ∧ ∃ n,o.data = .seq its n ∧ o.dict = none
theorem IsTupD.tup {h:Heap} {a:Addr} {its:Array Value} (x:IsTupD h a its):IsTup h a its:=let ⟨o,e,c,n,d,_⟩:=x; ⟨o,e,c,n,d⟩
theorem IsTupD.new (h:Heap) (its:Array Value):IsTupD (h.push { cls:=.type "tuple",data:=.seq its }) h.objs.size its:=⟨_,Heap.get?_push_size _ rfl,rfl,_,rfl,rfl⟩
section
variable (P:Program) (w:World)
noncomputable def ObjOk (H:Hp) (h:Heap) (a:Addr):HO → Prop
 | .lst xs=>xs.length ≤ sizeLine ∧ ∃ (its:List Value) (n:Nat),Vals xs its ∧ h.get? a = some { cls:=.type "list",data:=.seq its.toArray n }
 | .tup xs=>xs.length ≤ sizeLine ∧ ∃ its:List Value,Vals xs its ∧ IsTupD h a its.toArray
 | .dK kvs=>kvs.length ≤ sizeLine ∧ (a == sysModules) = false ∧ ∃ vs,KV kvs vs ∧ h.DictOf (Qc1 P w) a vs
 | .dT kvs=>kvs.length ≤ sizeLine ∧ (a == sysModules) = false ∧ ∃ xs:List (List Key × Addr × Value),
   Paired (fun (p:List Key × V) (q:List Key × Addr × Value)=>p.1 = q.1 ∧ H q.2.1 = some (.tup (p.1.map kV)) ∧ RelV p.2 q.2.2) kvs xs ∧
   ∃ o es ep,h.get? a = some o ∧ o.ExactDict ∧ o.data = .dict es ep ∧ es.toList = xs.map (entryOfKey (tupleKind (Qc1 P w))) ∧ (xs.map (·.1)).Nodup ∧ ep = es.size
 | .set S n=>h.SetOf (intKind P w) a S n
 | .ins C dx fs=>H dx = some (.own a) ∧ fs.length ≤ 1000 ∧ dx ≠ a ∧ h.get? a = some (PySem.W.instObj C dx) ∧
   ∃ mA,h.Ns1 dx mA ∧ (∀ f,RelO (fs.lookup f) (mA f)) ∧ PySem.Within mA (fs.map (·.1))
 | .own _=>∃ o,h.get? a = some o
 | .xd fs=>∃ mA,h.Ns1 a mA ∧ ∀ f,RelO (fs.lookup f) (mA f)
 | .rng lo hi=>∃ t u v,h.get? a = some { cls:=.type "range",data:=.fields #[.int lo t,.int hi u,.int 1 v] }
 | .frz o u=>h.get? a = some o ∧ ObjOk H h a u
 | .tbl q=>∃ ps:Array Value,h.get? a = some { cls:=.none,data:=.fields ps } ∧ TriplesOk ps.toList ∧ ∀ pos cv,codeAmong pos ps.toList = some cv → ∃ c,cv = .ref c ∧ H c = some (.cod q)
 | .cod q=>h.CodeRec (.ref a) q
 | .met f x=>h.get? a = some (PySem.W.methodObj (.ref f) (.ref x))
 | .ext φ=>φ h ∧ (∃ o,h.get? a = some o) ∧ ∀ h1 h2:Heap,φ h1 → (∀ o,h1.get? a = some o → h2.get? a = some o) → φ h2
noncomputable def HOk (H:Hp) (h:Heap):Prop:=∀ a o,H a = some o → ObjOk P w H h a o
end
section
variable {P:Program} {w:World} {H H':Hp} {h h':Heap} {a:Addr} {o:HO}
theorem ObjOk.lt (x:ObjOk P w H h a o):a < h.objs.size:=by
 cases o with
 | lst xs=>obtain ⟨_,_,_,_,e⟩:=x; exact Heap.lt_size e
 | tup xs=>obtain ⟨_,_,_,p⟩:=x; exact p.tup.lt
 | dK kvs=>obtain ⟨_,_,_,_,o,_,_,e,_⟩:=x; exact Heap.lt_size e
 | dT kvs=>obtain ⟨_,_,_,_,o,_,_,e,_⟩:=x; exact Heap.lt_size e
 | set S n=>obtain ⟨o,_,_,_,e,_⟩:=x; exact Heap.lt_size e
 | ins C dx fs=>obtain ⟨_,_,_,e,_⟩:=x; exact Heap.lt_size e
 | own y=>obtain ⟨_,e⟩:=x; exact Heap.lt_size e
 | xd fs=>obtain ⟨_,⟨_,_,_,e,_⟩,_⟩:=x; exact Heap.lt_size e
 | rng lo hi=>obtain ⟨_,_,_,e⟩:=x; exact Heap.lt_size e
 | frz ob u=>obtain ⟨e,_⟩:=x; exact Heap.lt_size e
 | tbl q=>obtain ⟨_,e,_⟩:=x; exact Heap.lt_size e
 | cod q=>obtain ⟨_,_,_,_,e,e1,_⟩:=x; cases e; exact Heap.lt_size e1
 | met f y=>exact Heap.lt_size (show h.get? a = some _ from x)
 | ext φ=>obtain ⟨_,⟨_,e⟩,_⟩:=x; exact Heap.lt_size e
theorem Paired.mapP {α β:Type} {F G:α → β → Prop}:∀ {l₁:List α} {l₂:List β},Paired F l₁ l₂ → (∀ a b,F a b → G a b) → Paired G l₁ l₂
 | _,_,.nil,_=>.nil
 | _,_,.cons r t,f=>.cons (f _ _ r) (Paired.mapP t f)
theorem ObjOk.stay (x:ObjOk P w H h a o) (k:∀ b u,(b = a ∨ H b = some (.own a)) → h.get? b = some u → h'.get? b = some u)
  (ho:∀ b,H b = some (.own a) → H' b = some (.own a)) (ht:∀ b xs,H b = some (.tup xs) → H' b = some (.tup xs)) (hcod:∀ b q,H b = some (.cod q) → H' b = some (.cod q):=by exact fun _ _ q=>q):ObjOk P w H' h' a o:=by
 induction o with
 | lst xs=>obtain ⟨z,its,n,r,e⟩:=x; exact ⟨z,its,n,r,k _ _ (.inl rfl) e⟩
 | tup xs=>obtain ⟨z,its,r,ob,e,c⟩:=x; exact ⟨z,its,r,ob,k _ _ (.inl rfl) e,c⟩
 | dK kvs=>obtain ⟨z,y,vs,r,ob,es,ep,e,c⟩:=x; exact ⟨z,y,vs,r,ob,es,ep,k _ _ (.inl rfl) e,c⟩
 | dT kvs =>
  obtain ⟨z,y,xs,r,ob,es,ep,e,c⟩:=x
  exact ⟨z,y,xs,Paired.mapP r fun p q z=>⟨z.1,ht _ _ z.2.1,z.2.2⟩,ob,es,ep,k _ _ (.inl rfl) e,c⟩
 | set S n=>obtain ⟨ob,es,ep,t,e,c⟩:=x; exact ⟨ob,es,ep,t,k _ _ (.inl rfl) e,c⟩
 | ins C dx fs =>
  obtain ⟨d,z,ne,e,mA,⟨od,es,ep,e2,c⟩,r⟩:=x
  exact ⟨ho _ d,z,ne,k _ _ (.inl rfl) e,mA,⟨od,es,ep,k _ _ (.inr d) e2,c⟩,r⟩
 | own y=>obtain ⟨ob,e⟩:=x; exact ⟨ob,k _ _ (.inl rfl) e⟩
 | xd fs=>obtain ⟨mA,⟨od,es,ep,e,c⟩,r⟩:=x; exact ⟨mA,⟨od,es,ep,k _ _ (.inl rfl) e,c⟩,r⟩
 | rng lo hi=>obtain ⟨t,u,v,e⟩:=x; exact ⟨t,u,v,k _ _ (.inl rfl) e⟩
 | frz ob u ih=>obtain ⟨e,q⟩:=x; exact ⟨k _ _ (.inl rfl) e,ih q⟩
 | tbl q =>
  obtain ⟨ps,e,tr,al⟩:=x
  refine ⟨ps,k _ _ (.inl rfl) e,tr,fun pos cv hc=>?_⟩
  obtain ⟨c,ec,hH⟩:=al pos cv hc
  exact ⟨c,ec,hcod _ _ hH⟩
 | cod q =>
  obtain ⟨c,o,vs,t,e,e1,r⟩:=x
  cases e
  exact ⟨_,o,vs,t,rfl,k _ _ (.inl rfl) e1,r⟩
 | met f y =>
  have e:h.get? a = some (PySem.W.methodObj (.ref f) (.ref y)):=x
  show h'.get? a = some (PySem.W.methodObj (.ref f) (.ref y))
  exact k a _ (.inl rfl) e
 | ext φ=>obtain ⟨p,⟨o,e⟩,st⟩:=x; exact ⟨st _ _ p fun o q=>k _ _ (.inl rfl) q,⟨o,k _ _ (.inl rfl) e⟩,st⟩
theorem HOk.lt (x:HOk P w H h) (e:H a = some o):a < h.objs.size:=(x a o e).lt
theorem HOk.fresh (x:HOk P w H h) (e:h.objs.size ≤ a):H a = none:=by
 cases q:H a with
 | none=>rfl
 | some u=>exact absurd (Nat.lt_of_lt_of_le (x.lt q) e) (Nat.lt_irrefl _)
theorem HOk.kept (x:HOk P w H h) (k:∀ b u,h.get? b = some u → h'.get? b = some u):HOk P w H h':=fun a o e =>
 (x a o e).stay (fun b u _ q=>k b u q) (fun _ q=>q) fun _ _ q=>q
theorem HOk.laid (x:HOk P w H h) (k:∀ b u,h.get? b = some u → h'.get? b = some u) (hp:h.objs.size ≤ a) (new:ObjOk P w (upd H a o) h' a o):HOk P w (upd H a o) h':=fun b u e=>by
 have hn:=x.fresh hp
 by_cases hb:b = a
 ·subst hb; rw [Qi] at e; cases e; exact new
 ·rw [Qv hb] at e
  exact (x b u e).stay (fun c v _ q=>k c v q) (fun c q=>by rw [Qv (Qa2 q hn)]; exact q) (fun c xs q=>by rw [Qv (Qa2 q hn)]; exact q) fun c xs q=>by rw [Qv (Qa2 q hn)]; exact q
end
noncomputable def Rd (H:Hp) (a:Addr) (u:HO):Prop:=H a = some u ∨ ∃ o,H a = some (.frz o u)
theorem Rd.ok {P:Program} {w:World} {H:Hp} {h:Heap} {a:Addr} {u:HO} (r:Rd H a u) (x:HOk P w H h):ObjOk P w H h a u:=by
 rcases r with r | ⟨o,r⟩
 ·exact x a u r
 ·obtain ⟨_,q⟩:=x a _ r
  exact q
noncomputable def Mut:Option HO → Prop
 | some (.lst _)=>True
 | some (.dK _)=>True
 | some (.dT _)=>True
 | some (.set _ _)=>True
 | some (.ins _ _ _)=>True
 | some (.ext _)=>True
 | _=>False
section
variable {P:Program} {w:World} {H:Hp} {h h':Heap} {x e:Addr} {o':HO}
theorem HOk.write (ok:HOk P w H h) (mu:Mut (H x)) (he:e = x ∨ H e = some (.own x)) (k:∀ b u,b ≠ e → h.get? b = some u → h'.get? b = some u) (heo:∃ u,h'.get? e = some u)
  (new:ObjOk P w (upd H x o') h' x o'):HOk P w (upd H x o') h':=fun b u q=>by
 have nown:∀ c y,H c = some (.own y) → c ≠ x:=fun c y r z=>by subst z; rw [r] at mu; exact mu
 have ntup:∀ c xs,H c = some (.tup xs) → c ≠ x:=fun c xs r z=>by subst z; rw [r] at mu; exact mu
 by_cases hb:b = x
 ·subst hb; rw [Qi] at q; cases q; exact new
 ·rw [Qv hb] at q
  by_cases hbe:b = e
  ·have q':H b = some (.own x):=by
    rcases he with z | z
    ·exact absurd (hbe.trans z) hb
    ·rw [hbe]; exact z
   rw [q] at q'; cases q'
   obtain ⟨v,hv⟩:=heo
   exact ⟨v,by rw [hbe]; exact hv⟩
  ·refine (ok b u q).stay (fun c v hc r=>k c v ?_ r) (fun c r=>by rw [Qv (nown c b r)]; exact r) (fun c xs r=>by rw [Qv (ntup c xs r)]; exact r) fun c y r=>by rw [Qv (fun z=>by subst z; rw [r] at mu; exact mu)]; exact r
   rcases hc with rfl | hc
   ·exact hbe
   ·rintro rfl
    rcases he with z | z
    ·exact nown c b hc z
    ·rw [hc] at z; cases z; exact hb rfl
end
structure Un (fs ex:List Addr) (H H':Hp) (h h':Heap):Prop where
 keep:∀ b o,h.get? b = some o → H b = none → b ∉ fs → b ∉ ex → h'.get? b = some o
 slot:∀ b o,h.get? b = some o → H b = none → b ∈ fs → b ∉ ex → ∃ sl,h'.get? b = some { o with slots:=sl }
 free:∀ b o,h.get? b = some o → H b = none → b ∉ ex → H' b = none
 there:∀ b o,h.get? b = some o → b ∉ ex → ∃ o',h'.get? b = some o'
 tups:∀ b xs,H b = some (.tup xs) → H' b = some (.tup xs)
 frzs:∀ b o u,H b = some (.frz o u) → H' b = some (.frz o u)
 tbls:∀ b q,H b = some (.tbl q) → H' b = some (.tbl q)
section
variable {fs fs' ex ex':List Addr} {H H1 H2:Hp} {h h1 h2 h':Heap} {a x e:Addr} {o:HO}
theorem Un.any (u:Un fs ex H H1 h h1) {b:Addr} {ob:Obj} (q:h.get? b = some ob) (n:H b = none) (hx:b ∉ ex):∃ sl,h1.get? b = some { ob with slots:=sl }:=by
 by_cases hb:b ∈ fs
 ·exact u.slot b ob q n hb hx
 ·exact ⟨ob.slots,u.keep b ob q n hb hx⟩
theorem Un.kept (k:∀ b u,h.get? b = some u → h'.get? b = some u):Un fs ex H H h h' :=
 ⟨fun b ob q _ _ _=>k b ob q,fun b ob q _ _ _=>⟨ob.slots,k b ob q⟩,fun _ _ _ n _=>n,fun b ob q _=>⟨ob,k b ob q⟩,fun _ _ q=>q,fun _ _ _ q=>q,fun _ _ q=>q⟩
theorem Un.refl:Un fs ex H H h h:=Un.kept fun _ _ q=>q
theorem Un.laid (k:∀ b u,h.get? b = some u → h'.get? b = some u) (hp:h.objs.size ≤ a) (hn:H a = none):Un fs ex H (upd H a o) h h' where
 keep:=fun b u q _ _ _=>k b u q
 slot:=fun b u q _ _ _=>⟨u.slots,k b u q⟩
 free:=fun b u q n _=>by rw [Qv (Nat.ne_of_lt (Nat.lt_of_lt_of_le (Heap.lt_size q) hp))]; exact n
 there:=fun b u q _=>⟨u,k b u q⟩
 tups:=fun b xs q=>by rw [Qv (Qa2 q hn)]; exact q
 frzs:=fun b u xs q=>by rw [Qv (Qa2 q hn)]; exact q
 tbls:=fun b ps q=>by rw [Qv (Qa2 q hn)]; exact q
theorem Un.write (mu:Mut (H x)) (he:e = x ∨ H e = some (.own x)) (k:∀ b u,b ≠ e → h.get? b = some u → h'.get? b = some u) (heo:∃ u,h'.get? e = some u):Un fs ex H (upd H x o) h h':=by
 have hx:∀ b,H b = none → b ≠ x:=fun b n z=>by subst z; rw [n] at mu; exact mu
 have hb:∀ b,H b = none → b ≠ e:=fun b n z=>by
  subst z
  rcases he with r | r
  ·exact hx b n r
  ·rw [n] at r; cases r
 have hm:∀ b u,H b = some u → ¬ Mut (some u) → b ≠ x:=fun b u q nm z=>by subst z; rw [q] at mu; exact nm mu
 refine ⟨fun b u q n _ _=>k b u (hb b n) q,fun b u q n _ _=>⟨u.slots,k b u (hb b n) q⟩,fun b u q n _=>by rw [Qv (hx b n)]; exact n,fun b u q _=>?_,
  fun b xs q=>by rw [Qv (hm b _ q fun z=>z)]; exact q,fun b u xs q=>by rw [Qv (hm b _ q fun z=>z)]; exact q,fun b ps q=>by rw [Qv (hm b _ q fun z=>z)]; exact q⟩
 by_cases hbe:b = e
 ·subst hbe; exact heo
 ·exact ⟨u,k b u hbe q⟩
end
noncomputable def trk (h:Heap) (H:Hp):List Addr:=(List.range h.objs.size).filter fun a=>(H a).isSome
noncomputable def Qm1 (h:Heap) (H:Hp):Heap:=PySem.W.hideAll h (trk h H)
theorem Qsv (h:Heap) (H:Hp):(Qm1 h H).objs.size = h.objs.size:=PySem.W.hideAll_size _ _
theorem Qul {h:Heap} {H:Hp} {b:Addr} {o:Obj} (e:h.get? b = some o) (n:H b = none):(Qm1 h H).get? b = some o :=
 PySem.W.hideAll_get _ e fun hm=>by
  have q:(H b).isSome = true:=(List.mem_filter.mp hm).2
  rw [n] at q; simp at q
theorem Qyf {h:Heap} {H:Hp} {b:Addr} {o:Obj} (e:(Qm1 h H).get? b = some o):h.get? b = some o ∧ H b = none:=by
 have e':h.get? b = some o:=PySem.W.of_hideAll (trk h H) e
 refine ⟨e',?_⟩
 cases q:H b with
 | none=>rfl
 | some x =>
  have hm:b ∈ trk h H:=List.mem_filter.mpr ⟨List.mem_range.mpr (Heap.lt_size e'),by simp [q]⟩
  have z:(Qm1 h H).get? b = none:=PySem.W.hideAll_none (trk h H) hm
  rw [z] at e; cases e
noncomputable def Qyg (g h:Heap) (L:Addr):List (Addr × Obj):=(List.range h.objs.size).filterMap fun a=>if a = L ∨ (g.get? a).isSome = true then none else (h.get? a).map fun o=>(a,o)
noncomputable def rest (g h:Heap) (L d:Addr):List (Addr × Obj):=(Qyg g h L).filter fun p=>decide (p.1 ≠ d)
structure Mod (K:PySem.W.Frag) (mg:Str → Option Value) (base:Heap):Prop where
 kin:K.In base
 glob:base.Ns mainGlobals mg
 blt:∃ mb,base.Ns builtinsNs mb ∧ ∀ x:Str,x ≠ "__name__" → mb x = bootBuiltins x
 nolimit:base.NoLimit
 bm:∃ bm ob,mg "__builtins__" = some (.ref bm) ∧ bm ≠ builtinsNs ∧ base.get? bm = some ob ∧ ob.cls = .type "module" ∧ ob.dict = some builtinsNs ∧ ob.data = .plain
noncomputable def Qum (K:PySem.W.Frag) (a:Addr) (q:Str):Prop:=∃ b t,K.getLast? = some (b,{ cls:=.none,data:=.fields #[.ref a,.str q t] })
noncomputable def Qun (K:PySem.W.Frag) (H:Hp):Prop:=∀ a q,Qum K a q → H a = some (.tbl q)
structure Cx where
 prog:Program
 w:World
 K:PySem.W.Frag
 mg:Str → Option Value
 base:Heap
 A:Around
 N:List Str
 s₀:Shared
 H₀:Hp
 env:Env
 outer:List Env
 stack:List Env
 ex:List Addr
 fn:Str → Bool
 calm:Bool
 pn:List (Addr × Obj)
 xe:Value → Shared → Prop
noncomputable def frs (l:List Env):List Addr:=l.filterMap (·.frame)
noncomputable abbrev Cx.fs (X:Cx):List Addr:=frs X.outer
noncomputable def Vis (sc:Scope) (x:Str):Prop:=sc.names.lookup x = some .local ∨ sc.names.lookup x = some .cell ∨ sc.names.lookup x = some .free
noncomputable def Loc (sc:Scope) (x:Str):Prop:=sc.names.lookup x = some .local ∨ sc.names.lookup x = some .cell
noncomputable def Look (env:Env) (h:Heap) (m:Str → Option Value) (x:Str) (u:Value):Prop :=
 (env.kindOf x = some .local ∧ m x = some u) ∨ ((env.kindOf x = some .cell ∨ env.kindOf x = some .free) ∧ ∃ c,env.cells.lookup x = some c ∧ h.IsCell c (some u))
structure Cx.Ok (X:Cx):Prop where
 mod:Mod X.K X.mg X.base
 kind:X.env.scope.kind = .function
 glob:X.env.globals = mainGlobals
 blt:X.env.builtins = builtinsNs
 above:X.s₀.heap.objs.size ≤ X.env.locals
 inj:∀ x y c,X.env.cells.lookup x = some c → X.env.cells.lookup y = some c → x = y
 has:∀ x,(X.env.kindOf x = some .cell ∨ X.env.kindOf x = some .free) → ∃ c,X.env.cells.lookup x = some c
 cab:∀ x c,X.fn x = true → X.env.cells.lookup x = some c → X.s₀.heap.objs.size ≤ c
 hd:X.calm = true → X.A.handled = none
 frames:X.A.frames = some X.stack
 stk:X.stack = X.outer ∨ (X.stack = X.env :: X.outer ∧ X.env.frame = some X.env.locals)
 exf:∀ b ∈ X.ex,b ≠ X.env.locals ∧ ∀ x c,X.env.cells.lookup x = some c → c ≠ b
 bs:∀ b o,X.base.get? b = some o → X.s₀.heap.get? b = some o ∧ X.H₀ b = none
 bsz:X.base.objs.size ≤ X.s₀.heap.objs.size
 noex:∀ b o,X.base.get? b = some o → b ∉ X.ex
 exfs:∀ b ∈ X.ex,b ∉ X.fs
 funs:X.s₀.heap.FunFrames X.base X.outer
 frf:(∀ b ∈ X.fs,X.H₀ b = none) ∧ Qun X.K X.H₀
structure Inv (X:Cx) (pins:List (Addr × Obj)) (σ:List (Option V)) (H:Hp) (s:Shared):Prop where
 ok:X.Ok
 os:s.os = X.s₀.os
 bare:AllBare s.gens
 base:Un X.fs X.ex X.H₀ H X.s₀.heap s.heap
 loc:∃ m,s.heap.Ns X.env.locals m ∧ ∀ (i:Nat) (x:Str) (v:V),X.N[i]? = some x → σ[i]? = some (some v) → Vis X.env.scope x → ∃ u,RelV v u ∧ Look X.env s.heap m x u
 cell:∀ x c,X.env.cells.lookup x = some c → ∃ v,s.heap.IsCell c v
 free:H X.env.locals = none
 freeC:∀ x c,X.env.cells.lookup x = some c → H c = none ∨ (X.fn x = false ∧ ∃ o u,H c = some (.frz o u))
 pin:∀ p ∈ X.pn ++ pins,s.heap.get? p.1 = some p.2 ∧ H p.1 = none ∧ p.1 ≠ X.env.locals ∧ p.1 ∉ X.fs ∧ ∀ v,p.2.data ≠ .cell v
 hok:HOk X.prog X.w H s.heap
 len:σ.length = X.N.length
section
variable {X:Cx} {pins:List (Addr × Obj)} {σ:List (Option V)} {H H':Hp} {s:Shared} {h':Heap}
theorem Cx.Ok.nofr (ok:X.Ok) {b:Addr} {o:Obj} (e:X.base.get? b = some o):b ∉ X.fs:=fun hb=>by
 have:=(ok.funs.mem hb).1
 rw [e] at this; cases this
theorem Inv.bs (I:Inv X pins σ H s):∀ b o,X.base.get? b = some o → s.heap.get? b = some o ∧ H b = none:=fun b o e =>
 ⟨I.base.keep b o (I.ok.bs b o e).1 (I.ok.bs b o e).2 (I.ok.nofr e) (I.ok.noex b o e),I.base.free b o (I.ok.bs b o e).1 (I.ok.bs b o e).2 (I.ok.noex b o e)⟩
theorem Inv.bk (I:Inv X pins σ H s):∀ b o,X.base.get? b = some o → s.heap.get? b = some o:=fun b o e=>(I.bs b o e).1
theorem Inv.mod (I:Inv X pins σ H s):Mod X.K X.mg X.base:=I.ok.mod
theorem Inv.kIn (I:Inv X pins σ H s):X.K.In s.heap:=I.ok.mod.kin.keeps I.bk
theorem Inv.nolimit (I:Inv X pins σ H s):s.heap.NoLimit:=I.ok.mod.nolimit.keeps I.bk
theorem Inv.lt (I:Inv X pins σ H s):X.env.locals < s.heap.objs.size:=let ⟨_,hn,_⟩:=I.loc; hn.lt
theorem Inv.sz (I:Inv X pins σ H s):X.s₀.heap.objs.size ≤ s.heap.objs.size:=Nat.le_trans I.ok.above (Nat.le_of_lt I.lt)
theorem Inv.nofs (I:Inv X pins σ H s) {a:Addr} (h:s.heap.objs.size ≤ a):a ∉ X.fs:=fun hb=>by
 obtain ⟨_,o,ho,_⟩:=I.ok.funs.mem hb
 exact absurd (Nat.lt_of_lt_of_le (Heap.lt_size ho) (Nat.le_trans I.sz h)) (Nat.lt_irrefl _)
theorem Inv.cne (I:Inv X pins σ H s):∀ x c,X.env.cells.lookup x = some c → c ≠ X.env.locals:=fun x c e z=>by
 obtain ⟨v,o,ho,hd⟩:=I.cell x c e
 obtain ⟨m,⟨o',es,ep,ho',hd',_⟩,_⟩:=I.loc
 rw [z,ho'] at ho; cases ho; rw [hd'] at hd; cases hd
theorem Inv.funs (I:Inv X pins σ H s):s.heap.FunFrames X.base X.outer:=by
 have all:∀ (l:List Env),(∀ b ∈ frs l,b ∈ X.fs) → X.s₀.heap.FunFrames X.base l → s.heap.FunFrames X.base l:=by
  intro l
  induction l with
  | nil=>intro _ _; trivial
  | cons env r ih =>
   intro hs hl
   obtain ⟨hk,⟨L,o,hf,hn,ho,hd⟩,hr⟩:=hl
   have hL:L ∈ X.fs:=hs L (by unfold frs; rw [List.filterMap_cons,hf]; exact List.mem_cons_self)
   obtain ⟨sl,e⟩:=I.base.slot L o ho (I.ok.frf.1 L hL) hL fun z=>I.ok.exfs L z hL
   exact ⟨hk,⟨L,_,hf,hn,e,hd⟩,ih (fun b hb=>hs b (by unfold frs; rw [List.filterMap_cons,hf]; exact List.mem_cons_of_mem _ hb)) hr⟩
 exact all X.outer (fun _ hb=>hb) I.ok.funs
theorem Inv.stack (I:Inv X pins σ H s):s.heap.FunFrames X.base X.stack:=by
 rcases I.ok.stk with e | ⟨e,hf⟩
 ·rw [e]; exact I.funs
 ·rw [e]
  obtain ⟨m,hn,_⟩:=I.loc
  refine .cons (by rw [I.ok.kind]; decide) hf hn ?_ I.funs
  exact Heap.get?_none_of_le (Nat.le_trans I.ok.bsz I.ok.above)
theorem Inv.stkSub (I:Inv X pins σ H s):∀ b ∈ frs X.stack,b ∈ X.env.locals :: X.fs:=fun b hb=>by
 rcases I.ok.stk with e | ⟨e,hf⟩
 ·rw [e] at hb; exact List.mem_cons_of_mem _ hb
 ·rw [e] at hb
  unfold frs at hb
  rw [List.filterMap_cons,hf] at hb
  exact hb
theorem Inv.stkFree (I:Inv X pins σ H s):∀ b ∈ frs X.stack,H b = none:=fun b hb=>by
 rcases List.mem_cons.mp (I.stkSub b hb) with e | hb
 ·rw [e]; exact I.free
 ·obtain ⟨_,o,ho,_⟩:=I.ok.funs.mem hb
  exact I.base.free b o ho (I.ok.frf.1 b hb) fun z=>I.ok.exfs b z hb
theorem Inv.tab (I:Inv X pins σ H s):Qun X.K H:=fun a q h=>I.base.tbls a q (I.ok.frf.2 a q h)
theorem Inv.step {g':Array GenState} {t':Nat} {d':Drawn} {ch:List Addr} (I:Inv X pins σ H s)
  (hch:∀ b ∈ ch,(b ∈ X.ex ∨ X.s₀.heap.objs.size ≤ b) ∧ b ≠ X.env.locals ∧ (∀ x c,X.env.cells.lookup x = some c → c ≠ b) ∧ ∀ p ∈ X.pn ++ pins,p.1 ≠ b)
  (keep:∀ b o,b ≠ X.env.locals → b ∉ X.fs → b ∉ ch → s.heap.get? b = some o → H b = none → h'.get? b = some o)
  (slot:∀ b o,b ≠ X.env.locals → b ∈ X.fs → b ∉ ch → s.heap.get? b = some o → H b = none → ∃ sl,h'.get? b = some { o with slots:=sl }) (free:∀ b o,b ∉ ch → s.heap.get? b = some o → H b = none → H' b = none)
  (there:∀ b o,b ∉ ch → s.heap.get? b = some o → ∃ o',h'.get? b = some o')
  (tups:∀ b xs,H b = some (.tup xs) → H' b = some (.tup xs)) (frzs:∀ b o u,H b = some (.frz o u) → H' b = some (.frz o u)) (tbls:∀ b q,H b = some (.tbl q) → H' b = some (.tbl q))
  (ns:∀ m,s.heap.Ns X.env.locals m → h'.Ns X.env.locals m) (hok:HOk X.prog X.w H' h') (hg:AllBare g') :
  Inv X pins σ H' { s with heap:=h',gens:=g',drawn:=d',toks:=t' }:=by
 have neL:∀ b o,X.s₀.heap.get? b = some o → b ≠ X.env.locals:=fun b o e=>Nat.ne_of_lt (Nat.lt_of_lt_of_le (Heap.lt_size e) I.ok.above)
 have neC:∀ b o,X.s₀.heap.get? b = some o → b ∉ X.ex → b ∉ ch:=fun b o e hx hb=>by
  rcases (hch b hb).1 with z | z
  ·exact hx z
  ·exact absurd (Nat.lt_of_lt_of_le (Heap.lt_size e) z) (Nat.lt_irrefl _)
 have cellK:∀ x c,X.env.cells.lookup x = some c → ∀ v,s.heap.IsCell c v → h'.IsCell c v:=fun x c e v ⟨o,ho,hd⟩=>by
  have nch:c ∉ ch:=fun z=>(hch c z).2.2.1 x c e rfl
  rcases I.freeC x c e with fc | ⟨_,of,u,fc⟩
  ·by_cases hc:c ∈ X.fs
   ·obtain ⟨sl,q⟩:=slot c o (I.cne x c e) hc nch ho fc
    exact ⟨_,q,hd⟩
   ·exact ⟨o,keep c o (I.cne x c e) hc nch ho fc,hd⟩
  ·have e1:=(I.hok c _ fc).1
   rw [ho] at e1
   cases e1
   exact ⟨_,(hok c _ (frzs c _ _ fc)).1,hd⟩
 refine ⟨I.ok,I.os,hg,⟨fun b o e n hb hx=>?_,fun b o e n hb hx=>?_,fun b o e n hx=>?_,fun b o e hx=>?_,fun b xs e=>tups b xs (I.base.tups b xs e),fun b o xs e=>frzs b o xs (I.base.frzs b o xs e),fun b ps e=>?_⟩,?_,fun x c e=>?_,?_,fun x c e=>?_,fun p hp=>?_,hok,I.len⟩
 ·exact keep b o (neL b o e) hb (neC b o e hx) (I.base.keep b o e n hb hx) (I.base.free b o e n hx)
 ·obtain ⟨sl,e1⟩:=I.base.slot b o e n hb hx
  obtain ⟨sl',e2⟩:=slot b _ (neL b o e) hb (neC b o e hx) e1 (I.base.free b o e n hx)
  exact ⟨sl',e2⟩
 ·obtain ⟨o',e1⟩:=I.base.there b o e hx
  exact free b o' (neC b o e hx) e1 (I.base.free b o e n hx)
 ·obtain ⟨o',e1⟩:=I.base.there b o e hx
  exact there b o' (neC b o e hx) e1
 ·exact tbls b ps (I.base.tbls b ps e)
 ·obtain ⟨m,hn,hl⟩:=I.loc
  refine ⟨m,ns m hn,fun i x v e1 e2 e3=>?_⟩
  obtain ⟨u,r,l⟩:=hl i x v e1 e2 e3
  refine ⟨u,r,?_⟩
  rcases l with l | ⟨k,c,e,z⟩
  ·exact .inl l
  ·exact .inr ⟨k,c,e,cellK x c e _ z⟩
 ·obtain ⟨v,z⟩:=I.cell x c e
  exact ⟨v,cellK x c e v z⟩
 ·obtain ⟨m,⟨o,_,_,ho,_⟩,_⟩:=I.loc
  exact free _ o (fun z=>(hch _ z).2.1 rfl) ho I.free
 ·obtain ⟨v,o,ho,hd⟩:=I.cell x c e
  rcases I.freeC x c e with fc | ⟨fn,of,u,fc⟩
  ·exact .inl (free c o (fun z=>(hch c z).2.2.1 x c e rfl) ho fc)
  ·exact .inr ⟨fn,of,u,frzs c _ _ fc⟩
 ·obtain ⟨e,n,ne,nf,d⟩:=I.pin p hp
  have nch:p.1 ∉ ch:=fun z=>(hch p.1 z).2.2.2 p hp rfl
  exact ⟨keep p.1 p.2 ne nf nch e n,free p.1 p.2 nch e n,ne,nf,d⟩
theorem Inv.un {t':Nat} (I:Inv X pins σ H s) (u:Un X.fs [] H H' s.heap h') (hok:HOk X.prog X.w H' h'):Inv X pins σ H' { s with heap:=h',toks:=t' }:=by
 obtain ⟨m,⟨o,es,ep,ho,r⟩,_⟩:=id I.loc
 obtain ⟨sl,hL⟩:=u.any ho I.free (by simp)
 exact I.step (g':=s.gens) (d':=s.drawn) (ch:=[]) (fun _ z=>nomatch z) (fun b o _ hb _ e n=>u.keep b o e n hb (by simp)) (fun b o _ hb _ e n=>u.slot b o e n hb (by simp)) (fun b o _ e n=>u.free b o e n (by simp)) (fun b o _ e=>u.there b o e (by simp)) u.tups u.frzs u.tbls (fun m' hm=>by
  obtain ⟨o',es',ep',ho',r'⟩:=hm
  rw [ho] at ho'; cases ho'
  exact ⟨_,es',ep',hL,r'⟩) hok I.bare
theorem Inv.call {g':Array GenState} {t':Nat} {d':Drawn} {ch:List Addr} (I:Inv X pins σ H s) (u:Un (frs X.stack) ch H H' s.heap h') (hok:HOk X.prog X.w H' h') (hg:AllBare g')
  (hch:∀ b ∈ ch,(b ∈ X.ex ∨ X.s₀.heap.objs.size ≤ b) ∧ b ≠ X.env.locals ∧ (∀ x c,X.env.cells.lookup x = some c → c ≠ b) ∧ ∀ p ∈ X.pn ++ pins,p.1 ≠ b) :
  Inv X pins σ H' { s with heap:=h',gens:=g',drawn:=d',toks:=t' }:=by
 obtain ⟨m,⟨o,es,ep,ho,r⟩,_⟩:=id I.loc
 obtain ⟨sl,hL⟩:=u.any ho I.free fun z=>(hch _ z).2.1 rfl
 exact I.step (ch:=ch) hch (fun b o hL hb hc e n=>u.keep b o e n (fun z=>(List.mem_cons.mp (I.stkSub b z)).elim hL hb) hc) (fun b o _ _ hc e n=>u.any e n hc) (fun b o hc e n=>u.free b o e n hc) (fun b o hc e=>u.there b o e hc) u.tups u.frzs u.tbls (fun m' hm=>by
  obtain ⟨o',es',ep',ho',r'⟩:=hm
  rw [ho] at ho'; cases ho'
  exact ⟨_,es',ep',hL,r'⟩) hok hg
theorem Inv.turned {t':Nat} {it:Addr} (I:Inv X pins σ H s) (k:∀ b o,b ≠ it → s.heap.get? b = some o → h'.get? b = some o) (hn:H it = none) (hL:it ≠ X.env.locals)
  (h1:it ∈ X.ex ∨ X.s₀.heap.objs.size ≤ it) (h2:∀ x c,X.env.cells.lookup x = some c → c ≠ it) (h3:∀ p ∈ X.pn ++ pins,p.1 ≠ it):Inv X pins σ H { s with heap:=h',toks:=t' }:=by
 have nit:∀ b u,H b = some u → b ≠ it:=fun b u e z=>by rw [z,hn] at e; cases e
 refine I.step (g':=s.gens) (d':=s.drawn) (ch:=[it]) (fun b hb=>?_) (fun b o _ _ hc e _=>k b o (fun z=>hc (by simp [z])) e) (fun b o _ _ hc e _=>⟨o.slots,k b o (fun z=>hc (by simp [z])) e⟩) (fun _ _ _ _ n=>n)
  (fun b o hc e=>⟨o,k b o (fun z=>hc (by simp [z])) e⟩) (fun _ _ e=>e) (fun _ _ _ e=>e) (fun _ _ e=>e) (fun m hm=>?_) (fun b u e=>?_) I.bare
 ·have e:b = it:=by simpa using hb
  subst e
  exact ⟨h1,hL,h2,h3⟩
 ·obtain ⟨o,es,ep,ho,r⟩:=hm
  exact ⟨o,es,ep,k _ o (Ne.symm hL) ho,r⟩
 ·refine (I.hok b u e).stay (fun c v hc q=>k c v ?_ q) (fun _ q=>q) fun _ _ q=>q
  rcases hc with z | z
  ·rw [z]; exact nit b u e
  ·exact nit c _ z
theorem Inv.tok (I:Inv X pins σ H s) (t:Nat):Inv X pins σ H { s with toks:=t }:=I.un (h':=s.heap) (t':=t) Un.refl I.hok
theorem Inv.kept {t':Nat} (I:Inv X pins σ H s) (k:∀ b u,s.heap.get? b = some u → h'.get? b = some u):Inv X pins σ H { s with heap:=h',toks:=t' }:=I.un (Un.kept k) (I.hok.kept k)
theorem Inv.laid {a:Addr} {o:HO} {t':Nat} (I:Inv X pins σ H s) (k:∀ b u,s.heap.get? b = some u → h'.get? b = some u) (hp:s.heap.objs.size ≤ a) (new:ObjOk X.prog X.w (upd H a o) h' a o) :
  Inv X pins σ (upd H a o) { s with heap:=h',toks:=t' }:=I.un (Un.laid k hp (I.hok.fresh hp)) (I.hok.laid k hp new)
theorem Inv.write {x e:Addr} {o:HO} {t':Nat} (I:Inv X pins σ H s) (mu:Mut (H x)) (he:e = x ∨ H e = some (.own x)) (k:∀ b u,b ≠ e → s.heap.get? b = some u → h'.get? b = some u) (heo:∃ u,h'.get? e = some u)
  (new:ObjOk X.prog X.w (upd H x o) h' x o):Inv X pins σ (upd H x o) { s with heap:=h',toks:=t' }:=I.un (Un.write mu he k heo) (I.hok.write mu he k heo new)
theorem Inv.pins_of {pins':List (Addr × Obj)} (I:Inv X pins σ H s) (h:∀ p ∈ pins',s.heap.get? p.1 = some p.2 ∧ H p.1 = none ∧ p.1 ≠ X.env.locals ∧ p.1 ∉ X.fs ∧ ∀ v,p.2.data ≠ .cell v):Inv X pins' σ H s :=
 ⟨I.ok,I.os,I.bare,I.base,I.loc,I.cell,I.free,I.freeC,fun p hp=>(List.mem_append.mp hp).elim (fun z=>I.pin p (List.mem_append_left _ z)) (h p),I.hok,I.len⟩
theorem Qj1 {N:List Str} (hN:N.Nodup) {i j:Nat} {x:Str} (a:N[i]? = some x) (b:N[j]? = some x):i = j:=by
 obtain ⟨h1,e1⟩:=List.getElem?_eq_some_iff.mp a
 obtain ⟨h2,e2⟩:=List.getElem?_eq_some_iff.mp b
 exact (List.getElem_inj hN).mp (e1.trans e2.symm)
theorem Qsw {M:Model} {A:Around} {E:Value → Shared → Prop} {i:Nat} {x:Str} {v:V} {u:Value} {Q:Unit → Shared → Prop} (I:Inv X pins σ H s) (hN:X.N.Nodup) (hi:X.N[i]? = some x) (hx:Loc X.env.scope x) (r:RelV v u)
  (h:∀ s',Inv X pins (σ.set i (some v)) H s' → (∃ a,Heap.SameBut a s.heap s'.heap ∧ (a = X.env.locals ∨ X.env.cells.lookup x = some a)) → Q () s') (hf:X.fn x = true ∨ X.env.scope.names.lookup x = some .local:=by first | exact .inl rfl | exact .inr rfl | assumption):wpAny M A (storeName X.env x u) Q E s:=by
 obtain ⟨m,hn,hl⟩:=id I.loc
 have hcls:(X.env.scope.kind == .class || (X.env.scope.kind == .module && X.env.locals != X.env.globals)) = false:=by rw [I.ok.kind]; rfl
 have hiσ:i < σ.length:=by rw [I.len]; exact (List.getElem?_eq_some_iff.mp hi).1
 have cne:=I.cne
 have tracked:∀ {a:Addr} {h':Heap},(∃ o,s.heap.get? a = some o ∧ H a = none) → Heap.SameBut a s.heap h' → HOk X.prog X.w H h':=fun {a h'} ha hs b ob e=>by
  obtain ⟨_,_,hfree⟩:=ha
  refine (I.hok b ob e).stay (fun c w' hc q=>(hs.2 c ?_).trans q) (fun _ q=>q) fun _ _ q=>q
  rintro rfl
  rcases hc with rfl | hc
  ·rw [hfree] at e; cases e
  ·rw [hfree] at hc; cases hc
 rcases hx with hk | hk
 ·refine wpAny_storeName_local hk hn (fun h' hn' hs=>?_) hcls
  obtain ⟨oL,_,_,hoL,_⟩:=id hn
  refine h _ ⟨I.ok,I.os,I.bare,⟨fun b o e n hb hx=>?_,fun b o e n hb hx=>?_,I.base.free,fun b o e hx=>?_,I.base.tups,I.base.frzs,I.base.tbls⟩,⟨_,hn',fun j y v' e1 e2 e3=>?_⟩,fun y c e=>?_,I.free,I.freeC,fun p hp=>?_,tracked ⟨oL,hoL,I.free⟩ hs,by simpa using I.len⟩ ⟨_,hs,.inl rfl⟩
  ·exact (hs.2 b (Nat.ne_of_lt (Nat.lt_of_lt_of_le (Heap.lt_size e) I.ok.above))).trans (I.base.keep b o e n hb hx)
  ·obtain ⟨sl,e1⟩:=I.base.slot b o e n hb hx
   exact ⟨sl,(hs.2 b (Nat.ne_of_lt (Nat.lt_of_lt_of_le (Heap.lt_size e) I.ok.above))).trans e1⟩
  ·obtain ⟨o',e1⟩:=I.base.there b o e hx
   exact ⟨o',(hs.2 b (Nat.ne_of_lt (Nat.lt_of_lt_of_le (Heap.lt_size e) I.ok.above))).trans e1⟩
  ·by_cases hj:j = i
   ·subst hj
    rw [hi] at e1; cases e1
    rw [List.getElem?_set_self hiσ] at e2
    cases e2
    exact ⟨u,r,.inl ⟨hk,by simp⟩⟩
   ·rw [List.getElem?_set_ne (Ne.symm hj)] at e2
    obtain ⟨u',r',q⟩:=hl j y v' e1 e2 e3
    refine ⟨u',r',?_⟩
    rcases q with ⟨k,e⟩ | ⟨k,c,e,z⟩
    ·refine .inl ⟨k,?_⟩
     have:y ≠ x:=fun e=>hj (Qj1 hN e1 (e ▸ hi))
     simp [this,e]
    ·exact .inr ⟨k,c,e,z.sameBut hs (cne y c e)⟩
  ·obtain ⟨w',z⟩:=I.cell y c e
   exact ⟨w',z.sameBut hs (cne y c e)⟩
  ·obtain ⟨e,n,ne,nf,d⟩:=I.pin p hp
   exact ⟨(hs.2 p.1 ne).trans e,n,ne,nf,d⟩
 ·have hfn:X.fn x = true:=by
   rcases hf with z | z
   ·exact z
   ·rw [z] at hk; cases hk
  obtain ⟨c,hc⟩:=I.ok.has x (.inl hk)
  obtain ⟨w',z⟩:=I.cell x c hc
  refine wpAny_storeName_cell I.ok.kind hk hc z (fun h' hc' hs=>?_)
  obtain ⟨oc,hoc,hocd⟩:=id z
  refine h { s with heap:=h' } ⟨I.ok,I.os,I.bare,⟨fun b o e n hb hx=>?_,fun b o e n hb hx=>?_,I.base.free,fun b o e hx=>?_,I.base.tups,I.base.frzs,I.base.tbls⟩,⟨m,hn.sameBut hs (Ne.symm (cne x c hc)),fun j y v' e1 e2 e3=>?_⟩,fun y c' e=>?_,I.free,I.freeC,fun p hp=>?_,tracked ⟨oc,hoc,(I.freeC x c hc).resolve_right fun z=>by rw [hfn] at z; cases z.1⟩ hs,by simpa using I.len⟩ ⟨c,hs,.inr hc⟩
  ·exact (hs.2 b (Nat.ne_of_lt (Nat.lt_of_lt_of_le (Heap.lt_size e) (I.ok.cab x c hfn hc)))).trans (I.base.keep b o e n hb hx)
  ·obtain ⟨sl,e1⟩:=I.base.slot b o e n hb hx
   exact ⟨sl,(hs.2 b (Nat.ne_of_lt (Nat.lt_of_lt_of_le (Heap.lt_size e) (I.ok.cab x c hfn hc)))).trans e1⟩
  ·obtain ⟨o',e1⟩:=I.base.there b o e hx
   exact ⟨o',(hs.2 b (Nat.ne_of_lt (Nat.lt_of_lt_of_le (Heap.lt_size e) (I.ok.cab x c hfn hc)))).trans e1⟩
  ·by_cases hj:j = i
   ·subst hj
    rw [hi] at e1; cases e1
    rw [List.getElem?_set_self hiσ] at e2
    cases e2
    exact ⟨u,r,.inr ⟨.inl hk,c,hc,hc'⟩⟩
   ·rw [List.getElem?_set_ne (Ne.symm hj)] at e2
    obtain ⟨u',r',q⟩:=hl j y v' e1 e2 e3
    refine ⟨u',r',?_⟩
    rcases q with q | ⟨k,c',e,z'⟩
    ·exact .inl q
    ·refine .inr ⟨k,c',e,z'.sameBut hs ?_⟩
     rintro rfl
     exact hj (Qj1 hN e1 (I.ok.inj _ _ _ e hc ▸ hi))
  ·by_cases hcc:c' = c
   ·subst hcc; exact ⟨_,hc'⟩
   ·obtain ⟨w2,z2⟩:=I.cell y c' e
    exact ⟨w2,z2.sameBut hs hcc⟩
  ·obtain ⟨e,n,ne,nf,d⟩:=I.pin p hp
   refine ⟨(hs.2 p.1 ?_).trans e,n,ne,nf,d⟩
   intro q
   rw [q,hoc] at e
   have q':oc = p.2:=Option.some.inj e
   exact d w' (by rw [← q']; exact hocd)
theorem Qhq {M:Model} {A:Around} {E:Value → Shared → Prop} {i:Nat} {x:Str} {v:V} {u:Value} {Q:Unit → Shared → Prop} (I:Inv X pins σ H s) (hN:X.N.Nodup) (hi:X.N[i]? = some x) (hx:Loc X.env.scope x) (r:RelV v u)
  (h:∀ s',Inv X pins (σ.set i (some v)) H s' → Q () s') (hf:X.fn x = true ∨ X.env.scope.names.lookup x = some .local:=by first | exact .inl rfl | exact .inr rfl | assumption):wpAny M A (storeName X.env x u) Q E s :=
 Qsw I hN hi hx r (fun s' I' _=>h s' I') hf
theorem Inv.call' {s':Shared} {ch:List Addr} (I:Inv X pins σ H s) (ho:s'.os = s.os) (u:Un (frs X.stack) ch H H' s.heap s'.heap) (hok:HOk X.prog X.w H' s'.heap) (hg:AllBare s'.gens)
  (hch:∀ b ∈ ch,(b ∈ X.ex ∨ X.s₀.heap.objs.size ≤ b) ∧ b ≠ X.env.locals ∧ (∀ x c,X.env.cells.lookup x = some c → c ≠ b) ∧ ∀ p ∈ X.pn ++ pins,p.1 ≠ b):Inv X pins σ H' s':=by
 obtain ⟨h',g',d',t',o'⟩:=s'
 have e:o' = s.os:=ho
 subst e
 exact I.call (g':=g') (t':=t') (d':=d') u hok hg hch
end
noncomputable abbrev XK:=Value → Option Addr → Hp → Prop
noncomputable abbrev St:=List (Option V)
noncomputable abbrev VK:=V → Hp → Prop
noncomputable abbrev TE:=St → Hp → VK → Prop
noncomputable abbrev TT:=St → Hp → (Bool → Hp → Prop) → Prop
noncomputable abbrev TA:=St → Hp → (List V → Hp → Prop) → Prop
structure Ends where
 nx:St → Hp → Prop
 rt:VK
 bk:St → Hp → Prop:=fun _ _=>False
 ct:St → Hp → Prop:=fun _ _=>False
noncomputable abbrev TS:=Ends → St → Hp → Prop
noncomputable def EP (X:Cx) (pins:List (Addr × Obj)) (σ:St) (Q:VK) (u:Value) (s':Shared):Prop:=∃ v H',Inv X pins σ H' s' ∧ RelV v u ∧ Q v H'
noncomputable def TP (X:Cx) (pins:List (Addr × Obj)) (σ:St) (Q:Bool → Hp → Prop) (b:Bool) (s':Shared):Prop:=∃ H',Inv X pins σ H' s' ∧ Q b H'
noncomputable def AP (X:Cx) (pins:List (Addr × Obj)) (σ:St) (Q:List V → Hp → Prop) (us:List Value) (s':Shared):Prop:=∃ vs H',Inv X pins σ H' s' ∧ Vals vs us ∧ Q vs H'
noncomputable def SP (X:Cx) (pins:List (Addr × Obj)) (D:Ends) (f:Flow) (s':Shared):Prop :=
 match f with
 | .next=>∃ σ' H',Inv X pins σ' H' s' ∧ D.nx σ' H'
 | .brk=>∃ σ' H',Inv X pins σ' H' s' ∧ D.bk σ' H'
 | .cont=>∃ σ' H',Inv X pins σ' H' s' ∧ D.ct σ' H'
 | .ret u=>∃ v σ' H',Inv X pins σ' H' s' ∧ RelV v u ∧ D.rt v H'
noncomputable def PE (X:Cx) (e:Expr) (t:TE):Prop :=
 ∀ (pins:List (Addr × Obj)) (s:Shared) (σ:St) (H:Hp) (Q:VK),Inv X pins σ H s → t σ H Q → wpAny (model X.prog X.w) X.A (eval e X.env) (EP X pins σ Q) X.xe s
noncomputable def PT (X:Cx) (e:Expr) (t:TT):Prop :=
 ∀ (pins:List (Addr × Obj)) (s:Shared) (σ:St) (H:Hp) (Q:Bool → Hp → Prop),Inv X pins σ H s → t σ H Q → wpAny (model X.prog X.w) X.A (isTrue e X.env (eval e X.env)) (TP X pins σ Q) X.xe s
noncomputable def PW (X:Cx) (e:Expr) (t:TT):Prop :=
 ∀ (whole:Sem Value) (pins:List (Addr × Obj)) (s:Shared) (σ:St) (H:Hp) (Q:Bool → Hp → Prop),Inv X pins σ H s → t σ H Q → wpAny (model X.prog X.w) X.A (isTrue e X.env whole) (TP X pins σ Q) X.xe s
theorem PW.pt {X:Cx} {e:Expr} {t:TT} (h:PW X e t):PT X e t:=h _
noncomputable def PA (X:Cx) (es:List Expr) (t:TA):Prop :=
 ∀ (pos:Pos) (pins:List (Addr × Obj)) (s:Shared) (σ:St) (H:Hp) (Q:List V → Hp → Prop),Inv X pins σ H s → t σ H Q → wpAny (model X.prog X.w) X.A (spliced (backTo pos (starEach es X.env))) (AP X pins σ Q) X.xe s
noncomputable def PS (X:Cx) (st:Stmt) (t:TS):Prop :=
 ∀ (pins:List (Addr × Obj)) (s:Shared) (σ:St) (H:Hp) (D:Ends),Inv X pins σ H s → t D σ H → wpAny (model X.prog X.w) X.A (exec st X.env) (SP X pins D) X.xe s
noncomputable def PSs (X:Cx) (st:List Stmt) (t:TS):Prop :=
 ∀ (pins:List (Addr × Obj)) (s:Shared) (σ:St) (H:Hp) (D:Ends),Inv X pins σ H s → t D σ H → wpAny (model X.prog X.w) X.A (execs st X.env) (SP X pins D) X.xe s
theorem thn {α:Type} {t:Sem α} {Q Q':α → Shared → Prop} {M:Model} {A:Around} {E:Value → Shared → Prop} {s:Shared} (h:wpAny M A t Q E s) (hQ:∀ a s,Q a s → Q' a s):wpAny M A t Q' E s:=wpAny_mono h hQ fun _ _ x=>x
section
variable {X:Cx}
theorem bin {a b:Expr} {ta tb:TE} (ha:PE X a ta) (hb:PE X b tb) {pins:List (Addr × Obj)} {s:Shared} {σ:St} {H:Hp} {R:V → V → Hp → Prop} (I:Inv X pins σ H s) (h:ta σ H fun x H1=>tb σ H1 fun y H2=>R x y H2)
  {α:Type} {Q:α → Shared → Prop} {f:Value → Value → Sem α}
  (hf:∀ v u s2 x y H2,Inv X pins σ H2 s2 → RelV x v → RelV y u → R x y H2 → wpAny (model X.prog X.w) X.A (f v u) Q X.xe s2) :
  wpAny (model X.prog X.w) X.A (eval a X.env) (fun v s₁=>wpAny (model X.prog X.w) X.A (eval b X.env) (fun u s₂=>wpAny (model X.prog X.w) X.A (f v u) Q X.xe s₂) X.xe s₁) X.xe s:=by
 refine thn (ha pins s σ H _ I h) fun v s1 ⟨x,H1,I1,r1,q1⟩=>?_
 refine thn (hb pins s1 σ H1 _ I1 q1) fun u s2 ⟨y,H2,I2,r2,q2⟩=>?_
 exact hf v u s2 x y H2 I2 r1 r2 q2
noncomputable abbrev Qg8 (i:Nat):TE:=fun σ H Q=>∃ v,σ[i]? = some (some v) ∧ Q v H
noncomputable abbrev tC (v:V):TE:=fun _ H Q=>Q v H
theorem Q2w {i:Nat} {x:Str} {pos:Pos} (hN:X.N[i]? = some x) (hv:Vis X.env.scope x) (hd:(x == ("__debug__" : Str)) = false:=by decide) (hcd:(x == ("__classdict__" : Str)) = false:=by decide):PE X (.Name x pos) (Qg8 i):=by
 intro pins s σ H Q I h
 obtain ⟨v,e,h⟩:=h
 obtain ⟨m,hn,hl⟩:=I.loc
 obtain ⟨u,r,l⟩:=hl i x v hN e hv
 have fin:EP X pins σ Q u s:=⟨v,H,I,r,h⟩
 rcases l with ⟨hk,hm⟩ | ⟨hk,c,hc,hcell⟩
 ·exact wpAny_Name (wpAny_loadName_local I.ok.kind hk hn hm fin) hd
 ·rcases hk with hk | hk
  ·exact wpAny_Name (wpAny_loadName_cell I.ok.kind hk hc hcell fin) hd
  ·exact wpAny_Name (wpAny_loadName_free I.ok.kind hk hc hcell fin hcd) hd
theorem Quo {i j pos}:PE X (.Constant (.int i) j pos) (tC (.int i)):=fun _ _ _ H _ I h=>wpAny_Constant_int ⟨.int i,H,I.tok _,⟨_,rfl⟩,h⟩
theorem Q6y {b j pos}:PE X (.Constant (.bool b) j pos) (tC (.bl b)):=fun _ _ _ H _ I h=>Constant_bool ⟨.bl b,H,I,rfl,h⟩
theorem Q2x {j pos}:PE X (.Constant .none j pos) (tC .non):=fun _ _ _ H _ I h=>Constant_none ⟨.non,H,I,rfl,h⟩
theorem Qp1 {x j pos}:PE X (.Constant (.str x) j pos) (tC (.str x)):=fun _ _ _ H _ I h=>Calls.Constant_str ⟨.str x,H,I.tok _,⟨_,rfl⟩,h⟩
noncomputable def Gl (X:Cx) (x:Str):Prop:=X.env.kindOf x = some .globalImplicit
theorem Qe7 {E:Value → Shared → Prop} {pins:List (Addr × Obj)} {s:Shared} {σ:St} {H:Hp} {x:Str} {u:Value} {pos:Pos} {Q:Value → Shared → Prop} (I:Inv X pins σ H s) (hg:Gl X x) (hm:X.mg x = some u) (h:Q u s)
  (hd:(x == ("__debug__" : Str)) = false:=by decide):wpAny (model X.prog X.w) X.A (eval (.Name x pos) X.env) Q E s :=
 Calls.Name_function_global I.ok.kind hg (Calls.loadGlobal_global (by rw [I.ok.glob]; exact I.mod.glob.keeps I.bk) hm h) hd
theorem Qj2 {E:Value → Shared → Prop} {pins:List (Addr × Obj)} {s:Shared} {σ:St} {H:Hp} {x:Str} {u:Value} {pos:Pos} {Q:Value → Shared → Prop} (I:Inv X pins σ H s) (hg:Gl X x) (hm:X.mg x = none) (hv:bootBuiltins x = some u) (h:Q u s)
  (hn:x ≠ "__name__" := by decide) (hd:(x == ("__debug__" : Str)) = false:=by decide):wpAny (model X.prog X.w) X.A (eval (.Name x pos) X.env) Q E s:=by
 obtain ⟨mb,h1,h2⟩:=I.mod.blt
 exact Calls.Name_function_global I.ok.kind hg (Calls.loadGlobal_builtin (by rw [I.ok.glob]; exact I.mod.glob.keeps I.bk) hm (by rw [I.ok.blt]; exact h1.keeps I.bk) ((h2 x hn).trans hv) h) hd
theorem Qrm {x:Str} {v:V} {u:Value} {pos:Pos} (hg:Gl X x) (hm:X.mg x = some u) (r:RelV v u) (hd:(x == ("__debug__" : Str)) = false:=by decide):PE X (.Name x pos) (tC v) :=
 fun _ _ _ H _ I h=>Qe7 I hg hm ⟨v,H,I,r,h⟩ hd
theorem Qyh {x:Str} {v:V} {u:Value} {pos:Pos} (hg:Gl X x) (hm:X.mg x = none) (hv:bootBuiltins x = some u) (r:RelV v u) (hn:x ≠ "__name__" := by decide) (hd:(x == ("__debug__" : Str)) = false:=by decide):PE X (.Name x pos) (tC v) :=
 fun _ _ _ H _ I h=>Qj2 I hg hm hv ⟨v,H,I,r,h⟩ hn hd
variable {a b:Expr} {ta tb:TE} {pos:Pos}
noncomputable def PC (X:Cx) (op:CmpOp) (a b:Expr) (t:TE):Prop :=
 ∀ (pins:List (Addr × Obj)) (s:Shared) (σ:St) (H:Hp) (Q:VK),Inv X pins σ H s → t σ H Q →
  wpAny (model X.prog X.w) X.A (eval a X.env) (fun v s₁=>wpAny (model X.prog X.w) X.A (eval b X.env) (fun u s₂=>wpAny (model X.prog X.w) X.A (compareOp op v u) (EP X pins σ Q) X.xe s₂) X.xe s₁) X.xe s
theorem Qup (b:Expr) {op:CmpOp} (h:op ≠ .In) (h2:op ≠ .NotIn):behindInMarks op b = false:=by
 have e1:(op == CmpOp.In) = false:=by cases op <;> first | rfl | exact absurd rfl h
 have e2:(op == CmpOp.NotIn) = false:=by cases op <;> first | rfl | exact absurd rfl h2
 cases b <;> simp [behindInMarks,e1,e2]
noncomputable abbrev tB (t:TE):TT:=fun σ H Q=>t σ H fun x H1=>∃ c,x = .bl c ∧ Q c H1
theorem pt_cmp {op:CmpOp} {t:TE} (h:PC X op a b t) (h1:behindInMarks op b = false:=by first | exact Qup _ (by decide) (by decide) | rfl):PT X (.Compare a [op] [b] pos) (tB t):=by
 intro pins s σ H Q I hw
 refine wpAny_isTrue_Compare1 (thn (h pins s σ H _ I hw) fun v s1 h1=>thn h1 fun u s2 h2=>thn h2 fun c s3 ⟨x,H1,I1,r1,q1⟩=>?_) h1
 obtain ⟨d,rfl,q⟩:=q1
 cases r1
 exact wpAny_truthy_bool ⟨H1,I1,q⟩
theorem Q2y {e:Expr} {t:TE} (h:PE X e t) (he:∀ whole,isTrue e X.env whole = (do let v ← whole; standAt e.pos; holding [v] (truthy v)):=by intro _; rfl):PT X e (tB t):=by
 intro pins s σ H Q I hw
 refine isTrue_plain (thn (h pins s σ H _ I hw) fun v s1 ⟨x,H1,I1,r1,q1⟩=>?_) (he _)
 obtain ⟨d,rfl,q⟩:=q1
 cases r1
 exact wpAny_truthy_bool ⟨H1,I1,q⟩
variable {tA tB':TT} {rest:List Expr}
noncomputable abbrev Q6z (t u:TT):TT:=fun σ H Q=>t σ H fun c H1=>if c = true then u σ H1 Q else Q false H1
noncomputable abbrev tOr (t u:TT):TT:=fun σ H Q=>t σ H fun c H1=>if c = true then Q true H1 else u σ H1 Q
noncomputable abbrev Q60 (t:TT):TT:=fun σ H Q=>t σ H fun c H1=>Q (!c) H1
theorem Qyi (ha:PT X a tA):PW X (.BoolOp .And [a] pos) tA:=by
 intro wh pins s σ H Q I h
 refine isTrue_and (thn (ha pins s σ H Q I h) fun c s1 e=>?_)
 cases c with
 | true=>exact isTrue_and_nil e
 | false=>exact e
theorem Q2z (ha:PT X a tA):PW X (.BoolOp .Or [a] pos) tA:=by
 intro wh pins s σ H Q I h
 refine isTrue_or (thn (ha pins s σ H Q I h) fun c s1 e=>?_)
 cases c with
 | false=>exact isTrue_or_nil e
 | true=>exact e
theorem Q20 (ha:PT X a tA) (hb:PW X (.BoolOp .And (b :: rest) pos) tB'):PW X (.BoolOp .And (a :: b :: rest) pos) (Q6z tA tB'):=by
 intro wh pins s σ H Q I h
 refine isTrue_and (thn (ha pins s σ H _ I h) fun c s1 ⟨H1,I1,q1⟩=>?_)
 cases c with
 | true=>exact hb wh pins s1 σ H1 Q I1 q1
 | false=>exact ⟨H1,I1,q1⟩
theorem Q61 (ha:PT X a tA) (hb:PW X (.BoolOp .Or (b :: rest) pos) tB'):PW X (.BoolOp .Or (a :: b :: rest) pos) (tOr tA tB'):=by
 intro wh pins s σ H Q I h
 refine isTrue_or (thn (ha pins s σ H _ I h) fun c s1 ⟨H1,I1,q1⟩=>?_)
 cases c with
 | true=>exact ⟨H1,I1,q1⟩
 | false=>exact hb wh pins s1 σ H1 Q I1 q1
theorem Q21 (ha:PT X a tA):PT X (.UnaryOp .Not a pos) (Q60 tA):=by
 intro pins s σ H Q I h
 exact isTrue_not (ha pins s σ H (fun c H1=>Q (!c) H1) I h)
noncomputable abbrev Q1e (ta tb:TE):TE:=fun σ H Q=>ta σ H fun x H1=>∃ c,x = .bl c ∧ if c = true then tb σ H1 Q else Q (.bl false) H1
noncomputable abbrev Q1f (ta:TE):TE:=fun σ H Q=>ta σ H fun x H1=>∃ c,x = .bl c ∧ Q (.bl (!c)) H1
theorem Q22 {op} {t:TE} (h:PE X a t):PE X (.BoolOp op [a] pos) t:=fun pins s σ H Q I hw=>BoolOp_one (h pins s σ H Q I hw)
theorem Q23 (ha:PE X a ta) (hb:PE X (.BoolOp .And (b :: rest) pos) tb):PE X (.BoolOp .And (a :: b :: rest) pos) (Q1e ta tb):=by
 intro pins s σ H Q I h
 refine BoolOp_and (thn (ha pins s σ H _ I h) fun v s1 ⟨x,H1,I1,r1,q1⟩=>?_)
 obtain ⟨c,rfl,q1⟩:=q1
 cases r1
 refine wpAny_truthy_bool ?_
 cases c with
 | true=>exact hb pins s1 σ H1 Q I1 q1
 | false=>exact ⟨.bl false,H1,I1,rfl,q1⟩
theorem Q24 (ha:PE X a ta):PE X (.UnaryOp .Not a pos) (Q1f ta):=by
 intro pins s σ H Q I h
 refine UnaryOp_ (thn (ha pins s σ H _ I h) fun v s1 ⟨x,H1,I1,r1,q1⟩=>?_)
 obtain ⟨c,rfl,q1⟩:=q1
 cases r1
 exact not_of (wpAny_truthy_bool ⟨.bl (!c),H1,I1,rfl,q1⟩)
noncomputable abbrev tIf (t:TT) (ta tb:TE):TE:=fun σ H Q=>t σ H fun c H1=>if c = true then ta σ H1 Q else tb σ H1 Q
theorem Quq {c:Expr} (hc:PT X c tA) (ha:PE X a ta) (hb:PE X b tb):PE X (.IfExp c a b pos) (tIf tA ta tb):=by
 intro pins s σ H Q I h
 refine wpAny_IfExp (thn (hc pins s σ H _ I h) fun d s1 ⟨H1,I1,q1⟩=>?_)
 cases d with
 | true=>exact ha pins s1 σ H1 Q I1 q1
 | false=>exact hb pins s1 σ H1 Q I1 q1
end
noncomputable def SqL (K:PySem.W.Frag) (H:Hp) (a:Addr) (xs:List V):Prop :=
 Rd H a (.lst xs) ∨
  ∃ (o:Obj) (its:Array Value) (n:Nat),K.lookup a = some o ∧ o.cls = .type "list" ∧ o.dict = none ∧ o.data = .seq its n ∧ its.size ≤ sizeLine ∧ Vals xs its.toList
noncomputable def SqT (K:PySem.W.Frag) (H:Hp) (a:Addr) (xs:List V):Prop :=
 Rd H a (.tup xs) ∨
  ∃ (o:Obj) (its:Array Value) (n:Nat),K.lookup a = some o ∧ o.cls = .type "tuple" ∧ o.data = .seq its n ∧ its.size ≤ sizeLine ∧ Vals xs its.toList
noncomputable def absV:Value → Option V
 | .none=>some .non
 | .bool b=>some (.bl b)
 | .int i _=>some (.int i)
 | .str x _=>some (.str x)
 | .bytes b _=>some (.byt b)
 | .float b _=>some (.flt b)
 | .ref a=>some (.ref a)
 | .type n=>some (.ty n)
 | _=>none
theorem RelV.abs {x:V} {u:Value} (r:RelV x u):absV u = some x:=by
 cases x with
 | non=>cases r; rfl
 | bl _=>cases r; rfl
 | int _=>obtain ⟨t,rfl⟩:=r; rfl
 | str _=>obtain ⟨t,rfl⟩:=r; rfl
 | byt _=>obtain ⟨t,rfl⟩:=r; rfl
 | flt _=>obtain ⟨t,rfl⟩:=r; rfl
 | ref _=>cases r; rfl
 | ty _=>cases r; rfl
theorem RelV.inj {x y:V} {u:Value} (r:RelV x u) (q:RelV y u):x = y:=Option.some.inj (r.abs.symm.trans q.abs)
theorem Vals.inj:∀ {xs ys:List V} {us:List Value},Vals xs us → Vals ys us → xs = ys
 | _,_,_,.nil,.nil=>rfl
 | _,_,_,.cons r t,.cons r' t'=>by rw [r.inj r',Vals.inj t t']
section
variable {X:Cx} {pins:List (Addr × Obj)} {σ:St} {H:Hp} {s:Shared} {a:Addr} {xs ys:List V}
theorem SqL.of {K:PySem.W.Frag} (h:H a = some (.lst xs)):SqL K H a xs:=.inl (.inl h)
theorem SqT.of {K:PySem.W.Frag} (h:H a = some (.tup xs)):SqT K H a xs:=.inl (.inl h)
theorem Inv.list (I:Inv X pins σ H s) (h:SqL X.K H a xs):∃ its:List Value,Vals xs its ∧ PlainL s.heap a its.toArray ∧ xs.length ≤ sizeLine:=by
 rcases h with h | ⟨o,its,n,hk,hc,hd,hs,hz,r⟩
 ·obtain ⟨z,its,n,r,e⟩:=h.ok I.hok
  exact ⟨its,r,⟨_,n,e,rfl,rfl,rfl⟩,z⟩
 ·refine ⟨its.toList,r,⟨o,n,I.kIn a o hk,hc,hd,by simpa using hs⟩,?_⟩
  have e:=r.length
  simp only [Array.length_toList] at e
  omega
theorem Inv.tuple (I:Inv X pins σ H s) (h:SqT X.K H a xs):∃ its:List Value,Vals xs its ∧ IsTup s.heap a its.toArray ∧ xs.length ≤ sizeLine:=by
 rcases h with h | ⟨o,its,n,hk,hc,hs,hz,r⟩
 ·obtain ⟨z,its,r,p⟩:=h.ok I.hok
  exact ⟨its,r,p.tup,z⟩
 ·refine ⟨its.toList,r,⟨o,I.kIn a o hk,hc,n,by simpa using hs⟩,?_⟩
  have e:=r.length
  simp only [Array.length_toList] at e
  omega
theorem Inv.list_inj (I:Inv X pins σ H s) (h:SqL X.K H a xs) (h':SqL X.K H a ys):xs = ys:=by
 obtain ⟨its,r,⟨o,n,e,_,_,d⟩,_⟩:=I.list h
 obtain ⟨its',r',⟨o',n',e',_,_,d'⟩,_⟩:=I.list h'
 rw [e] at e'; cases e'
 rw [d] at d'
 injection d' with d1 _
 have:its = its':=by simpa using congrArg Array.toList d1
 subst this
 exact r.inj r'
theorem Inv.tuple_inj (I:Inv X pins σ H s) (h:SqT X.K H a xs) (h':SqT X.K H a ys):xs = ys:=by
 obtain ⟨its,r,⟨o,e,_,n,d⟩,_⟩:=I.tuple h
 obtain ⟨its',r',⟨o',e',_,n',d'⟩,_⟩:=I.tuple h'
 rw [e] at e'; cases e'
 rw [d] at d'
 injection d' with d1 _
 have:its = its':=by simpa using congrArg Array.toList d1
 subst this
 exact r.inj r'
end
noncomputable abbrev Cx.wish (X:Cx) (E:Value → Shared → Prop):Cx:={ X with xe:=E }
noncomputable abbrev Cx.nox (X:Cx):Cx:=X.wish fun _ _=>False
theorem Cx.Ok.wish {X:Cx} (ok:X.Ok) (E:Value → Shared → Prop):(X.wish E).Ok :=
 ⟨ok.mod,ok.kind,ok.glob,ok.blt,ok.above,ok.inj,ok.has,ok.cab,ok.hd,ok.frames,ok.stk,ok.exf,ok.bs,ok.bsz,ok.noex,ok.exfs,ok.funs,ok.frf⟩
theorem Cx.Ok.unwish {X:Cx} {E:Value → Shared → Prop} (ok:(X.wish E).Ok):X.Ok :=
 ⟨ok.mod,ok.kind,ok.glob,ok.blt,ok.above,ok.inj,ok.has,ok.cab,ok.hd,ok.frames,ok.stk,ok.exf,ok.bs,ok.bsz,ok.noex,ok.exfs,ok.funs,ok.frf⟩
section
variable {X:Cx} {pins:List (Addr × Obj)} {σ:St} {H:Hp} {s:Shared} {E:Value → Shared → Prop}
theorem Inv.wish (I:Inv X pins σ H s) (E:Value → Shared → Prop):Inv (X.wish E) pins σ H s:=⟨I.ok.wish E,I.os,I.bare,I.base,I.loc,I.cell,I.free,I.freeC,I.pin,I.hok,I.len⟩
theorem Inv.unwish (I:Inv (X.wish E) pins σ H s):Inv X pins σ H s:=⟨I.ok.unwish,I.os,I.bare,I.base,I.loc,I.cell,I.free,I.freeC,I.pin,I.hok,I.len⟩
theorem SP.unwish {D:Ends} {f:Flow} {s':Shared} (h:SP (X.wish E) pins D f s'):SP X pins D f s':=by
 cases f with
 | next=>obtain ⟨σ',H',I,q⟩:=h; exact ⟨σ',H',I.unwish,q⟩
 | brk=>obtain ⟨σ',H',I,q⟩:=h; exact ⟨σ',H',I.unwish,q⟩
 | cont=>obtain ⟨σ',H',I,q⟩:=h; exact ⟨σ',H',I.unwish,q⟩
 | ret u=>obtain ⟨v,σ',H',I,r,q⟩:=h; exact ⟨v,σ',H',I.unwish,r,q⟩
theorem PSs.nox {st:List Stmt} {t:TS} (h:PSs X.nox st t):PSs X st t:=fun pins s σ H D I hw =>
 wpAny_mono (h pins s σ H D (I.wish _) hw) (fun _ _ q=>q.unwish) fun _ _ z=>False.elim z
end
section
variable {X:Cx} {st:Stmt} {rest:List Stmt} {t u:TS} {e:Expr} {te:TE} {pos:Pos}
noncomputable abbrev Q1g:TS:=fun D σ H=>D.nx σ H
noncomputable abbrev Qur (t u:TS):TS:=fun D σ H=>t { D with nx:=u D } σ H
theorem Qyj:PSs X [] Q1g:=fun _ _ σ H _ I h=>wpAny_execs_nil ⟨σ,H,I,h⟩
theorem Qus (h1:PS X st t) (h2:PSs X rest u):PSs X (st :: rest) (Qur t u):=by
 intro pins s σ H D I h
 refine wpAny_execs_cons (thn (h1 pins s σ H { D with nx:=u D } I h) fun f s1 q=>?_)
 cases f with
 | next =>
  obtain ⟨σ',H',I',q⟩:=q
  exact h2 pins s1 σ' H' D I' q
 | ret v=>exact q
 | brk=>exact q
 | cont=>exact q
theorem Qyk (h1:PS X st t):PSs X [st] t:=by
 intro pins s σ H D I h
 refine wpAny_execs_cons (thn (h1 pins s σ H D I h) fun f s1 q=>?_)
 cases f with
 | next=>exact wpAny_execs_nil q
 | ret v=>exact q
 | brk=>exact q
 | cont=>exact q
theorem Inv.quiet {pins:List (Addr × Obj)} {σ:St} {H:Hp} {s:Shared} (I:Inv X pins σ H s):interactive X.env = false:=by simp [interactive,I.ok.kind]
noncomputable abbrev Qof (te:TE):TS:=fun D σ H=>te σ H fun _ H1=>D.nx σ H1
theorem Qyl (he:PE X e te) (hs:swapsWith e none pos.line X.env = pure false:=by rfl):PS X (.Expr e pos) (Qof te):=by
 intro pins s σ H D I h
 exact wpAny_Expr_any (thn (he pins s σ H _ I h) fun v s1 ⟨x,H1,I1,r1,q1⟩=>⟨σ,H1,I1,q1⟩) I.quiet hs
noncomputable abbrev Qym (te:TE):TS:=fun D σ H=>te σ H D.rt
theorem Q25 (he:PE X e te):PS X (.Return (some e) pos) (Qym te):=by
 intro pins s σ H D I h
 exact wpAny_Return_some (thn (he pins s σ H _ I h) fun v s1 ⟨x,H1,I1,r1,q1⟩=>⟨x,σ,H1,I1,r1,q1⟩)
noncomputable abbrev Q62 (c:TT) (t u:TS):TS:=fun D σ H=>c σ H fun b H1=>if b = true then t D σ H1 else u D σ H1
theorem Q63 {c:Expr} {a b:List Stmt} {tc:TT} (hc:PT X c tc) (ha:PSs X a t) (hb:PSs X b u):PS X (.If c a b pos) (Q62 tc t u):=by
 intro pins s σ H D I h
 refine wpAny_If (thn (hc pins s σ H _ I h) fun d s1 ⟨H1,I1,q1⟩=>?_)
 cases d with
 | true=>exact ha pins s1 σ H1 D I1 q1
 | false=>exact hb pins s1 σ H1 D I1 q1
end
noncomputable abbrev TG:=V → St → Hp → (St → Hp → Prop) → Prop
noncomputable abbrev TGs:=List V → St → Hp → (St → Hp → Prop) → Prop
noncomputable def PG (X:Cx) (target:Expr) (t:TG):Prop :=
 ∀ (pins:List (Addr × Obj)) (s:Shared) (σ:St) (H:Hp) (v:V) (u:Value) (Q:St → Hp → Prop),Inv X pins σ H s → RelV v u → t v σ H Q →
  wpAny (model X.prog X.w) X.A (assign target X.env u) (fun _ s'=>∃ σ' H',Inv X pins σ' H' s' ∧ Q σ' H') X.xe s
noncomputable def PGs (X:Cx) (ts:List Expr) (t:TGs):Prop :=
 ∀ (pins:List (Addr × Obj)) (s:Shared) (σ:St) (H:Hp) (vs:List V) (us:List Value) (Q:St → Hp → Prop),Inv X pins σ H s → Vals vs us → t vs σ H Q →
  wpAny (model X.prog X.w) X.A (assignInOrder ((assignEach ts X.env).map (·.2)) us) (fun _ s'=>∃ σ' H',Inv X pins σ' H' s' ∧ Q σ' H') X.xe s
noncomputable abbrev Q26:=V → V → V → Hp → (Hp → Prop) → Prop
noncomputable def Q64 (X:Cx) (t:Q26):Prop :=
 ∀ (pins:List (Addr × Obj)) (s:Shared) (σ:St) (H:Hp) (o i v:V) (ov iv u:Value) (Q:Hp → Prop),Inv X pins σ H s → RelV o ov → RelV i iv → RelV v u → t o i v H Q →
  wpAny (model X.prog X.w) X.A (setItem ov iv u) (fun _ s'=>∃ H',Inv X pins σ H' s' ∧ Q H') X.xe s
section
variable {X:Cx} {pos:Pos}
noncomputable abbrev Qfz (i:Nat):TG:=fun v σ H Q=>Q (σ.set i (some v)) H
theorem Qyn {i:Nat} {x:Str} (hN:X.N.Nodup) (hi:X.N[i]? = some x) (hx:Loc X.env.scope x) (hf:X.fn x = true ∨ X.env.scope.names.lookup x = some .local:=by first | exact .inl rfl | exact .inr rfl | assumption):PG X (.Name x pos) (Qfz i):=by
 intro pins s σ H v u Q I r h
 exact wpAny_assign_Name (Qhq I hN hi hx r (fun s' I'=>⟨_,H,I',h⟩) hf)
noncomputable abbrev Q27:TGs:=fun vs σ H Q=>vs = [] ∧ Q σ H
noncomputable abbrev Qut (t:TG) (u:TGs):TGs:=fun vs σ H Q=>∃ v r,vs = v :: r ∧ t v σ H fun σ' H'=>u r σ' H' Q
theorem Qyo:PGs X [] Q27:=by
 intro pins s σ H vs us Q I r h
 obtain ⟨e,h⟩:=h
 subst e
 cases r
 exact assignInOrder_nil ⟨σ,H,I,h⟩
theorem Quu {e:Expr} {es:List Expr} {t:TG} {u:TGs} (h1:PG X e t) (h2:PGs X es u)
  (hs:(assignEach (e :: es) X.env).map (·.2) = assign e X.env :: (assignEach es X.env).map (·.2):=by rfl):PGs X (e :: es) (Qut t u):=by
 intro pins s σ H vs us Q I r h
 obtain ⟨v,vr,e1,h⟩:=h
 subst e1
 cases r with
 | cons r rr =>
  rw [hs]
  refine assignInOrder_cons (thn (h1 pins s σ H _ _ _ I r h) fun _ s1 ⟨σ1,H1,I1,q1⟩=>?_)
  exact h2 pins s1 σ1 H1 _ _ Q I1 rr q1
noncomputable def Qyp (K:PySem.W.Frag) (n:Nat) (t:TGs):TG:=fun v σ H Q=>∃ a xs,v = .ref a ∧ SqT K H a xs ∧ xs.length = n ∧ t xs σ H Q
theorem Q28 {es:List Expr} {k:Nat} {t:TGs} {n:Nat} (hc:X.calm = true) (h:PGs X es t)
  (hn:(assignEach es X.env).length = n:=by rfl) (hst:(assignEach es X.env).findIdx? (·.1) = none:=by rfl):PG X (.Tuple es k pos) (Qyp X.K n t):=by
 intro pins s σ H v u Q I r hw
 obtain ⟨a,xs,e1,hq,hl,hw⟩:=hw
 subst e1
 cases r
 obtain ⟨its,rv,ht,hz⟩:=I.tuple hq
 refine assign_Tuple_tuple (I.ok.hd hc) ht (by simp [hn,← hl,rv.length]) hst fun h' hx=>?_
 have I1:Inv X pins σ H { s with heap:=h' }:=I.kept (t':=s.toks) fun b o e=>hx b o (Nat.ne_of_lt (Heap.lt_size e)) e
 exact h pins _ σ H xs _ Q I1 (by simpa using rv) hw
noncomputable abbrev Q29 (to ti:TE) (t:Q26):TG:=fun v σ H Q=>to σ H fun o H1=>ti σ H1 fun i H2=>t o i v H2 fun H3=>Q σ H3
theorem Q3a {o i:Expr} {to ti:TE} {t:Q26} (ho:PE X o to) (hi:PE X i ti) (hs:Q64 X t)
  (ha:∀ v,assign (.Subscript o i pos) X.env v = (do
   let ov ← holding [v] (eval o X.env)
   let iv ← holding [v,ov] (eval i X.env)
   standAt pos
   holding [v,ov,iv] (setItem ov iv v)
   release [v,ov,iv] []):=by intro _; rfl):PG X (.Subscript o i pos) (Q29 to ti t):=by
 intro pins s σ H v u Q I r h
 rw [ha]
 refine wpAny_bind (wpAny_holding (thn (ho pins s σ H _ I h) fun ov s1 ⟨x,H1,I1,r1,q1⟩=>?_))
 refine wpAny_bind (wpAny_holding (thn (hi pins s1 σ H1 _ I1 q1) fun iv s2 ⟨y,H2,I2,r2,q2⟩=>?_))
 refine wpAny_bind (wpAny_standAt (wpAny_bind (wpAny_holding (thn (hs pins s2 σ H2 x y v ov iv u _ I2 r1 r2 r q2) fun _ s3 ⟨H3,I3,q3⟩=>?_))))
 exact wpAny_release ⟨σ,H3,I3,q3⟩
noncomputable abbrev Qm2 (te:TE) (g:TG):TS:=fun D σ H=>te σ H fun x H1=>g x σ H1 D.nx
theorem Q3b {tg e:Expr} {te:TE} {g:TG} (he:PE X e te) (hg:PG X tg g) (hs:swapsWithSole [tg] e pos.line X.env = pure false:=by rfl) (hw:swappedStores [tg] e X.env = pure none:=by rfl)
  (h1:(assignEach [tg] X.env).map (·.2) = [assign tg X.env]:=by rfl):PS X (.Assign [tg] e pos) (Qm2 te g):=by
 intro pins s σ H D I h
 refine wpAny_Assign_stores (thn (he pins s σ H _ I h) fun v s1 ⟨x,H1,I1,r1,q1⟩=>?_) hs hw
 rw [h1]
 exact thn (hg pins s1 σ H1 x v _ I1 r1 q1) fun _ s2 q=>q
theorem Q3c {i:Nat} {x:Str} {e:Expr} {te:TE} {pos':Pos} (hN:X.N.Nodup) (hi:X.N[i]? = some x) (hx:Loc X.env.scope x) (he:PE X e te) (hs:swapsWith e (some (.Name x pos')) pos.line X.env = pure false:=by rfl) (hf:X.fn x = true ∨ X.env.scope.names.lookup x = some .local:=by first | exact .inl rfl | exact .inr rfl | assumption) :
  PS X (.Assign [.Name x pos'] e pos) (Qm2 te (Qfz i)):=by
 intro pins s σ H D I h
 refine wpAny_Assign_Name (thn (he pins s σ H _ I h) fun v s1 ⟨y,H1,I1,r1,q1⟩=>?_) hs
 exact Qhq I1 hN hi hx r1 (fun s2 I2=>⟨_,H1,I2,q1⟩) hf
end
section
variable {X:Cx} {pos:Pos}
noncomputable def Quv (c:TT) (tb:TS):TS:=fun D σ H=>∃ W:Nat → St → Hp → Prop,(∃ m,W m σ H) ∧ ∀ m σ H,W m σ H →
 c σ H fun b H1=>if b = true then ∃ N:St → Hp → Prop,(∀ σ' H',N σ' H' → ∃ m',m' < m ∧ W m' σ' H') ∧ tb { D with nx:=N,ct:=N,bk:=D.nx } σ H1 else D.nx σ H1
theorem Quw {c:Expr} {body:List Stmt} {tc:TT} {tb:TS} (hp:PassesOwn (model X.prog X.w) X.A X.env X.xe) (hc:PT X c tc) (hb:PSs X body tb):PS X (.While c body [] pos) (Quv tc tb):=by
 intro pins s σ H D I h
 obtain ⟨W,⟨m0,w0⟩,turn⟩:=h
 refine wpAny_While (codeAny_whileLoop (fun n s'=>∃ σ' H',Inv X pins σ' H' s' ∧ W n σ' H') ?_ m0 ⟨σ,H,I,w0⟩)
 rintro n s1 ⟨σ1,H1,I1,w1⟩
 refine wpAny_passesOwn hp (thn (hc pins s1 σ1 H1 _ I1 (turn n σ1 H1 w1)) fun b s2 ⟨H2,I2,q2⟩=>?_)
 cases b with
 | true =>
  obtain ⟨N,hN,q2⟩:=q2
  rw [if_pos rfl]
  refine wpAny_passesOwn hp (thn (hb pins s2 σ1 H2 _ I2 q2) fun f s3 q3=>?_)
  cases f with
  | next =>
   obtain ⟨σ3,H3,I3,n3⟩:=q3
   obtain ⟨m',hm,w3⟩:=hN σ3 H3 n3
   exact ⟨m',hm,σ3,H3,I3,w3⟩
  | cont =>
   obtain ⟨σ3,H3,I3,n3⟩:=q3
   obtain ⟨m',hm,w3⟩:=hN σ3 H3 n3
   exact ⟨m',hm,σ3,H3,I3,w3⟩
  | brk=>exact q3
  | ret v=>exact q3
 | false =>
  rw [if_neg Bool.false_ne_true]
  exact wpAny_execs_nil ⟨σ1,H2,I2,q2⟩
end
structure It where
 go:Nat → Hp → Prop
 yld:Nat → Hp → V → Hp → Prop
 stop:Nat → Hp → Prop
noncomputable def Qll (X:Cx) (pins:List (Addr × Obj)) (H:Hp) (b:Addr):Prop :=
 H b = none ∧ b ≠ X.env.locals ∧ b ∉ X.fs ∧ (b ∈ X.ex ∨ X.s₀.heap.objs.size ≤ b) ∧ (∀ x c,X.env.cells.lookup x = some c → c ≠ b) ∧ ∀ p ∈ X.pn ++ pins,p.1 ≠ b
theorem Inv.fpOk {X:Cx} {pins:List (Addr × Obj)} {σ:St} {H H':Hp} {s:Shared} {b:Addr} (I:Inv X pins σ H s) (hb:s.heap.objs.size ≤ b) (hn:H' b = none):Qll X pins H' b:=by
 refine ⟨hn,Nat.ne_of_gt (Nat.lt_of_lt_of_le I.lt hb),I.nofs hb,.inr (Nat.le_trans I.sz hb),fun x c e z=>?_,fun p hp z=>?_⟩
 ·obtain ⟨v,q⟩:=I.cell x c e
  exact absurd (Nat.lt_of_lt_of_le q.lt (by rw [z]; exact hb)) (Nat.lt_irrefl _)
 ·exact absurd (Nat.lt_of_lt_of_le (Heap.lt_size (I.pin p hp).1) (by rw [z]; exact hb)) (Nat.lt_irrefl _)
structure Turn (P:Program) (w:World) (K:PySem.W.Frag) (tg:Expr) (J:It) (fp:List Addr) (it:Addr) (tn:Nat → Heap → Prop):Prop where
 mem:it ∈ fp
 obj:∀ i h,tn i h → ∀ b ∈ fp,∃ o,h.get? b = some o ∧ ∀ v,o.data ≠ .cell v
 keep:∀ i h h',tn i h → (∀ b ∈ fp,∀ o,h.get? b = some o → h'.get? b = some o) → tn i h'
 item:∀ (X:Cx),X.prog = P → X.w = w → X.K = K → X.calm = true → ∀ (i:Nat) (pins:List (Addr × Obj)) (s:Shared) (σ:St) (H:Hp) (E:Value → Shared → Prop),Inv X pins σ H s → (∀ b ∈ fp,Qll X pins H b) → tn i s.heap → J.go i H →
  wpAny (model P w) X.A (pyNext (.ref it)) (fun r s1=>∃ u,r = some u ∧
   wpAny (model P w) X.A (letOwnedTupleGo tg (.ref it) u) (fun _ s2=>∃ x H',Inv X pins σ H' s2 ∧ RelV x u ∧ J.yld i H x H' ∧ tn (i + 1) s2.heap ∧ ∀ b ∈ fp,H' b = none) E s1) E s
 done:∀ (X:Cx),X.prog = P → X.w = w → X.K = K → X.calm = true → ∀ (i:Nat) (pins:List (Addr × Obj)) (s:Shared) (σ:St) (H:Hp) (E:Value → Shared → Prop),Inv X pins σ H s → (∀ b ∈ fp,Qll X pins H b) → tn i s.heap → J.stop i H →
  wpAny (model P w) X.A (pyNext (.ref it)) (fun r s1=>r = none ∧ Inv X pins σ H s1) E s
 self:∀ (A:Around) (i:Nat) (s:Shared) (Q:Value → Shared → Prop) (E:Value → Shared → Prop),tn i s.heap → Q (.ref it) s → wpAny (model P w) A (pyIter (.ref it)) Q E s
noncomputable abbrev TI:=St → Hp → (It → Hp → Prop) → Prop
noncomputable def PIE (X:Cx) (pins:List (Addr × Obj)) (σ:St) (tg:Expr) (R:It → Hp → Prop) (itv:Value) (s2:Shared):Prop :=
 ∃ (it:Addr) (fp:List Addr) (tn:Nat → Heap → Prop) (J:It) (H':Hp),itv = .ref it ∧ Inv X pins σ H' s2 ∧ Turn X.prog X.w X.K tg J fp it tn ∧ tn 0 s2.heap ∧ (∀ b ∈ fp,Qll X pins H' b) ∧ R J H'
noncomputable def PI (X:Cx) (tg iter:Expr) (wi:TI):Prop :=
 ∀ (pins:List (Addr × Obj)) (s:Shared) (σ:St) (H:Hp) (R:It → Hp → Prop),Inv X pins σ H s → wi σ H R →
  wpAny (model X.prog X.w) X.A (eval iter X.env) (fun v s1=>wpAny (model X.prog X.w) X.A (pyIter v) (PIE X pins σ tg R) X.xe s1) X.xe s
theorem Qux {M:Model} {A:Around} {E:Value → Shared → Prop} {s:Shared} {tg:Expr} {it:Addr} {u:Value} {o:Obj} {n:String} {vs:Array Value} {Q:Unit → Shared → Prop} (ho:s.heap.get? it = some o) (hc:o.cls = .type n) (hd:o.data = .fields vs)
  (hn:["enumerate","zip","dict_itemiterator","dict_reverseitemiterator","odict_iterator","itertools.zip_longest","itertools.pairwise"].contains n = false) (hQ:Q () s):wpAny M A (letOwnedTupleGo tg (.ref it) u) Q E s:=by
 unfold letOwnedTupleGo
 cases tg <;> first
  | exact wpAny_pure hQ
  | (cases u <;> first
    | exact wpAny_pure hQ
    | (refine wpAny_bind (wpAny_load ho ?_)
       rw [hc,hd]
       show wpAny M A (if (["enumerate","zip","dict_itemiterator","dict_reverseitemiterator","odict_iterator","itertools.zip_longest","itertools.pairwise"].contains n && vs[0]? == some (rawInt _)) = true then _ else _) Q E s
       rw [if_neg (by intro h; rw [hn,Bool.false_and] at h; cases h)]
       exact wpAny_pure hQ))
noncomputable def Itl (K:PySem.W.Frag) (a:Addr):It :=
 ⟨fun i H=>∃ xs x,SqL K H a xs ∧ xs[i]? = some x,fun i H x H'=>H' = H ∧ ∀ xs,SqL K H a xs → xs[i]? = some x,fun i H=>∃ xs,SqL K H a xs ∧ xs.length ≤ i⟩
noncomputable def Itt (K:PySem.W.Frag) (a:Addr):It :=
 ⟨fun i H=>∃ xs x,SqT K H a xs ∧ xs[i]? = some x,fun i H x H'=>H' = H ∧ ∀ xs,SqT K H a xs → xs[i]? = some x,fun i H=>∃ xs,SqT K H a xs ∧ xs.length ≤ i⟩
noncomputable def Itr (lo:Int) (n:Nat):It:=⟨fun i _=>i < n,fun i H x H'=>H' = H ∧ x = .int (lo + i),fun i _=>n ≤ i⟩
theorem Qsx {P:Program} {w:World} {K:PySem.W.Frag} {tg:Expr} (a it:Addr):Turn P w K tg (Itl K a) [it] it (fun i h=>h.IsListIter it a i) where
 mem:=by simp
 obj:=fun i h st b hb=>by
  have e:b = it:=by simpa using hb
  subst e
  obtain ⟨o,e,c,d⟩:=st
  exact ⟨o,e,fun v z=>by rw [d] at z; cases z⟩
 keep:=fun i h h' st k=>st.at fun o e=>k it (by simp) o e
 item:=by
  intro X hP hw hK hc i pins s σ H E I hf st hg
  subst hP hw hK
  obtain ⟨xs,x,hq,hx⟩:=hg
  obtain ⟨its,rv,p,hz⟩:=I.list hq
  obtain ⟨u,hu,ru⟩:=rv.get hx
  obtain ⟨f0,f1,f2,f3,f4,f5⟩:=hf it (by simp)
  refine wpAny_pyNext_list_item st p.isList (x:=u) (by simpa using hu) fun h' st' sb=>?_
  have I1:Inv X pins σ H { s with heap:=h' }:=I.turned (t':=s.toks) (fun b o hb e=>(sb.2 b hb).trans e) f0 f1 f3 f4 f5
  obtain ⟨o,e,c,d⟩:=id st'
  exact ⟨u,rfl,Qux (s:={ s with heap:=h' }) e c d (by decide) ⟨x,H,I1,ru,⟨rfl,fun ys hy=>by rw [I.list_inj hy hq]; exact hx⟩,st',fun b hb=>(hf b hb).1⟩⟩
 done:=by
  intro X hP hw hK hc i pins s σ H E I hf st hg
  subst hP hw hK
  obtain ⟨xs,hq,hx⟩:=hg
  obtain ⟨its,rv,p,hz⟩:=I.list hq
  obtain ⟨f0,f1,f2,f3,f4,f5⟩:=hf it (by simp)
  have hl:=rv.length
  exact wpAny_pyNext_list_end (I.ok.hd hc) st p.isList (by simp; omega) fun h' eb=>⟨rfl,I.turned (t':=s.toks) (fun b o hb e=>eb b o hb e) f0 f1 f3 f4 f5⟩
 self:=fun _ _ _ _ _ st h=>wpAny_pyIter_listiter st h
theorem Qp2 {P:Program} {w:World} {K:PySem.W.Frag} {tg:Expr} (a it:Addr):Turn P w K tg (Itt K a) [it] it (fun i h=>h.IsTupleIter it a i) where
 mem:=by simp
 obj:=fun i h st b hb=>by
  have e:b = it:=by simpa using hb
  subst e
  obtain ⟨o,e,c,d⟩:=st
  exact ⟨o,e,fun v z=>by rw [d] at z; cases z⟩
 keep:=fun i h h' st k=>st.at fun o e=>k it (by simp) o e
 item:=by
  intro X hP hw hK hc i pins s σ H E I hf st hg
  subst hP hw hK
  obtain ⟨xs,x,hq,hx⟩:=hg
  obtain ⟨its,rv,p,hz⟩:=I.tuple hq
  obtain ⟨u,hu,ru⟩:=rv.get hx
  obtain ⟨f0,f1,f2,f3,f4,f5⟩:=hf it (by simp)
  refine wpAny_pyNext_tuple_item st (show s.heap.IsTuple a its.toArray from p) (x:=u) (by simpa using hu) fun h' st' sb=>?_
  have I1:Inv X pins σ H { s with heap:=h' }:=I.turned (t':=s.toks) (fun b o hb e=>(sb.2 b hb).trans e) f0 f1 f3 f4 f5
  obtain ⟨o,e,c,d⟩:=id st'
  exact ⟨u,rfl,Qux (s:={ s with heap:=h' }) e c d (by decide) ⟨x,H,I1,ru,⟨rfl,fun ys hy=>by rw [I.tuple_inj hy hq]; exact hx⟩,st',fun b hb=>(hf b hb).1⟩⟩
 done:=by
  intro X hP hw hK hc i pins s σ H E I hf st hg
  subst hP hw hK
  obtain ⟨xs,hq,hx⟩:=hg
  obtain ⟨its,rv,p,hz⟩:=I.tuple hq
  obtain ⟨f0,f1,f2,f3,f4,f5⟩:=hf it (by simp)
  have hl:=rv.length
  exact wpAny_pyNext_tuple_end (I.ok.hd hc) st (show s.heap.IsTuple a its.toArray from p) (by simp; omega) fun h' eb=>⟨rfl,I.turned (t':=s.toks) (fun b o hb e=>eb b o hb e) f0 f1 f3 f4 f5⟩
 self:=fun _ _ _ _ _ st h=>wpAny_pyIter_tupleiter st h
theorem Qp3 {P:Program} {w:World} {K:PySem.W.Frag} {tg:Expr} (it:Addr) (lo:Int) (n:Nat):Turn P w K tg (Itr lo n) [it] it (fun i h=>IsRangeIter h it (lo + (i:Nat) * 1) ((n:Int) - (i:Nat)) 1) where
 mem:=by simp
 obj:=fun i h st b hb=>by
  have e:b = it:=by simpa using hb
  subst e
  exact ⟨_,st,fun v z=>by
   have z':Data.fields _ = Data.cell v:=z
   cases z'⟩
 keep:=fun i h h' st k=>k it (by simp) _ st
 item:=by
  intro X hP hw hK hc i pins s σ H E I hf st hg
  subst hP hw hK
  obtain ⟨f0,f1,f2,f3,f4,f5⟩:=hf it (by simp)
  have W:=Walks.range (prog:=X.prog) (w:=X.w) (I.ok.hd hc) it lo 1 n
  refine W.item i s _ _ hg st fun v h' tk hv st' kk=>?_
  obtain ⟨t,rfl⟩:=hv
  have I1:Inv X pins σ H { s with heap:=h',toks:=tk }:=I.turned (fun b o hb e=>kk b o (by simpa using hb) e) f0 f1 f3 f4 f5
  refine ⟨_,rfl,Qux (s:={ s with heap:=h',toks:=tk }) (n := "range_iterator") st' rfl rfl (by decide) ⟨.int (lo + i),H,I1,⟨t,?_⟩,⟨rfl,rfl⟩,st',fun b hb=>(hf b hb).1⟩⟩
  rw [Int.mul_one]
 done:=by
  intro X hP hw hK hc i pins s σ H E I hf st hg
  subst hP hw hK
  obtain ⟨f0,f1,f2,f3,f4,f5⟩:=hf it (by simp)
  exact wpAny_pyNext_range_end (I.ok.hd hc) st (by have:n ≤ i:=hg; omega) fun h' eb=>⟨rfl,I.turned (t':=s.toks) (fun b o hb e=>eb b o hb e) f0 f1 f3 f4 f5⟩
 self:=fun _ _ _ _ _ st h=>wpAny_pyIter_rangeiter st h
section
variable {X:Cx} {tg:Expr}
theorem Qog {pins:List (Addr × Obj)} {σ:St} {H:Hp} {s:Shared} {R:It → Hp → Prop} {E:Value → Shared → Prop} {lo hi:Int} {t u v:Tok} {tk:Nat} (I:Inv X pins σ H s) (h1:-(2 ^ 62) ≤ lo) (h2:lo < 2 ^ 62) (h3:-(2 ^ 62) ≤ hi) (h4:hi < 2 ^ 62)
  (q:R (Itr lo (hi - lo).toNat) H):wpAny (model X.prog X.w) X.A (pyIter (.ref s.heap.objs.size)) (PIE X pins σ tg R) E { s with heap:=s.heap.push { cls:=.type "range",data:=.fields #[.int lo t,.int hi u,.int 1 v] },toks:=tk }:=by
 refine wpAny_pyIter_range (IsRange.new ..) (small_one h1 h2 h3 h4) ?_
 have I1:Inv X pins σ H { s with heap:=s.heap.push { cls:=.type "range",data:=.fields #[.int lo t,.int hi u,.int 1 v] },toks:=tk }:=I.kept fun b o e=>Heap.get?_push_of_some _ e
 refine ⟨(s.heap.push { cls:=.type "range",data:=.fields #[.int lo t,.int hi u,.int 1 v] }).objs.size,[(s.heap.push { cls:=.type "range",data:=.fields #[.int lo t,.int hi u,.int 1 v] }).objs.size],_,_,H,rfl,
  I1.kept (t':=tk) fun b o e=>Heap.get?_push_of_some _ e,Qp3 _ lo (hi - lo).toNat,?_,fun b hb=>?_,q⟩
 ·have e1:lo + ((0:Nat):Int) * 1 = lo:=by simp
  have e2:(((hi - lo).toNat:Nat):Int) - ((0:Nat):Int) = Builtin.Range.rangeSize lo hi 1:=by rw [rangeSize_one]; split <;> omega
  show IsRangeIter _ _ (lo + ((0:Nat):Int) * 1) ((((hi - lo).toNat:Nat):Int) - ((0:Nat):Int)) 1
  rw [e1,e2]
  exact Heap.get?_push_size _ rfl
 ·have e:b = (s.heap.push { cls:=.type "range",data:=.fields #[.int lo t,.int hi u,.int 1 v] }).objs.size:=by simpa using hb
  subst e
  exact I1.fpOk (Nat.le_refl _) (I1.hok.fresh (Nat.le_refl _))
noncomputable def Q1h (ta:TA):TI:=fun σ H R=>ta σ H fun vs H1=>∃ j:Int,vs = [.int j] ∧ -(2 ^ 62) ≤ j ∧ j < 2 ^ 62 ∧ R (Itr 0 j.toNat) H1
noncomputable def Q1i (ta:TA):TI:=fun σ H R=>ta σ H fun vs H1=>∃ i j:Int,vs = [.int i,.int j] ∧ (-(2 ^ 62) ≤ i ∧ i < 2 ^ 62 ∧ -(2 ^ 62) ≤ j ∧ j < 2 ^ 62) ∧ R (Itr i (j - i).toNat) H1
theorem Qsy {a:Expr} {ta:TA} {p pos:Pos} (hg:Gl X "range") (hm:X.mg "range" = none) (ha:PA X [a] ta) (hs:starEach [a] X.env = [(false,eval a X.env)]:=by rfl):PI X tg (.Call (.Name "range" p) [a] [] pos) (Q1h ta):=by
 intro pins s σ H R I h
 refine Call_ (Qj2 I hg hm boot_range (PyProof.Rows.callWith_type1 (thn (ha pos pins s σ H _ I h) fun us s1 ⟨vs,H1,I1,r1,q1⟩=>?_) hs rfl))
 obtain ⟨j,e,q1,q2,q⟩:=q1
 subst e
 cases r1 with
 | cons r rr =>
  cases rr
  obtain ⟨t,rfl⟩:=r
  exact call_range_1 (Qog I1 (by omega) (by omega) q1 q2 (by simpa using q))
theorem Qsz {a b:Expr} {ta:TA} {p pos:Pos} (hg:Gl X "range") (hm:X.mg "range" = none) (ha:PA X [a,b] ta) (hs:starEach [a,b] X.env = [(false,eval a X.env),(false,eval b X.env)]:=by rfl) (hs2:starEach [b] X.env = [(false,eval b X.env)]:=by rfl) :
  PI X tg (.Call (.Name "range" p) [a,b] [] pos) (Q1i ta):=by
 intro pins s σ H R I h
 refine Call_ (Qj2 I hg hm boot_range (PyProof.Rows.callWith_type1 (thn (ha pos pins s σ H _ I h) fun us s1 ⟨vs,H1,I1,r1,q1⟩=>?_) (by rw [hs,hs2]) (by rw [hs2]; rfl)))
 obtain ⟨i,j,e,⟨q1,q2,q3,q4⟩,q⟩:=q1
 subst e
 cases r1 with
 | cons r rr =>
  cases rr with
  | cons r' rr =>
   cases rr
   obtain ⟨t,rfl⟩:=r
   obtain ⟨t',rfl⟩:=r'
   exact call_range_2 (Qog I1 q1 q2 q3 q4 q)
noncomputable def Quy (wi:TI) (g:TG) (tb:TS):TS:=fun D σ H=>wi σ H fun J H1=>∃ W:Nat → Nat → St → Hp → Prop,(∃ m,W 0 m σ H1) ∧ ∀ i m σ H,W i m σ H →
 (J.stop i H ∧ D.nx σ H) ∨ (J.go i H ∧ ∃ N:St → Hp → Prop,(∀ σ' H',N σ' H' → ∃ m',m' < m ∧ W (i + 1) m' σ' H') ∧ ∀ x H',J.yld i H x H' → g x σ H' fun σ2 H2=>tb { D with nx:=N,ct:=N,bk:=D.nx } σ2 H2)
noncomputable def Qj3 (fp:List Addr) (h:Heap):List (Addr × Obj):=fp.filterMap fun b=>(h.get? b).map fun o=>(b,o)
theorem Qe8 {fp:List Addr} {h:Heap} {b:Addr} {o:Obj} (hb:b ∈ fp) (e:h.get? b = some o):(b,o) ∈ Qj3 fp h:=List.mem_filterMap.mpr ⟨b,hb,by rw [e]; rfl⟩
theorem Qs0 {fp:List Addr} {h:Heap} {p:Addr × Obj} (hp:p ∈ Qj3 fp h):p.1 ∈ fp ∧ h.get? p.1 = some p.2:=by
 obtain ⟨b,hb,e⟩:=List.mem_filterMap.mp hp
 cases q:h.get? b with
 | none=>rw [q] at e; cases e
 | some o =>
  rw [q] at e
  have e':(b,o) = p:=Option.some.inj e
  subst e'
  exact ⟨hb,q⟩
theorem Inv.pinned {pins:List (Addr × Obj)} {σ:St} {H:Hp} {s:Shared} {fp:List Addr} (I:Inv X pins σ H s) (hf:∀ b ∈ fp,Qll X pins H b) (ho:∀ b ∈ fp,∃ o,s.heap.get? b = some o ∧ ∀ v,o.data ≠ .cell v):Inv X (pins ++ Qj3 fp s.heap) σ H s :=
 I.pins_of fun p hp=>(List.mem_append.mp hp).elim (fun z=>I.pin p (List.mem_append_right _ z)) fun z=>by
  obtain ⟨hb,e⟩:=Qs0 z
  obtain ⟨f0,f1,f2,_⟩:=hf p.1 hb
  obtain ⟨o,e',d⟩:=ho p.1 hb
  rw [e] at e'; cases e'
  exact ⟨e,f0,f1,f2,d⟩
theorem Inv.unpinned {pins pl:List (Addr × Obj)} {σ:St} {H:Hp} {s:Shared} (I:Inv X (pins ++ pl) σ H s):Inv X pins σ H s:=I.pins_of fun p hp=>I.pin p (List.mem_append_right _ (List.mem_append_left _ hp))
theorem Q3d {iter:Expr} {body:List Stmt} {wi:TI} {g:TG} {tb:TS} {pos:Pos} (hp:PassesOwn (model X.prog X.w) X.A X.env X.xe) (hc:X.calm = true) (hi:PI X tg iter wi) (hg:PG X tg g) (hb:PSs X body tb)
  (hs:∀ x,foldedSetIterable iter X.env x = pure x:=by intro _; rfl):PS X (.For tg iter body [] pos) (Quy wi g tb):=by
 intro pins s σ H D I h
 refine wpAny_For (thn (hi pins s σ H _ I h) fun v s1 h1=>thn h1 fun itv s2 h2=>?_) hs
 obtain ⟨it,fp,tn,J,H2,e,I2,T,st2,f2,W,⟨m0,w0⟩,turn⟩:=h2
 subst e
 -- what stays true of the iterator's objects through the loop
 have stat:∀ {H':Hp},(∀ b ∈ fp,H' b = none) → ∀ b ∈ fp,Qll X pins H' b:=fun hn b hb=>⟨hn b hb,(f2 b hb).2⟩
 refine codeAny_forLoop_any (fun n s'=>∃ i σ' H',Inv X pins σ' H' s' ∧ tn i s'.heap ∧ (∀ b ∈ fp,H' b = none) ∧ W i n σ' H') ?_ m0 ⟨0,σ,H2,I2,st2,fun b hb=>(f2 b hb).1,w0⟩
 rintro n s3 ⟨i,σ3,H3,I3,st3,fr3,w3⟩
 rcases turn i n σ3 H3 w3 with ⟨stop,qn⟩ | ⟨go,N,hN,step⟩
 ·refine wpAny_passesOwn hp (thn (T.done X rfl rfl rfl hc i pins s3 σ3 H3 X.xe I3 (stat fr3) st3 stop) fun r s4 ⟨hr,I4⟩=>?_)
  subst hr
  exact wpAny_execs_nil ⟨σ3,H3,I4,qn⟩
 ·refine wpAny_passesOwn hp (thn (T.item X rfl rfl rfl hc i pins s3 σ3 H3 X.xe I3 (stat fr3) st3 go) fun r s4 ⟨u,hr,h4⟩=>?_)
  subst hr
  refine wpAny_passesOwn hp (thn h4 fun _ s5 ⟨x,H5,I5,r5,y5,st5,fr5⟩=>?_)
  have I5':=I5.pinned (stat fr5) (T.obj _ _ st5)
  refine wpAny_passesOwn hp (thn (hg _ s5 σ3 H5 x u _ I5' r5 (step x H5 y5)) fun _ s6 ⟨σ6,H6,I6,q6⟩=>?_)
  refine wpAny_passesOwn hp (thn (hb _ s6 σ6 H6 _ I6 q6) fun f s7 q7=>?_)
  have again:∀ {σ7:St} {H7:Hp},Inv X (pins ++ Qj3 fp s5.heap) σ7 H7 s7 → N σ7 H7 → ∃ m,m < n ∧ ∃ i σ' H',Inv X pins σ' H' s7 ∧ tn i s7.heap ∧ (∀ b ∈ fp,H' b = none) ∧ W i m σ' H':=fun {σ7 H7} I7 n7=>by
   obtain ⟨m',hm,w7⟩:=hN σ7 H7 n7
   refine ⟨m',hm,i + 1,σ7,H7,I7.unpinned,T.keep _ _ _ st5 fun b hb o e=>(I7.pin (b,o) (List.mem_append_right _ (List.mem_append_right _ (Qe8 hb e)))).1,fun b hb=>?_,w7⟩
   obtain ⟨o,e,d⟩:=T.obj _ _ st5 b hb
   exact (I7.pin (b,o) (List.mem_append_right _ (List.mem_append_right _ (Qe8 hb e)))).2.1
  cases f with
  | next=>obtain ⟨σ7,H7,I7,n7⟩:=q7; exact again I7 n7
  | cont=>obtain ⟨σ7,H7,I7,n7⟩:=q7; exact again I7 n7
  | brk=>obtain ⟨σ7,H7,I7,q7⟩:=q7; exact ⟨σ7,H7,I7.unpinned,q7⟩
  | ret v=>obtain ⟨x7,σ7,H7,I7,r7,q7⟩:=q7; exact ⟨x7,σ7,H7,I7.unpinned,r7,q7⟩
end
theorem Quz {K:PySem.W.Frag} {a:Addr} {xs:List V} {g:TG} {tb:TS} {D:Ends} {σ:St} {H:Hp} (Pv:Nat → St → Hp → Prop) (h0:Pv 0 σ H) (hl:∀ i σ H,i ≤ xs.length → Pv i σ H → SqL K H a xs)
  (hs:∀ i x σ H,xs[i]? = some x → Pv i σ H → g x σ H fun σ2 H2=>tb { D with nx:=Pv (i + 1),ct:=Pv (i + 1),bk:=D.nx } σ2 H2) (hd:∀ σ H,Pv xs.length σ H → D.nx σ H) :
  ∃ W:Nat → Nat → St → Hp → Prop,(∃ m,W 0 m σ H) ∧ ∀ i m σ H,W i m σ H →
   ((Itl K a).stop i H ∧ D.nx σ H) ∨ ((Itl K a).go i H ∧ ∃ N:St → Hp → Prop,(∀ σ' H',N σ' H' → ∃ m',m' < m ∧ W (i + 1) m' σ' H') ∧ ∀ x H',(Itl K a).yld i H x H' → g x σ H' fun σ2 H2=>tb { D with nx:=N,ct:=N,bk:=D.nx } σ2 H2):=by
 refine ⟨fun i m σ H=>m = xs.length - i ∧ i ≤ xs.length ∧ Pv i σ H,⟨xs.length,by simp,Nat.zero_le _,h0⟩,?_⟩
 rintro i m σ H ⟨rfl,hi,p⟩
 have q:=hl i σ H hi p
 by_cases hlt:i < xs.length
 ·refine .inr ⟨⟨xs,xs[i],q,by simp [hlt]⟩,Pv (i + 1),fun σ' H' p'=>⟨xs.length - (i + 1),by omega,rfl,hlt,p'⟩,fun x H' y=>?_⟩
  obtain ⟨e,y⟩:=y
  subst e
  exact hs i x σ _ (y xs q) p
 ·have e:i = xs.length:=by omega
  subst e
  exact .inl ⟨⟨xs,q,Nat.le_refl _⟩,hd σ H p⟩
noncomputable abbrev R2:=V → V → Hp → VK → Prop
noncomputable def OpR (X:Cx) (f:Value → Value → Sem Value) (r:R2):Prop :=
 ∀ (pins:List (Addr × Obj)) (s:Shared) (σ:St) (H:Hp) (x y:V) (v u:Value) (Q:VK),Inv X pins σ H s → RelV x v → RelV y u → r x y H Q →
  wpAny (model X.prog X.w) X.A (f v u) (EP X pins σ Q) X.xe s
noncomputable def UnR (X:Cx) (f:Value → Sem Value) (r:V → Hp → VK → Prop):Prop :=
 ∀ (pins:List (Addr × Obj)) (s:Shared) (σ:St) (H:Hp) (x:V) (v:Value) (Q:VK),Inv X pins σ H s → RelV x v → r x H Q →
  wpAny (model X.prog X.w) X.A (f v) (EP X pins σ Q) X.xe s
noncomputable def CallR (X:Cx) (f:Value) (r:List V → Hp → VK → Prop):Prop :=
 ∀ (pins:List (Addr × Obj)) (s:Shared) (σ:St) (H:Hp) (xs:List V) (us:List Value) (Q:VK),Inv X pins σ H s → Vals xs us → r xs H Q →
  wpAny (model X.prog X.w) X.A (call f us) (EP X pins σ Q) X.xe s
noncomputable abbrev tOp (r:R2) (ta tb:TE):TE:=fun σ H Q=>ta σ H fun x H1=>tb σ H1 fun y H2=>r x y H2 Q
noncomputable abbrev tUn (r:V → Hp → VK → Prop) (ta:TE):TE:=fun σ H Q=>ta σ H fun x H1=>r x H1 Q
noncomputable def rI (C:Int → Int → Prop) (g:Int → Int → V):R2:=fun x y H Q=>∃ i j,x = .int i ∧ y = .int j ∧ C i j ∧ Q (g i j) H
noncomputable def rI0 (g:Int → Int → V):R2:=fun x y H Q=>∃ i j,x = .int i ∧ y = .int j ∧ Q (g i j) H
noncomputable def rU (g:Int → V):V → Hp → VK → Prop:=fun x H Q=>∃ i,x = .int i ∧ Q (g i) H
section
variable {X:Cx} {a b c:Expr} {ta tb tc:TE} {pos:Pos}
theorem Q3e (ha:PE X a ta) (hb:PE X b tb) {pins:List (Addr × Obj)} {s:Shared} {σ:St} {H:Hp} {R:V → V → Hp → Prop} (I:Inv X pins σ H s)
  (h:ta σ H fun x H1=>tb σ H1 fun y H2=>R x y H2) {Q:Value → Shared → Prop} {f:Value → Value → Sem Value}
  (hf:∀ v u s2 x y H2,Inv X pins σ H2 s2 → RelV x v → RelV y u → R x y H2 → wpAny (model X.prog X.w) X.A (f v u) Q X.xe s2) :
  wpAny (model X.prog X.w) X.A (eval a X.env) (fun v s₁=>wpAny (model X.prog X.w) X.A (eval b X.env) (fun u s₂=>wpAny (model X.prog X.w) X.A (f v u) Q X.xe s₂) X.xe s₁) X.xe s:=by
 refine thn (ha pins s σ H _ I h) fun v s1 ⟨x,H1,I1,r1,q1⟩=>?_
 refine thn (hb pins s1 σ H1 _ I1 q1) fun u s2 ⟨y,H2,I2,r2,q2⟩=>?_
 exact hf v u s2 x y H2 I2 r1 r2 q2
theorem Q65 {op:Operator} {r:R2} (ho:OpR X (binaryOp op) r) (ha:PE X a ta) (hb:PE X b tb):PE X (.BinOp a op b pos) (tOp r ta tb):=by
 intro pins s σ H Q I h
 exact wpAny_BinOp (Q3e ha hb I h fun v u s2 x y H2 I2 rx ry q=>ho pins s2 σ H2 x y v u Q I2 rx ry q)
theorem Q66 {op:UnaryOp} {r:V → Hp → VK → Prop} (ho:UnR X (unaryOp op) r) (ha:PE X a ta):PE X (.UnaryOp op a pos) (tUn r ta):=by
 intro pins s σ H Q I h
 exact UnaryOp_ (thn (ha pins s σ H _ I h) fun v s1 ⟨x,H1,I1,r1,q1⟩=>ho pins s1 σ H1 x v Q I1 r1 q1)
theorem opI {f:Value → Value → Sem Value} {C:Int → Int → Prop} {g:Int → Int → Int}
  (rule:∀ (i j:Int) (t u:Tok) (s:Shared) (Q:Value → Shared → Prop) (E:Value → Shared → Prop),C i j → Q (.int (g i j) s.toks) { s with toks:=s.toks + 1 } → wpAny (model X.prog X.w) X.A (f (.int i t) (.int j u)) Q E s) :
  OpR X f (rI C fun i j=>.int (g i j)):=by
 intro pins s σ H x y v u Q I rx ry h
 obtain ⟨i,j,rfl,rfl,hc,q⟩:=h
 obtain ⟨t,rfl⟩:=rx
 obtain ⟨t',rfl⟩:=ry
 exact rule i j t t' s _ _ hc ⟨.int (g i j),H,I.tok _,⟨_,rfl⟩,q⟩
theorem Q67 {f:Value → Value → Sem Value} {g:Int → Int → Int}
  (rule:∀ (i j:Int) (t u:Tok) (s:Shared) (Q:Value → Shared → Prop) (E:Value → Shared → Prop),Q (.int (g i j) s.toks) { s with toks:=s.toks + 1 } → wpAny (model X.prog X.w) X.A (f (.int i t) (.int j u)) Q E s) :
  OpR X f (rI0 fun i j=>.int (g i j)):=by
 intro pins s σ H x y v u Q I rx ry h
 obtain ⟨i,j,rfl,rfl,q⟩:=h
 obtain ⟨t,rfl⟩:=rx
 obtain ⟨t',rfl⟩:=ry
 exact rule i j t t' s _ _ ⟨.int (g i j),H,I.tok _,⟨_,rfl⟩,q⟩
theorem Q3f {f:Value → Value → Sem Value} {g:Int → Int → Bool}
  (rule:∀ (i j:Int) (t u:Tok) (s:Shared) (Q:Value → Shared → Prop) (E:Value → Shared → Prop),Q (.bool (g i j)) s → wpAny (model X.prog X.w) X.A (f (.int i t) (.int j u)) Q E s) :
  OpR X f (rI0 fun i j=>.bl (g i j)):=by
 intro pins s σ H x y v u Q I rx ry h
 obtain ⟨i,j,rfl,rfl,q⟩:=h
 obtain ⟨t,rfl⟩:=rx
 obtain ⟨t',rfl⟩:=ry
 exact rule i j t t' s _ _ ⟨.bl (g i j),H,I,rfl,q⟩
noncomputable def Q3g (i j:Int):Prop:=0 ≤ j ∧ j ≤ 1000000 ∧ i.natAbs < 2 ^ 64
noncomputable def CMul (i j:Int):Prop:=(-(2 ^ 64) < i ∧ i < 2 ^ 64) ∨ (-(2 ^ 64) < j ∧ j < 2 ^ 64)
theorem CMul.ok {i j:Int} (h:CMul i j):IntMulOk i j:=by
 rcases h with ⟨h1,h2⟩ | ⟨h1,h2⟩
 ·exact .of_left (intBits_le_64 h1 h2)
 ·exact .of_right (intBits_le_64 h1 h2)
theorem Q3h:OpR X (binaryOp .Add) (rI0 fun i j=>.int (i + j)):=Q67 fun _ _ _ _ _ _ _ q=>add_int q
theorem Q3i:OpR X (binaryOp .Sub) (rI0 fun i j=>.int (i - j)):=Q67 fun _ _ _ _ _ _ _ q=>sub_int q
theorem Q3j:OpR X (binaryOp .Mult) (rI CMul fun i j=>.int (i * j)):=opI fun _ _ _ _ _ _ _ hc q=>mul_int q hc.ok
theorem Qyq:OpR X (binaryOp .Mod) (rI (fun _ j=>j ≠ 0) fun i j=>.int (i.fmod j)):=opI fun _ _ _ _ _ _ _ hc q=>mod_int' hc q
theorem Q3k:OpR X (binaryOp .Pow) (rI Q3g fun i j=>.int (i ^ j.toNat)):=opI fun _ _ _ _ _ _ _ hc q=>pow_int_small hc.1 hc.2.1 hc.2.2 q
theorem unI {f:Value → Sem Value} {g:Int → Int}
  (rule:∀ (i:Int) (t:Tok) (s:Shared) (Q:Value → Shared → Prop) (E:Value → Shared → Prop),Q (.int (g i) s.toks) { s with toks:=s.toks + 1 } → wpAny (model X.prog X.w) X.A (f (.int i t)) Q E s) :
  UnR X f (rU fun i=>.int (g i)):=by
 intro pins s σ H x v Q I rx h
 obtain ⟨i,rfl,q⟩:=h
 obtain ⟨t,rfl⟩:=rx
 exact rule i t s _ _ ⟨.int (g i),H,I.tok _,⟨_,rfl⟩,q⟩
theorem Q3l:UnR X (unaryOp .USub) (rU fun i=>.int (-i)):=unI fun _ _ _ _ _ q=>neg_int q
end
noncomputable def Q3m:V → V → Bool
 | .non,.non=>true | .non,.int _=>true | .int _,.non=>true | .non,.bl _=>true | .bl _,.non=>true | .non,.str _=>true | .str _,.non=>true
 | .int _,.int _=>true | .bl _,.bl _=>true | .str _,.str _=>true | .byt _,.byt _=>true
 | .int _,.str _=>true | .str _,.int _=>true | .bl _,.str _=>true | .str _,.bl _=>true
 | _,_=>false
noncomputable def rEq:R2:=fun x y H Q=>Q3m x y = true ∧ Q (.bl (decide (x = y))) H
noncomputable def rNe:R2:=fun x y H Q=>Q3m x y = true ∧ Q (.bl (!decide (x = y))) H
theorem Qrn {i j:Int}:decide (V.int i = V.int j) = (i == j):=by
 rw [Bool.eq_iff_iff]
 simp
theorem Qu0 {i j:Bool}:decide (V.bl i = V.bl j) = (i == j):=by
 rw [Bool.eq_iff_iff]
 simp
theorem Qro {i j:Str}:decide (V.str i = V.str j) = (i == j):=by
 rw [Bool.eq_iff_iff]
 simp
theorem Qrp {i j:Array UInt8}:decide (V.byt i = V.byt j) = (i.toList == j.toList):=by
 rw [Bool.eq_iff_iff]
 cases i
 cases j
 simp
section
variable {X:Cx} {a b c:Expr} {ta tb tc:TE} {pos:Pos}
theorem Qai {pins:List (Addr × Obj)} {σ:St} {H:Hp} {s:Shared} {Q:VK} {k k':Bool} (I:Inv X pins σ H s) (q:Q (.bl k) H) (e:k = k'):EP X pins σ Q (.bool k') s:=by
 subst e
 exact ⟨.bl k,H,I,rfl,q⟩
theorem Q68:OpR X (compareOp .Eq) rEq:=by
 intro pins s σ H x y v u Q I rx ry h
 obtain ⟨hs,q⟩:=h
 cases x with
 | non =>
  cases rx
  cases y with
  | non=>cases ry; exact PySem.EqNone.eq_none_none (Qai I q (by simp))
  | bl j=>cases ry; exact PySem.EqNone.eq_none_bool (Qai I q (by simp))
  | int j=>obtain ⟨t',rfl⟩:=ry; exact PySem.EqNone.eq_none_int (Qai I q (by simp))
  | str j=>obtain ⟨t',rfl⟩:=ry; exact PySem.EqNone.eq_none_str (Qai I q (by simp))
  | _=>exact absurd (show false = true from hs) Bool.false_ne_true
 | bl i =>
  cases rx
  cases y with
  | non=>cases ry; exact PySem.EqNone.eq_bool_none (Qai I q (by simp))
  | bl j=>cases ry; exact eq_bool (Qai I q Qu0)
  | str j=>obtain ⟨t',rfl⟩:=ry; exact PySem.EqMixed.eq_bool_str (Qai I q (by simp))
  | _=>exact absurd (show false = true from hs) Bool.false_ne_true
 | int i =>
  obtain ⟨t,rfl⟩:=rx
  cases y with
  | non=>cases ry; exact PySem.EqNone.eq_int_none (Qai I q (by simp))
  | int j=>obtain ⟨t',rfl⟩:=ry; exact eq_int (Qai I q Qrn)
  | str j=>obtain ⟨t',rfl⟩:=ry; exact PySem.EqMixed.eq_int_str (Qai I q (by simp))
  | _=>exact absurd (show false = true from hs) Bool.false_ne_true
 | str i =>
  obtain ⟨t,rfl⟩:=rx
  cases y with
  | non=>cases ry; exact PySem.EqNone.eq_str_none (Qai I q (by simp))
  | bl j=>cases ry; exact PySem.EqMixed.eq_str_bool (Qai I q (by simp))
  | int j=>obtain ⟨t',rfl⟩:=ry; exact PySem.EqMixed.eq_str_int (Qai I q (by simp))
  | str j=>obtain ⟨t',rfl⟩:=ry; exact eq_str (Qai I q Qro)
  | _=>exact absurd (show false = true from hs) Bool.false_ne_true
 | byt i =>
  obtain ⟨t,rfl⟩:=rx
  cases y with
  | byt j=>obtain ⟨t',rfl⟩:=ry; exact PySem.W.eq_bytes (Qai I q Qrp)
  | _=>exact absurd (show false = true from hs) Bool.false_ne_true
 | _=>cases y <;> exact absurd (show false = true from hs) Bool.false_ne_true
theorem Q69:OpR X (compareOp .NotEq) rNe:=by
 intro pins s σ H x y v u Q I rx ry h
 obtain ⟨hs,q⟩:=h
 cases x with
 | non =>
  cases rx
  cases y with
  | non=>cases ry; exact PySem.EqNone.ne_none_none (Qai I q (by simp))
  | bl j=>cases ry; exact PySem.EqNone.ne_none_bool (Qai I q (by simp))
  | int j=>obtain ⟨t',rfl⟩:=ry; exact PySem.EqNone.ne_none_int (Qai I q (by simp))
  | str j=>obtain ⟨t',rfl⟩:=ry; exact PySem.EqNone.ne_none_str (Qai I q (by simp))
  | _=>exact absurd (show false = true from hs) Bool.false_ne_true
 | bl i =>
  cases rx
  cases y with
  | non=>cases ry; exact PySem.EqNone.ne_bool_none (Qai I q (by simp))
  | bl j=>cases ry; exact ne_bool (Qai I q (congrArg not Qu0))
  | str j=>obtain ⟨t',rfl⟩:=ry; exact PySem.EqMixed.ne_bool_str (Qai I q (by simp))
  | _=>exact absurd (show false = true from hs) Bool.false_ne_true
 | int i =>
  obtain ⟨t,rfl⟩:=rx
  cases y with
  | non=>cases ry; exact PySem.EqNone.ne_int_none (Qai I q (by simp))
  | int j=>obtain ⟨t',rfl⟩:=ry; exact ne_int (Qai I q (congrArg not Qrn))
  | str j=>obtain ⟨t',rfl⟩:=ry; exact PySem.EqMixed.ne_int_str (Qai I q (by simp))
  | _=>exact absurd (show false = true from hs) Bool.false_ne_true
 | str i =>
  obtain ⟨t,rfl⟩:=rx
  cases y with
  | non=>cases ry; exact PySem.EqNone.ne_str_none (Qai I q (by simp))
  | bl j=>cases ry; exact PySem.EqMixed.ne_str_bool (Qai I q (by simp))
  | int j=>obtain ⟨t',rfl⟩:=ry; exact PySem.EqMixed.ne_str_int (Qai I q (by simp))
  | str j=>obtain ⟨t',rfl⟩:=ry; exact ne_str (Qai I q (congrArg not Qro))
  | _=>exact absurd (show false = true from hs) Bool.false_ne_true
 | byt i =>
  obtain ⟨t,rfl⟩:=rx
  cases y with
  | byt j=>obtain ⟨t',rfl⟩:=ry; exact PySem.W.ne_bytes (Qai I q (congrArg not Qrp))
  | _=>exact absurd (show false = true from hs) Bool.false_ne_true
 | _=>cases y <;> exact absurd (show false = true from hs) Bool.false_ne_true
theorem Q7a:OpR X (compareOp .Lt) (rI0 fun i j=>.bl (decide (i < j))):=Q3f fun _ _ _ _ _ _ _ q=>lt_int q
theorem Q7b:OpR X (compareOp .Gt) (rI0 fun i j=>.bl (decide (j < i))):=Q3f fun _ _ _ _ _ _ _ q=>gt_int q
theorem Q7c:OpR X (compareOp .GtE) (rI0 fun i j=>.bl (decide (j ≤ i))):=Q3f fun _ _ _ _ _ _ _ q=>ge_int q
theorem Qyr:OpR X (compareOp .IsNot) (fun x y H Q=>y = .non ∧ Q (.bl (!decide (x = .non))) H):=by
 intro pins s σ H x y v u Q I rx ry h
 obtain ⟨rfl,q⟩:=h
 cases ry
 refine isnot_none_gen (Qai I q ?_)
 cases x <;> first
  | (cases rx; rfl)
  | (obtain ⟨t,rfl⟩:=rx; rfl)
theorem OpR.or {f:Value → Value → Sem Value} {r r':R2} (h:OpR X f r) (h':OpR X f r'):OpR X f (fun x y H Q=>r x y H Q ∨ r' x y H Q):=by
 intro pins s σ H x y v u Q I rx ry q
 rcases q with q | q
 ·exact h pins s σ H x y v u Q I rx ry q
 ·exact h' pins s σ H x y v u Q I rx ry q
theorem Qp4 (b:Expr) {op:CmpOp} (h:op ≠ .In:=by decide) (h2:op ≠ .NotIn:=by decide):behindInMarks op b = false:=by
 have e1:(op == CmpOp.In) = false:=by cases op <;> first | rfl | exact absurd rfl h
 have e2:(op == CmpOp.NotIn) = false:=by cases op <;> first | rfl | exact absurd rfl h2
 cases b <;> simp [behindInMarks,e1,e2]
theorem Qys {op:CmpOp} {r:R2} (ho:OpR X (compareOp op) r) (ha:PE X a ta) (hb:PE X b tb) (hm:behindInMarks op b = false):PE X (.Compare a [op] [b] pos) (tOp r ta tb):=by
 intro pins s σ H Q I h
 exact wpAny_Compare1 (Q3e ha hb I h fun v u s2 x y H2 I2 rx ry q=>ho pins s2 σ H2 x y v u Q I2 rx ry q) hm
noncomputable abbrev Qu1 (t:TE):TT:=fun σ H Q=>t σ H fun x H'=>∃ k,x = .bl k ∧ Q k H'
theorem Qyt {op:CmpOp} {r:R2} (ho:OpR X (compareOp op) r) (ha:PE X a ta) (hb:PE X b tb) (hm:behindInMarks op b = false):PT X (.Compare a [op] [b] pos) (Qu1 (tOp r ta tb)):=by
 intro pins s σ H Q I h
 refine wpAny_isTrue_Compare1 (thn (ha pins s σ H _ I h) fun v s1 ⟨x,H1,I1,r1,q1⟩=>thn (hb pins s1 σ H1 _ I1 q1) fun u s2 ⟨y,H2,I2,r2,q2⟩ =>
  thn (ho pins s2 σ H2 x y v u _ I2 r1 r2 q2) fun c s3 ⟨z,H3,I3,r3,k,e,q3⟩=>?_) hm
 subst e
 cases r3
 exact wpAny_truthy_bool ⟨H3,I3,q3⟩
theorem Qj4:(sizeLine:Nat) < 2 ^ 63:=by rw [sizeLine_eq]; decide
theorem Qfs {x:V} {us:List Value} (r:Vals [x] us):∃ u,us = [u] ∧ RelV x u:=by
 cases r with
 | cons r1 r2=>cases r2; exact ⟨_,rfl,r1⟩
theorem Ql4 {x y:V} {us:List Value} (r:Vals [x,y] us):∃ u w',us = [u,w'] ∧ RelV x u ∧ RelV y w':=by
 cases r with
 | cons r1 r2 =>
  cases r2 with
  | cons r3 r4=>cases r4; exact ⟨_,_,rfl,r1,r3⟩
theorem Qu2:CallR X (.builtin "abs") (fun xs H Q=>∃ i,xs = [.int i] ∧ Q (.int (if i < 0 then -i else i)) H):=by
 intro pins s σ H xs us Q I r h
 obtain ⟨i,rfl,q⟩:=h
 obtain ⟨u,rfl,t,rfl⟩:=Qfs r
 exact call_abs_int fun u tk=>⟨.int (if i < 0 then -i else i),H,I.tok _,⟨_,rfl⟩,q⟩
theorem Qs1 (hc:X.calm = true):CallR X (.builtin "max") (fun xs H Q=>∃ i j,xs = [.int i,.int j] ∧ Q (.int (if j > i then j else i)) H):=by
 intro pins s σ H xs us Q I r h
 obtain ⟨i,j,rfl,q⟩:=h
 obtain ⟨u,w',rfl,⟨t,rfl⟩,⟨t',rfl⟩⟩:=Ql4 r
 refine max_two_ints (I.ok.hd hc) fun h' tk k=>⟨_,H,I.kept k,?_,q⟩
 by_cases hj:j > i
 ·rw [if_pos hj,if_pos hj]; exact ⟨_,rfl⟩
 ·rw [if_neg hj,if_neg hj]; exact ⟨_,rfl⟩
theorem Qs2 (hc:X.calm = true):CallR X (.builtin "min") (fun xs H Q=>∃ i j,xs = [.int i,.int j] ∧ Q (.int (if j < i then j else i)) H):=by
 intro pins s σ H xs us Q I r h
 obtain ⟨i,j,rfl,q⟩:=h
 obtain ⟨u,w',rfl,⟨t,rfl⟩,⟨t',rfl⟩⟩:=Ql4 r
 refine min_two_ints (I.ok.hd hc) fun h' tk k=>⟨_,H,I.kept k,?_,q⟩
 by_cases hj:j < i
 ·rw [if_pos hj,if_pos hj]; exact ⟨_,rfl⟩
 ·rw [if_neg hj,if_neg hj]; exact ⟨_,rfl⟩
theorem Qs3:CallR X (.type "int") (fun xs H Q=>(∃ i,xs = [.int i] ∧ Q (.int i) H) ∨ ∃ k,xs = [.bl k] ∧ Q (.int (if k then 1 else 0)) H):=by
 intro pins s σ H xs us Q I r h
 rcases h with ⟨i,rfl,q⟩ | ⟨k,rfl,q⟩
 ·obtain ⟨u,rfl,t,rfl⟩:=Qfs r
  exact call_int_int ⟨.int i,H,I,⟨_,rfl⟩,q⟩
 ·obtain ⟨u,rfl,r1⟩:=Qfs r
  cases r1
  exact call_int_bool ⟨.int (if k then 1 else 0),H,I.tok _,⟨_,rfl⟩,q⟩
end
structure ObjM (h:Heap) (x dx C:Addr) (mA:Str → Option Value):Prop where
 obj:h.get? x = some (PySem.W.instObj C dx)
 ns:h.Ns1 dx mA
 ne:dx ≠ x
theorem Qs4 {h:Heap} {dx:Addr} {mA:Str → Option Value} (n:h.Ns1 dx mA):∃ od,h.get? dx = some od ∧ ∀ name,PySem.W.lookIn name od = some (mA name):=by
 obtain ⟨o,es,ep,ho,hd,hk,_,hm⟩:=n
 refine ⟨o,ho,fun name=>?_⟩
 have e:=hm name
 unfold nsFind findBy at e
 rw [← Array.find?_toList] at e
 unfold PySem.W.lookIn
 rw [hd]
 dsimp only
 split
 ·rename_i y q
  rw [q] at e
  exact congrArg some e
 ·rename_i q
  rw [q] at e
  have a:es.toList.any (·.refKey) = false:=by
   rw [List.any_eq_false]
   intro y hy
   obtain ⟨z,t,hkey⟩:=hk y (Array.mem_toList_iff.mp hy)
   simp [DictEntry.refKey,hkey]
  have a':¬ es.toList.any (·.refKey) = true:=by rw [a]; exact Bool.false_ne_true
  rw [if_neg a']
  exact congrArg some e
theorem ObjM.look {h:Heap} {x dx C:Addr} {mA:Str → Option Value} (I:ObjM h x dx C mA):∃ od,PySem.W.InstAt h x (PySem.W.instObj C dx) C (some od) ∧ ∀ name,PySem.W.lookIn name od = some (mA name) :=
 let ⟨od,ho,hl⟩:=Qs4 I.ns
 ⟨od,⟨I.obj,rfl,rfl,ho⟩,hl⟩
section
variable {prog:Program} {w:World} {A:Around} {E:Value → Shared → Prop} {s:Shared} {K:PySem.W.Frag} {x dx C f:Addr} {mA:Str → Option Value} {name:Str} {v:Value}
end
section
variable {P:Program} {w:World} {H H':Hp} {h h':Heap} {a C dx:Addr} {fs fs':List (Str × V)}
theorem Qyu (hok:HOk P w H h) (e:H a = some (.ins C dx fs)):∃ mA,ObjM h a dx C mA ∧ (∀ f,RelO (fs.lookup f) (mA f)) ∧ PySem.Within mA (fs.map (·.1)) ∧ fs.length ≤ 1000 ∧ H dx = some (.own a):=by
 obtain ⟨d,z,ne,ob,mA,n,r,q⟩:=(show ObjOk P w H h a (.ins C dx fs) from hok a _ e)
 exact ⟨mA,⟨ob,n,ne⟩,r,q,z,d⟩
end
structure Cls (K:PySem.W.Frag) (C:Addr):Prop where
 pg:PySem.W.plainGet K C Str.empty = true
 hd:PySem.W.hasDictIn K C = true
 po:PySem.W.plainOver K C = true
 sa:PySem.W.findIn K (.ref C) "__setattr__" = some (some (.builtin "object.__setattr__"))
theorem Cls.get {K:PySem.W.Frag} {C:Addr} (c:Cls K C) (f:Str):PySem.W.plainGet K C f = true:=c.pg
structure Con (K:PySem.W.Frag) (C:Addr) (f:Str) (v:V) (u:Value):Prop where
 at_:PySem.W.findIn K (.ref C) f = some (some u)
 rel:RelV v u
 get:PySem.W.specialIn K u "__get__" = some none
 cp:PySem.W.copiedNames.contains f = false
structure Meth (K:PySem.W.Frag) (C:Addr) (m:Str) (f:Addr):Prop where
 at_:PySem.W.findIn K (.ref C) m = some (some (.ref f))
 fn:PySem.W.isFn K (.ref f) = true
 kp:PySem.W.keepIn K (.ref f) = true
section
variable {X:Cx} {pins:List (Addr × Obj)} {σ:St} {H:Hp} {s:Shared} {a C dx:Addr} {fs:List (Str × V)} {f:Str} {v:V} {A:Around} {E:Value → Shared → Prop}
theorem Qyv {prog:Program} {w:World} {env:Env} {e:Expr} {f:Str} {pos:Pos} {s:Shared} {Q:Value → Shared → Prop} (hb:attributeBase e f env (eval e env) = eval e env)
  (h:wpAny (model prog w) A (eval e env) (fun o s₁=>wpAny (model prog w) A (getAttr o f true) Q E s₁) E s):wpAny (model prog w) A (eval (.Attribute e f pos) env) Q E s :=
 Attribute_any_ h (by rw [arm_eval_Attribute,hb])
end
section
variable {X:Cx} {o e value:Expr} {f:Str} {pos pos' tpos:Pos} {ta tv:TE}
end
section
variable {X:Cx} {pins:List (Addr × Obj)} {σ:St} {H:Hp} {s:Shared} {A:Around} {E:Value → Shared → Prop} {Q:Value → Shared → Prop} {c:Value} {b:Bool}
inductive TyOf (K:PySem.W.Frag) (H:Hp):V → Value → Prop where
 | non:TyOf K H .non (.type "NoneType")
 | bl (x:Bool):TyOf K H (.bl x) (.type "bool")
 | int (i:Int):TyOf K H (.int i) (.type "int")
 | str (x:Str):TyOf K H (.str x) (.type "str")
 | flt (x:UInt64):TyOf K H (.flt x) (.type "float")
 | lst {a:Addr} {xs:List V} (e:H a = some (.lst xs)):TyOf K H (.ref a) (.type "list")
 | frz {a:Addr} {o:Obj} {xs:List V} (e:H a = some (.frz o (.lst xs))):TyOf K H (.ref a) (.type "list")
 | tup {a:Addr} {xs:List V} (e:H a = some (.tup xs)):TyOf K H (.ref a) (.type "tuple")
 | dK {a:Addr} {kvs:List (Key × V)} (e:H a = some (.dK kvs)):TyOf K H (.ref a) (.type "dict")
 | dT {a:Addr} {kvs:List (List Key × V)} (e:H a = some (.dT kvs)):TyOf K H (.ref a) (.type "dict")
 | ins {a C dx:Addr} {fs:List (Str × V)} (e:H a = some (.ins C dx fs)) (cl:Cls K C) (ha:PySem.W.findIn K (.ref C) "__class__" = some (some (.builtin "object.__class__")))
   (hn:PySem.W.specialIn K (.builtin "object.__class__") "__get__" = some (some (.builtin "getset_descriptor.__get__"))) (htk:PySem.W.takesIn K (.builtin "object.__class__") = some true)
   (hm:PySem.W.mroIn K C (.type "object") = some true):TyOf K H (.ref a) (.ref C)
theorem Qs5 {x:V} {u t:Value} (I:Inv X pins σ H s) (rx:RelV x u) (ty:TyOf X.K H x t) (e:PySem.W.kitOne X.K t c = some b) (h:∀ tk,Q (.bool b) { s with toks:=tk }) :
  wpAny (model X.prog X.w) A (call (.builtin "isinstance") [u,c]) Q E s:=by
 cases ty with
 | non=>cases (show u = Value.none from rx); exact PySem.W.kia_one PySem.W.kitx_none I.kIn True.intro e (fun z=>nomatch z) h
 | bl y=>cases (show u = Value.bool y from rx); exact PySem.W.kia_one PySem.W.kitx_bool I.kIn True.intro e (fun z=>nomatch z) h
 | int i=>obtain ⟨t,q⟩:=(show ∃ t,u = Value.int i t from rx); cases q; exact PySem.W.kia_one PySem.W.kitx_int I.kIn True.intro e (fun z=>nomatch z) h
 | str y=>obtain ⟨t,q⟩:=(show ∃ t,u = Value.str y t from rx); cases q; exact PySem.W.kia_one PySem.W.kitx_str I.kIn True.intro e (fun z=>nomatch z) h
 | flt y=>obtain ⟨t,q⟩:=(show ∃ t,u = Value.float y t from rx); cases q; exact PySem.W.kia_one PySem.W.kitx_float I.kIn True.intro e (fun z=>nomatch z) h
 | @lst a xs ea =>
  cases (show u = Value.ref a from rx)
  obtain ⟨_,_,n,_,h1⟩:=(show ObjOk X.prog X.w H s.heap a (.lst xs) from I.hok a _ ea)
  exact PySem.W.kia_one PySem.W.kitx_list I.kIn ⟨_,h1,rfl⟩ e (fun z=>nomatch z) h
 | @frz a ob xs ea =>
  cases (show u = Value.ref a from rx)
  obtain ⟨_,_,_,n,_,h1⟩:=(show ObjOk X.prog X.w H s.heap a (.frz ob (.lst xs)) from I.hok a _ ea)
  exact PySem.W.kia_one PySem.W.kitx_list I.kIn ⟨_,h1,rfl⟩ e (fun z=>nomatch z) h
 | @tup a xs ea =>
  cases (show u = Value.ref a from rx)
  obtain ⟨_,_,_,p⟩:=(show ObjOk X.prog X.w H s.heap a (.tup xs) from I.hok a _ ea)
  obtain ⟨o,h1,h2,_⟩:=p
  exact PySem.W.kia_one PySem.W.kitx_tuple I.kIn ⟨o,h1,h2⟩ e (fun z=>nomatch z) h
 | @dK a kvs ea =>
  cases (show u = Value.ref a from rx)
  obtain ⟨_,_,vs,_,p⟩:=(show ObjOk X.prog X.w H s.heap a (.dK kvs) from I.hok a _ ea)
  obtain ⟨o,es,ep,h1,h2,_⟩:=p
  exact PySem.W.kia_one PySem.W.kitx_dict I.kIn ⟨o,h1,h2.1⟩ e (fun z=>nomatch z) h
 | @dT a kvs ea =>
  cases (show u = Value.ref a from rx)
  obtain ⟨_,_,xs,_,o,es,ep,h1,h2,_⟩:=(show ObjOk X.prog X.w H s.heap a (.dT kvs) from I.hok a _ ea)
  exact PySem.W.kia_one PySem.W.kitx_dict I.kIn ⟨o,h1,h2.1⟩ e (fun z=>nomatch z) h
 | @ins a C dx fs ea cl ha hn htk hm =>
  cases (show u = Value.ref a from rx)
  obtain ⟨mA,O,_⟩:=Qyu I.hok ea
  obtain ⟨od,J,_⟩:=O.look
  exact PySem.W.kia_one (PySem.W.kitx_own (cl.get _) cl.hd ha hn htk hm) I.kIn J e (fun z=>nomatch z) h
end
structure Room (k:Nat) (A:Around):Prop where
 hd:A.handled = none
 dp:A.depth + 3 * k + 5 < recursionLimit
 un:A.units + 16 * k + 200 < cLine
 gd:A.guards = some []
theorem Room.mono {j k:Nat} {A:Around} (r:Room k A) (h:j ≤ k):Room j A:=⟨r.hd,by have:=r.dp; omega,by have:=r.un; omega,r.gd⟩
theorem Room.deeper {k:Nat} {A:Around} (r:Room (k + 1) A) (env:Env):Room k (A.deeper env) :=
 ⟨r.hd,by have:=r.dp; show A.depth + 1 + 3 * k + 5 < _; omega,by have:=r.un; show A.units + 3 + 16 * k + 200 < _; omega,r.gd⟩
theorem Room.depth {k:Nat} {A:Around} (r:Room k A):A.depth < recursionLimit:=by have:=r.dp; omega
theorem Room.units {k:Nat} {A:Around} (r:Room k A):A.units + 64 < cLine:=by have:=r.un; omega
noncomputable abbrev Qlm:TA:=fun _ H Q=>Q [] H
noncomputable abbrev Qey (ta:TE) (tr:TA):TA:=fun σ H Q=>ta σ H fun x H1=>tr σ H1 fun xs H2=>Q (x :: xs) H2
section
variable {X:Cx} {e:Expr} {es:List Expr} {te:TE} {t:TA} {pos:Pos}
theorem Qu3:PA X [] Qlm:=fun _ _ _ _ H Q I h=>Calls.spliced_nil ⟨[],H,I,.nil,h⟩
theorem Qyw (ha:PE X e te) (hr:PA X es t) (hs:starEach (e :: es) X.env = (false,eval e X.env) :: starEach es X.env:=by rfl):PA X (e :: es) (Qey te t):=by
 intro pos pins s σ H Q I h
 rw [hs]
 show wpAny _ _ (spliced ((false,eval e X.env) :: backTo pos (starEach es X.env))) _ _ s
 refine Calls.spliced_cons (thn (ha pins s σ H _ I h) fun u s1 ⟨x,H1,I1,r1,q1⟩=>?_)
 exact thn (hr pos pins s1 σ H1 _ I1 q1) fun us s2 ⟨xs,H2,I2,r2,q2⟩=>⟨x :: xs,H2,I2,.cons r1 r2,q2⟩
noncomputable abbrev tTup (t:TA):TE:=fun σ H Q=>t σ H fun xs H1=>xs.length ≤ sizeLine ∧ ∀ p,H1 p = none → Q (.ref p) (upd H1 p (.tup xs))
noncomputable abbrev tLst (t:TA):TE:=fun σ H Q=>t σ H fun xs H1=>xs.length ≤ sizeLine ∧ ∀ p,H1 p = none → Q (.ref p) (upd H1 p (.lst xs))
theorem Qu4 {x1} (h:PA X es t):PE X (.Tuple es x1 pos) (tTup t):=by
 intro pins s σ H Q I hq
 refine wpAny_Tuple_spliced (thn (h pos pins s σ H _ I hq) fun us s1 ⟨xs,H1,I1,r,z,q⟩=>⟨by rw [← r.length]; exact z,?_⟩)
 have hf:H1 s1.heap.objs.size = none:=I1.hok.fresh (Nat.le_refl _)
 refine ⟨.ref s1.heap.objs.size,upd H1 s1.heap.objs.size (.tup xs),I1.laid (t':=s1.toks) (fun b u e=>Heap.get?_push_of_some _ e) (Nat.le_refl _) ?_,rfl,q _ hf⟩
 exact ⟨z,us,r,⟨_,Heap.get?_push_size _ rfl,rfl,_,rfl,rfl⟩⟩
theorem Qu5 (h:PA X es t):PE X (.List es pos) (tLst t):=by
 intro pins s σ H Q I hq
 refine wpAny_List_spliced (thn (h pos pins s σ H _ I hq) fun us s1 ⟨xs,H1,I1,r,z,q⟩=>⟨by rw [← r.length]; exact z,?_⟩)
 have hf:H1 s1.heap.objs.size = none:=I1.hok.fresh (Nat.le_refl _)
 refine ⟨.ref s1.heap.objs.size,upd H1 s1.heap.objs.size (.lst xs),I1.laid (t':=s1.toks) (fun b u e=>Heap.get?_push_of_some _ e) (Nat.le_refl _) ?_,rfl,q _ hf⟩
 exact ⟨z,us,0,r,Heap.get?_push_size _ rfl⟩
end
noncomputable abbrev Sp:=List V → Hp → VK → XK → Prop
noncomputable abbrev CXT:=List Env → Hp → Shared → XK → Value → Shared → Prop
structure Env0 (P:Program) (w:World) (K:PySem.W.Frag) (mg:Str → Option Value) (base:Heap) (A:Around) (outer:List Env) (s:Shared) (H:Hp):Prop where
 frames:A.frames = some outer
 mod:Mod K mg base
 bs:∀ b o,base.get? b = some o → s.heap.get? b = some o ∧ H b = none
 bsz:base.objs.size ≤ s.heap.objs.size
 funs:s.heap.FunFrames base outer
 frf:(∀ b ∈ frs outer,H b = none) ∧ Qun K H
 hok:HOk P w H s.heap
 bare:AllBare s.gens
noncomputable def CE (outer:List Env) (P:Program) (w:World) (H:Hp) (s:Shared) (Q:VK) (u:Value) (s':Shared):Prop :=
 ∃ v H',s'.os = s.os ∧ AllBare s'.gens ∧ Un (frs outer) [] H H' s.heap s'.heap ∧ HOk P w H' s'.heap ∧ RelV v u ∧ Q v H'
noncomputable def CR (CX:CXT) (outer:List Env) (P:Program) (w:World) (H:Hp) (s:Shared) (Q:VK) (E:XK) (r:Result) (s':Shared):Prop :=
 match r with
 | .ok (.ret u)=>CE outer P w H s Q u s'
 | .ok _=>False
 | .error e=>CX outer H s E e s'
structure FnOk (P:Program) (w:World) (K:PySem.W.Frag) (mg:Str → Option Value) (base:Heap) (CX:CXT) (k:Nat) (f:Addr) (fd:FuncData) (ps:List Str) (sp:Sp):Prop where
 len:∀ vs H Q E,sp vs H Q E → vs.length = ps.length
 run:∀ (A:Around) (outer:List Env) (s:Shared) (H:Hp) (args:Args) (us:List Value) (vs:List V) (Q:VK) (E:XK),Room k A → Env0 P w K mg base A outer s H → BindsTo s fd args (ps.zip us) → Vals vs us → sp vs H Q E →
  codeAny (model P w) A (.call (.ref f) args) (CR CX outer P w H s Q E) s
section
variable {X:Cx} {pins:List (Addr × Obj)} {σ:St} {H:Hp} {s s':Shared}
theorem Inv.env0 (I:Inv X pins σ H s):Env0 X.prog X.w X.K X.mg X.base X.A X.stack s H :=
 ⟨I.ok.frames,I.ok.mod,I.bs,Nat.le_trans I.ok.bsz I.sz,I.stack,⟨I.stkFree,I.tab⟩,I.hok,I.bare⟩
theorem Inv.after {Q:VK} {u:Value} (I:Inv X pins σ H s) (h:CE X.stack X.prog X.w H s Q u s'):EP X pins σ Q u s':=by
 obtain ⟨v,H',os,bare,un,hok,r,q⟩:=h
 obtain ⟨hh,g,d,t,os'⟩:=s'
 obtain rfl:os' = s.os:=os
 exact ⟨v,H',I.call (h':=hh) (g':=g) (d':=d) (t':=t) (ch:=[]) un hok bare (fun b z=>absurd z (by simp)),r,q⟩
end
noncomputable abbrev Qj5 (sp:Sp) (dvs:List V) (E:XK) (t:TA):TE:=fun σ H Q=>t σ H fun vs H1=>sp (vs ++ dvs) H1 Q E
noncomputable def Binds (K:PySem.W.Frag) (fd:FuncData) (ps:List Str) (ds:List Value):Prop :=
 ∀ (s:Shared) (us:List Value),K.In s.heap → (us ++ ds).length = ps.length → BindsTo s fd ⟨us,[]⟩ (ps.zip (us ++ ds))
theorem Binds.all {K:PySem.W.Frag} {fd:FuncData} {ps:List Str} (h:∀ us:List Value,us.length = ps.length → bindArgs fd ⟨us,[]⟩ = pure (ps.zip us)):Binds K fd ps []:=fun s us _ hl=>by
 rw [List.append_nil] at hl ⊢
 exact .of_eq (h us hl)
noncomputable def Qp5 (CX:CXT) (X:Cx) (E:XK):Prop:=∀ (pins:List (Addr × Obj)) (σ:St) (H:Hp) (s:Shared) (e:Value) (s':Shared),Inv X pins σ H s → CX X.stack H s E e s' → X.xe e s'
section
variable {X:Cx} {CX:CXT} {k:Nat} {f C:Addr} {fd:FuncData} {ps:List Str} {sp:Sp} {dvs:List V} {ds:List Value} {E:XK} {x m:Str} {p pos apos:Pos} {e o:Expr} {es:List Expr} {ta:TE} {t:TA}
theorem Q3n {pins:List (Addr × Obj)} {σ:St} {H:Hp} {s:Shared} {Q:VK} {us:List Value} {vs:List V} (F:FnOk X.prog X.w X.K X.mg X.base CX k f fd ps sp) (hr:Room k X.A) (hb:Binds X.K fd ps ds) (hd:Vals dvs ds) (hx:Qp5 CX X E)
  (I:Inv X pins σ H s) (r:Vals vs us) (h:sp (vs ++ dvs) H Q E):wpAny (model X.prog X.w) X.A (call (.ref f) us) (EP X pins σ Q) X.xe s:=by
 have r2:Vals (vs ++ dvs) (us ++ ds):=r.append hd
 have hl:(us ++ ds).length = ps.length:=by rw [← r2.length]; exact F.len _ _ _ _ h
 refine wpAny_call (codeAny_mono (F.run X.A X.stack s H ⟨us,[]⟩ (us ++ ds) (vs ++ dvs) Q E hr I.env0 (hb s us I.kIn hl) r2 h) fun r s' hq=>?_)
 cases r with
 | error e=>exact hx pins σ H s e s' I hq
 | ok fl =>
  cases fl with
  | ret u=>exact I.after hq
  | next=>exact False.elim hq
  | brk=>exact False.elim hq
  | cont=>exact False.elim hq
theorem Qyx (F:FnOk X.prog X.w X.K X.mg X.base CX k f fd ps sp) (hr:Room k X.A) (hg:Gl X x) (hm:X.mg x = some (.ref f)) (hk:PySem.W.keepIn X.K (.ref f) = true) (hb:Binds X.K fd ps ds) (hd:Vals dvs ds) (hx:Qp5 CX X E)
  (ha:PA X (e :: es) t) (hdb:(x == ("__debug__" : Str)) = false:=by decide) (he:starEach (e :: es) X.env = (false,eval e X.env) :: starEach es X.env:=by rfl) (hpl:(backTo pos (starEach es X.env)).any (·.1) = false:=by rfl) :
  PE X (.Call (.Name x p) (e :: es) [] pos) (Qj5 sp dvs E t):=by
 intro pins s σ H Q I h
 refine wpAny_Call_Name_kw (Qe7 I hg hm ?_ hdb)
 refine PySem.W.callWith_K (h₀:=X.base) I.ok.mod.kin hk (thn (ha pos pins s σ H _ I h) fun us s1 ⟨vs,H1,I1,r,q⟩=>⟨I1.kIn,?_⟩) he hpl
 exact Q3n F hr hb hd hx I1 r q
structure Mk (K:PySem.W.Frag) (C f:Addr):Prop where
 makes:PySem.W.makesIn K C = true
 init:PySem.W.findIn K (.ref C) "__init__" = some (some (.ref f))
 fn:PySem.W.isFn K (.ref f) = true
 kp:PySem.W.keepIn K (.ref C) = true
end
section
variable {X:Cx} {CX:CXT} {k:Nat} {f C:Addr} {fd:FuncData} {ps ks:List Str} {sp:Sp} {E:XK} {x m:Str} {p pos apos kpos:Pos} {e o:Expr} {es:List Expr} {kws:List Keyword} {te ta:TE} {t tk:TA} {nm:Option Str}
structure KBinds (K:PySem.W.Frag) (fd:FuncData) (ps ks:List Str) (g:List Value → List Value → List Value) (gV:List V → List V → List V):Prop where
 to:∀ (s:Shared) (us ws:List Value),K.In s.heap → (g us ws).length = ps.length → BindsTo s fd ⟨us,ks.zip ws⟩ (ps.zip (g us ws))
 rel:∀ {vs:List V} {us:List Value} {zs:List V} {ws:List Value},Vals vs us → Vals zs ws → Vals (gV vs zs) (g us ws)
variable {g:List Value → List Value → List Value} {gV:List V → List V → List V}
end
structure FnScope (N P:List Str) (sc:Scope):Prop where
 kind:sc.kind = .function
 co:sc.isCoroutine = false
 gen:sc.isGenerator = false
 nd:N.Nodup
 pre:N.take P.length = P
 par:∀ x ∈ P,sc.names.lookup x = some .local ∨ sc.names.lookup x = some .cell
 nofree:∀ y ∈ sc.names,y.2 ≠ .free
theorem Ql5 {kindOf:Str → Option NameKind} {x:Str}:∀ {binds:List (Str × Value)} {m:Str → Option Value},(∀ v,(x,v) ∉ binds) → bindL kindOf binds m x = m x
 | [],_,_=>rfl
 | (n,v) :: r,m,h=>by
  unfold bindL
  rw [Ql5 fun w hw=>h w (List.mem_cons_of_mem _ hw)]
  split
  ·have:x ≠ n:=by rintro rfl; exact h v List.mem_cons_self
   simp [this]
  ·rfl
theorem Ql6 {kindOf:Str → Option NameKind} {x:Str}:∀ {binds:List (Str × Value)} {m:Str → Option Value},(∀ v,(x,v) ∉ binds) → bindC kindOf binds m x = m x
 | [],_,_=>rfl
 | (n,v) :: r,m,h=>by
  unfold bindC
  rw [Ql6 fun w hw=>h w (List.mem_cons_of_mem _ hw)]
  split
  ·rfl
  ·have:x ≠ n:=by rintro rfl; exact h v List.mem_cons_self
   simp [this]
theorem Qez {kindOf:Str → Option NameKind} {x:Str} {v:Value}:∀ {P:List Str} {vs:List Value} {i:Nat} {m:Str → Option Value},P.Nodup → P[i]? = some x → vs[i]? = some v → kindOf x = some .local →
  bindL kindOf (P.zip vs) m x = some v
 | [],_,_,_,_,h,_,_=>by simp at h
 | _ :: _,[],_,_,_,_,h,_=>by simp at h
 | p :: P,w :: vs,0,m,nd,h1,h2,hk=>by
  simp at h1 h2; subst h1; subst h2
  show bindL kindOf ((p,w) :: P.zip vs) m p = _
  unfold bindL
  rw [Ql5 fun v hv=>(List.nodup_cons.mp nd).1 (List.of_mem_zip hv).1,if_pos hk]
  simp
 | p :: P,w :: vs,i + 1,m,nd,h1,h2,hk=>by
  show bindL kindOf ((p,w) :: P.zip vs) m x = _
  unfold bindL
  exact Qez (i:=i) (List.nodup_cons.mp nd).2 (by simpa using h1) (by simpa using h2) hk
theorem Qim {kindOf:Str → Option NameKind} {x:Str} {v:Value}:∀ {P:List Str} {vs:List Value} {i:Nat} {m:Str → Option Value},P.Nodup → P[i]? = some x → vs[i]? = some v → kindOf x ≠ some .local →
  bindC kindOf (P.zip vs) m x = some v
 | [],_,_,_,_,h,_,_=>by simp at h
 | _ :: _,[],_,_,_,_,h,_=>by simp at h
 | p :: P,w :: vs,0,m,nd,h1,h2,hk=>by
  simp at h1 h2; subst h1; subst h2
  show bindC kindOf ((p,w) :: P.zip vs) m p = _
  unfold bindC
  rw [Ql6 fun v hv=>(List.nodup_cons.mp nd).1 (List.of_mem_zip hv).1,if_neg hk]
  simp
 | p :: P,w :: vs,i + 1,m,nd,h1,h2,hk=>by
  show bindC kindOf ((p,w) :: P.zip vs) m x = _
  unfold bindC
  exact Qim (i:=i) (List.nodup_cons.mp nd).2 (by simpa using h1) (by simpa using h2) hk
noncomputable def Qa3 (N:List Str) (vs:List V):St:=vs.map some ++ List.replicate (N.length - vs.length) none
noncomputable def Qeo (g:Str → Bool) (CX:CXT) (P:Program) (w:World) (K:PySem.W.Frag) (mg:Str → Option Value) (base:Heap) (N:List Str) (qual:Str) (scope:Scope) (f:Addr) (cd:Value) (A:Around) (outer:List Env) (s:Shared) (H:Hp) (E:XK):Cx where
 prog:=P
 w:=w
 K:=K
 mg:=mg
 base:=base
 A:=A.deeper (envOfC qual scope s.heap.objs.size f cd)
 N:=N
 s₀:=s
 H₀:=H
 env:=envOfC qual scope s.heap.objs.size f cd
 outer:=outer
 stack:=envOfC qual scope s.heap.objs.size f cd :: outer
 ex:=[]
 calm:=true
 fn:=g
 pn:=[]
 xe:=fun e s'=>wpAny (model P w) (A.deeper (envOfC qual scope s.heap.objs.size f cd)) (leaving (envOfC qual scope s.heap.objs.size f cd) e) (fun _ s''=>CX outer H s E e s'') (fun e' s''=>CX outer H s E e' s'') s'
theorem Qhr {sc:Scope} {n:Nat} {x:Str} (h:sc.names.lookup x = some .cell):∃ c,(cellsFrom n sc.names []).lookup x = some c:=by
 have q:=PySem.W.cellsFrom_some sc.names n [] (.inl h)
 exact Option.isSome_iff_exists.mp q
theorem Qs6 {g:Str → Bool} {CX:CXT} {P:Program} {w:World} {K:PySem.W.Frag} {mg:Str → Option Value} {base:Heap} {N ps:List Str} {qual:Str} {scope:Scope} {f:Addr} {cd:Value} {A:Around} {outer:List Env} {s s1:Shared} {H:Hp} {E:XK} {us:List Value} {vs:List V}
  (S:FnScope N ps scope) (hd:A.handled = none) (e0:Env0 P w K mg base A outer s H) (hl:vs.length = ps.length) (r:Vals vs us)
  (x:InCallC s s.heap.objs.size (bindL (envOfC qual scope s.heap.objs.size f cd).kindOf (ps.zip us) fun _=>none) (cellsFrom (s.heap.objs.size + 1) scope.names []) (bindC (envOfC qual scope s.heap.objs.size f cd).kindOf (ps.zip us) fun _=>none) s1) :
  Inv (Qeo g CX P w K mg base N qual scope f cd A outer s H E) [] (Qa3 N vs) H s1:=by
 have hpl:ps.length ≤ N.length:=by have:=congrArg List.length S.pre; rw [List.length_take] at this; omega
 obtain ⟨h1,tk,rfl,hk⟩:=x.done
 have noA:∀ b:Addr,b ∉ (Qeo g CX P w K mg base N qual scope f cd A outer s H E).ex:=fun b z=>absurd (show b ∈ ([]:List Addr) from z) (by simp)
 refine ⟨⟨e0.mod,S.kind,rfl,rfl,Nat.le_refl _,fun y z c h1 h2=>?_,fun y hy=>?_,fun y c _ h=>?_,fun _=>hd,Around.frames_deeper e0.frames,.inr ⟨rfl,rfl⟩,fun b z=>absurd z (noA b),e0.bs,e0.bsz,fun b _ _=>noA b,fun b z=>absurd z (noA b),e0.funs,e0.frf⟩,
  rfl,e0.bare,Un.kept hk,⟨_,x.toInCall.ns,fun i y v h1 h2 h3=>?_⟩,fun y c h=>⟨_,x.cell y c h⟩,e0.hok.fresh (Nat.le_refl _),fun y c h=>?_,fun p hp=>absurd (show p ∈ ([]:List (Addr × Obj)) from hp) (by simp),e0.hok.kept hk,?_⟩
 ·exact name_of_addr x.apart (PySem.mem_of_lookup h1) (PySem.mem_of_lookup h2)
 ·have hy:scope.names.lookup y = some .cell ∨ scope.names.lookup y = some .free:=hy
  rcases hy with hy | hy
  ·exact Qhr hy
  ·exact absurd rfl (S.nofree _ (PySem.mem_of_lookup hy))
 ·exact Nat.le_of_lt (x.above y c (PySem.mem_of_lookup h))
 ·have hi:i < vs.length:=by
   unfold Qa3 at h2
   by_cases hi:i < vs.length
   ·exact hi
   ·rw [List.getElem?_append_right (by simpa using hi)] at h2
    rw [List.getElem?_replicate] at h2
    split at h2 <;> cases h2
  have ha:vs[i]? = some v:=by
   unfold Qa3 at h2
   rw [List.getElem?_append_left (by simpa using hi),List.getElem?_map] at h2
   cases e:vs[i]? with
   | none=>rw [e] at h2; cases h2
   | some a=>rw [e] at h2; cases h2; rfl
  obtain ⟨u,hu,rv⟩:=r.get ha
  have hp:ps[i]? = some y:=by
   rw [← S.pre,List.getElem?_take_of_lt (by omega)]; exact h1
  have ndP:ps.Nodup:=by rw [← S.pre]; exact S.nd.sublist (List.take_sublist _ _)
  refine ⟨u,rv,?_⟩
  rcases S.par y (List.mem_of_getElem? hp) with k | k
  ·exact .inl ⟨k,Qez ndP hp hu k⟩
  ·obtain ⟨c,e⟩:=Qhr (n:=s.heap.objs.size + 1) k
   refine .inr ⟨.inl k,c,e,?_⟩
   have q:=x.cell y c e
   rw [Qim ndP hp hu (by show scope.names.lookup y ≠ _; rw [k]; decide)] at q
   exact q
 ·exact .inl (e0.hok.fresh (Nat.le_of_lt (x.above y c (PySem.mem_of_lookup h))))
 ·unfold Qa3
  show _ = N.length
  rw [List.length_append,List.length_map,List.length_replicate]
  omega
theorem Q1j {g:Str → Bool} {CX:CXT} {P:Program} {w:World} {K:PySem.W.Frag} {mg:Str → Option Value} {base:Heap} {k:Nat} {f:Addr} {name qual:Str} {params:Arguments} {body:List Stmt} {scope:Scope} {dV kV doc pm cdv ct oc:Value} {an od:Option Addr}
  {osl:Array (Option Value)} {N ps:List Str} {sp:Sp} (lk:K.lookup f = some ⟨oc,od,.func (PySem.W.fnOf name qual params body scope dV kV doc pm an cdv ct),osl⟩) (hcd:PySem.W.codeIn K cdv qual = true) (S:FnScope N ps scope)
  (len:∀ vs H Q E,sp vs H Q E → vs.length = ps.length)
  (hbody:∀ (A:Around) (outer:List Env) (s:Shared) (H:Hp) (vs:List V) (Q:VK) (E:XK),Room k (A.deeper (envOfC qual scope s.heap.objs.size f cdv)) → sp vs H Q E →
   ∃ t,PSs (Qeo g CX P w K mg base N qual scope f cdv A outer s H E) body t ∧ t { nx:=fun _ H'=>Q .non H',rt:=Q } (Qa3 N vs) H) :
  FnOk P w K mg base CX (k + 1) f (PySem.W.fnOf name qual params body scope dV kV doc pm an cdv ct) ps sp:=by
 refine ⟨len,fun A outer s H args us vs Q E hr e0 hb r hsp=>?_⟩
 have hl:=len _ _ _ _ hsp
 have KX:K.In s.heap:=e0.mod.kin.keeps fun b o e=>(e0.bs b o e).1
 have lim:s.heap.NoLimit:=e0.mod.nolimit.keeps fun b o e=>(e0.bs b o e).1
 have hkind:∀ y ∈ ps.zip us,scope.names.lookup y.1 = some .local ∨ (scope.names.lookup y.1 = some .cell ∧ ((cellsFrom (s.heap.objs.size + 1) scope.names []).lookup y.1).isSome = true):=fun ⟨n,v⟩ hy=>by
  rcases S.par n (List.of_mem_zip hy).1 with q | q
  ·exact .inl q
  ·exact .inr ⟨q,PySem.W.cellsFrom_some _ _ _ (.inl q)⟩
 refine codeAny_call_function hr.depth (KX _ _ lk) rfl S.co S.gen rfl (PySem.W.codeRec_of KX hcd) (hb _ _ _ _ ?_)
 refine wpAny_newFunctionEnv_cells S.kind hkind fun env he s1 x=>?_
 subst he
 refine ⟨lim.keeps x.toInCall.keep,codeAny_func ?_⟩
 obtain ⟨t,ht,hq⟩:=hbody A outer s H vs Q E (hr.deeper _) hsp
 have I:Inv (Qeo g CX P w K mg base N qual scope f cdv A outer s H E) [] (Qa3 N vs) H s1:=Qs6 S hr.hd e0 hl r x
 refine wpAny_mono (ht [] s1 (Qa3 N vs) H _ I hq) (fun fl s' hs=>?_) fun e s' hs=>hs
 have fin:∀ {σ':St} {H':Hp} {v:V} {u:Value},Inv (Qeo g CX P w K mg base N qual scope f cdv A outer s H E) [] σ' H' s' → RelV v u → Q v H' → CE outer P w H s Q u s' :=
  fun {σ' H' v u} J rv q=>⟨v,H',J.os,J.bare,J.base,J.hok,rv,q⟩
 cases fl with
 | ret u =>
  obtain ⟨v,σ',H',J,rv,q⟩:=hs
  exact fin J rv q
 | next =>
  obtain ⟨σ',H',J,q⟩:=hs
  exact fin (v:=V.non) (u:=Value.none) J rfl q
 | brk =>
  obtain ⟨_,_,_,q⟩:=hs
  exact False.elim q
 | cont =>
  obtain ⟨_,_,_,q⟩:=hs
  exact False.elim q
section
variable {X:Cx} {x:Str} {p pos:Pos} {e:Expr} {es:List Expr} {t:TA} {id T:String} {r:List V → Hp → VK → Prop}
noncomputable abbrev tCB (r:List V → Hp → VK → Prop) (t:TA):TE:=fun σ H Q=>t σ H fun vs H1=>r vs H1 Q
theorem Qu6 (hc:CallR X (.builtin id) r) (hg:Gl X x) (hm:X.mg x = none) (hv:bootBuiltins x = some (.builtin id)) (ha:PA X (e :: es) t) (hn:x ≠ "__name__" := by decide) (hdb:(x == ("__debug__" : Str)) = false:=by decide)
  (he:starEach (e :: es) X.env = (false,eval e X.env) :: starEach es X.env:=by rfl) (hpl:(backTo pos (starEach es X.env)).any (·.1) = false:=by rfl):PE X (.Call (.Name x p) (e :: es) [] pos) (tCB r t):=by
 intro pins s σ H Q I h
 refine wpAny_Call_Name_kw (Qj2 I hg hm hv ?_ hn hdb)
 exact PyProof.Rows.callWith_builtin1 (thn (ha pos pins s σ H _ I h) fun us s1 ⟨vs,H1,I1,r1,q1⟩=>hc pins s1 σ H1 vs us Q I1 r1 q1) he hpl
theorem Qs7 (hc:CallR X (.type T) r) (hg:Gl X x) (hm:X.mg x = none) (hv:bootBuiltins x = some (.type T)) (ha:PA X (e :: es) t) (hn:x ≠ "__name__" := by decide) (hdb:(x == ("__debug__" : Str)) = false:=by decide)
  (he:starEach (e :: es) X.env = (false,eval e X.env) :: starEach es X.env:=by rfl) (hpl:(backTo pos (starEach es X.env)).any (·.1) = false:=by rfl):PE X (.Call (.Name x p) (e :: es) [] pos) (tCB r t):=by
 intro pins s σ H Q I h
 refine wpAny_Call_Name_kw (Qj2 I hg hm hv ?_ hn hdb)
 exact PyProof.Rows.callWith_type1 (thn (ha pos pins s σ H _ I h) fun us s1 ⟨vs,H1,I1,r1,q1⟩=>hc pins s1 σ H1 vs us Q I1 r1 q1) he hpl
end
end L2
namespace HT
open PySem PyProof.Rows
noncomputable def lexLt:List Int → List Int → Bool
 | [],[]=>false
 | [],_ :: _=>true
 | _ :: _,[]=>false
 | x :: xs,y :: ys=>if x = y then lexLt xs ys else decide (x < y)
section
open PySem.SeqAt
open PySem.AutoSeq1 (wpAny_loadPart')
open PySem.MeetsSeq PySem.MeetsSeq2 PySem.MeetsSeq3
end
section
variable {prog:Program} {w:World} {A:Around} {E:Value → Shared → Prop} {s:Shared}
theorem cat_tup {t b:Addr} {vs ws:List Value} {Q:Value → Shared → Prop} (ht:IsTup s.heap t vs.toArray) (hb:IsTup s.heap b ws.toArray) (hv:vs ≠ [])
  (h1:ws = [] → Q (.ref t) s) (h2:ws ≠ [] → Q (.ref s.heap.objs.size) { s with heap:=s.heap.push { cls:=.type "tuple",data:=.seq (vs ++ ws).toArray } })
  (hsz:vs.length + ws.length ≤ sizeLine):wpAny (model prog w) A (binaryOp .Add (.ref t) (.ref b)) Q E s:=by
 obtain ⟨⟨cls,dd,data,sl⟩,ho,hc,n,hd⟩:=id ht
 obtain ⟨⟨cls2,dd2,data2,sl2⟩,ho2,hc2,n2,hd2⟩:=id hb
 simp only at hc hd hc2 hd2
 subst hc hd hc2 hd2
 have e:vs.toArray ++ ws.toArray = (vs ++ ws).toArray:=by simp
 by_cases hw:ws = []
 ·exact concat_meets ⟨_,ho,rfl⟩ ⟨_,ho2,rfl⟩ noFill_tuple_add seq_tuple_add PySem.F.slot_tuple_add PySem.F.entry_tuple_add (PySem.F.args_tuple_add_2 _ _)
   (tuple_addW1 t b vs.toArray ws.toArray n n2 dd dd2 sl sl2 (by simpa using hv) (by simp [hw])) ⟨ho,ho2,h1 hw⟩
 ·refine concat_meets ⟨_,ho,rfl⟩ ⟨_,ho2,rfl⟩ noFill_tuple_add seq_tuple_add PySem.F.slot_tuple_add PySem.F.entry_tuple_add (PySem.F.args_tuple_add_2 _ _)
   (tuple_addW2 t b vs.toArray ws.toArray n n2 dd dd2 sl sl2 (by simpa using hv) (by simpa using hw) (by rw [List.size_toArray,List.size_toArray]; exact hsz)) ⟨ho,ho2,?_⟩
  rw [e]
  exact h2 hw
noncomputable def sIx (n d:Nat):Option Int → Nat
 | none=>d
 | some v=>if v < 0 then (v + (n:Int)).toNat else min v.toNat n
theorem sIx_le (n d:Nat) (hd:d ≤ n) (o:Option Int):sIx n d o ≤ n:=by
 cases o with
 | none=>exact hd
 | some v =>
  show (if v < 0 then (v + (n:Int)).toNat else min v.toNat n) ≤ n
  by_cases hv:v < 0
  ·rw [if_pos hv]; omega
  ·rw [if_neg hv]; exact Nat.min_le_right _ _
theorem clip_eq (v:Int) (n d:Nat):(if v < 0 then max (v + (n:Int)) 0 else min v (n:Int)) = ((sIx n d (some v):Nat):Int):=by
 show (if v < 0 then max (v + (n:Int)) 0 else min v (n:Int)) = (((if v < 0 then (v + (n:Int)).toNat else min v.toNat n):Nat):Int)
 by_cases hv:v < 0
 ·simp only [if_pos hv]; omega
 ·simp only [if_neg hv]; omega
theorem adjust_gen (lo hi:Option Int) (n:Nat):Builtin.Slice.sliceAdjust lo hi 1 (n:Int) = (((sIx n 0 lo:Nat):Int),((sIx n n hi:Nat):Int)):=by
 have h1:¬ ((1:Int) < 0):=by omega
 unfold Builtin.Slice.sliceAdjust
 simp only [h1,if_false]
 refine Prod.ext ?_ ?_
 ·cases lo with
  | none=>rfl
  | some v=>exact clip_eq v n 0
 ·cases hi with
  | none=>rfl
  | some v=>exact clip_eq v n n
theorem places_gen (i j:Nat):Builtin.Slice.slicePlaces (i:Int) (j:Int) 1 = j - i:=by
 unfold Builtin.Slice.slicePlaces
 have h1:(1:Int) > 0:=by omega
 simp only [h1,if_true,Int.ediv_one]
 split <;> omega
theorem slicePart_ {v:Value} {o:Option Int} {Q:Option Int → Shared → Prop} (p:IsPart v o) (h:Q o s):wpAny (model prog w) A (Builtin.Slice.slicePartIndex v) Q E s:=by
 cases p with
 | none=>exact slicePart_none h
 | int i t=>exact slicePart_int h
theorem sliceApplied_gen {sl:Addr} {vl vu:Value} {lo hi:Option Int} {n:Nat} {Q:Int × Int × Nat → Shared → Prop} (hs:s.heap.IsSliceOf sl vl vu .none) (pl:IsPart vl lo) (pu:IsPart vu hi)
  (h:Q (((sIx n 0 lo:Nat):Int),1,sIx n n hi - sIx n 0 lo) s):wpAny (model prog w) A (Builtin.Slice.sliceApplied (.ref sl) (pure (n:Int))) Q E s:=by
 obtain ⟨os,hos,hcs,hds⟩:=id hs
 unfold Builtin.Slice.sliceApplied Builtin.Slice.sliceFields
 refine wpAny_bind (wpAny_bind (wpAny_field hos hds (x:=vl) rfl (wpAny_bind (wpAny_field hos hds (x:=vu) rfl (wpAny_bind (wpAny_field hos hds (x:=.none) rfl (wpAny_pure ?_)))))))
 refine wpAny_bind (slicePart_none ?_)
 show wpAny _ _ (if ((1:Int) == 0) = true then _ else _) _ _ s
 rw [if_neg (by decide)]
 refine wpAny_bind (slicePart_ pl (wpAny_bind (slicePart_ pu (wpAny_bind (wpAny_pure ?_)))))
 show wpAny _ _ (match Builtin.Slice.sliceAdjust lo hi 1 (n:Int) with | (lo,hi)=>pure (lo,(1:Int),Builtin.Slice.slicePlaces lo hi 1)) _ _ s
 rw [adjust_gen lo hi n]
 show wpAny _ _ (pure (((sIx n 0 lo:Nat):Int),(1:Int),Builtin.Slice.slicePlaces ((sIx n 0 lo:Nat):Int) ((sIx n n hi:Nat):Int) 1)) _ _ s
 rw [places_gen]
 exact wpAny_pure h
theorem pick_gen (xs:Array Value) (i k:Nat):((List.range k).filterMap fun (m:Nat)=>xs[((i:Int) + (m:Int) * 1).toNat]?).toArray = ((xs.toList.drop i).take k).toArray:=by
 have e:(fun (m:Nat)=>xs[((i:Int) + (m:Int) * 1).toNat]?) = fun m=>xs[i + m]?:=by
  funext m
  have:((i:Int) + (m:Int) * 1).toNat = i + m:=by omega
  rw [this]
 rw [e]
 have:=pick_run xs i k
 rw [List.filterMap_map] at this
 have e2:((fun x=>xs[x]?) ∘ fun x=>i + x) = fun m=>xs[i + m]?:=rfl
 rw [e2] at this
 rw [this]
theorem getItem_tuple_cut {t sl:Addr} {items:Array Value} {vl vu:Value} {lo hi:Option Int} {Q:Value → Shared → Prop} (ht:IsTup s.heap t items) (hs:s.heap.IsSliceOf sl vl vu .none) (pl:IsPart vl lo) (pu:IsPart vu hi)
  (hw:¬ (sIx items.size 0 lo = 0 ∧ sIx items.size items.size hi = items.size))
  (h:Q (.ref s.heap.objs.size) { s with heap:=s.heap.push { cls:=.type "tuple",data:=.seq ((items.toList.drop (sIx items.size 0 lo)).take (sIx items.size items.size hi - sIx items.size 0 lo)).toArray } })
  (hsz:items.size ≤ sizeLine):wpAny (model prog w) A (getItem (.ref t) (.ref sl)) Q E s:=by
 have htake:sizeOk (.seq ((items.toList.drop (sIx items.size 0 lo)).take (sIx items.size items.size hi - sIx items.size 0 lo)).toArray):=by
  show ((items.toList.drop (sIx items.size 0 lo)).take (sIx items.size items.size hi - sIx items.size 0 lo)).toArray.size ≤ sizeLine
  rw [List.size_toArray,List.length_take,List.length_drop,Array.length_toList]
  omega
 have hj:sIx items.size items.size hi ≤ items.size:=sIx_le _ _ (Nat.le_refl _) hi
 obtain ⟨os,hos,hcs,hds⟩:=id hs
 have hTs:s.TypeIs (.ref sl) "slice" := ⟨os,hos,hcs⟩
 unfold getItem
 try with_reducible refine wpAny_holding ?_
 first | refine wpAny_bind (wpAny_pure ?_) | skip
 refine wpAny_bind (wpAny_sequenceKey ht.typeIs (by decide) ?_)
 refine wpAny_bind (wpAny_callSpecial?_slot (name:=Str.ofString "__getitem__") ht.typeIs PyProof.Rows.slot_tuple_getitem
  (wpAny_call_entry PyProof.Rows.slot_tuple_getitem ht.typeIs entry_tuple_getitem ?_ (args_tuple_getitem _ _)))
 show wpAny _ _ (Builtin.Tuple.tupleItemsOf (.ref t) >>= _) _ _ s
 refine wpAny_bind (tupleItemsOf_ ht ?_)
 refine wpAny_bind (wpAny_typeOf hTs ?_)
 rw [if_pos (by decide)]
 refine wpAny_bind (sliceApplied_gen hs pl pu ?_)
 have hno:¬ ((((sIx items.size 0 lo:Nat):Int) == 0 && (1:Int) == 1 && (sIx items.size items.size hi - sIx items.size 0 lo) == items.size) = true):=by
  intro q
  rw [Bool.and_eq_true,Bool.and_eq_true] at q
  have q1:((sIx items.size 0 lo:Nat):Int) = 0:=eq_of_beq q.1.1
  have q2:sIx items.size items.size hi - sIx items.size 0 lo = items.size:=eq_of_beq q.2
  exact hw ⟨by omega,by omega⟩
 show wpAny _ _ (if (((sIx items.size 0 lo:Nat):Int) == 0 && (1:Int) == 1 && (sIx items.size items.size hi - sIx items.size 0 lo) == items.size) = true then _ else _) _ _ s
 rw [if_neg hno,pick_gen]
 first
  | exact wpAny_bind (m:=Builtin.Tuple.tupleExact _) (wpAny_newObj_type (wpAny_pure ⟨_,rfl,wpAny_pure h⟩) htake)
  | exact wpAny_bind (m:=Builtin.Tuple.tupleExact _) (wpAny_newObj_type (wpAny_bind (wpAny_pure (wpAny_pure ⟨_,rfl,wpAny_pure h⟩))) htake)
  | exact wpAny_bind (wpAny_bind (m:=Builtin.Tuple.tupleExact _) (wpAny_newObj_type (wpAny_pure (wpAny_pure ⟨_,rfl,wpAny_pure h⟩)) htake))
  | exact wpAny_bind (wpAny_bind (m:=Builtin.Tuple.tupleExact _) (wpAny_newObj_type (wpAny_pure ⟨_,rfl,wpAny_pure h⟩) htake))
end
end HT
namespace L2
open PySem PySem.Spec PyProof.Rows
noncomputable abbrev TO:=St → Hp → (Option Int → Hp → Prop) → Prop
noncomputable def PO (X:Cx) (e:Option Expr) (t:TO):Prop :=
 ∀ (pins:List (Addr × Obj)) (s:Shared) (σ:St) (H:Hp) (Q:Option Int → Hp → Prop),Inv X pins σ H s → t σ H Q →
  wpAny (model X.prog X.w) X.A (evalPart e X.env) (fun u s'=>∃ o H',Inv X pins σ H' s' ∧ IsPart u o ∧ Q o H') X.xe s
noncomputable abbrev Qrq (t:TE):TO:=fun σ H Q=>t σ H fun x H1=>∃ i,x = .int i ∧ Q (some i) H1
theorem Qe9 {ns:List Int}:∀ {us:List Value},Vals (ns.map V.int) us → IntsAre us ns:=by
 induction ns with
 | nil=>intro us r; rw [List.map_nil] at r; cases r; exact .nil
 | cons n ns ih =>
  intro us r
  rw [List.map_cons] at r
  cases r with
  | cons r1 r2 =>
   obtain ⟨t,e⟩:=r1
   subst e
   exact .cons n t (ih r2)
section
variable {X:Cx} {e:Expr} {te:TE} {lo hi:Option Expr} {tl th:TO} {pos p2:Pos}
theorem Qyy (h:PE X e te):PO X (some e) (Qrq te):=by
 intro pins s σ H Q I hw
 rw [evalPart_some]
 refine thn (h pins s σ H _ I hw) fun u s1 ⟨x,H1,I1,r1,q1⟩=>?_
 obtain ⟨i,rfl,q⟩:=q1
 obtain ⟨t,rfl⟩:=r1
 exact ⟨some i,H1,I1,.int i t,q⟩
noncomputable def SlR (X:Cx) (r:V → Option Int → Option Int → Hp → VK → Prop):Prop :=
 ∀ (pins:List (Addr × Obj)) (s:Shared) (σ:St) (H:Hp) (x:V) (v vl vu:Value) (lo hi:Option Int) (sl:Addr) (Q:VK),Inv X pins σ H s → RelV x v → s.heap.IsSliceOf sl vl vu .none → IsPart vl lo → IsPart vu hi → r x lo hi H Q →
  ∃ T id,typeLookup (.type T) "__getitem__" = pure (some (.builtin id)) ∧ s.TypeIs v T ∧ wpAny (model X.prog X.w) X.A (getItem v (.ref sl)) (EP X pins σ Q) X.xe s
theorem SlR.or {r r':V → Option Int → Option Int → Hp → VK → Prop} (h:SlR X r) (h':SlR X r'):SlR X (fun x lo hi H Q=>r x lo hi H Q ∨ r' x lo hi H Q):=by
 intro pins s σ H x v vl vu lo hi sl Q I rx hs pl pu q
 rcases q with q | q
 ·exact h pins s σ H x v vl vu lo hi sl Q I rx hs pl pu q
 ·exact h' pins s σ H x v vl vu lo hi sl Q I rx hs pl pu q
noncomputable abbrev tSl (r:V → Option Int → Option Int → Hp → VK → Prop) (te:TE) (tl th:TO):TE:=fun σ H Q=>te σ H fun x H1=>tl σ H1 fun l H2=>th σ H2 fun u H3=>r x l u H3 Q
theorem Qu7 {r:V → Option Int → Option Int → Hp → VK → Prop} (hr:SlR X r) (he:PE X e te) (hl:PO X lo tl) (hu:PO X hi th):PE X (.Subscript e (.Slice lo hi none p2) pos) (tSl r te tl th):=by
 intro pins s σ H Q I h
 refine Subscript_ (thn (he pins s σ H _ I h) fun v s1 ⟨x,H1,I1,r1,q1⟩=>?_)
 refine wpAny_Slice (thn (hl pins s1 σ H1 _ I1 q1) fun vl s2 ⟨l,H2,I2,pl,q2⟩=>thn (hu pins s2 σ H2 _ I2 q2) fun vu s3 ⟨u,H3,I3,pu,q3⟩=>?_)
 rw [evalPart_none]
 refine wpAny_pure ?_
 have I4:Inv X pins σ H3 { s3 with heap:=s3.heap.push { cls:=.type "slice",data:=.fields #[vl,vu,.none] } }:=I3.kept (t':=s3.toks) fun b ob q=>Heap.get?_push_of_some _ q
 obtain ⟨T,id,hT,ht,hg⟩:=hr pins { s3 with heap:=s3.heap.push { cls:=.type "slice",data:=.fields #[vl,vu,.none] } } σ H3 x v vl vu l u s3.heap.objs.size Q I4 r1 (Heap.IsSliceOf.new ..) pl pu q3
 show wpAny (model X.prog X.w) X.A (subscriptTail e (.Slice lo hi none p2) v (.ref s3.heap.objs.size)) (EP X pins σ Q) X.xe { s3 with heap:=s3.heap.push { cls:=.type "slice",data:=.fields #[vl,vu,.none] } }
 exact tail_any (ops:=[.ref s3.heap.objs.size,v]) ht hT hg (by with_unfolding_all rfl)
noncomputable def Qf0 (xs:List V) (lo hi:Option Int):List V:=(xs.drop (HT.sIx xs.length 0 lo)).take (HT.sIx xs.length xs.length hi - HT.sIx xs.length 0 lo)
theorem Qf1 (xs:List V) (lo hi:Option Int):(Qf0 xs lo hi).length ≤ xs.length:=by
 unfold Qf0
 rw [List.length_take,List.length_drop]
 omega
noncomputable def rSlT (K:PySem.W.Frag):V → Option Int → Option Int → Hp → VK → Prop:=fun x lo hi H Q=>∃ a xs,x = .ref a ∧ SqT K H a xs ∧
 ¬ (HT.sIx xs.length 0 lo = 0 ∧ HT.sIx xs.length xs.length hi = xs.length) ∧ ∀ p,H p = none → Q (.ref p) (upd H p (.tup (Qf0 xs lo hi)))
theorem Q3o:SlR X (rSlT X.K):=by
 intro pins s σ H x v vl vu lo hi sl Q I rx hs pl pu h
 obtain ⟨a,xs,rfl,hx,hw,q⟩:=h
 cases rx
 obtain ⟨its,r,ht,hz⟩:=I.tuple hx
 have hlen:its.toArray.size = xs.length:=by rw [List.size_toArray]; exact r.length.symm
 refine ⟨"tuple",_,PyProof.Rows.slot_tuple_getitem.lookup,ht.typeIs,?_⟩
 refine HT.getItem_tuple_cut ht hs pl pu (by rw [hlen]; exact hw) ?_ (by rw [hlen]; exact hz)
 rw [hlen]
 refine ⟨.ref s.heap.objs.size,_,I.laid (t':=s.toks) (o:=.tup (Qf0 xs lo hi)) (fun b ob q=>Heap.get?_push_of_some _ q) (Nat.le_refl _) ?_,rfl,q _ (I.hok.fresh (Nat.le_refl _))⟩
 exact ⟨Nat.le_trans (Qf1 xs lo hi) hz,_,(r.drop (HT.sIx xs.length 0 lo)).take (HT.sIx xs.length xs.length hi - HT.sIx xs.length 0 lo),IsTupD.new _ _⟩
noncomputable def Q7d (K:PySem.W.Frag):R2:=fun x y H Q=>∃ a b xs ys,x = .ref a ∧ y = .ref b ∧ SqT K H a xs ∧ SqT K H b ys ∧ xs ≠ [] ∧ xs.length + ys.length ≤ sizeLine ∧
 (ys = [] → Q (.ref a) H) ∧ (ys ≠ [] → ∀ p,H p = none → Q (.ref p) (upd H p (.tup (xs ++ ys))))
theorem Vals.nil_iff {xs:List V} {us:List Value} (r:Vals xs us):us = [] ↔ xs = []:=by
 cases r with
 | nil=>simp
 | cons _ _=>simp
theorem Qyz:OpR X (binaryOp .Add) (Q7d X.K):=by
 intro pins s σ H x y v u Q I rx ry h
 obtain ⟨a,b,xs,ys,rfl,rfl,ha,hb,hx,hz,q1,q2⟩:=h
 cases rx
 cases ry
 obtain ⟨its,r1,p1,_⟩:=I.tuple ha
 obtain ⟨its2,r2,p2,_⟩:=I.tuple hb
 refine HT.cat_tup p1 p2 (fun z=>hx (r1.nil_iff.mp z)) (fun z=>⟨.ref a,H,I,rfl,q1 (r2.nil_iff.mp z)⟩) (fun z=>?_) (by rw [← r1.length,← r2.length]; exact hz)
 refine ⟨.ref s.heap.objs.size,_,I.laid (t':=s.toks) (o:=.tup (xs ++ ys)) (fun b ob q=>Heap.get?_push_of_some _ q) (Nat.le_refl _) ?_,rfl,q2 (fun w=>z (r2.nil_iff.mpr w)) _ (I.hok.fresh (Nat.le_refl _))⟩
 exact ⟨by rw [List.length_append]; exact hz,_,r1.append r2,IsTupD.new _ _⟩
end
noncomputable def ixN (n:Nat) (i:Int):Option Nat:=if 0 ≤ i then (if i < n then some i.toNat else none) else if -(n:Int) ≤ i then some (i + n).toNat else none
noncomputable def atI {α:Type} (xs:List α) (i:Int):Option α:=(ixN xs.length i).bind fun j=>xs[j]?
theorem Qrr {n:Nat} {i:Int} {j:Nat} (h:ixN n i = some j):seqIndex? i n = some j ∧ j < n ∧ -(n:Int) ≤ i ∧ i < n:=by
 unfold ixN at h
 by_cases h0:0 ≤ i
 ·rw [if_pos h0] at h
  by_cases h1:i < n
  ·rw [if_pos h1] at h
   have e:i.toNat = j:=Option.some.inj h
   exact ⟨by rw [seqIndex_of h0 h1,e],by omega,by omega,h1⟩
  ·rw [if_neg h1] at h; cases h
 ·rw [if_neg h0] at h
  by_cases h1:-(n:Int) ≤ i
  ·rw [if_pos h1] at h
   have e:(i + n).toNat = j:=Option.some.inj h
   exact ⟨by rw [seqIndex_neg (by omega) h1,e],by omega,h1,by omega⟩
  ·rw [if_neg h1] at h; cases h
theorem Qm3 {α:Type} {xs:List α} {i:Int} {v:α} (h:atI xs i = some v):∃ j,seqIndex? i xs.length = some j ∧ xs[j]? = some v ∧ j < xs.length ∧ -(xs.length:Int) ≤ i ∧ i < xs.length:=by
 unfold atI at h
 cases e:ixN xs.length i with
 | none=>rw [e] at h; cases h
 | some j =>
  rw [e] at h
  obtain ⟨h1,h2,h3,h4⟩:=Qrr e
  exact ⟨j,h1,h,h2,h3,h4⟩
theorem Qhs {α:Type} {xs:List α} {j:Nat} {v:α} (h:xs[j]? = some v):atI xs (j:Int) = some v:=by
 have hj:j < xs.length:=(List.getElem?_eq_some_iff.mp h).1
 have e:ixN xs.length (j:Int) = some j:=by
  unfold ixN
  rw [if_pos (by omega),if_pos (by omega)]; simp
 unfold atI; rw [e]; exact h
noncomputable def Qjr (b:Expr):Prop:=∀ o i,subscripted b false o i = operate [o,i] (getItem o i)
noncomputable def IxR (X:Cx) (r:R2):Prop :=
 ∀ (value slice:Expr) (pins:List (Addr × Obj)) (s:Shared) (σ:St) (H:Hp) (x y:V) (v u:Value) (Q:VK),Inv X pins σ H s → RelV x v → RelV y u → r x y H Q →
  subscripted slice false v u = operate [v,u] (getItem v u) → wpAny (model X.prog X.w) X.A (subscriptTail value slice v u) (EP X pins σ Q) X.xe s
noncomputable def MtR (X:Cx) (id:String) (r:V → List V → Hp → VK → Prop):Prop :=
 ∀ (pins:List (Addr × Obj)) (s:Shared) (σ:St) (H:Hp) (x:V) (xs:List V) (v:Value) (us:List Value) (Q:VK),Inv X pins σ H s → RelV x v → Vals xs us → r x xs H Q →
  wpAny (model X.prog X.w) X.A (call (.builtin id) (v :: us)) (EP X pins σ Q) X.xe s
section
variable {X:Cx} {a b:Expr} {ta tb:TE} {pos:Pos}
theorem IxR.or {r r':R2} (h:IxR X r) (h':IxR X r'):IxR X (fun x y H Q=>r x y H Q ∨ r' x y H Q):=by
 intro value slice pins s σ H x y v u Q I rx ry q hs
 rcases q with q | q
 ·exact h value slice pins s σ H x y v u Q I rx ry q hs
 ·exact h' value slice pins s σ H x y v u Q I rx ry q hs
theorem Q7e {r:R2} (hr:IxR X r) (ha:PE X a ta) (hb:PE X b tb) (hs:Qjr b):PE X (.Subscript a b pos) (tOp r ta tb):=by
 intro pins s σ H Q I h
 exact Subscript_ (Q3e ha hb I h fun v u s2 x y H2 I2 rx ry q=>hr a b pins s2 σ H2 x y v u Q I2 rx ry q (hs _ _))
noncomputable def Q7f (K:PySem.W.Frag):R2:=fun x y H Q=>∃ p xs i v,x = .ref p ∧ y = .int i ∧ SqL K H p xs ∧ atI xs i = some v ∧ Q v H
noncomputable def Q7g (K:PySem.W.Frag):R2:=fun x y H Q=>∃ p xs i v,x = .ref p ∧ y = .int i ∧ SqT K H p xs ∧ atI xs i = some v ∧ Q v H
noncomputable def Q7h:R2:=fun x y H Q=>∃ z i c,x = .str z ∧ y = .int i ∧ z.length ≤ sizeLine ∧ atI z.cps.toList i = some c ∧ Q (.str ⟨#[c]⟩) H
theorem Qy0:IxR X (Q7f X.K):=by
 intro value slice pins s σ H x y v u Q I rx ry h hs
 obtain ⟨p,xs,i,z,rfl,rfl,hq,he,q⟩:=h
 cases rx
 obtain ⟨t,rfl⟩:=ry
 obtain ⟨its,r,pl,hz⟩:=I.list hq
 obtain ⟨j,h1,h2,h3,h4,h5⟩:=Qm3 he
 obtain ⟨w,ew,rw'⟩:=r.get h2
 have hl:=r.length
 have hn:=Qj4
 have fin:EP X pins σ Q w s:=⟨z,H,I,rw',q⟩
 by_cases h0:0 ≤ i
 ·have hj:i.toNat = j:=by
   rw [seqIndex_of h0 h5] at h1
   exact Option.some.inj h1
  exact item_listR pl.isList h0 (by omega) (by rw [hj]; simpa using ew) fin hs
 ·have hj:(i + (its.toArray.size:Int)).toNat = j:=by
   rw [seqIndex_neg (by omega) h4] at h1
   rw [List.size_toArray,← hl]
   exact Option.some.inj h1
  exact subscriptTail_builtinR (x:=w) pl.isList.typeIs slot_list_getitem.lookup
   (wpAny_getItem_list_neg (Q:=fun r s'=>r = w ∧ EP X pins σ Q r s') pl.isList (by omega) (by rw [List.size_toArray] <;> omega) (by omega) (by rw [hj]; simpa using ew) ⟨rfl,fin⟩) hs
theorem Q3p:IxR X (Q7g X.K):=by
 intro value slice pins s σ H x y v u Q I rx ry h hs
 obtain ⟨p,xs,i,z,rfl,rfl,hq,he,q⟩:=h
 cases rx
 obtain ⟨t,rfl⟩:=ry
 obtain ⟨its,r,pl,hz⟩:=I.tuple hq
 obtain ⟨j,h1,h2,h3,h4,h5⟩:=Qm3 he
 obtain ⟨w,ew,rw'⟩:=r.get h2
 have hl:=r.length
 have hn:=Qj4
 have fin:EP X pins σ Q w s:=⟨z,H,I,rw',q⟩
 exact subscriptTail_builtinR (x:=w) pl.typeIs slot_tuple_getitem.lookup
  (getItem_tuple (j:=j) (Q:=fun r s'=>r = w ∧ EP X pins σ Q r s') pl (by omega) (by omega) (by rw [List.size_toArray,← hl]; exact h1) (by simpa using ew) ⟨rfl,fin⟩) hs
theorem Q3q:IxR X Q7h:=by
 intro value slice pins s σ H x y v u Q I rx ry h hs
 obtain ⟨z,i,c,rfl,rfl,hz,he,q⟩:=h
 obtain ⟨t,rfl⟩:=rx
 obtain ⟨t',rfl⟩:=ry
 obtain ⟨j,h1,h2,h3,h4,h5⟩:=Qm3 he
 have hl:z.cps.toList.length = z.length:=by simp [Str.length]
 rw [hl] at h1 h4 h5
 have hn:=Qj4
 exact tail_any (typeIs_str s z t) slot_str_getitem.lookup (getItem_str (c:=c) (by
  have e1:decide (i < -(2 ^ 63:Int)) = false:=decide_eq_false (by omega)
  have e2:decide (i ≥ 2 ^ 63) = false:=decide_eq_false (by omega)
  rw [e1,e2,Bool.or_false]) (by rw [h1]; simpa using h2) ⟨.str ⟨#[c]⟩,H,I.tok _,⟨_,rfl⟩,q⟩) hs
noncomputable def rIx (K:PySem.W.Frag):R2:=fun x y H Q=>Q7f K x y H Q ∨ Q7g K x y H Q ∨ Q7h x y H Q
theorem Q3r:IxR X (rIx X.K):=Qy0.or (Q3p.or Q3q)
theorem Qp6 (its:List Value) (n j:Nat) (u:Value):Obj.mapSeq (·.setIfInBounds j u) { cls:=.type "list",data:=.seq its.toArray n } = { cls:=.type "list",data:=.seq (its.set j u).toArray n }:=by
 simp [Obj.mapSeq]
theorem Inv.lst {pins:List (Addr × Obj)} {σ:St} {H:Hp} {s:Shared} {p:Addr} {xs:List V} (I:Inv X pins σ H s) (h:H p = some (.lst xs)) :
  ∃ (its:List Value) (n:Nat),Vals xs its ∧ s.heap.get? p = some { cls:=.type "list",data:=.seq its.toArray n } ∧ xs.length ≤ sizeLine:=by
 obtain ⟨z,its,n,r,e⟩:=I.hok p _ h
 exact ⟨its,n,r,e,z⟩
theorem Inv.lstUpd {pins:List (Addr × Obj)} {σ:St} {H:Hp} {s:Shared} {p:Addr} {xs ys:List V} {its its':List Value} {n n':Nat} {f:Obj → Obj} (I:Inv X pins σ H s) (h:H p = some (.lst xs))
  (ho:s.heap.get? p = some { cls:=.type "list",data:=.seq its.toArray n }) (hf:f { cls:=.type "list",data:=.seq its.toArray n } = { cls:=.type "list",data:=.seq its'.toArray n' }) (r:Vals ys its') (hz:ys.length ≤ sizeLine) (t:Nat) :
  Inv X pins σ (upd H p (.lst ys)) { s with heap:=s.heap.update p f,toks:=t }:=by
 have e:(s.heap.update p f).get? p = some { cls:=.type "list",data:=.seq its'.toArray n' }:=by
  rw [Heap.get?_update_self f ho (by rw [hf] <;> rfl),hf]
 refine I.write (x:=p) (e:=p) (by rw [h]; trivial) (.inl rfl) (fun b u hb q=>(Heap.get?_update_other _ _ (Ne.symm hb)).trans q) ⟨_,e⟩ ?_
 exact ⟨hz,its',n',r,e⟩
noncomputable def Qrs:V → V → V → Hp → (Hp → Prop) → Prop:=fun o i v H Q=>∃ p xs k j,o = .ref p ∧ i = .int k ∧ H p = some (.lst xs) ∧ ixN xs.length k = some j ∧ Q (upd H p (.lst (xs.set j v)))
theorem Qu8:Q64 X Qrs:=by
 intro pins s σ H o i v ov iv u Q I ro ri rv h
 obtain ⟨p,xs,k,j,rfl,rfl,hp,hj,q⟩:=h
 cases ro
 obtain ⟨t,rfl⟩:=ri
 obtain ⟨its,n,r,ho,hz⟩:=I.lst hp
 obtain ⟨h1,h2,h3,h4⟩:=Qrr hj
 have hl:=r.length
 have hn:=Qj4
 have I':Inv X pins σ (upd H p (.lst (xs.set j v))) { s with heap:=s.heap.update p (Obj.mapSeq (·.setIfInBounds j u)) } :=
  I.lstUpd hp ho (Qp6 its n j u) (r.set rv j) (by rw [List.length_set]; exact hz) s.toks
 by_cases h0:0 ≤ k
 ·have hk:k.toNat = j:=by
   rw [seqIndex_of h0 h4] at h1
   exact Option.some.inj h1
  exact PySem.W.ki_setAt ho h0 (by omega) (by rw [List.size_toArray,← hl]; exact h4) (by rw [hk]; exact ⟨_,I',q⟩)
 ·have hk:(k + (its.toArray.size:Int)).toNat = j:=by
   rw [seqIndex_neg (by omega) h3] at h1
   rw [List.size_toArray,← hl]
   exact Option.some.inj h1
  exact PySem.W.ki_setBack ho (by omega) (by rw [List.size_toArray,← hl]; exact h3) (by omega) (by rw [hk]; exact ⟨_,I',q⟩)
theorem Qm4 (lo hi:Option Int) (n:Nat):(sliceBounds lo hi none n).1 = ((HT.sIx n 0 lo:Nat):Int) ∧ (sliceBounds lo hi none n).2.1 = ((HT.sIx n n hi:Nat):Int) ∧ (sliceBounds lo hi none n).2.2 = 1:=by
 refine ⟨?_,?_,rfl⟩
 ·cases lo with
  | none=>simp [sliceBounds,HT.sIx]
  | some i =>
   simp only [sliceBounds,HT.sIx,Option.getD_none,show (1:Int) > 0 by decide,if_true]
   by_cases h:i < 0
   ·simp only [h,if_true] <;> omega
   ·simp only [h,if_false] <;> omega
 ·cases hi with
  | none=>simp [sliceBounds,HT.sIx]
  | some i =>
   simp only [sliceBounds,HT.sIx,Option.getD_none,show (1:Int) > 0 by decide,if_true]
   by_cases h:i < 0
   ·simp only [h,if_true] <;> omega
   ·simp only [h,if_false] <;> omega
theorem Qln (its:List Value) (lo hi:Option Int):slicePick its.toArray lo hi none = ((its.drop (HT.sIx its.length 0 lo)).take (HT.sIx its.length its.length hi - HT.sIx its.length 0 lo)).toArray:=by
 obtain ⟨h1,h2,h3⟩:=Qm4 lo hi its.toArray.size
 unfold slicePick
 rw [h1,h2,h3]
 simp only [sliceRange_one,pick_run,List.size_toArray] <;> rfl
noncomputable def Q7i (K:PySem.W.Frag):V → Option Int → Option Int → Hp → VK → Prop:=fun x lo hi H Q=>∃ a xs,x = .ref a ∧ SqL K H a xs ∧ ∀ p,H p = none → Q (.ref p) (upd H p (.lst (Qf0 xs lo hi)))
theorem Qy1:SlR X (Q7i X.K):=by
 intro pins s σ H x v vl vu lo hi sl Q I rx hs pl pu h
 obtain ⟨a,xs,rfl,hx,q⟩:=h
 cases rx
 obtain ⟨its,r,ht,hz⟩:=I.list hx
 have hlen:=r.length
 refine ⟨"list",_,slot_list_getitem.lookup,ht.isList.typeIs,?_⟩
 refine wpAny_getItem_list_slice ht.isList hs pl pu .none (by simp) ?_ (by rw [List.size_toArray] <;> omega)
 rw [Qln,← hlen]
 refine ⟨.ref s.heap.objs.size,_,I.laid (t':=s.toks) (o:=.lst (Qf0 xs lo hi)) (fun b ob q=>Heap.get?_push_of_some _ q) (Nat.le_refl _) ?_,rfl,q _ (I.hok.fresh (Nat.le_refl _))⟩
 exact ⟨Nat.le_trans (Qf1 xs lo hi) hz,_,0,(r.drop (HT.sIx xs.length 0 lo)).take (HT.sIx xs.length xs.length hi - HT.sIx xs.length 0 lo),Heap.get?_push_size _ rfl⟩
theorem Qm5:CallR X (.builtin "len") (fun xs H Q=>∃ p ys,xs = [.ref p] ∧ (SqL X.K H p ys ∨ SqT X.K H p ys) ∧ Q (.int ys.length) H):=by
 intro pins s σ H xs us Q I r h
 obtain ⟨p,ys,rfl,hq,q⟩:=h
 obtain ⟨u,rfl,rx⟩:=Qfs r
 cases rx
 have hn:=Qj4
 rcases hq with hq | hq
 ·obtain ⟨its,r',pl,hz⟩:=I.list hq
  have hlen:=r'.length
  exact Calls.call_len_list pl.isList (by simp only [List.size_toArray] <;> omega) ⟨.int ys.length,H,I.tok _,⟨s.toks + 1,by rw [List.size_toArray,hlen]⟩,q⟩
 ·obtain ⟨its,r',pl,hz⟩:=I.tuple hq
  have hlen:=r'.length
  exact len_tuple pl (by simp only [List.size_toArray] <;> omega) ⟨.int ys.length,H,I.tok _,⟨s.toks + 1,by rw [List.size_toArray,hlen]⟩,q⟩
theorem CallR.or {f:Value} {r r':List V → Hp → VK → Prop} (h:CallR X f r) (h':CallR X f r'):CallR X f (fun xs H Q=>r xs H Q ∨ r' xs H Q):=by
 intro pins s σ H xs us Q I rs q
 rcases q with q | q
 ·exact h pins s σ H xs us Q I rs q
 ·exact h' pins s σ H xs us Q I rs q
theorem Qm6:CallR X (.type "list") (fun xs H Q=>∃ p ys,xs = [.ref p] ∧ (SqL X.K H p ys ∨ SqT X.K H p ys) ∧ ∀ l,H l = none → Q (.ref l) (upd H l (.lst ys))):=by
 intro pins s σ H xs us Q I r h
 obtain ⟨p,ys,rfl,hq,q⟩:=h
 obtain ⟨u,rfl,rx⟩:=Qfs r
 cases rx
 have fin:∀ (its:List Value),Vals ys its → ys.length ≤ sizeLine → ∀ (h':Heap) (c':Nat),(∀ b o',s.heap.get? b = some o' → h'.get? b = some o') →
   h'.get? s.heap.objs.size = some { cls:=.type "list",dict:=none,data:=.seq its.toArray c',slots:=#[] } → EP X pins σ Q (.ref s.heap.objs.size) { s with heap:=h' }:=fun its r' hz h' c' kp e =>
  ⟨.ref s.heap.objs.size,_,I.laid (t':=s.toks) kp (Nat.le_refl _) (show ObjOk X.prog X.w _ h' _ (.lst ys) from ⟨hz,its,c',r',e⟩),rfl,q _ (I.hok.fresh (Nat.le_refl _))⟩
 rcases hq with hq | hq
 ·obtain ⟨its,r',pl,hz⟩:=I.list hq
  have hlen:=r'.length
  obtain ⟨o,ho,hc,n,hd⟩:=pl.isList
  exact call_list_seq p (.inl rfl) ho hc hd (fun h' c' kp e=>fin its r' hz h' c' kp e) (by simp only [List.size_toArray] <;> omega)
 ·obtain ⟨its,r',pl,hz⟩:=I.tuple hq
  have hlen:=r'.length
  obtain ⟨o,ho,hc,n,hd⟩:=pl
  exact call_list_seq p (.inr rfl) ho hc hd (fun h' c' kp e=>fin its r' hz h' c' kp e) (by simp only [List.size_toArray] <;> omega)
theorem Qlo:CallR X (.type "tuple") (fun xs H Q=>∃ p ys,xs = [.ref p] ∧ ((SqL X.K H p ys ∧ ∀ l,H l = none → Q (.ref l) (upd H l (.tup ys))) ∨ (SqT X.K H p ys ∧ Q (.ref p) H))):=by
 intro pins s σ H xs us Q I r h
 obtain ⟨p,ys,rfl,h⟩:=h
 obtain ⟨u,rfl,rx⟩:=Qfs r
 cases rx
 rcases h with ⟨hq,q⟩ | ⟨hq,q⟩
 ·obtain ⟨its,r',pl,hz⟩:=I.list hq
  have hlen:=r'.length
  refine call_tuple_list pl.isList (fun h' kp=>?_) (by simp only [List.size_toArray] <;> omega)
  have I1:Inv X pins σ H { s with heap:=h' }:=I.kept (t':=s.toks) kp
  have I2:Inv X pins σ (upd H h'.objs.size (.tup ys)) { s with heap:=h'.push { cls:=.type "tuple",data:=.seq its.toArray } } :=
   I1.laid (t':=s.toks) (fun b o e=>Heap.get?_push_of_some _ e) (Nat.le_refl _) (show ObjOk X.prog X.w _ _ _ (.tup ys) from ⟨hz,its,r',IsTupD.new _ _⟩)
  exact ⟨.ref h'.objs.size,_,I2,rfl,q _ (I1.hok.fresh (Nat.le_refl _))⟩
 ·obtain ⟨its,r',pl,hz⟩:=I.tuple hq
  exact call_tuple_same pl ⟨.ref p,H,I,rfl,q⟩
noncomputable def tyV (K:PySem.W.Frag) (T:String) (x:V) (H:Hp):Prop:=match x with
 | .str _=>T = "str"
 | .int _=>T = "int"
 | .ref p=>(T = "list" ∧ ∃ xs,SqL K H p xs) ∨ (T = "tuple" ∧ ∃ o,K.lookup p = some o ∧ o.cls = .type "tuple" ∧ o.dict = none) ∨
   (T = "dict" ∧ ((∃ kvs,H p = some (.dK kvs)) ∨ ∃ kvs,H p = some (.dT kvs))) ∨ (T = "set" ∧ ∃ S n,H p = some (.set S n))
 | _=>False
theorem Q3s {pins:List (Addr × Obj)} {σ:St} {H:Hp} {s:Shared} {T:String} {x:V} {v:Value} (I:Inv X pins σ H s) (r:RelV x v) (ty:tyV X.K T x H) :
  s.TypeIs v T ∧ ∀ a,v = .ref a → ∃ ob,s.heap.get? a = some ob ∧ ob.dict = none:=by
 cases x with
 | str z =>
  obtain ⟨t,rfl⟩:=r
  cases (show T = "str" from ty)
  exact ⟨typeIs_str s z t,fun _ e=>nomatch e⟩
 | int i =>
  obtain ⟨t,rfl⟩:=r
  cases (show T = "int" from ty)
  exact ⟨typeIs_int s i t,fun _ e=>nomatch e⟩
 | ref p =>
  cases r
  rcases ty with ⟨rfl,xs,hq⟩ | ⟨rfl,o,hk,hc,hd⟩ | ⟨rfl,hk⟩ | ⟨rfl,S,n,hk⟩
  ·obtain ⟨its,_,pl,_⟩:=I.list hq
   refine ⟨pl.isList.typeIs,fun a e=>?_⟩
   cases e
   obtain ⟨o,n,e,c,hd,_⟩:=pl
   exact ⟨o,e,hd⟩
  ·refine ⟨⟨o,I.kIn p o hk,hc⟩,fun a e=>?_⟩
   cases e
   exact ⟨o,I.kIn _ o hk,hd⟩
  ·have z:∃ o,s.heap.get? p = some o ∧ o.ExactDict:=by
    rcases hk with ⟨kvs,hk⟩ | ⟨kvs,hk⟩
    ·obtain ⟨_,_,_,_,o,_,_,e,ex,_⟩:=I.hok p _ hk
     exact ⟨o,e,ex⟩
    ·obtain ⟨_,_,_,_,o,_,_,e,ex,_⟩:=I.hok p _ hk
     exact ⟨o,e,ex⟩
   obtain ⟨o,e,ex⟩:=z
   refine ⟨⟨o,e,ex.1⟩,fun a e2=>?_⟩
   cases e2
   exact ⟨o,e,ex.2.1⟩
  ·obtain ⟨o,_,_,_,e,ex,_⟩:=I.hok p _ hk
   refine ⟨⟨o,e,ex.1⟩,fun a e2=>?_⟩
   cases e2
   exact ⟨o,e,ex.2.1⟩
 | _=>exact False.elim ty
noncomputable abbrev tBM (K:PySem.W.Frag) (T:String) (r:V → List V → Hp → VK → Prop) (to:TE) (t:TA):TE:=fun σ H Q=>to σ H fun x H1=>tyV K T x H1 ∧ t σ H1 fun xs H2=>r x xs H2 Q
variable {o e:Expr} {es:List Expr} {to:TE} {t:TA} {name:Str} {apos cpos:Pos} {T id:String} {r:V → List V → Hp → VK → Prop}
theorem Q7j (pa:PlainAttrs T) (slot:Slot T name id) (hty:typeOf (.builtin id) = pure (.type "method_descriptor")) (hm:MtR X id r) (ho:PE X o to) (ha:PA X (e :: es) t)
  (hbase:attributeBase o name X.env (eval o X.env) = eval o X.env:=by rfl)
  (hfew:((backTo cpos (starEach (e :: es) X.env)).all (fun x=>!x.1) && (backToKw cpos (keywordEach [] X.env)).all (fun x=>x.1.isSome)
   && decide ((e :: es).length + ([]:List Keyword).length + (if ([]:List Keyword).isEmpty then 0 else 1) < 30)) = true:=by rfl)
  (hline:(apos.endLine == cpos.line) = true:=by rfl) (hs:starEach (e :: es) X.env = (false,eval e X.env) :: starEach es X.env:=by rfl) (hplain:(backTo cpos (starEach es X.env)).any (·.1) = false:=by rfl) :
  PE X (.Call (.Attribute o name apos) (e :: es) [] cpos) (tBM X.K T r to t):=by
 intro pins s σ H Q I h
 refine wpAny_Call_method_late hbase hfew hline rfl (thn (ho pins s σ H _ I h) fun v s1 ⟨x,H1,I1,r1,ty,q1⟩=>?_)
 obtain ⟨h1,h2⟩:=Q3s I1 r1 ty
 refine ⟨T,id,pa,slot,hty,h1,h2,?_⟩
 have hA:=ha cpos pins s1 σ H1 _ I1 q1
 rw [hs] at hA ⊢
 refine Calls.callWith_builtin (by show (false || (backTo cpos (starEach es X.env)).any (·.1)) = false; rw [hplain] <;> rfl) (Calls.evalArgs_plain ?_)
 exact thn hA fun us s2 ⟨vs,H2,I2,r2,q2⟩=>hm pins s2 σ H2 x vs v us Q I2 r1 r2 q2
end
noncomputable def MtM (X:Cx) (id:String) (r:V → List V → Hp → VK → Prop):Prop :=
 ∀ (pins:List (Addr × Obj)) (s:Shared) (σ:St) (H:Hp) (x:V) (xs:List V) (v:Value) (us:List Value) (Q:VK),Inv X pins σ H s → RelV x v → Vals xs us → r x xs H Q →
  wpAny (model X.prog X.w) X.A (call (.builtin id) (v :: us)) (EP X pins σ Q) X.xe s
theorem Vals.one:∀ {x:V} {us:List Value},Vals [x] us → ∃ u,us = [u] ∧ RelV x u
 | _,_,.cons r .nil=>⟨_,rfl,r⟩
theorem Vals.rep {xs:List V} {us:List Value} (h:Vals xs us):∀ k:Nat,Vals (List.replicate k xs).flatten (List.replicate k us).flatten
 | 0=>.nil
 | k + 1=>by
  rw [List.replicate_succ,List.replicate_succ,List.flatten_cons,List.flatten_cons]
  exact Vals.append h (Vals.rep h k)
theorem Qin (its:List Value):∀ (k:Nat) (acc:List Value),
  List.foldl (fun x1 x2=>x1 ++ x2) acc.toArray (List.replicate k its.toArray) = (acc ++ (List.replicate k its).flatten).toArray
 | 0,acc=>by simp
 | k + 1,acc=>by
  have e:acc.toArray ++ its.toArray = (acc ++ its).toArray:=by simp
  have e2:(acc ++ its) ++ (List.replicate k its).flatten = acc ++ (List.replicate (k + 1) its).flatten:=by
   rw [List.replicate_succ,List.flatten_cons,List.append_assoc]
  rw [← e2,← Qin its k (acc ++ its),← e,List.replicate_succ,List.foldl_cons]
section
variable {X:Cx} {pins:List (Addr × Obj)} {σ:St} {H:Hp} {s:Shared} {l b:Addr} {xs ys zs:List V}
theorem Inv.lset {its its':List Value} {n:Nat} {f:Array Value → Array Value} {t':Nat} (I:Inv X pins σ H s) (hH:H l = some (.lst xs))
  (e:s.heap.get? l = some { cls:=.type "list",data:=.seq its.toArray n }) (hf:f its.toArray = its'.toArray) (hv:Vals ys its') (hz:ys.length ≤ sizeLine) :
  Inv X pins σ (upd H l (.lst ys)) { s with heap:=s.heap.update l (Obj.mapSeq f),toks:=t' }:=by
 have q:=PySem.IsL.update e f
 rw [hf] at q
 refine I.write (x:=l) (e:=l) (by rw [hH]; exact trivial) (.inl rfl) (fun b' u hb hu=>(Heap.get?_update_other s.heap (Obj.mapSeq f) (Ne.symm hb)).trans hu) ⟨_,q⟩ ?_
 exact ⟨hz,its',_,hv,q⟩
theorem Inv.lnew {its:List Value} {t':Nat} (I:Inv X pins σ H s) (hv:Vals ys its) (hz:ys.length ≤ sizeLine) :
  Inv X pins σ (upd H s.heap.objs.size (.lst ys)) { s with heap:=s.heap.push { cls:=.type "list",data:=.seq its.toArray },toks:=t' } :=
 I.laid (fun _ _ q=>Heap.get?_push_of_some _ q) (Nat.le_refl _) ⟨hz,its,0,hv,Heap.get?_push_size _ rfl⟩
theorem Inv.fresh (I:Inv X pins σ H s):H s.heap.objs.size = none:=I.hok.fresh (Nat.le_refl _)
theorem Inv.lstM (I:Inv X pins σ H s) (hH:H l = some (.lst xs)):xs.length ≤ sizeLine ∧ ∃ (its:List Value) (n:Nat),Vals xs its ∧ xs.length = its.length ∧ s.heap.get? l = some { cls:=.type "list",data:=.seq its.toArray n }:=by
 obtain ⟨z,its,n,r,e⟩:=I.hok l _ hH
 exact ⟨z,its,n,r,r.length,e⟩
theorem Qj6 {n:Nat} (h:n ≤ sizeLine):Builtin.List.listTooLong n = false:=by
 unfold Builtin.List.listTooLong
 exact decide_eq_false (by omega)
end
section
variable {X:Cx}
noncomputable def Qjs:V → List V → Hp → VK → Prop:=fun x vs H Q=>∃ l xs y,x = .ref l ∧ vs = [y] ∧ H l = some (.lst xs) ∧ xs.length < sizeLine ∧ Q .non (upd H l (.lst (xs ++ [y])))
theorem Ql7:MtM X "list.append" Qjs:=by
 intro pins s σ H x vs v us Q I rx rv h
 obtain ⟨l,xs,y,rfl,rfl,hH,hz,q⟩:=h
 cases rx
 obtain ⟨u,rfl,ru⟩:=rv.one
 obtain ⟨z,its,n,r,hl,e⟩:=I.lstM hH
 refine call_meets F.slot_list_append ⟨_,e,rfl⟩ F.entry_list_append (F.args_list_append_2 _ _) (PySem.list_append l its.toArray n u (by rw [List.size_toArray]; omega)) ⟨e,?_⟩
 refine ⟨.non,_,I.lset (its':=its ++ [u]) hH e (by simp) (r.append (.cons ru .nil)) ?_,rfl,q⟩
 rw [List.length_append,List.length_singleton]
 omega
noncomputable def Qm7:V → List V → Hp → VK → Prop:=fun x vs H Q=>∃ l b xs zs,x = .ref l ∧ vs = [.ref b] ∧ H l = some (.lst xs) ∧ H b = some (.lst zs) ∧ xs.length + zs.length ≤ sizeLine ∧ Q .non (upd H l (.lst (xs ++ zs)))
theorem Qs8:MtM X "list.extend" Qm7:=by
 intro pins s σ H x vs v us Q I rx rv h
 obtain ⟨l,b,xs,zs,rfl,rfl,hH,hB,hz,q⟩:=h
 cases rx
 obtain ⟨u,rfl,ru⟩:=rv.one
 cases ru
 obtain ⟨z,its,n,r,hl,e⟩:=I.lstM hH
 obtain ⟨z2,its2,n2,r2,hl2,e2⟩:=I.lstM hB
 have hsz:its.toArray.size + its2.toArray.size ≤ sizeLine:=by rw [List.size_toArray,List.size_toArray]; omega
 have hlong:¬ (!its.toArray.isEmpty && Builtin.List.listTooLong (its.toArray.size + its2.toArray.size)) = true:=by
  rw [Qj6 hsz,Bool.and_false]
  exact Bool.false_ne_true
 refine call_meets F.slot_list_extend ⟨_,e,rfl⟩ F.entry_list_extend (F.args_list_extend_2 _ _)
  (AutoSeq1.list_extend_list_list_0 l its.toArray n b its2.toArray n2 hlong (by rw [List.size_toArray]; omega) (by omega)) ⟨e,e2,?_⟩
 refine ⟨.non,_,I.lset (its':=its ++ its2) hH e (by simp) (r.append r2) ?_,rfl,q⟩
 rw [List.length_append]
 omega
noncomputable def Q7k:R2:=fun x y H Q=>∃ l b xs zs,x = .ref l ∧ y = .ref b ∧ H l = some (.lst xs) ∧ H b = some (.lst zs) ∧ xs.length + zs.length ≤ sizeLine ∧ ∀ p,H p = none → Q (.ref p) (upd H p (.lst (xs ++ zs)))
theorem Q3t:OpR X (binaryOp .Add) Q7k:=by
 intro pins s σ H x y v u Q I rx ry h
 obtain ⟨l,b,xs,zs,rfl,rfl,hH,hB,hz,q⟩:=h
 cases rx
 cases ry
 obtain ⟨z,its,n,r,hl,e⟩:=I.lstM hH
 obtain ⟨z2,its2,n2,r2,hl2,e2⟩:=I.lstM hB
 refine PySem.P.add_list e e2 ?_ (by rw [List.size_toArray,List.size_toArray]; omega)
 have ea:its.toArray ++ its2.toArray = (its ++ its2).toArray:=by simp
 rw [ea]
 exact ⟨.ref _,_,I.lnew (t':=s.toks) (r.append r2) (by rw [List.length_append]; omega),rfl,q _ I.fresh⟩
noncomputable def Q7l:R2:=fun x y H Q=>∃ l k xs,x = .ref l ∧ y = .int k ∧ H l = some (.lst xs) ∧ -(2 ^ 63) ≤ k ∧ k < 2 ^ 63 ∧ xs.length * k.toNat ≤ sizeLine ∧
 ∀ p,H p = none → Q (.ref p) (upd H p (.lst (List.replicate k.toNat xs).flatten))
theorem Qht {α:Type} (xs:List α) (k:Nat):(List.replicate k xs).flatten.length = k * xs.length:=by
 induction k with
 | zero=>simp
 | succ k ih=>rw [List.replicate_succ,List.flatten_cons,List.length_append,ih,Nat.succ_mul,Nat.add_comm]
theorem Q3u:OpR X (binaryOp .Mult) Q7l:=by
 intro pins s σ H x y v u Q I rx ry h
 obtain ⟨l,k,xs,rfl,rfl,hH,h1,h2,hz,q⟩:=h
 cases rx
 obtain ⟨t,rfl⟩:=ry
 obtain ⟨z,its,n,r,hl,e⟩:=I.lstM hH
 have hlen:its.toArray.size * k.toNat ≤ sizeLine:=by rw [List.size_toArray,← hl]; exact hz
 have hcap:¬ its.toArray.size * k.toNat > (2 ^ 63 - 1) / 8:=by
  have:(sizeLine:Nat) ≤ (2 ^ 63 - 1) / 8:=by decide
  omega
 have hfit:¬ (!Builtin.List.listFitsIndex k) = true:=by
  rw [fitsIndex_both h1 h2]
  exact Bool.false_ne_true
 have hlong:¬ Builtin.List.listTooLong (its.toArray.size * k.toNat) = true:=by
  rw [Qj6 hlen]
  exact Bool.false_ne_true
 have hnew:List.foldl (fun x1 x2=>x1 ++ x2) #[] (List.replicate (if its.toArray.isEmpty = true then 0 else k.toNat) its.toArray) = (List.replicate k.toNat its).flatten.toArray:=by
  have f0:∀ m:Nat,List.foldl (fun x1 x2=>x1 ++ x2) #[] (List.replicate m its.toArray) = (List.replicate m its).flatten.toArray:=fun m=>by
   have:=Qin its m []
   rw [List.nil_append] at this
   exact this
  rw [f0]
  cases its with
  | nil=>simp
  | cons a r'=>rw [if_neg (by simp)]
 refine wpAny_binaryOp_repeat_ref (T := "list") (U := "int") (by decide) ⟨_,e,rfl⟩ (fun s'=>typeIs_int s' k t) noFill_list_mul F.fills_int_mul F.slot_int_rmul repeat_list F.slot_int_index.lookup
  (call_meets F.slot_int_rmul (typeIs_int s k t) F.entry_int_rmul (F.args_int_rmul_2 _ _) (int___rmul___int_list k t l its.toArray n)
   ⟨e,rfl,⟨_,e,rfl⟩,call_meets F.slot_list_mul ⟨_,e,rfl⟩ F.entry_list_mul (F.args_list_mul_2 _ _) (AutoListH.list___mul___list_int_3 l its.toArray n k t hfit hcap hlong) ⟨e,?_⟩⟩)
 rw [hnew]
 exact ⟨.ref _,_,I.lnew (t':=s.toks) (r.rep k.toNat) (by rw [Qht,Nat.mul_comm]; exact hz),rfl,q _ I.fresh⟩
end
section
variable {prog:Program} {w:World} {A:Around} {E:Value → Shared → Prop} {s:Shared}
end
section
variable {X:Cx}
end
end L2
namespace Att
open PySem PySem.W PySem.Calls PyProof.Rows
theorem ints_of_wellAll {P:Params} {h:Heap}:∀ (ns:List Int) (vs:List Value),WellAll P h vs (ns.map WData.int) → IntsAre vs ns:=by
 intro ns
 induction ns with
 | nil =>
  intro vs w
  rw [List.map_nil] at w
  cases w
  exact .nil
 | cons n ns ih =>
  intro vs w
  rw [List.map_cons] at w
  cases w with
  | cons a b =>
   cases a
   exact .cons _ _ (ih _ b)
theorem script_of {l:OpenLaw} {n:Nat} (hn:l.most = some n) {P:Params} {h:Heap} {args:List WData} {vals:List Value}
  (hpre:l.row.toRowW.claim.pre args = true) (hwl:WellAll P h vals args) :
  ∃ a vs ns,vals = [Value.ref a] ∧ args = [WData.list (ns.map WData.int)] ∧ h.get? a = some { cls:=.type "list",data:=.seq vs.toArray } ∧ IntsAre vs ns ∧ ns.length ≤ n:=by
 have hsh:WShape.hasAll [] args [.list .int] = true:=(pre_splitW hpre).1
 have hc:l.pre.holds [] { args:=args } = true:=(pre_splitW hpre).2
 obtain ⟨d,r,rfl,h1,h2⟩:=hasAllW_cons hsh
 obtain rfl:=hasAllW_nil h2
 obtain ⟨xs,rfl,h3⟩:=hasW_list h1
 obtain ⟨ns,rfl⟩:=items_int h3
 have hlen:ns.length ≤ n:=by
  unfold OpenLaw.pre at hc
  have h4:(WTm.not (.lt (.lit (.int (n:Int))) (.len (.arg 0)))).holds [] { args:=[.list (ns.map .int)] } = true:=by
   have h4:=(holds_andW hc).1
   rw [hn] at h4
   exact h4
  have h5:=condW_of h4 (w_not (w_lt w_lit (w_len_list (w_arg rfl))))
  rw [List.length_map] at h5
  refine Nat.le_of_not_lt fun q=>?_
  have q':(n:Int) < ((ns.length:Nat):Int):=by omega
  first
   | (rw [decide_eq_true q'] at h5; exact absurd h5 (by decide))
   | (simp at h5; omega)
 cases hwl with
 | cons w1 w2 =>
  cases w2
  cases w1 with
  | list ho hall=>exact ⟨_,_,ns,rfl,rfl,ho,ints_of_wellAll ns _ hall,hlen⟩
theorem post_true (l:OpenLaw) (args:List WData):l.row.toRowW.claim.post args (.bool true) args = true :=
 postW_of (r:=l.row.toRowW) (X:=(true == true))
  (show WShape.has [] (.bool true) .bool = true by first | rfl | decide | simp [WShape.has,WShape.arms,WShape.armsAll])
  (show (WTm.eq .res (.lit (.bool true))).value [] { args:=args,res:=some (.bool true),after:=args } = some (.bool (true == true)) from w_eq_bool (w_res rfl) w_lit) rfl
theorem attach_call {l:OpenLaw} {n:Nat} {q:Program} {loose:List Str} {XP:(Str → Option Value) → Heap → Prop} {YP:World → Heap → Prop} {d:DefRec}
  (hn:l.most = some n) (hdf:d.params.defaults = [])
  (call:∀ (w:World) (s₀ s₁:Shared) (mg mb:Str → Option Value) (fa:Addr) (o:Obj) (pm cd doc:Value) (a:Addr) (vs:List Value) (ns:List Int),
   Ground q loose [] XP w s₀ mg mb s₁.heap → YP w s₁.heap →
   s₁.heap.get? fa = some o → o.data = .func (docDef d.name d.params d.body d.scope pm cd doc) → s₁.heap.CodeRec cd d.name → mg d.name = some (.ref fa) →
   s₁.heap.get? a = some { cls:=.type "list",data:=.seq vs.toArray } → IntsAre vs ns → ns.length ≤ n → s₁.gens = #[] →
   codeAny (model l.prog w) callerA (.call (.ref fa) ⟨[.ref a],[]⟩) (fun r s'=>r = .ok (.ret (.bool true)) ∧ OldK s₁.heap s'.heap ∧ s'.os = s₁.os ∧ AllBare s'.gens) s₁) :
  WalkO q loose XP YP l.row.toRowW d [] (fun f vs=>PySem.call f vs):=by
 intro w s₀ s₁ mg mb G Y fa o pm cd doc dV kV ho hd hcd hD hmg hg args vals as hpre hlay hrd hwl hlo
 obtain rfl:dV = .none:=Dflts.none hD hdf
 obtain rfl:kV = .none:=Dflts.noKw hD
 obtain ⟨a,vs,ns,rfl,rfl,hobj,hints,hlen⟩:=script_of hn hpre hwl
 refine enter_call (codeAny_mono (call w s₀ s₁ mg mb fa o pm cd doc a vs ns G Y ho (fd_plain hd) hcd hmg hobj hints hlen hg) fun r s' hq=>?_)
 obtain ⟨rfl,h2,h3,h4⟩:=hq
 exact ⟨.inl ⟨.bool true,.bool true,[],rfl,fun _=>rfl,.bool true,post_true l _,fun _=>⟨List.Pairwise.nil,fun _ hm=>(nomatch hm)⟩⟩,h2,h3,h4⟩
section
variable {prog:Program} {w:World} {A:Around} {E:Value → Shared → Prop} {s:Shared} {K:Frag}
end
end Att
namespace L2
open PySem PySem.Spec PyProof.Rows
theorem Ql8:∀ {vs:List Value} {ns:List Int},IntsAre vs ns → Vals (ns.map V.int) vs
 | _,_,.nil=>.nil
 | _,_,.cons n t h=>.cons ⟨t,rfl⟩ (Ql8 h)
noncomputable def Qy2 (H:Hp):Prop:=∀ b,H b = none ∨ ∃ o xs,H b = some (.frz o (.lst xs))
theorem Qu9 {P:Program} {w:World} {K:PySem.W.Frag} {mg mb:Str → Option Value} {CX:CXT} {k:Nat} {fa a:Addr} {fd:FuncData} {x:Str} {sp:Sp} {s₁:Shared} {vs:List Value} {ns:List Int}
  (KX:K.In s₁.heap) (hns:s₁.heap.Ns mainGlobals mg) (hb:s₁.heap.Ns builtinsNs mb) (hbb:∀ x:Str,x ≠ "__name__" → mb x = bootBuiltins x) (hlim:s₁.heap.NoLimit) (hg:s₁.gens = #[])
  (ha:s₁.heap.get? a = some { cls:=.type "list",data:=.seq vs.toArray }) (hi:IntsAre vs ns) (hl:ns.length ≤ sizeLine) (hr:Room k callerA)
  (F:∀ base:Heap,K.In base → base.Ns mainGlobals mg → FnOk P w K mg base CX k fa fd [x] sp) (hbind:∀ (s:Shared) (u:Value),BindsTo s fd ⟨[u],[]⟩ [(x,u)])
  (hsp:∀ H:Hp,Qy2 H → SqL K H a (ns.map V.int) → sp [.ref a] H (fun v _=>v = .bl true) fun _ _ _=>False)
  (hCX:∀ H e s',CX [] H s₁ (fun _ _ _=>False) e s' → False)
  (hbm:∃ bm ob,mg "__builtins__" = some (.ref bm) ∧ bm ≠ builtinsNs ∧ s₁.heap.get? bm = some ob ∧ ob.cls = .type "module" ∧ ob.dict = some builtinsNs ∧ ob.data = .plain) (hT:∀ a q,¬ Qum K a q) :
  codeAny (model P w) callerA (.call (.ref fa) ⟨[.ref a],[]⟩) (fun r s'=>r = .ok (.ret (.bool true)) ∧ OldK s₁.heap s'.heap ∧ s'.os = s₁.os ∧ AllBare s'.gens) s₁:=by
 have rv:=Ql8 hi
 have lenV:=hi.length
 -- from an abstract heap in which nothing but the script may be tracked
 have core:∀ H:Hp,Qy2 H → SqL K H a (ns.map V.int) → HOk P w H s₁.heap → (∀ b,H b ≠ none → b = a) → (H a ≠ none → K.lookup a = none) →
   codeAny (model P w) callerA (.call (.ref fa) ⟨[.ref a],[]⟩) (fun r s'=>r = .ok (.ret (.bool true)) ∧ OldK s₁.heap s'.heap ∧ s'.os = s₁.os ∧ AllBare s'.gens) s₁:=by
  intro H hO hS hok hA hK
  have base_of:∀ {b:Addr} {o:Obj},s₁.heap.get? b = some o → H b = none → (Qm1 s₁.heap H).get? b = some o:=fun e n=>Qul e n
  have noA:∀ {b:Addr} {o:Obj} {es:Array DictEntry} {ep:Nat},s₁.heap.get? b = some o → o.data = .dict es ep → H b = none:=fun {b o es ep} e d=>by
   cases q:H b with
   | none=>rfl
   | some u =>
    have e':b = a:=hA b (by rw [q]; simp)
    subst e'
    rw [ha] at e; cases e
    have d':Data.seq vs.toArray _ = Data.dict es ep:=d
    cases d'
  have noS:∀ {b:Addr} {o:Obj},s₁.heap.get? b = some o → o.data = .plain → H b = none:=fun {b o} e d=>by
   cases q:H b with
   | none=>rfl
   | some u =>
    have e':b = a:=hA b (by rw [q]; simp)
    subst e'
    rw [ha] at e; cases e
    cases (show Data.seq vs.toArray _ = Data.plain from d)
  have nsK:∀ {b:Addr} {m:Str → Option Value},s₁.heap.Ns b m → (Qm1 s₁.heap H).Ns b m:=fun {b m} ⟨o,es,ep,e,d,r⟩=>⟨o,es,ep,base_of e (noA e d),d,r⟩
  have hKb:K.In (Qm1 s₁.heap H):=fun b o e=>base_of (KX b o e) (by
   cases q:H b with
   | none=>rfl
   | some u =>
    have e':b = a:=hA b (by rw [q]; simp)
    subst e'
    rw [hK (by rw [q]; simp)] at e; cases e)
  have hM:Mod K mg (Qm1 s₁.heap H):=⟨hKb,nsK hns,⟨mb,nsK hb,hbb⟩,let ⟨mc,h1,h2⟩:=hlim; ⟨mc,nsK h1,h2⟩,let ⟨bm,ob,b1,b2,b3,b4,b5,b6⟩:=hbm; ⟨bm,ob,b1,b2,base_of b3 (noS b3 b6),b4,b5,b6⟩⟩
  have e0:Env0 P w K mg (Qm1 s₁.heap H) callerA [] s₁ H:=⟨rfl,hM,fun b o e=>Qyf e,Nat.le_of_eq (Qsv _ _),trivial,⟨fun b hb=>absurd (show b ∈ ([]:List Addr) from hb) (by simp),fun a q z=>(hT a q z).elim⟩,hok,.of_eq hg⟩
  refine codeAny_mono ((F _ hKb (nsK hns)).run callerA [] s₁ H ⟨[.ref a],[]⟩ [.ref a] [.ref a] _ _ hr e0 (hbind s₁ (.ref a)) (.cons rfl .nil) (hsp H hO hS)) fun r s' h=>?_
  cases r with
  | error e=>exact (hCX H e s' h).elim
  | ok fl =>
   cases fl with
   | next=>exact False.elim h
   | brk=>exact False.elim h
   | cont=>exact False.elim h
   | ret u =>
    obtain ⟨v,H',os,bare,un,hok',r',q⟩:=h
    have q':v = .bl true:=q
    subst q'
    obtain rfl:u = Value.bool true:=r'
    refine ⟨rfl,OldK.of_keep fun b o e=>?_,os,bare⟩
    cases q:H b with
    | none=>exact un.keep b o e q (by intro z; exact absurd (show b ∈ ([]:List Addr) from z) (by simp)) (by simp)
    | some u =>
     rcases hO b with z | ⟨ob,xs,z⟩
     ·rw [q] at z; cases z
     ·have z2:=un.frzs b ob _ z
      obtain ⟨e1,_⟩:=hok b _ z
      obtain ⟨e2,_⟩:=hok' b _ z2
      rw [e] at e1; cases e1
      exact e2
 cases hk:K.lookup a with
 | some o =>
  -- the script is one of the module's own objects
  have e:=KX a o hk
  rw [ha] at e
  cases e
  refine core (fun _=>none) (fun _=>.inl rfl) (.inr ⟨_,vs.toArray,_,hk,rfl,rfl,rfl,by rw [List.size_toArray,lenV]; exact hl,by simpa using rv⟩) (fun b u z=>by have z':(none:Option HO) = some u:=z; cases z') (fun b z=>absurd rfl z) fun z=>absurd rfl z
 | none =>
  refine core (fun b=>if b = a then some (.frz { cls:=.type "list",data:=.seq vs.toArray } (.lst (ns.map V.int))) else none) (fun b=>?_) (.inl (.inr ⟨{ cls:=.type "list",data:=.seq vs.toArray },if_pos rfl⟩)) (fun b u z=>?_) (fun b z=>?_) fun _=>hk
  ·by_cases hb:b = a
   ·exact .inr ⟨_,_,if_pos hb⟩
   ·exact .inl (if_neg hb)
  ·by_cases hb:b = a
   ·have z':=(if_pos hb).symm.trans z
    cases z'
    subst hb
    exact ⟨ha,by rw [List.length_map]; exact hl,vs,_,rv,ha⟩
   ·have z':=(if_neg hb).symm.trans z
    cases z'
  ·by_cases hb:b = a
   ·exact hb
   ·exact absurd (if_neg hb) z
noncomputable abbrev KOf {K:PySem.W.Frag} {h:Heap} (_:K.In h):PySem.W.Frag:=K
theorem Qy3 {l:PySem.W.OpenLaw} {n k:Nat} {q:Program} {loose:List Str} {XP:(Str → Option Value) → Heap → Prop} {YP:World → Heap → Prop} {d:DefRec} {K:Params → PySem.W.Frag} {CX:World → CXT} {sp:World → Sp} {x:Str}
  (hn:l.most = some n) (hn2:n ≤ sizeLine) (hdf:d.params.defaults = []) (hr:Room k callerA)
  (hY:∀ (w:World) (h:Heap),YP w h → (K w.params).In h)
  (F:∀ (w:World) (mg:Str → Option Value) (fa:Addr) (h:Heap),(K w.params).In h → h.Ns mainGlobals mg → mg d.name = some (.ref fa) →
   ∃ fd:FuncData,(∀ (s:Shared) (u:Value),BindsTo s fd ⟨[u],[]⟩ [(x,u)]) ∧
    ∀ base:Heap,(K w.params).In base → base.Ns mainGlobals mg → FnOk l.prog w (K w.params) mg base (CX w) k fa fd [x] (sp w))
  (hsp:∀ (w:World) (H:Hp) (a:Addr) (ns:List Int),ns.length ≤ n → Qy2 H → SqL (K w.params) H a (ns.map V.int) → sp w [.ref a] H (fun v _=>v = .bl true) fun _ _ _=>False)
  (hCX:∀ (w:World) (H:Hp) (s:Shared) (e:Value) (s':Shared),CX w [] H s (fun _ _ _=>False) e s' → False) (hT:∀ (w:World) a q,¬ Qum (K w.params) a q) :
  PySem.W.WalkO q loose XP YP l.row.toRowW d [] (fun f vs=>PySem.call f vs):=by
 refine Att.attach_call hn hdf fun w s₀ s₁ mg mb fa o pm cd doc a vs ns G Y ho hd hcd hmg hobj hints hlen hg=>?_
 have KX:=hY w _ Y
 obtain ⟨fd,hb,hF⟩:=F w mg fa _ KX G.T.g hmg
 exact Qu9 KX G.T.g G.T.b G.T.builtins G.T.nolimit hg hobj hints (Nat.le_trans hlen hn2) hr hF hb (fun H hO hS=>hsp w H a ns hlen hO hS) (fun H e s'=>hCX w H s₁ e s') G.T.bmain (hT w)
theorem Qva {l:PySem.W.OpenLaw} {n k:Nat} {q:Program} {loose:List Str} {XP:(Str → Option Value) → Heap → Prop} {YP:World → Heap → Prop} {d:DefRec} {K:Params → PySem.W.Frag} {CX:CXT} {sp:PySem.W.Frag → Sp} {x:Str}
  (hn:l.most = some n) (hn2:n ≤ sizeLine) (hdf:d.params.defaults = []) (hr:Room k callerA)
  (hY:∀ (w:World) (h:Heap),YP w h → (K w.params).In h)
  (F:∀ (w:World) (mg:Str → Option Value) (fa:Addr) (h:Heap),(K w.params).In h → h.Ns mainGlobals mg → mg d.name = some (.ref fa) →
   ∃ fd:FuncData,(∀ (s:Shared) (u:Value),BindsTo s fd ⟨[u],[]⟩ [(x,u)]) ∧
    ∀ base:Heap,(K w.params).In base → base.Ns mainGlobals mg → FnOk l.prog w (K w.params) mg base CX k fa fd [x] (sp (K w.params)))
  (hsp:∀ (K:PySem.W.Frag) (H:Hp) (a:Addr) (ns:List Int),ns.length ≤ n → Qy2 H → SqL K H a (ns.map V.int) → sp K [.ref a] H (fun v _=>v = .bl true) fun _ _ _=>False)
  (hCX:∀ (H:Hp) (s:Shared) (e:Value) (s':Shared),CX [] H s (fun _ _ _=>False) e s' → False) (hT:∀ (w:World) a q,¬ Qum (K w.params) a q) :
  PySem.W.WalkO q loose XP YP l.row.toRowW d [] (fun f vs=>PySem.call f vs) :=
 Qy3 (K:=K) (CX:=fun _=>CX) (sp:=fun w=>sp (K w.params)) hn hn2 hdf hr hY F (fun w H a ns h1 h2 h3=>hsp (K w.params) H a ns h1 h2 h3) (fun _ H s e s'=>hCX H s e s') hT
noncomputable def Qrt (s:Stmt) (j:Nat):Stmt:=match s with
 | .ClassDef _ _ _ body _ _ _ _ _ _ _=>body.getD j (.Pass ⟨0,0,0,0⟩)
 | _=>.Pass ⟨0,0,0,0⟩
noncomputable def Qam (s:Stmt):Arguments:=match s with
 | .FunctionDef _ a _ _ _ _ _ _ _ _=>a
 | _=>{ posonlyargs:=[],args:=[],vararg:=none,kwonlyargs:=[],kw_defaults:=[],kwarg:=none,defaults:=[] }
noncomputable def Q0 (s:Stmt):List Stmt:=match s with
 | .FunctionDef _ _ b _ _ _ _ _ _ _=>b
 | _=>[]
noncomputable def Qd (s:Stmt):Scope:=match s with
 | .FunctionDef _ _ _ _ _ _ sc _ _ _=>sc
 | _=>{ kind:=.function,names:=[],isGenerator:=false,isCoroutine:=false }
noncomputable abbrev CX0:CXT:=fun _ _ _ _ _ _=>False
noncomputable abbrev E0:XK:=fun _ _ _=>False
theorem Q7m {X:Cx}:Qp5 CX0 X E0:=fun _ _ _ _ _ _ _ h=>h.elim
structure Fun (K:PySem.W.Frag) (x qual:Str) (st:Stmt) (f:Addr) (fd:FuncData):Prop where
 ex:∃ (oc:Value) (od:Option Addr) (kV doc pm:Value) (an:Option Addr) (cdv ct:Value) (osl:Array (Option Value)),
  fd = PySem.W.fnOf x qual (Qam st) (Q0 st) (Qd st) .none kV doc pm an cdv ct ∧ K.lookup f = some ⟨oc,od,.func fd,osl⟩ ∧ PySem.W.codeIn K cdv qual = true
 kp:PySem.W.keepIn K (.ref f) = true
section
variable {P:Program} {w:World} {K:PySem.W.Frag} {mg:Str → Option Value} {base:Heap}
theorem Fun.ok {x qual:Str} {st:Stmt} {f:Addr} {fd:FuncData} {N ps:List Str} {k:Nat} {sp:Sp} (F:Fun K x qual st f fd) (S:FnScope N ps (Qd st)) (len:∀ vs H Q E,sp vs H Q E → vs.length = ps.length)
  (hbody:∀ (cdv:Value) (A:Around) (outer:List Env) (s:Shared) (H:Hp) (vs:List V) (Q:VK) (E:XK),Room k (A.deeper (envOfC qual (Qd st) s.heap.objs.size f cdv)) → sp vs H Q E →
   ∃ t,PSs (Qeo (fun _=>true) CX0 P w K mg base N qual (Qd st) f cdv A outer s H E).nox (Q0 st) t ∧ t { nx:=fun _ H'=>Q .non H',rt:=Q } (Qa3 N vs) H):FnOk P w K mg base CX0 (k + 1) f fd ps sp:=by
 obtain ⟨oc,od,kV,doc,pm,an,cdv,ct,osl,rfl,lk,hcd⟩:=F.ex
 refine Q1j (g:=fun _=>true) lk hcd S len fun A outer s H vs Q E hr hsp=>?_
 obtain ⟨t,h,q⟩:=hbody cdv A outer s H vs Q E hr hsp
 exact ⟨t,h.nox,q⟩
theorem Fun.binds {x qual:Str} {st:Stmt} {f:Addr} {fd:FuncData} {ps:List Str} (F:Fun K x qual st f fd)
  (h:∀ (kV doc pm:Value) (an:Option Addr) (cdv ct:Value) (us:List Value),us.length = ps.length → bindArgs (PySem.W.fnOf x qual (Qam st) (Q0 st) (Qd st) .none kV doc pm an cdv ct) ⟨us,[]⟩ = pure (ps.zip us)):Binds K fd ps []:=by
 obtain ⟨oc,od,kV,doc,pm,an,cdv,ct,osl,rfl,lk,hcd⟩:=F.ex
 exact .all (h kV doc pm an cdv ct)
theorem Qvb {x qual:Str} {st:Stmt} {f:Addr} {oc:Value} {od an:Option Addr} {osl:Array (Option Value)} {kV doc pm cdv ct:Value} (l:K.lookup f = some ⟨oc,od,.func (PySem.W.fnOf x qual (Qam st) (Q0 st) (Qd st) .none kV doc pm an cdv ct),osl⟩)
  (c:PySem.W.codeIn K cdv qual = true) (k:PySem.W.keepIn K (.ref f) = true):Fun K x qual st f (PySem.W.fnOf x qual (Qam st) (Q0 st) (Qd st) .none kV doc pm an cdv ct):=⟨⟨oc,od,kV,doc,pm,an,cdv,ct,osl,rfl,l,c⟩,k⟩
end
section
variable {X:Cx}
theorem pv (i:Nat) {x:Str} {pos:Pos} (hN:X.N[i]? = some x:=by rfl) (hv:Vis X.env.scope x:=by first | exact Or.inl rfl | exact Or.inr (Or.inl rfl) | exact Or.inr (Or.inr rfl)) (hd:(x == ("__debug__" : Str)) = false:=by decide)
  (hcd:(x == ("__classdict__" : Str)) = false:=by decide):PE X (.Name x pos) (Qg8 i):=Q2w hN hv hd hcd
end
theorem Q3v {A B:Prop} (h:B):if false = true then A else B:=by
 rw [if_neg Bool.false_ne_true]
 exact h
theorem iteT {A B:Prop} (h:A):if true = true then A else B:=by
 rw [if_pos rfl]
 exact h
theorem ite2 {c A B:Prop} [Decidable c] (h1:c → A) (h2:¬ c → B):if c then A else B:=by
 by_cases h:c
 ·rw [if_pos h]
  exact h1 h
 ·rw [if_neg h]
  exact h2 h
noncomputable def Same (H H':Hp):Prop:=∀ b o,H b = some o → H' b = some o
theorem Same.refl (H:Hp):Same H H:=fun _ _ h=>h
theorem Same.trans {H H1 H2:Hp} (a:Same H H1) (b:Same H1 H2):Same H H2:=fun c o h=>b c o (a c o h)
theorem Same.free {H H':Hp} (e:Same H H') {l:Addr} (h:H' l = Option.none):H l = Option.none:=by
 cases q:H l with
 | none=>rfl
 | some o =>
  rw [e l o q] at h
  cases h
theorem Same.seq {K:PySem.W.Frag} {H H':Hp} {a:Addr} {xs:List V} (e:Same H H') (h:SqL K H a xs):SqL K H' a xs:=by
 rcases h with (h | ⟨o,h⟩) | h
 ·exact .inl (.inl (e _ _ h))
 ·exact .inl (.inr ⟨o,e _ _ h⟩)
 ·exact .inr h
structure LamT where
 qual:Str
 params:Arguments
 body:Expr
 scope:Scope
 caps:List Str
 ps:List Str
noncomputable def Qvc:List (Nat × LamT):=[]
section
variable {κ:Type} [DecidableEq κ]
noncomputable def Qoh (kvs:List (κ × V)) (k:κ) (v:V):List (κ × V) :=
 if (kvs.any fun kv=>decide (kv.1 = k)) = true then kvs.map (fun kv=>if kv.1 = k then (kv.1,v) else kv) else kvs ++ [(k,v)]
theorem Qoi (kvs:List (κ × V)) (k:κ) (v:V):(Qoh kvs k v).length ≤ kvs.length + 1:=by
 unfold Qoh
 split
 ·rw [List.length_map]; omega
 ·rw [List.length_append,List.length_cons,List.length_nil]; omega
theorem RelO.isSome_eq {o:Option V} {u:Option Value} (r:RelO o u):o.isSome = u.isSome:=by
 cases o with
 | none=>cases u with
  | none=>rfl
  | some _=>exact (show False from r).elim
 | some _=>cases u with
  | none=>exact (show False from r).elim
  | some _=>rfl
theorem KV.any {kvs:List (κ × V)} {vs:List (κ × Value)} (r:KV kvs vs) (k:κ):(kvs.any fun kv=>decide (kv.1 = k)) = vs.any fun kv=>decide (kv.1 = k):=by
 unfold KV at r
 induction r with
 | nil=>rfl
 | cons h t ih=>rw [List.any_cons,List.any_cons,ih,h.1]
theorem KV.repl {kvs:List (κ × V)} {vs:List (κ × Value)} (r:KV kvs vs) (k:κ) {y:V} {u:Value} (ry:RelV y u) :
  KV (kvs.map fun kv=>if kv.1 = k then (kv.1,y) else kv) (vs.map fun kv=>if kv.1 = k then (kv.1,u) else kv):=by
 unfold KV at r ⊢
 induction r with
 | nil=>exact .nil
 | @cons p q ps qs h t ih =>
  rw [List.map_cons,List.map_cons]
  refine .cons ?_ ih
  obtain ⟨h1,h2⟩:=h
  by_cases e:p.1 = k
  ·rw [if_pos e,if_pos (h1.symm.trans e)]; exact ⟨h1,ry⟩
  ·rw [if_neg e,if_neg (fun z=>e (h1.trans z))]; exact ⟨h1,h2⟩
theorem KV.put {kvs:List (κ × V)} {vs:List (κ × Value)} (r:KV kvs vs) (k:κ) {y:V} {u:Value} (ry:RelV y u):KV (Qoh kvs k y) (stored vs k u):=by
 unfold Qoh stored
 rw [r.any k]
 by_cases e:(vs.any fun kv=>decide (kv.1 = k)) = true
 ·rw [if_pos e,if_pos e]; exact r.repl k ry
 ·rw [if_neg e,if_neg e]; exact Paired.snoc r ⟨rfl,ry⟩
end
theorem Q7n {P:Program} {w:World} {k:Key} {u:Value} (r:RelV (kV k) u):(Qc1 P w).is k u = true:=by
 cases k with
 | inl i=>obtain ⟨t,e⟩:=(show ∃ t,u = Value.int i t from r); subst e; exact Qod P w i t
 | inr x=>obtain ⟨t,e⟩:=(show ∃ t,u = Value.str x t from r); subst e; exact Qoe P w x t
section
variable {P:Program} {w:World} {H:Hp} {h:Heap} {a:Addr}
theorem Q7o {u:HO} (ok:HOk P w H h) (e:Rd H a u):ObjOk P w H h a u:=e.ok ok
theorem Q7p {kvs:List (Key × V)} (ok:HOk P w H h) (e:Rd H a (.dK kvs)):kvs.length ≤ sizeLine ∧ (a == sysModules) = false ∧ ∃ vs,KV kvs vs ∧ h.DictOf (Qc1 P w) a vs :=
 show ObjOk P w H h a (.dK kvs) from Q7o ok e
theorem Q7q {kvs:List (Key × V)} (ok:HOk P w H h) (e:H a = some (.dK kvs)):kvs.length ≤ sizeLine ∧ (a == sysModules) = false ∧ ∃ vs,KV kvs vs ∧ h.DictOf (Qc1 P w) a vs:=Q7p ok (.inl e)
end
section
variable {X:Cx} {pins:List (Addr × Obj)} {σ:St} {H:Hp} {s:Shared} {a:Addr} {y v:V} {u r:Value} {o:Option V} {A:Around} {E:Value → Shared → Prop}
theorem Inv.big (I:Inv X pins σ H s):sysModules < s.heap.objs.size:=by
 have h:mainGlobals < s.heap.objs.size:=(I.mod.glob.keeps I.bk).lt
 exact Nat.lt_trans (by decide) h
theorem Qy4 {h':Heap} {t':Nat} {ob:HO} (I:Inv X pins σ H s) (mu:Mut (H a)) (hs:Heap.SameBut a s.heap h') (he:∃ q,h'.get? a = some q) (new:ObjOk X.prog X.w (upd H a ob) h' a ob) :
  Inv X pins σ (upd H a ob) { s with heap:=h',toks:=t' } :=
 I.write (x:=a) (e:=a) mu (.inl rfl) (fun b q hb z=>(hs.2 b hb).trans z) he new
theorem Q3w {P:Program} {w:World} {H':Hp} {h':Heap} {kvs:List (Key × V)} {vs:List (Key × Value)} (z:kvs.length ≤ sizeLine) (hd:(a == sysModules) = false) (rel:KV kvs vs) (dd:h'.DictOf (Qc1 P w) a vs) :
  ObjOk P w H' h' a (.dK kvs):=⟨z,hd,vs,rel,dd⟩
end
section
variable {X:Cx} {pins:List (Addr × Obj)} {σ:St} {H:Hp} {s:Shared} {a:Addr} {kvs:List (Key × V)} {k:Key} {u:Value} {A:Around} {E:Value → Shared → Prop}
end
section
variable {X:Cx} {o i e value:Expr} {pos pos' tpos:Pos} {td ty tv:TE}
end
theorem Qvd {P:Program} {w:World} {H:Hp} (h:Heap) (hb:sysModules < h.objs.size):ObjOk P w H (h.push { cls:=.type "dict",data:=.dict #[] }) h.objs.size (.dK []) :=
 ⟨Nat.zero_le _,beq_eq_false_iff_ne.mpr (Ne.symm (Nat.ne_of_lt hb)),[],.nil,Heap.DictOf.new h⟩
section
variable {X:Cx} {pos:Pos}
end
noncomputable def Qp7:List (TE × TE) → St → Hp → (List (V × V) → Hp → Prop) → Prop
 | [],_,H,Q=>Q [] H
 | (tk,tv) :: r,σ,H,Q=>tk σ H fun x H1=>tv σ H1 fun y H2=>Qp7 r σ H2 fun ps H3=>Q ((x,y) :: ps) H3
noncomputable abbrev VV:List (V × V) → List (Value × Value) → Prop:=Paired fun p q=>RelV p.1 q.1 ∧ RelV p.2 q.2
noncomputable def PPs (X:Cx) (pos:Pos) (keys:List (Option Expr)) (values:List Expr) (trs:List (TE × TE)):Prop :=
 ∀ (pins:List (Addr × Obj)) (s:Shared) (σ:St) (H:Hp) (Q:List (V × V) → Hp → Prop),Inv X pins σ H s → Qp7 trs σ H Q →
  wpAny (model X.prog X.w) X.A (evalPairs (pairTrees keys values X.env pos)) (fun vs s'=>∃ ps H',Inv X pins σ H' s' ∧ VV ps vs ∧ Q ps H') X.xe s
theorem Qy5 {X:Cx} {pos:Pos}:PPs X pos [] [] []:=fun pins s σ H Q I h=>pairTrees_nil_walk ⟨[],H,I,.nil,h⟩
theorem Qve {X:Cx} {pos:Pos} {k v:Expr} {ks:List (Option Expr)} {vs:List Expr} {tk tv:TE} {trs:List (TE × TE)} (hk:PE X k tk) (hv:PE X v tv) (hr:PPs X pos ks vs trs) :
  PPs X pos (some k :: ks) (v :: vs) ((tk,tv) :: trs):=fun pins s σ H Q I h =>
 pairTrees_cons_walk (thn (hk pins s σ H _ I h) fun u s1 ⟨x,H1,I1,rx,q1⟩=>thn (hv pins s1 σ H1 _ I1 q1) fun w2 s2 ⟨y,H2,I2,ry,q2⟩ =>
  thn (hr pins s2 σ H2 _ I2 q2) fun ws s3 ⟨ps,H3,I3,rel,q3⟩=>⟨(x,y) :: ps,H3,I3,.cons ⟨rx,ry⟩ rel,q3⟩)
noncomputable def Qio (kvs more:List (Key × V)):List (Key × V):=more.foldl (fun acc kv=>Qoh acc kv.1 kv.2) kvs
theorem KV.merge:∀ {more:List (Key × V)} {rs:List (Key × Value)} {kvs:List (Key × V)} {vs:List (Key × Value)},KV more rs → KV kvs vs → KV (Qio kvs more) (merged vs rs):=by
 intro more rs kvs vs r
 unfold KV at r
 induction r generalizing kvs vs with
 | nil=>intro q; exact q
 | @cons p q ps qs h t ih =>
  intro r0
  have e:KV (Qoh kvs p.1 p.2) (stored vs q.1 q.2):=by
   have:=r0.put p.1 h.2
   rw [← h.1]; exact this
  exact ih e
theorem Qg0:∀ (more kvs:List (Key × V)),(Qio kvs more).length ≤ kvs.length + more.length
 | [],kvs=>by show kvs.length ≤ kvs.length + 0; omega
 | p :: r,kvs=>by
  have h1:=Qg0 r (Qoh kvs p.1 p.2)
  have h2:=Qoi kvs p.1 p.2
  show (Qio (Qoh kvs p.1 p.2) r).length ≤ _
  rw [List.length_cons]; omega
theorem Qj7 {P:Program} {w:World}:∀ {kvs:List (Key × V)} {ws:List (Value × Value)},VV (kvs.map fun kv=>(kV kv.1,kv.2)) ws → ∃ rs,Carries (Qc1 P w) ws rs ∧ KV kvs rs
 | [],_,r=>by rw [List.map_nil] at r; cases r; exact ⟨[],True.intro,.nil⟩
 | p :: kvs,_,r=>by
  rw [List.map_cons] at r
  cases r with
  | @cons a b as bs h t =>
   obtain ⟨rs,c,q⟩:=Qj7 (P:=P) (w:=w) t
   obtain ⟨b1,b2⟩:=b
   exact ⟨(p.1,b2) :: rs,⟨Q7n h.1,rfl,c⟩,.cons ⟨rfl,h.2⟩ q⟩
noncomputable def Q7r (trs:List (TE × TE)):TE:=fun σ H Q=>∀ p,H p = none → Qp7 trs σ (upd H p (.dK [])) fun ps H2=>H2 p = some (.dK []) ∧ ∃ kvs:List (Key × V),ps = kvs.map (fun kv=>(kV kv.1,kv.2)) ∧ kvs.length ≤ 15 ∧ Q (.ref p) (upd H2 p (.dK (Qio [] kvs)))
theorem Qy6 {X:Cx} {pos:Pos} {keys:List (Option Expr)} {values:List Expr} {trs:List (TE × TE)} (h:PPs X pos keys values trs) (hall:keys.all (·.isSome) = true) (hl:keys.length = values.length) (h0:keys ≠ [])
  (h15:keys.length ≤ 15):PE X (.Dict keys values pos) (Q7r trs):=by
 intro pins s σ H Q I q
 have hn:=I.hok.fresh (Nat.le_refl s.heap.objs.size)
 have I1:=I.laid (a:=s.heap.objs.size) (o:=.dK []) (h':=s.heap.push { cls:=.type "dict",data:=.dict #[] }) (t':=s.toks) (fun _ _ q=>Heap.get?_push_of_some _ q) (Nat.le_refl _) (Qvd s.heap I.big)
 refine wpAny_Dict_walk (knd:=Qc1 X.prog X.w) hall hl h0 h15 (thn (h pins _ σ _ _ I1 (q _ hn)) fun ws s2 ⟨ps,H2,I2,rel,e,kvs,ep,lk,q2⟩=>?_)
 subst ep
 obtain ⟨rs,c,rk⟩:=Qj7 (P:=X.prog) (w:=X.w) rel
 obtain ⟨z,hd,vs0,r0,dd⟩:=Q7q I2.hok e
 cases r0
 refine ⟨rs,c,dd,fun h' dd' hs=>⟨.ref s.heap.objs.size,_,?_,rfl,q2⟩⟩
 have hz:(Qio [] kvs).length ≤ sizeLine:=by
  have h1:=Qg0 kvs []
  rw [List.length_nil] at h1
  rw [sizeLine_eq]; omega
 have he:∃ q,h'.get? s.heap.objs.size = some q:=let ⟨q,_,_,hq,_⟩:=dd'; ⟨q,hq⟩
 exact Qy4 I2 (by rw [e]; exact True.intro) hs he (Q3w hz hd (rk.merge .nil) dd')
structure M1 (X:Cx) (o:Expr) (m:Str) (apos:Pos) (e:Expr) (cpos:Pos):Prop where
 base:attributeBase o m X.env (eval o X.env) = eval o X.env
 few:((backTo cpos (starEach [e] X.env)).all (fun x=>!x.1) && (backToKw cpos (keywordEach [] X.env)).all (fun x=>x.1.isSome)
  && decide (([e]:List Expr).length + ([]:List Keyword).length + (if ([]:List Keyword).isEmpty then 0 else 1) < 30)) = true
 line:(apos.endLine == cpos.line) = true
 trees:backTo cpos (starEach [e] X.env) = [(false,eval e X.env)]
structure M2 (X:Cx) (o:Expr) (m:Str) (apos:Pos) (e f:Expr) (cpos:Pos):Prop where
 base:attributeBase o m X.env (eval o X.env) = eval o X.env
 few:((backTo cpos (starEach [e,f] X.env)).all (fun x=>!x.1) && (backToKw cpos (keywordEach [] X.env)).all (fun x=>x.1.isSome)
  && decide (([e,f]:List Expr).length + ([]:List Keyword).length + (if ([]:List Keyword).isEmpty then 0 else 1) < 30)) = true
 line:(apos.endLine == cpos.line) = true
 trees:backTo cpos (starEach [e,f] X.env) = [(false,eval e X.env),(false,eval f X.env)]
section
variable {X:Cx} {pins:List (Addr × Obj)} {σ:St} {H:Hp} {s:Shared} {a:Addr} {y d:V} {u r:Value} {o:Option V} {A:Around} {E:Value → Shared → Prop}
end
section
variable {X:Cx} {o e f:Expr} {apos cpos:Pos} {td ty tx:TE}
end
section
variable {X:Cx} {pins:List (Addr × Obj)} {σ:St} {H:Hp} {s:Shared} {a:Addr} {kvs:List (Key × V)} {A:Around} {E:Value → Shared → Prop}
end
section
variable {X:Cx} {pins:List (Addr × Obj)} {σ:St} {H:Hp} {s:Shared} {a:Addr} {y:V} {u:Value} {A:Around} {E:Value → Shared → Prop}
end
noncomputable def Qhu (env:Env):List (Str × NameKind) → List (Str × Addr) → List (Str × Addr)
 | [],acc=>acc
 | (n,k) :: r,acc=>if k == .free then Qhu env r ((n,(env.cells.lookup n).getD 0) :: acc) else Qhu env r acc
theorem Qg9 {env:Env}:∀ (names:List (Str × NameKind)) (acc:List (Str × Addr)),(∀ x ∈ names,x.2 = .free → ∃ c,env.cells.lookup x.1 = some c) →
  (forIn names acc (fun (x:Str × NameKind) (cs:List (Str × Addr))=>(if (x.2 == .free) = true then do let a ← cellOf env x.1; pure (ForInStep.yield ((x.1,a) :: cs)) else pure (ForInStep.yield cs):Sem (ForInStep (List (Str × Addr)))))) = (pure (Qhu env names acc):Sem (List (Str × Addr)))
 | [],acc,_=>by rw [List.forIn_nil]; rfl
 | (n,k) :: r,acc,h=>by
  have hr:∀ x ∈ r,x.2 = .free → ∃ c,env.cells.lookup x.1 = some c:=fun x hx=>h x (List.mem_cons_of_mem _ hx)
  rw [List.forIn_cons]
  unfold Qhu
  by_cases hk:(k == NameKind.free) = true
  ·obtain ⟨c,hc⟩:=h (n,k) List.mem_cons_self (by simpa using hk)
   have hc':env.cells.lookup n = some c:=hc
   rw [if_pos hk]
   simp only [hk,if_true,cellOf,hc',pure_bind,Option.getD_some]
   exact Qg9 r _ hr
  ·rw [if_neg hk]
   simp only [hk,if_false,pure_bind,Bool.false_eq_true]
   exact Qg9 r _ hr
theorem Qp8 {env:Env} {scope:Scope} (h:∀ x ∈ scope.names,x.2 = .free → ∃ c,env.cells.lookup x.1 = some c):closureFor scope env = pure (Qhu env scope.names []):=by
 have q:=Qg9 (env:=env) scope.names [] h
 unfold closureFor
 simp only [bind_pure_comp] at q ⊢
 have e:(fun (x:Str × NameKind) (r:List (Str × Addr))=>(if (x.2 == NameKind.free) = true then (fun a=>ForInStep.yield ((x.1,a) :: r)) <$> cellOf env x.1 else pure (ForInStep.yield r):Sem (ForInStep (List (Str × Addr))))) = (fun (x:Str × NameKind) (cs:List (Str × Addr))=>(match x with | (name,kind)=>if (kind == NameKind.free) = true then (fun a=>ForInStep.yield ((name,a) :: cs)) <$> cellOf env name else pure (ForInStep.yield cs):Sem (ForInStep (List (Str × Addr))))):=by
  funext x cs
  obtain ⟨n,k⟩:=x
  rfl
 rw [e] at q
 simpa using q
theorem Qb2 {env:Env} {x:Str} {c:Addr}:∀ (names:List (Str × NameKind)) (acc:List (Str × Addr)),(∀ y ∈ names,y.2 = .free → ∃ c,env.cells.lookup y.1 = some c) → (Qhu env names acc).lookup x = some c →
  acc.lookup x = some c ∨ env.cells.lookup x = some c
 | [],acc,_,h=>.inl h
 | (n,k) :: r,acc,hf,h=>by
  have hr:∀ x ∈ r,x.2 = .free → ∃ c,env.cells.lookup x.1 = some c:=fun x hx=>hf x (List.mem_cons_of_mem _ hx)
  unfold Qhu at h
  by_cases hk:(k == NameKind.free) = true
  ·rw [if_pos hk] at h
   obtain ⟨d,hd⟩:=hf (n,k) List.mem_cons_self (by simpa using hk)
   have hd':env.cells.lookup n = some d:=hd
   rcases Qb2 r _ hr h with q | q
   ·rw [List.lookup_cons,hd'] at q
    by_cases hx:(x == n) = true
    ·rw [hx] at q
     have e:x = n:=by simpa using hx
     subst e
     simp only [Option.getD_some] at q
     exact .inr (hd'.trans q)
    ·have hx':(x == n) = false:=by simpa using hx
     rw [hx'] at q
     exact .inl q
   ·exact .inr q
  ·rw [if_neg hk] at h
   exact Qb2 r _ hr h
theorem Qhv {env:Env} {x:Str}:∀ (names:List (Str × NameKind)) (acc:List (Str × Addr)),((x,NameKind.free) ∈ names ∨ ∃ c,acc.lookup x = some c) → ∃ c,(Qhu env names acc).lookup x = some c
 | [],acc,h=>by
  rcases h with h | h
  ·cases h
  ·exact h
 | (n,k) :: r,acc,h=>by
  unfold Qhu
  by_cases hk:(k == NameKind.free) = true
  ·rw [if_pos hk]
   refine Qhv r _ ?_
   by_cases hx:(x == n) = true
   ·exact .inr ⟨_,by rw [List.lookup_cons,hx]⟩
   ·have hx':(x == n) = false:=by simpa using hx
    rcases h with h | ⟨c,h⟩
    ·rcases List.mem_cons.mp h with e | h
     ·cases e; simp at hx
     ·exact .inl h
    ·exact .inr ⟨c,by rw [List.lookup_cons,hx']; exact h⟩
  ·rw [if_neg hk]
   refine Qhv r _ ?_
   rcases h with h | h
   ·rcases List.mem_cons.mp h with e | h
    ·cases e; simp at hk
    ·exact .inl h
   ·exact .inr h
theorem Qb5 {x:Str} {c:Addr}:∀ (names:List (Str × NameKind)) (n:Nat) (acc:List (Str × Addr)),(cellsFrom n names acc).lookup x = some c → acc.lookup x = some c ∨ (n ≤ c ∧ (x,NameKind.cell) ∈ names)
 | [],_,_,h=>.inl h
 | (y,k) :: r,n,acc,h=>by
  unfold cellsFrom at h
  by_cases hk:(k == NameKind.cell) = true
  ·rw [if_pos hk] at h
   have hk':k = .cell:=by simpa using hk
   rcases Qb5 r _ _ h with q | ⟨q1,q2⟩
   ·rw [List.lookup_cons] at q
    by_cases hx:(x == y) = true
    ·rw [hx] at q
     cases q
     exact .inr ⟨Nat.le_refl _,by rw [show x = y by simpa using hx,hk']; exact List.mem_cons_self⟩
    ·rw [show (x == y) = false by simpa using hx] at q
     exact .inl q
   ·exact .inr ⟨by omega,List.mem_cons_of_mem _ q2⟩
  ·rw [if_neg hk] at h
   rcases Qb5 r _ _ h with q | ⟨q1,q2⟩
   ·exact .inl q
   ·exact .inr ⟨q1,List.mem_cons_of_mem _ q2⟩
theorem Qc2 {x:Str} {c:Addr}:∀ (names:List (Str × NameKind)) (n:Nat) (acc:List (Str × Addr)),(x,NameKind.cell) ∈ names → (cellsFrom n names acc).lookup x = some c → n ≤ c
 | [],_,_,h,_=>by cases h
 | (y,k) :: r,n,acc,hm,h=>by
  unfold cellsFrom at h
  by_cases hk:(k == NameKind.cell) = true
  ·rw [if_pos hk] at h
   by_cases hx:(x == y) = true
   ·rcases Qb5 r _ _ h with q | ⟨q1,q2⟩
    ·rw [List.lookup_cons,hx] at q
     cases q
     exact Nat.le_refl _
    ·omega
   ·rcases List.mem_cons.mp hm with e | hm
    ·cases e; simp at hx
    ·have:=Qc2 r _ _ hm h
     omega
  ·rw [if_neg hk] at h
   rcases List.mem_cons.mp hm with e | hm
   ·cases e; simp at hk
   ·exact Qc2 r _ _ hm h
theorem Qep:∀ (names:List (Str × NameKind)) (n:Nat) (acc:List (Str × Addr)),(∀ x c,acc.lookup x = some c → c < n) → (∀ x y c,acc.lookup x = some c → acc.lookup y = some c → x = y) →
  ∀ x y c,(cellsFrom n names acc).lookup x = some c → (cellsFrom n names acc).lookup y = some c → x = y
 | [],_,_,_,hi=>hi
 | (z,k) :: r,n,acc,hb,hi=>by
  unfold cellsFrom
  by_cases hk:(k == NameKind.cell) = true
  ·rw [if_pos hk]
   refine Qep r (n + 1) _ (fun x c h=>?_) (fun x y c h1 h2=>?_)
   ·rw [List.lookup_cons] at h
    by_cases hx:(x == z) = true
    ·rw [hx] at h; cases h; exact Nat.lt_succ_self _
    ·rw [show (x == z) = false by simpa using hx] at h
     exact Nat.lt_succ_of_lt (hb x c h)
   ·rw [List.lookup_cons] at h1 h2
    by_cases hx:(x == z) = true
    ·rw [hx] at h1; cases h1
     by_cases hy:(y == z) = true
     ·rw [show x = z by simpa using hx,show y = z by simpa using hy]
     ·rw [show (y == z) = false by simpa using hy] at h2
      exact absurd (hb y n h2) (Nat.lt_irrefl _)
    ·rw [show (x == z) = false by simpa using hx] at h1
     by_cases hy:(y == z) = true
     ·rw [hy] at h2; cases h2
      exact absurd (hb x n h1) (Nat.lt_irrefl _)
     ·rw [show (y == z) = false by simpa using hy] at h2
      exact hi x y c h1 h2
  ·rw [if_neg hk]
   exact Qep r n acc hb hi
theorem Qcy {names:List (Str × NameKind)}:∀ (names:List (Str × NameKind)) (h:Heap) (acc:List (Str × Addr)),(∀ x c,acc.lookup x = some c → ∃ v,h.IsCell c v) → ∀ x c,(cellsFrom h.objs.size names acc).lookup x = some c → ∃ v,(pushCells h names).IsCell c v
 | [],_,_,hi=>hi
 | (z,k) :: r,h,acc,hi=>by
  unfold cellsFrom pushCells
  by_cases hk:(k == NameKind.cell) = true
  ·rw [if_pos hk,if_pos hk]
   have q:=Qcy (names:=names) r (h.push { cls:=.type "cell",data:=.cell none }) ((z,h.objs.size) :: acc) (fun x c hx=>by
    rw [List.lookup_cons] at hx
    by_cases hz:(x == z) = true
    ·rw [hz] at hx; cases hx
     exact ⟨none,⟨_,Heap.get?_push_size _ rfl,rfl⟩⟩
    ·rw [show (x == z) = false by simpa using hz] at hx
     obtain ⟨v,w⟩:=hi x c hx
     exact ⟨v,w.keeps fun b o e=>Heap.get?_push_of_some _ e⟩)
   rwa [Heap.size_push] at q
  ·rw [if_neg hk,if_neg hk]
   exact Qcy (names:=names) r h acc hi
theorem Qoj {M:Model} {A:Around} {E:Value → Shared → Prop} {s:Shared} {scope:Scope} {globals:Addr} {cl:List (Str × Addr)} {qual:Str} {env:Env} {Q:Env → Shared → Prop}
  (hQ:Q { scope:=scope,locals:=s.heap.objs.size,globals:=globals,cells:=cellsFrom (s.heap.objs.size + 1) scope.names cl,qual:=qual,func:=none,code:=env.code,frame:=env.frame,builtins:=env.builtins } { s with heap:=pushCells (s.heap.push { cls:=.type "dict",data:=.dict #[] }) scope.names }) :
  wpAny M A (newFunctionEnv scope globals cl [] qual none .none (some env)) Q E s:=by
 simp only [newFunctionEnv,Option.isSome_some,if_true]
 refine wpAny_bind (wpAny_alloc ?_)
 refine wpAny_bind (wpAny_layCells _ (fun name kind cells=>by cases hkc:kind == NameKind.cell <;> simp [hkc]) _ _ _ _ ?_)
 rw [show ({ s with heap:=s.heap.push { cls:=.type "dict",data:=.dict #[] } }:Shared).heap.objs.size = s.heap.objs.size + 1 from Heap.size_push ..]
 simp only [List.forIn_nil,pure_bind]
 exact wpAny_pure hQ
theorem Qm8 {prog:Program} {w:World} {A:Around} {R:Result → Shared → Prop} {s:Shared} {elt target iter:Expr} {ifs:List Expr} {scope:Scope} {pos:Pos} {it acc:Value} {env:Env} (I:Nat → Shared → Prop)
  (turn:∀ n s,I n s → wpAny (model prog w) A (pyNext it) (fun r s1=>match r with
   | none=>R (.ok .next) s1
   | some v=>wpAny (model prog w) A (letOwnedTupleGo target it v) (fun _ s1'=>wpAny (model prog w) A (assign target env v) (fun _ s2 =>
     wpAny (model prog w) A (forIn ifs true fun c r=>if r = true then do let ok ← isTrue c env (eval c env); pure (ForInStep.yield ok) else pure (ForInStep.yield r)) (fun ok s3 =>
      if ok = true then wpAny (model prog w) A (eval elt env) (fun x s4 =>
       wpAny (model prog w) A (call (.builtin "list.append") [acc,x]) (fun _ s5=>∃ m,m < n ∧ I m s5) (fun _ _=>False) s4) (fun _ _=>False) s3
      else ∃ m,m < n ∧ I m s3) (fun _ _=>False) s2) (fun _ _=>False) s1') (fun _ _=>False) s1) (fun _ _=>False) s)
  (n:Nat) (h:I n s) :
  codeAny (model prog w) A (.compLoop (.ListComp elt [⟨target,iter,ifs,0⟩] scope pos) 0 it acc env) R s:=by
 refine codeAny_loop rfl I (fun n s hI=>?_) n h
 show wpAny _ A ((compTurn (.ListComp elt [⟨target,iter,ifs,0⟩] scope pos) 0 it acc env).onRaise (fun x=>do noteFrame x env; theTreesLotGoes x)) _ _ s
 refine wpAny_noted ?_
 rw [compTurn_list]
 refine wpAny_bind (wpAny_standAt (wpAny_bind (wpAny_mono (turn n s hI) (fun r s1 h1=>?_) fun _ _ h'=>h'.elim)))
 cases r with
 | none=>exact wpAny_pure h1
 | some v =>
  refine wpAny_bind (wpAny_mono h1 (fun _ s1' h1'=>wpAny_bind (wpAny_mono h1' (fun _ s2 h2=>wpAny_bind (wpAny_mono h2 (fun ok s3 h3=>?_) fun _ _ h'=>h'.elim)) fun _ _ h'=>h'.elim)) fun _ _ h'=>h'.elim)
  cases ok with
  | false=>exact wpAny_pure ⟨rfl,h3⟩
  | true =>
   exact wpAny_bind (wpAny_bind (wpAny_mono h3 (fun x s4 h4=>wpAny_bind (wpAny_mono h4 (fun _ s5 h5=>wpAny_pure (wpAny_pure ⟨rfl,h5⟩)) fun _ _ h'=>h'.elim)) fun _ _ h'=>h'.elim))
noncomputable def Qa4 (X:Cx) (scope:Scope) (N:List Str) (s:Shared) (H:Hp) (fp:List Addr):Cx where
 prog:=X.prog
 w:=X.w
 K:=X.K
 mg:=X.mg
 base:=X.base
 A:=X.A
 N:=N
 s₀:=s
 H₀:=H
 env:={ scope:=relabel scope X.env,locals:=s.heap.objs.size,globals:=X.env.globals,cells:=cellsFrom (s.heap.objs.size + 1) scope.names (Qhu X.env scope.names []),qual:=X.env.qual,func:=none,code:=X.env.code,frame:=X.env.frame,builtins:=X.env.builtins }
 outer:=X.stack
 stack:=X.stack
 ex:=fp
 fn:=fun x=>decide ((x,NameKind.cell) ∈ scope.names)
 calm:=X.calm
 pn:=[]
 xe:=fun _ _=>False
noncomputable def Qfa (js:List (Option Nat)) (σ:St):St:=js.map fun o=>match o with | none=>none | some j=>(σ[j]?).join
noncomputable def Ql9 (X:Cx) (scope:Scope) (N:List Str) (js:List (Option Nat)):Bool :=
 (N.length == js.length) && (N.zip js).all fun p=>match p.2 with
  | none=>true
  | some j=>X.N[j]? == some p.1 && (scope.names.lookup p.1 == some .free && (X.env.scope.names.lookup p.1 == some .cell || X.env.scope.names.lookup p.1 == some .free))
noncomputable def scOk (X:Cx) (scope:Scope):Bool :=
 scope.names.all fun p=>(p.2 != .free || (X.env.scope.names.lookup p.1 == some .cell || X.env.scope.names.lookup p.1 == some .free)) && scope.names.lookup p.1 == some p.2
section
variable {X:Cx} {pins:List (Addr × Obj)} {σ:St} {H:Hp} {s:Shared} {scope:Scope}
theorem scOk.get (h:scOk X scope = true) {p:Str × NameKind} (hp:p ∈ scope.names):(p.2 = .free → X.env.scope.names.lookup p.1 = some .cell ∨ X.env.scope.names.lookup p.1 = some .free) ∧ scope.names.lookup p.1 = some p.2:=by
 have q:=List.all_eq_true.mp h p hp
 rw [Bool.and_eq_true] at q
 refine ⟨fun e=>?_,by simpa using q.2⟩
 have q1:=q.1
 rw [e] at q1
 simpa using q1
theorem scOk.cells (I:Inv X pins σ H s) (h:scOk X scope = true):∀ x ∈ scope.names,x.2 = .free → ∃ c,X.env.cells.lookup x.1 = some c:=fun x hx e=>I.ok.has x.1 ((scOk.get h hx).1 e)
theorem scOk.one (h:scOk X scope = true) {x:Str} {k j:NameKind} (e:(x,k) ∈ scope.names) (e':(x,j) ∈ scope.names):k = j:=by
 have q1:=(scOk.get h e).2
 have q2:=(scOk.get h e').2
 exact Option.some.inj (q1.symm.trans q2)
theorem Qip (I:Inv X pins σ H s) (h:scOk X scope = true) {n:Nat} {x:Str} {c:Addr} (e:(cellsFrom n scope.names (Qhu X.env scope.names [])).lookup x = some c):X.env.cells.lookup x = some c ∨ (n ≤ c ∧ (x,NameKind.cell) ∈ scope.names):=by
 rcases Qb5 _ _ _ e with q | q
 ·rcases Qb2 _ _ (scOk.cells I h) q with z | z
  ·cases z
  ·exact .inl z
 ·exact .inr q
theorem Qco {env:Env} {x:Str} {k:NameKind}:∀ {names:List (Str × NameKind)},(names.map fun (n,k)=>if (k == NameKind.free && env.scope.kind == .function && env.kindOf n == some .cell) then (n,NameKind.cell) else (n,k)).lookup x = some k →
  names.lookup x = some k ∨ (k = .cell ∧ names.lookup x = some .free)
 | [],h=>by cases h
 | (n,j) :: r,h=>by
  rw [List.map_cons] at h
  replace h:List.lookup x ((if (j == NameKind.free && env.scope.kind == .function && env.kindOf n == some .cell) = true then (n,NameKind.cell) else (n,j)) :: _) = some k:=h
  by_cases hc:(j == NameKind.free && env.scope.kind == .function && env.kindOf n == some .cell) = true
  ·rw [if_pos hc,List.lookup_cons] at h
   rw [List.lookup_cons]
   by_cases hx:(x == n) = true
   ·rw [hx] at h ⊢
    cases h
    simp only [Bool.and_eq_true] at hc
    exact .inr ⟨rfl,by rw [show j = .free by simpa using hc.1.1]⟩
   ·rw [show (x == n) = false by simpa using hx] at h ⊢
    exact Qco h
  ·rw [if_neg hc,List.lookup_cons] at h
   rw [List.lookup_cons]
   by_cases hx:(x == n) = true
   ·rw [hx] at h ⊢
    exact .inl h
   ·rw [show (x == n) = false by simpa using hx] at h ⊢
    exact Qco h
theorem Qfb {env:Env} {x:Str}:∀ {names:List (Str × NameKind)},names.lookup x = some .free →
  (names.map fun (n,k)=>if (k == NameKind.free && env.scope.kind == .function && env.kindOf n == some .cell) then (n,NameKind.cell) else (n,k)).lookup x = some .cell ∨
  (names.map fun (n,k)=>if (k == NameKind.free && env.scope.kind == .function && env.kindOf n == some .cell) then (n,NameKind.cell) else (n,k)).lookup x = some .free
 | [],h=>by cases h
 | (n,j) :: r,h=>by
  rw [List.map_cons]
  show List.lookup x ((if (j == NameKind.free && env.scope.kind == .function && env.kindOf n == some .cell) = true then (n,NameKind.cell) else (n,j)) :: _) = some .cell ∨ List.lookup x ((if (j == NameKind.free && env.scope.kind == .function && env.kindOf n == some .cell) = true then (n,NameKind.cell) else (n,j)) :: _) = some .free
  rw [List.lookup_cons] at h
  by_cases hx:(x == n) = true
  ·rw [hx] at h
   cases h
   by_cases hc:(NameKind.free == NameKind.free && env.scope.kind == .function && env.kindOf n == some .cell) = true
   ·rw [if_pos hc,List.lookup_cons,hx]; exact .inl rfl
   ·rw [if_neg hc,List.lookup_cons,hx]; exact .inr rfl
  ·rw [show (x == n) = false by simpa using hx] at h
   by_cases hc:(j == NameKind.free && env.scope.kind == .function && env.kindOf n == some .cell) = true
   ·rw [if_pos hc,List.lookup_cons,show (x == n) = false by simpa using hx]; exact Qfb h
   ·rw [if_neg hc,List.lookup_cons,show (x == n) = false by simpa using hx]; exact Qfb h
theorem Qy7 {N:List Str} {fp:List Addr} (I:Inv X pins σ H s) (hk:scope.kind = .function) (h:scOk X scope = true) (hf:∀ b ∈ fp,Qll X pins H b) (ho:∀ b ∈ fp,∃ o,s.heap.get? b = some o ∧ ∀ v,o.data ≠ .cell v):(Qa4 X scope N s H fp).Ok where
 mod:=I.ok.mod
 kind:=hk
 glob:=I.ok.glob
 blt:=I.ok.blt
 above:=Nat.le_refl _
 inj:=fun x y c h1 h2=>Qep _ _ _ (fun z c hz=>by
   rcases Qb2 _ _ (scOk.cells I h) hz with q | q
   ·cases q
   ·obtain ⟨v,w⟩:=I.cell z c q
    exact Nat.lt_succ_of_lt w.lt) (fun y z c h1 h2=>by
   rcases Qb2 _ _ (scOk.cells I h) h1 with q | q
   ·cases q
   ·rcases Qb2 _ _ (scOk.cells I h) h2 with q' | q'
    ·cases q'
    ·exact I.ok.inj y z c q q') x y c h1 h2
 has:=fun x hx=>by
  have key:(x,NameKind.cell) ∈ scope.names ∨ (x,NameKind.free) ∈ scope.names:=by
   rcases hx with hx | hx
   ·rcases Qco hx with q | ⟨_,q⟩
    ·exact .inl (PySem.mem_of_lookup q)
    ·exact .inr (PySem.mem_of_lookup q)
   ·rcases Qco hx with q | ⟨q,_⟩
    ·exact .inr (PySem.mem_of_lookup q)
    ·cases q
  rcases key with q | q
  ·have e:scope.names.lookup x = some .cell:=(scOk.get h q).2
   exact Option.isSome_iff_exists.mp (PySem.W.cellsFrom_some scope.names _ _ (.inl e))
  ·obtain ⟨c,hc⟩:=Qhv (env:=X.env) scope.names [] (.inl q)
   exact Option.isSome_iff_exists.mp (PySem.W.cellsFrom_some scope.names _ _ (.inr (by rw [hc]; rfl)))
 cab:=fun x c hx hc=>Nat.le_of_succ_le (Qc2 _ _ _ (of_decide_eq_true hx) hc)
 hd:=I.ok.hd
 frames:=I.ok.frames
 stk:=.inl rfl
 exf:=fun b hb=>by
  obtain ⟨o,e,d⟩:=ho b hb
  refine ⟨Nat.ne_of_lt (Heap.lt_size e),fun x c hc z=>?_⟩
  rcases Qip I h hc with q | ⟨q,_⟩
  ·exact (hf b hb).2.2.2.2.1 x c q z
  ·rw [z] at q
   exact absurd (Nat.lt_of_lt_of_le (Heap.lt_size e) (Nat.le_of_succ_le q)) (Nat.lt_irrefl _)
 bs:=I.bs
 bsz:=Nat.le_trans I.ok.bsz I.sz
 noex:=fun b o e hb=>by
  rcases (hf b hb).2.2.2.1 with q | q
  ·exact I.ok.noex b o e q
  ·exact absurd (Nat.lt_of_lt_of_le (Heap.lt_size e) (Nat.le_trans I.ok.bsz q)) (Nat.lt_irrefl _)
 exfs:=fun b hb hs=>by
  rcases List.mem_cons.mp (I.stkSub b hs) with q | q
  ·exact (hf b hb).2.1 q
  ·exact (hf b hb).2.2.1 q
 funs:=I.stack
 frf:=⟨I.stkFree,I.tab⟩
theorem Qvf {N:List Str} {js:List (Option Nat)} {fp:List Addr} (I:Inv X pins σ H s) (hk:scope.kind = .function) (h:scOk X scope = true) (hc:Ql9 X scope N js = true) (hf:∀ b ∈ fp,Qll X pins H b) (ho:∀ b ∈ fp,∃ o,s.heap.get? b = some o ∧ ∀ v,o.data ≠ .cell v) :
  Inv (Qa4 X scope N s H fp) [] (Qfa js σ) H { s with heap:=pushCells (s.heap.push { cls:=.type "dict",data:=.dict #[] }) scope.names }:=by
 have kp:∀ b o,s.heap.get? b = some o → (pushCells (s.heap.push { cls:=.type "dict",data:=.dict #[] }) scope.names).get? b = some o:=fun b o e=>pushCells_keeps _ _ _ _ (Heap.get?_push_of_some _ e)
 have hcap:N.length = js.length ∧ ∀ p ∈ N.zip js,∀ j,p.2 = some j → X.N[j]? = some p.1 ∧ scope.names.lookup p.1 = some .free ∧ (X.env.scope.names.lookup p.1 = some .cell ∨ X.env.scope.names.lookup p.1 = some .free):=by
  unfold Ql9 at hc
  rw [Bool.and_eq_true] at hc
  refine ⟨by simpa using hc.1,fun p hp j e=>?_⟩
  have q:=List.all_eq_true.mp hc.2 p hp
  rw [e] at q
  simpa using q
 refine ⟨Qy7 I hk h hf ho,rfl,I.bare,Un.kept kp,?_,fun x c e=>?_,I.hok.fresh (Nat.le_refl _),fun x c e=>?_,fun p hp=>absurd (show p ∈ ([]:List (Addr × Obj)) from hp) (by simp),I.hok.kept kp,?_⟩
 ·refine ⟨fun _=>none,(Heap.Ns.new s.heap (.type "dict")).keeps (pushCells_keeps _ _),fun i x v h1 h2 h3=>?_⟩
  obtain ⟨o,ho1,ho2⟩:∃ o,js[i]? = some o ∧ (match o with | none=>none | some j=>(σ[j]?).join) = some v:=by
   unfold Qfa at h2
   rw [List.getElem?_map] at h2
   cases e:js[i]? with
   | none=>rw [e] at h2; cases h2
   | some o=>rw [e] at h2; exact ⟨o,rfl,Option.some.inj h2⟩
  cases o with
  | none=>cases ho2
  | some j =>
   have hz:(x,some j) ∈ N.zip js:=List.mem_of_getElem? (i:=i) (by rw [List.getElem?_zip_eq_some]; exact ⟨h1,ho1⟩)
   obtain ⟨q1,q2,q3⟩:=hcap.2 _ hz j rfl
   have hσ:σ[j]? = some (some v):=by
    have ho2:(σ[j]?).join = some v:=ho2
    cases e:σ[j]? with
    | none=>rw [e] at ho2; cases ho2
    | some w=>rw [e] at ho2; exact congrArg some ho2
   obtain ⟨m,hn,hl⟩:=I.loc
   obtain ⟨u,r,l⟩:=hl j x v q1 hσ (by rcases q3 with z | z; exact .inr (.inl z); exact .inr (.inr z))
   refine ⟨u,r,.inr ⟨Qfb q2,?_⟩⟩
   have fin:∀ c,X.env.cells.lookup x = some c → s.heap.IsCell c (some u) → ∃ c,(cellsFrom (s.heap.objs.size + 1) scope.names (Qhu X.env scope.names [])).lookup x = some c ∧ (pushCells (s.heap.push { cls:=.type "dict",data:=.dict #[] }) scope.names).IsCell c (some u):=fun c hc hv=>by
    obtain ⟨d,hd⟩:=Qhv (env:=X.env) scope.names [] (.inl (PySem.mem_of_lookup q2))
    obtain ⟨c',hc'⟩:=Option.isSome_iff_exists.mp (PySem.W.cellsFrom_some scope.names (s.heap.objs.size + 1) (Qhu X.env scope.names []) (.inr (by rw [hd]; rfl)))
    refine ⟨c',hc',?_⟩
    rcases Qip I h hc' with z | ⟨_,z⟩
    ·rw [hc] at z; cases z
     exact hv.keeps kp
    ·have:=scOk.one h z (PySem.mem_of_lookup q2)
     cases this
   rcases l with ⟨hk,_⟩ | ⟨_,c,hc,hv⟩
   ·have hk:X.env.scope.names.lookup x = some .local:=hk
    rcases q3 with z | z <;> (rw [z] at hk; cases hk)
   ·exact fin c hc hv
 ·have q:=Qcy (names:=[]) scope.names (s.heap.push { cls:=.type "dict",data:=.dict #[] }) (Qhu X.env scope.names []) (fun y d hd=>by
   rcases Qb2 _ _ (scOk.cells I h) hd with z | z
   ·cases z
   ·obtain ⟨v,w⟩:=I.cell y d z
    exact ⟨v,w.keeps fun b o e=>Heap.get?_push_of_some _ e⟩)
  rw [Heap.size_push] at q
  exact q x c e
 ·rcases Qip I h e with q | ⟨q,_⟩
  ·rcases I.freeC x c q with z | ⟨_,z⟩
   ·exact .inl z
   ·refine .inr ⟨?_,z⟩
    show decide ((x,NameKind.cell) ∈ scope.names) = false
    refine decide_eq_false fun hx=>?_
    have h1:=Qc2 _ _ _ hx e
    obtain ⟨v,w⟩:=I.cell x c q
    exact absurd (Nat.lt_of_lt_of_le (Nat.lt_succ_of_lt w.lt) h1) (Nat.lt_irrefl _)
  ·exact .inl (I.hok.fresh (Nat.le_of_succ_le q))
 ·show (Qfa js σ).length = N.length
  unfold Qfa
  rw [List.length_map,hcap.1]
end
noncomputable def Q7s (J:It) (l:Addr) (σ:St) (H1:Hp) (g:TG) (tc:TT) (te:TE) (Q:VK):Prop:=∃ W:Nat → Nat → List V → St → Hp → Prop,
 (∃ m,W 0 m [] σ (upd H1 l (.lst []))) ∧ ∀ i m ys σ2 H2,W i m ys σ2 H2 →
  (J.stop i H2 ∧ Q (.ref l) H2) ∨
  (J.go i H2 ∧ ∀ x H3,J.yld i H2 x H3 → g x σ2 H3 fun σ4 H4=>tc σ4 H4 fun b H5 =>
   if b = true then te σ4 H5 fun y H6=>H6 l = some (.lst ys) ∧ ys.length < sizeLine ∧ ∃ m',m' < m ∧ W (i + 1) m' (ys ++ [y]) σ4 (upd H6 l (.lst (ys ++ [y])))
   else ∃ m',m' < m ∧ W (i + 1) m' ys σ4 H5)
noncomputable abbrev Qvg (wi:TI) (js:List (Option Nat)) (g:TG) (tc:TT) (te:TE):TE:=fun σ H Q=>wi σ H fun J H1=>∀ l,H1 l = none → Q7s J l (Qfa js σ) H1 g tc te Q
noncomputable def PTs (X:Cx) (ifs:List Expr) (t:TT):Prop :=
 ∀ (pins:List (Addr × Obj)) (s:Shared) (σ:St) (H:Hp) (Q:Bool → Hp → Prop),Inv X pins σ H s → t σ H Q →
  wpAny (model X.prog X.w) X.A (forIn ifs true fun c r=>if r = true then do let ok ← isTrue c X.env (eval c X.env); pure (ForInStep.yield ok) else pure (ForInStep.yield r)) (TP X pins σ Q) X.xe s
noncomputable abbrev Q7t:TT:=fun _ H Q=>Q true H
theorem Qy8 {X:Cx}:PTs X [] Q7t:=fun pins s σ H Q I h=>wpAny_tests_nil ⟨H,I,h⟩
theorem Qvh {X:Cx} {tg elt iter:Expr} {ifs:List Expr} {scope:Scope} {pos:Pos} {N:List Str} {js:List (Option Nat)} {wi:TI} {g:TG} {tc:TT} {te:TE} (hcalm:X.calm = true)
  (hi:PI X tg iter wi) (hg:∀ s H fp,PG (Qa4 X scope N s H fp) tg g) (hc:∀ s H fp,PTs (Qa4 X scope N s H fp) ifs tc) (he:∀ s H fp,PE (Qa4 X scope N s H fp) elt te)
  (hk:scope.kind = .function:=by rfl) (h1:scOk X scope = true:=by rfl) (h2:Ql9 X scope N js = true:=by rfl)
  (hs:∀ x,foldedSetIterable iter X.env x = pure x:=by intro _; rfl):PE X (.ListComp elt [⟨tg,iter,ifs,0⟩] scope pos) (Qvg wi js g tc te):=by
 intro pins s σ H Q I h
 rw [eval_ListComp]
 refine wpAny_comprehension_free (use:=none) rfl hs (Qp8 (scOk.cells I h1)) hk (fun x hx hl=>by rw [(scOk.get h1 hx).2,hl]) ?_
 refine thn (hi pins s σ H _ I h) fun v s1 h1'=>thn h1' fun itv s2 h2'=>?_
 obtain ⟨it,fp,tn,J,H2,e,I2,T,st2,f2,q⟩:=h2'
 subst e
 refine wpAny_newObj_type ?_
 have hl:H2 s2.heap.objs.size = none:=I2.hok.fresh (Nat.le_refl _)
 obtain ⟨W,⟨m0,w0⟩,turn⟩:=q _ hl
 have I3:Inv X pins σ (upd H2 s2.heap.objs.size (.lst [])) { s2 with heap:=s2.heap.push { cls:=.type "list",data:=.seq ([]:List Value).toArray } }:=I2.lnew (t':=s2.toks) (ys:=[]) .nil (Nat.zero_le _)
 generalize hs3:({ s2 with heap:=s2.heap.push { cls:=.type "list",data:=.seq ([]:List Value).toArray } }:Shared) = s3 at I3
 generalize hH3:upd H2 s2.heap.objs.size (.lst []) = H3 at I3 w0
 generalize hl':s2.heap.objs.size = l at turn hH3 hl
 have kp3:∀ b o,s2.heap.get? b = some o → s3.heap.get? b = some o:=fun b o e=>by rw [← hs3]; exact Heap.get?_push_of_some _ e
 have ob3:∀ b ∈ fp,∃ o,s3.heap.get? b = some o ∧ ∀ v,o.data ≠ .cell v:=fun b hb=>by
  obtain ⟨o,e,d⟩:=T.obj _ _ st2 b hb
  exact ⟨o,kp3 b o e,d⟩
 have f3:∀ b ∈ fp,Qll X pins H3 b:=fun b hb=>by
  obtain ⟨o,e,d⟩:=T.obj _ _ st2 b hb
  refine ⟨?_,(f2 b hb).2⟩
  rw [← hH3,Qv (Nat.ne_of_lt (by rw [← hl']; exact Heap.lt_size e))]
  exact (f2 b hb).1
 refine Qoj ?_
 have I4:=Qvf (N:=N) (js:=js) I3 hk h1 h2 f3 ob3
 have st4:tn 0 (pushCells (s3.heap.push { cls:=.type "dict",data:=.dict #[] }) scope.names):=T.keep _ _ _ st2 fun b hb o e=>pushCells_keeps _ _ _ _ (Heap.get?_push_of_some _ (kp3 b o e))
 have fr4:∀ b ∈ fp,H3 b = none:=fun b hb=>(f3 b hb).1
 have fpX:∀ {H':Hp},(∀ b ∈ fp,H' b = none) → ∀ b ∈ fp,Qll (Qa4 X scope N s3 H3 fp) [] H' b:=fun hn b hb=>by
  have ok:=I4.ok
  refine ⟨hn b hb,(ok.exf b hb).1,ok.exfs b hb,.inl hb,(ok.exf b hb).2,fun p hp=>absurd (show p ∈ ([]:List (Addr × Obj)) from hp) (by simp)⟩
 -- the block's end
 have fin:∀ {σ':St} {H':Hp} {s':Shared},Inv (Qa4 X scope N s3 H3 fp) [] σ' H' s' → Q (.ref l) H' → compPost (model X.prog X.w) X.A X.xe none (EP X pins σ Q) (.ref l) s3.heap.objs.size (.ok .next) s':=fun {σ' H' s'} I' q'=>by
  obtain ⟨m,hn,_⟩:=id I'.loc
  refine ⟨m,hn,fun h' hsb=>⟨.ref l,H',?_,rfl,q'⟩⟩
  have hfr:H' s3.heap.objs.size = none:=I'.free
  refine I3.call' (s':={ s' with heap:=h' }) (ch:=fp) I'.os ⟨fun b o e n hb hx=>?_,fun b o e n hb hx=>?_,I'.base.free,fun b o e hx=>?_,I'.base.tups,I'.base.frzs,I'.base.tbls⟩ (fun b u e=>?_) I'.bare (fun b hb=>⟨(f3 b hb).2.2.2.1,(f3 b hb).2.1,(f3 b hb).2.2.2.2.1,(f3 b hb).2.2.2.2.2⟩)
  ·exact (hsb.2 b (Nat.ne_of_lt (Heap.lt_size e))).trans (I'.base.keep b o e n hb hx)
  ·obtain ⟨sl,z⟩:=I'.base.slot b o e n hb hx
   exact ⟨sl,(hsb.2 b (Nat.ne_of_lt (Heap.lt_size e))).trans z⟩
  ·obtain ⟨o',z⟩:=I'.base.there b o e hx
   exact ⟨o',(hsb.2 b (Nat.ne_of_lt (Heap.lt_size e))).trans z⟩
  ·refine (I'.hok b u e).stay (fun c w' hc z=>(hsb.2 c ?_).trans z) (fun _ z=>z) fun _ _ z=>z
   rintro rfl
   rcases hc with rfl | hc
   ·rw [hfr] at e; cases e
   ·rw [hfr] at hc; cases hc
 have loop:codeAny (model X.prog X.w) X.A (.compLoop (.ListComp elt [⟨tg,iter,ifs,0⟩] scope pos) 0 (.ref it) (.ref l) (Qa4 X scope N s3 H3 fp).env) (compPost (model X.prog X.w) X.A X.xe none (EP X pins σ Q) (.ref l) s3.heap.objs.size)
   { s3 with heap:=pushCells (s3.heap.push { cls:=.type "dict",data:=.dict #[] }) scope.names }:=by
  refine Qm8 (fun n s'=>∃ i ys σ' H',Inv (Qa4 X scope N s3 H3 fp) [] σ' H' s' ∧ tn i s'.heap ∧ (∀ b ∈ fp,H' b = none) ∧ W i n ys σ' H') ?_ m0 ⟨0,[],Qfa js σ,H3,I4,st4,fr4,w0⟩
  rintro n s5 ⟨i,ys,σ5,H5,I5,st5,fr5,w5⟩
  rcases turn i n ys σ5 H5 w5 with ⟨stop,qn⟩ | ⟨go,step⟩
  ·refine thn (T.done (Qa4 X scope N s3 H3 fp) rfl rfl rfl hcalm i [] s5 σ5 H5 _ I5 (fpX fr5) st5 stop) fun r s6 ⟨hr,I6⟩=>?_
   subst hr
   exact fin I6 qn
  ·refine thn (T.item (Qa4 X scope N s3 H3 fp) rfl rfl rfl hcalm i [] s5 σ5 H5 _ I5 (fpX fr5) st5 go) fun r s6 ⟨u,hr,h6⟩=>?_
   subst hr
   refine thn h6 fun _ s7 ⟨x,H7,I7,r7,y7,st7,fr7⟩=>?_
   have I7':=I7.pinned (fpX fr7) (T.obj _ _ st7)
   have again:∀ {σ8:St} {H8:Hp} {s8:Shared} {ys8:List V},Inv (Qa4 X scope N s3 H3 fp) ([] ++ Qj3 fp s7.heap) σ8 H8 s8 → (∃ m',m' < n ∧ W (i + 1) m' ys8 σ8 H8) →
     ∃ m,m < n ∧ ∃ i ys σ' H',Inv (Qa4 X scope N s3 H3 fp) [] σ' H' s8 ∧ tn i s8.heap ∧ (∀ b ∈ fp,H' b = none) ∧ W i m ys σ' H':=fun {σ8 H8 s8 ys8} I8 ⟨m',hm,w8⟩=>by
    refine ⟨m',hm,i + 1,ys8,σ8,H8,I8.unpinned,T.keep _ _ _ st7 fun b hb o e=>(I8.pin (b,o) (List.mem_append_right _ (List.mem_append_right _ (Qe8 hb e)))).1,fun b hb=>?_,w8⟩
    obtain ⟨o,e,d⟩:=T.obj _ _ st7 b hb
    exact (I8.pin (b,o) (List.mem_append_right _ (List.mem_append_right _ (Qe8 hb e)))).2.1
   refine thn (hg s3 H3 fp _ s7 σ5 H7 x u _ I7' r7 (step x H7 y7)) fun _ s8 ⟨σ8,H8,I8,q8⟩=>?_
   refine thn (hc s3 H3 fp _ s8 σ8 H8 _ I8 q8) fun ok s9 ⟨H9,I9,q9⟩=>?_
   cases ok with
   | false =>
    rw [if_neg Bool.false_ne_true] at q9 ⊢
    exact again I9 q9
   | true =>
    rw [if_pos rfl] at q9 ⊢
    refine thn (he s3 H3 fp _ s9 σ8 H9 _ I9 q9) fun y s10 ⟨vy,H10,I10,r10,a10,z10,q10⟩=>?_
    refine thn (Ql7 (X:=Qa4 X scope N s3 H3 fp) _ s10 σ8 H10 (.ref l) [vy] (.ref l) [y] (fun _ H'=>∃ m',m' < n ∧ W (i + 1) m' (ys ++ [vy]) σ8 H') I10 rfl (.cons r10 .nil) ⟨l,ys,vy,rfl,rfl,a10,z10,q10⟩) fun _ s11 ⟨_,H11,I11,_,q11⟩=>?_
    exact again I11 q11
 first
  | exact codeAny_compStart_list loop (T.self _ 0 _ _ _ st4 loop)
  | (rw [← hs3] at loop st4
     exact codeAny_compStart_list loop (T.self _ 0 _ _ _ st4 loop))
section
variable {X:Cx}
theorem Qok:CallR X (.builtin "isinstance") (fun xs H Q=>∃ x T t b,xs = [x,.ty T] ∧ TyOf X.K H x t ∧ PySem.W.kitOne X.K t (.type T) = some b ∧ Q (.bl b) H):=by
 intro pins s σ H xs us Q I r h
 obtain ⟨x,T,t,b,rfl,ty,e,q⟩:=h
 obtain ⟨u,w',rfl,rx,ry⟩:=Ql4 r
 obtain rfl:w' = Value.type T:=ry
 exact Qs5 I rx ty e fun tk=>⟨.bl b,H,I.tok _,rfl,q⟩
noncomputable def Qjo:V → Bool
 | .bl b=>b
 | .int i=>i != 0
 | _=>false
noncomputable def Qj8:V → Bool
 | .bl _=>true
 | .int _=>true
 | .non=>true
 | _=>false
theorem Qol {A:Around} {s:Shared} {x:V} {v:Value} {Q:Bool → Shared → Prop} {E:Value → Shared → Prop} (r:RelV x v) (f:Qj8 x = true) (h:Q (Qjo x) s):wpAny (model X.prog X.w) A (truthy v) Q E s:=by
 cases x with
 | bl b=>cases r; exact wpAny_truthy_bool h
 | int i=>obtain ⟨t,rfl⟩:=r; exact truthy_int h
 | non=>cases r; exact truthy_none h
 | _=>exact absurd (show false = true from f) Bool.false_ne_true
theorem Qp9 {α:Type} (f:α → Bool) (d:α) (xs:List α):((List.range xs.length).all fun i=>f (xs.getD i d)) = xs.all f:=by
 rw [Bool.eq_iff_iff,List.all_eq_true,List.all_eq_true]
 constructor
 ·intro h x hx
  obtain ⟨i,hi,rfl⟩:=List.getElem_of_mem hx
  have:=h i (List.mem_range.mpr hi)
  rwa [List.getD_eq_getElem?_getD,List.getElem?_eq_getElem hi,Option.getD_some] at this
 ·intro h i hi
  have hi:=List.mem_range.mp hi
  rw [List.getD_eq_getElem?_getD,List.getElem?_eq_getElem hi,Option.getD_some]
  exact h _ (List.getElem_mem hi)
theorem Qqa {α:Type} (f:α → Bool) (d:α) (xs:List α):((List.range xs.length).any fun i=>f (xs.getD i d)) = xs.any f:=by
 rw [Bool.eq_iff_iff,List.any_eq_true,List.any_eq_true]
 constructor
 ·rintro ⟨i,hi,h⟩
  have hi:=List.mem_range.mp hi
  rw [List.getD_eq_getElem?_getD,List.getElem?_eq_getElem hi,Option.getD_some] at h
  exact ⟨_,List.getElem_mem hi,h⟩
 ·rintro ⟨x,hx,h⟩
  obtain ⟨i,hi,rfl⟩:=List.getElem_of_mem hx
  exact ⟨i,List.mem_range.mpr hi,by rw [List.getD_eq_getElem?_getD,List.getElem?_eq_getElem hi,Option.getD_some]; exact h⟩
theorem Qvi (hc:X.calm = true):CallR X (.builtin "all") (fun xs H Q=>∃ p ys,xs = [.ref p] ∧ SqL X.K H p ys ∧ ys.all Qj8 = true ∧ Q (.bl (ys.all Qjo)) H):=by
 intro pins s σ H xs us Q I r h
 obtain ⟨p,ys,rfl,hq,hf,q⟩:=h
 obtain ⟨u,rfl,rx⟩:=Qfs r
 cases rx
 obtain ⟨its,r',pl,hz⟩:=I.list hq
 have hlt:p < s.heap.objs.size:=by obtain ⟨_,e,_⟩:=pl.isList; exact Heap.lt_size e
 have hlen:=r'.length
 refine call_all_walk (wpAny_pyIter_list pl.isList ?_)
 refine ⟨s.heap.objs.size,[s.heap.objs.size,p],[s.heap.objs.size],its.toArray.size,_,_,fun i=>Qjo (ys.getD i .non),rfl,Walks.list (A:=X.A.in1) (I.ok.hd hc) _ p (Nat.ne_of_lt hlt) its.toArray,
  ⟨⟨_,Heap.get?_push_size _ rfl,rfl,rfl⟩,pl.isList.push _⟩,fun i v s' Q' E' hP hQ=>?_,fun h' tk hk=>?_⟩
 ·have hi:its[i]? = some v:=by simpa using hP
  have hy:∃ y,ys[i]? = some y:=by
   have:=(List.getElem?_eq_some_iff.mp hi).1
   exact ⟨ys[i],List.getElem?_eq_getElem (by omega)⟩
  obtain ⟨y,hy⟩:=hy
  obtain ⟨v',hv',rv⟩:=r'.get hy
  rw [hi] at hv'; cases hv'
  refine Qol (X:=X) rv (List.all_eq_true.mp hf y (List.mem_of_getElem? hy)) ?_
  have hQ:Q' (Qjo (ys.getD i V.non)) s':=hQ
  rw [List.getD_eq_getElem?_getD,hy,Option.getD_some] at hQ
  exact hQ
 ·rw [List.size_toArray,← hlen,Qp9]
  exact ⟨.bl _,H,I.kept fun b x e=>hk b x (fun hm=>by rw [List.mem_singleton.mp hm] at e; exact Nat.lt_irrefl _ (Heap.lt_size e)) (Heap.get?_push_of_some _ e),rfl,q⟩
theorem Qvj (hc:X.calm = true):CallR X (.builtin "any") (fun xs H Q=>∃ p ys,xs = [.ref p] ∧ SqL X.K H p ys ∧ ys.all Qj8 = true ∧ Q (.bl (ys.any Qjo)) H):=by
 intro pins s σ H xs us Q I r h
 obtain ⟨p,ys,rfl,hq,hf,q⟩:=h
 obtain ⟨u,rfl,rx⟩:=Qfs r
 cases rx
 obtain ⟨its,r',pl,hz⟩:=I.list hq
 have hlt:p < s.heap.objs.size:=by obtain ⟨_,e,_⟩:=pl.isList; exact Heap.lt_size e
 have hlen:=r'.length
 refine call_any_walk (wpAny_pyIter_list pl.isList ?_)
 refine ⟨s.heap.objs.size,[s.heap.objs.size,p],[s.heap.objs.size],its.toArray.size,_,_,fun i=>Qjo (ys.getD i .non),rfl,Walks.list (A:=X.A.in1) (I.ok.hd hc) _ p (Nat.ne_of_lt hlt) its.toArray,
  ⟨⟨_,Heap.get?_push_size _ rfl,rfl,rfl⟩,pl.isList.push _⟩,fun i v s' Q' E' hP hQ=>?_,fun h' tk hk=>?_⟩
 ·have hi:its[i]? = some v:=by simpa using hP
  have hy:∃ y,ys[i]? = some y:=by
   have:=(List.getElem?_eq_some_iff.mp hi).1
   exact ⟨ys[i],List.getElem?_eq_getElem (by omega)⟩
  obtain ⟨y,hy⟩:=hy
  obtain ⟨v',hv',rv⟩:=r'.get hy
  rw [hi] at hv'; cases hv'
  refine Qol (X:=X) rv (List.all_eq_true.mp hf y (List.mem_of_getElem? hy)) ?_
  have hQ:Q' (Qjo (ys.getD i V.non)) s':=hQ
  rw [List.getD_eq_getElem?_getD,hy,Option.getD_some] at hQ
  exact hQ
 ·rw [List.size_toArray,← hlen,Qqa]
  exact ⟨.bl _,H,I.kept fun b x e=>hk b x (fun hm=>by rw [List.mem_singleton.mp hm] at e; exact Nat.lt_irrefl _ (Heap.lt_size e)) (Heap.get?_push_of_some _ e),rfl,q⟩
theorem Qs9 (hc:X.calm = true):CallR X (.builtin "max") (fun xs H Q=>∃ (p:Addr) (ns:List Int),xs = [.ref p] ∧ SqL X.K H p (ns.map V.int) ∧ ns ≠ [] ∧ ∀ M,M ∈ ns → (∀ a ∈ ns,a ≤ M) → Q (.int M) H):=by
 intro pins s σ H xs us Q I r h
 obtain ⟨p,ns,rfl,hq,hne,q⟩:=h
 obtain ⟨u,rfl,rx⟩:=Qfs r
 cases rx
 obtain ⟨its,r',pl,hz⟩:=I.list hq
 have hi:IntsAre its ns:=Qe9 r'
 obtain ⟨xs,e⟩:=hi.allInts.items
 have hns:ns = xs.toList.map (·.1):=by rw [← hi.numsOf,← nums_intItems,← e]
 have hsz:0 < xs.size:=by
  have h3:0 < ns.length:=List.length_pos_iff.mpr hne
  rw [hns,List.length_map,Array.length_toList] at h3; exact h3
 have hl:=pl.isList
 rw [e] at hl
 refine max_intList (I.ok.hd hc) hl hsz fun v h' tk hv hk=>?_
 obtain ⟨t,rfl⟩:=intItems_at hv
 obtain ⟨h1,h2⟩:=argBest_gt (numAt xs) (xs.size - 1)
 refine ⟨.int _,H,I.kept hk,⟨t,rfl⟩,q _ ?_ fun a ha=>?_⟩
 ·rw [hns,numAt_eq]; exact getD_mem (by rw [List.length_map,Array.length_toList]; omega)
 ·rw [hns] at ha
  obtain ⟨j,hj,rfl⟩:=mem_getD ha
  rw [List.length_map,Array.length_toList] at hj
  rw [← numAt_eq]; exact h2 j (by omega)
theorem Qta (hc:X.calm = true):CallR X (.builtin "min") (fun xs H Q=>∃ (p:Addr) (ns:List Int),xs = [.ref p] ∧ SqL X.K H p (ns.map V.int) ∧ ns ≠ [] ∧ ∀ M,M ∈ ns → (∀ a ∈ ns,M ≤ a) → Q (.int M) H):=by
 intro pins s σ H xs us Q I r h
 obtain ⟨p,ns,rfl,hq,hne,q⟩:=h
 obtain ⟨u,rfl,rx⟩:=Qfs r
 cases rx
 obtain ⟨its,r',pl,hz⟩:=I.list hq
 have hi:IntsAre its ns:=Qe9 r'
 obtain ⟨xs,e⟩:=hi.allInts.items
 have hns:ns = xs.toList.map (·.1):=by rw [← hi.numsOf,← nums_intItems,← e]
 have hsz:0 < xs.size:=by
  have h3:0 < ns.length:=List.length_pos_iff.mpr hne
  rw [hns,List.length_map,Array.length_toList] at h3; exact h3
 have hl:=pl.isList
 rw [e] at hl
 refine min_intList (I.ok.hd hc) hl hsz fun v h' tk hv hk=>?_
 obtain ⟨t,rfl⟩:=intItems_at hv
 obtain ⟨h1,h2⟩:=argBest_lt (numAt xs) (xs.size - 1)
 refine ⟨.int _,H,I.kept hk,⟨t,rfl⟩,q _ ?_ fun a ha=>?_⟩
 ·rw [hns,numAt_eq]; exact getD_mem (by rw [List.length_map,Array.length_toList]; omega)
 ·rw [hns] at ha
  obtain ⟨j,hj,rfl⟩:=mem_getD ha
  rw [List.length_map,Array.length_toList] at hj
  rw [← numAt_eq]; exact h2 j (by omega)
end
open PySem.AutoSeq1 (wpAny_loadPart')
theorem Same.upd {H:Hp} {a:Addr} {o:HO} (h:H a = none):Same H (upd H a o):=fun b u e=>by rw [Qv (Qa2 e h)]; exact e
theorem Qjp (r:Addr) (a b x:Int) (t u v z:Tok) :
  Meets (Builtin.«range.__contains__» ⟨[.ref r,.int x z],[]⟩) (fun _ R s=>s.heap.get? r = some { cls:=.type "range",data:=.fields #[.int a t,.int b u,.int 1 v] } ∧ R (.ok (.ret (.bool (Builtin.Range.rangePlace? a b 1 x).isSome))) s) :=
 .of_wp fun prog w A R s h=>by
  obtain ⟨hp,g,d,tk,os⟩:=s; obtain ⟨hl,h⟩:=h
  wp_walk using wpAny_loadPart' hl
  exact ⟨_,rfl,h⟩
theorem Qm9 (l:Addr) (items:Array Value) (n:Nat) (b:Addr) (items2:Array Value) (n2:Nat) (dd:Option Addr) (sl:Array (Option Value)) (hs0:¬(!items.isEmpty && Builtin.List.listTooLong (items.size + items2.size)) = true) (hs1:items.size ≤ sizeLine) (hs2:items.size + items2.size ≤ sizeLine + 1) :
  Meets (Builtin.«list.extend» ⟨[.ref l,.ref b],[]⟩) (fun _ R s=>s.heap.get? l = some { cls:=.type "list",dict:=none,data:=.seq items n,slots:=#[] } ∧ s.heap.get? b = some { cls:=.type "tuple",dict:=dd,data:=.seq items2 n2,slots:=sl } ∧ R (.ok (.ret Value.none)) { s with heap:=s.heap.update l (Obj.mapSeq fun x=>x ++ items2),toks:=s.toks }) :=
 .of_wp fun prog w A R s h=>by
  obtain ⟨hp,g,d,tk,os⟩:=s; obtain ⟨hl,hb,h⟩:=h; have f1:=AutoSeq1.idx_int; have f2:=AutoSeq1.sub_tuple_tuple; have f3:=AutoSeq1.sub_list_list; have f4:=AutoSeq1.sub_tuple_list; have f5:=AutoSeq1.sub_list_tuple
  have hz':(items ++ items2).size ≤ sizeLine + 1:=by rw [Array.size_append]; exact hs2
  wp_walk using (wpAny_updateSeq hl rfl (hz:=hs1) (_hz':=hz')),wpAny_loadPart' hl,wpAny_loadPart' hb; exact ⟨_,rfl,h⟩
theorem Qqb (l:Addr) (items:Array Value) (n:Nat) (x:Int) (u:Tok) (dd:Option Addr) (sl:Array (Option Value)) (h0:¬ (x < -(2 ^ 63) || x ≥ 2 ^ 63) = true) (h1:¬ (items.isEmpty || x == 1) = true) (h2:¬ (x ≤ 0 || items.isEmpty) = true) (h3:¬ items.size * x > (2 ^ 63 - 1) / 8) (h4:¬ Builtin.Tuple.tupleTooMany (items.size * x) = true)
  (hz:(List.foldl (fun x1 x2=>x1 ++ x2) #[] (List.replicate x.toNat items)).size ≤ sizeLine) :
  Meets (Builtin.«tuple.__mul__» ⟨[.ref l,.int x u],[]⟩) (fun _ R s=>s.heap.get? l = some { cls:=.type "tuple",dict:=dd,data:=.seq items n,slots:=sl } ∧ R (.ok (.ret (Value.ref s.heap.objs.size))) { s with heap:=s.heap.push { cls:=Value.type "tuple",data:=Data.seq (List.foldl (fun x1 x2=>x1 ++ x2) #[] (List.replicate x.toNat items)) },toks:=s.toks }) :=
 .of_wp fun prog w A R s h=>by
  obtain ⟨hp,g,d,tk,os⟩:=s; obtain ⟨hl,h⟩:=h; have f1:=AutoSeq1.idx_int
  wp_walk using wpAny_loadPart' hl
  rw [if_neg h0]
  wp_walk using wpAny_loadPart' hl
  rw [if_neg h3]
  wp_walk using wpAny_loadPart' hl
  exact ⟨_,rfl,h⟩
theorem Qom (l:Addr) (items:Array Value) (n:Nat) (x:Int) (u:Tok) (dd:Option Addr) (sl:Array (Option Value)) (h0:¬ (x < -(2 ^ 63) || x ≥ 2 ^ 63) = true) (h1:(items.isEmpty || x == 1) = true) :
  Meets (Builtin.«tuple.__mul__» ⟨[.ref l,.int x u],[]⟩) (fun _ R s=>s.heap.get? l = some { cls:=.type "tuple",dict:=dd,data:=.seq items n,slots:=sl } ∧ R (.ok (.ret (Value.ref l))) s) :=
 .of_wp fun prog w A R s h=>by
  obtain ⟨hp,g,d,tk,os⟩:=s; obtain ⟨hl,h⟩:=h; have f1:=AutoSeq1.idx_int
  wp_walk using wpAny_loadPart' hl
  rw [if_neg h0]
  wp_walk using wpAny_loadPart' hl
  exact ⟨_,rfl,h⟩
theorem Qj9 (a:Int) (t:Tok) (l:Addr) (items:Array Value) (n:Nat) (dd:Option Addr) (sl:Array (Option Value)) :
  Meets (Builtin.«int.__rmul__» ⟨[.int a t,.ref l],[]⟩) (fun _ R s=>s.heap.get? l = some { cls:=.type "tuple",dict:=dd,data:=.seq items n,slots:=sl } ∧ R (.ok (.ret Value.notImplemented)) s) :=
 .of_wp fun prog w A R s h=>by obtain ⟨hp,g,d,tk,os⟩:=s; obtain ⟨hl,h⟩:=h; wp_walk; exact ⟨_,rfl,h⟩
theorem Qiq:fillsNumberSlot (.type "tuple") "mul" = pure false :=
 PySem.fillsNumberSlot_seq (id := "tuple.__mul__") (r:=some (.builtin "tuple.__rmul__")) F.slot_tuple_mul.lookup (by decide +kernel) F.slot_tuple_rmul.lookup (by decide +kernel)
theorem Qna:seqRepeat? (.type "tuple") = pure (some (.builtin "tuple.__mul__")):=by
 unfold seqRepeat?
 rw [PySem.seqSlot_of (T := "tuple") (name := "__mul__") (id := "tuple.__mul__") F.slot_tuple_mul.lookup (by decide +kernel),PySem.seqSlot_of (T := "tuple") (name := "__rmul__") (id := "tuple.__rmul__") F.slot_tuple_rmul.lookup (by decide +kernel)]
 rfl
section
variable {X:Cx}
theorem Qnb:CallR X (.type "range") (fun xs H Q=>∃ i j:Int,xs = [.int i,.int j] ∧ ∀ p,H p = none → Q (.ref p) (upd H p (.rng i j))):=by
 intro pins s σ H xs us Q I r h
 obtain ⟨i,j,rfl,q⟩:=h
 obtain ⟨u,w',rfl,⟨t,rfl⟩,⟨t',rfl⟩⟩:=Ql4 r
 refine call_range_2 ⟨.ref s.heap.objs.size,_,I.laid (o:=.rng i j) (fun b o e=>Heap.get?_push_of_some _ e) (Nat.le_refl _) ?_,rfl,q _ I.fresh⟩
 exact ⟨_,_,_,Heap.get?_push_size _ rfl⟩
theorem Qtb (a b x:Int):(Builtin.Range.rangePlace? a b 1 x).isSome = decide (a ≤ x ∧ x < b):=by
 unfold Builtin.Range.rangePlace?
 simp only [show (1:Int) > 0 by decide,if_true,Int.emod_one,beq_self_eq_true,Bool.and_true]
 by_cases h:a ≤ x ∧ x < b
 ·rw [decide_eq_true h,if_pos (by simp [h.1,h.2])]; rfl
 ·rw [decide_eq_false h,if_neg (by simpa using h)]; rfl
noncomputable def Q7u (neg:Bool):R2:=fun x y H Q=>∃ i p a b,x = .int i ∧ y = .ref p ∧ H p = some (.rng a b) ∧ Q (.bl (if neg then !decide (a ≤ i ∧ i < b) else decide (a ≤ i ∧ i < b))) H
theorem Qtc:OpR X (compareOp .NotIn) (Q7u true):=by
 intro pins s σ H x y v u Q I rx ry h
 obtain ⟨i,p,a,b,rfl,rfl,hp,q⟩:=h
 obtain ⟨t,rfl⟩:=rx
 cases ry
 obtain ⟨t1,t2,t3,e⟩:=I.hok p _ hp
 refine PySem.SeqRoads2.notIn_meets ⟨_,e,rfl⟩ F.slot_range_contains F.entry_range_contains (F.args_range_contains_2 _ _) (Qjp p a b i t1 t2 t3 t) ⟨e,_,rfl,?_⟩
 rw [Qtb]
 exact ⟨.bl _,H,I,rfl,q⟩
noncomputable def Qf2 (K:PySem.W.Frag):V → List V → Hp → VK → Prop:=fun x vs H Q=>∃ l b xs zs,x = .ref l ∧ vs = [.ref b] ∧ H l = some (.lst xs) ∧ SqT K H b zs ∧ xs.length + zs.length ≤ sizeLine ∧ Q .non (upd H l (.lst (xs ++ zs)))
theorem Qqc:MtM X "list.extend" (Qf2 X.K):=by
 intro pins s σ H x vs v us Q I rx rv h
 obtain ⟨l,b,xs,zs,rfl,rfl,hH,hB,hz,q⟩:=h
 cases rx
 obtain ⟨u,rfl,ru⟩:=rv.one
 cases ru
 obtain ⟨z,its,n,r,hl,e⟩:=I.lstM hH
 obtain ⟨its2,r2,⟨⟨cls,dd,data,sl⟩,e2,hc,n2,hd⟩,_⟩:=I.tuple hB
 simp only at hc hd
 subst hc hd
 have hl2:=r2.length
 have hsz:its.toArray.size + its2.toArray.size ≤ sizeLine:=by rw [List.size_toArray,List.size_toArray]; omega
 have hlong:¬ (!its.toArray.isEmpty && Builtin.List.listTooLong (its.toArray.size + its2.toArray.size)) = true:=by
  rw [Qj6 hsz,Bool.and_false]
  exact Bool.false_ne_true
 refine call_meets F.slot_list_extend ⟨_,e,rfl⟩ F.entry_list_extend (F.args_list_extend_2 _ _)
  (Qm9 l its.toArray n b its2.toArray n2 dd sl hlong (by rw [List.size_toArray]; omega) (by omega)) ⟨e,e2,?_⟩
 refine ⟨.non,_,I.lset (its':=its ++ its2) hH e (by simp) (r.append r2) ?_,rfl,q⟩
 rw [List.length_append]
 omega
noncomputable def Q1k (K:PySem.W.Frag):R2:=fun x y H Q=>∃ a b xs ys,x = .ref a ∧ y = .ref b ∧ H a = some (.tup xs) ∧ H b = some (.tup ys) ∧ xs.length + ys.length ≤ sizeLine ∧ ∀ p H',Same H H' → H' p = some (.tup (xs ++ ys)) → (p = a ∨ p = b ∨ H p = none) → Q (.ref p) H'
theorem Qy9:OpR X (binaryOp .Add) (Q1k X.K):=by
 intro pins s σ H x y v u Q I rx ry h
 obtain ⟨a,b,xs,ys,rfl,rfl,ha,hb,hz,q⟩:=h
 by_cases hx:xs = []
 ·cases rx
  cases ry
  subst hx
  obtain ⟨its,r1,⟨⟨cls,dd,data,sl⟩,e1,hc,n,hd⟩,_⟩:=I.tuple (SqT.of ha)
  obtain ⟨its2,r2,⟨⟨cls2,dd2,data2,sl2⟩,e2,hc2,n2,hd2⟩,_⟩:=I.tuple (SqT.of hb)
  simp only at hc hd hc2 hd2
  subst hc hd hc2 hd2
  cases r1
  exact concat_meets ⟨_,e1,rfl⟩ ⟨_,e2,rfl⟩ noFill_tuple_add seq_tuple_add PySem.F.slot_tuple_add PySem.F.entry_tuple_add (PySem.F.args_tuple_add_2 _ _)
   (tuple_addW0 a b _ _ n n2 dd dd2 sl sl2 rfl) ⟨e1,e2,⟨.ref b,H,I,rfl,q b H (Same.refl H) hb (.inr (.inl rfl))⟩⟩
 ·refine Qyz pins s σ H _ _ v u Q I rx ry ⟨a,b,xs,ys,rfl,rfl,SqT.of ha,SqT.of hb,hx,hz,fun e=>q a H (Same.refl H) (by rw [ha,e,List.append_nil]) (.inl rfl),fun _ p hp=>q p _ (Same.upd hp) Qi (.inr (.inr hp))⟩
noncomputable def Q7v (K:PySem.W.Frag):V → Option Int → Option Int → Hp → VK → Prop:=fun x lo hi H Q=>∃ a xs,x = .ref a ∧ H a = some (.tup xs) ∧ ∀ p H',Same H H' → H' p = some (.tup (Qf0 xs lo hi)) → (p = a ∨ H p = none) → Q (.ref p) H'
theorem Qza:SlR X (Q7v X.K):=by
 intro pins s σ H x v vl vu lo hi sl Q I rx hs pl pu h
 obtain ⟨a,xs,rfl,hx,q⟩:=h
 by_cases hw:HT.sIx xs.length 0 lo = 0 ∧ HT.sIx xs.length xs.length hi = xs.length
 ·cases rx
  obtain ⟨its,r,ht,hz⟩:=I.tuple (SqT.of (K:=X.K) hx)
  have hlen:its.toArray.size = xs.length:=by rw [List.size_toArray]; exact r.length.symm
  refine ⟨"tuple",_,PyProof.Rows.slot_tuple_getitem.lookup,ht.typeIs,?_⟩
  have hcut:Qf0 xs lo hi = xs:=by
   unfold Qf0
   rw [hw.1,hw.2,List.drop_zero,Nat.sub_zero,List.take_length]
  obtain ⟨os,hos,hcs,hds⟩:=id hs
  have hTs:s.TypeIs (.ref sl) "slice" := ⟨os,hos,hcs⟩
  unfold getItem
  try with_reducible refine wpAny_holding ?_
  first | refine wpAny_bind (wpAny_pure ?_) | skip
  refine wpAny_bind (wpAny_sequenceKey ht.typeIs (by decide) ?_)
  refine wpAny_bind (wpAny_callSpecial?_slot (name:=Str.ofString "__getitem__") ht.typeIs PyProof.Rows.slot_tuple_getitem
   (wpAny_call_entry PyProof.Rows.slot_tuple_getitem ht.typeIs entry_tuple_getitem ?_ (args_tuple_getitem _ _)))
  show wpAny _ _ (Builtin.Tuple.tupleItemsOf (.ref a) >>= _) _ _ s
  refine wpAny_bind (tupleItemsOf_ ht ?_)
  refine wpAny_bind (wpAny_typeOf hTs ?_)
  rw [if_pos (by decide)]
  refine wpAny_bind (HT.sliceApplied_gen hs pl pu ?_)
  rw [hlen,hw.1,hw.2]
  show wpAny _ _ (if ((((0:Nat):Int) == 0 && (1:Int) == 1 && (xs.length - 0) == xs.length) = true) then _ else _) _ _ s
  rw [if_pos (by simp)]
  have fin:EP X pins σ Q (.ref a) s:=⟨.ref a,H,I,rfl,q a H (Same.refl H) (by rw [hcut]; exact hx) (.inl rfl)⟩
  refine wpAny_bind (wpAny_bind (wpAny_typeOf ht.typeIs (wpAny_pure ?_)))
  rw [if_pos (by decide)]
  exact wpAny_bind (wpAny_rule (wpAny_pure ⟨_,rfl,wpAny_pure fin⟩))
 ·exact Q3o pins s σ H _ v vl vu lo hi sl Q I rx hs pl pu ⟨a,xs,rfl,SqT.of hx,hw,fun p hp=>q p _ (Same.upd hp) Qi (.inr hp)⟩
end
open PySem.AutoSeq1 (wpAny_loadPart')
section
variable {X:Cx}
noncomputable def Q1l:R2:=fun x y H Q=>∃ a k xs,x = .ref a ∧ y = .int k ∧ H a = some (.tup xs) ∧ xs ≠ [] ∧ 1 ≤ k ∧ k < 2 ^ 31 ∧ xs.length * k.toNat ≤ sizeLine ∧ ∀ p H',Same H H' → H' p = some (.tup (List.replicate k.toNat xs).flatten) → (p = a ∨ H p = none) → Q (.ref p) H'
theorem Qzb:OpR X (binaryOp .Mult) Q1l:=by
 intro pins s σ H x y v u Q I rx ry h
 obtain ⟨a,k,xs,rfl,rfl,hH,hne,h1,h2,hz,q⟩:=h
 cases rx
 obtain ⟨t,rfl⟩:=ry
 obtain ⟨its,r,⟨⟨cls,dd,data,sl⟩,e,hc,n,hd⟩,_⟩:=I.tuple (SqT.of (K:=X.K) hH)
 simp only at hc hd
 subst hc hd
 have hl:=r.length
 have hn0:its ≠ []:=fun z=>hne (r.nil_iff.mp z)
 have hem:its.toArray.isEmpty = false:=by
  cases its with
  | nil=>exact absurd rfl hn0
  | cons _ _=>rfl
 have h0:¬ (decide (k < -(2 ^ 63)) || decide (k ≥ 2 ^ 63)) = true:=by
  simp only [Bool.or_eq_true,decide_eq_true_eq]
  omega
 refine wpAny_binaryOp_repeat_ref (T := "tuple") (U := "int") (by decide) ⟨_,e,rfl⟩ (fun s'=>typeIs_int s' k t) Qiq F.fills_int_mul F.slot_int_rmul Qna F.slot_int_index.lookup
  (call_meets F.slot_int_rmul (typeIs_int s k t) F.entry_int_rmul (F.args_int_rmul_2 _ _) (Qj9 k t a its.toArray n dd sl) ⟨e,rfl,⟨_,e,rfl⟩,?_⟩)
 by_cases hk:k = 1
 ·subst hk
  refine call_meets F.slot_tuple_mul ⟨_,e,rfl⟩ F.entry_tuple_mul (F.args_tuple_mul_2 _ _) (Qom a its.toArray n 1 t dd sl h0 (by simp)) ⟨e,?_⟩
  exact ⟨.ref a,H,I,rfl,q a H (Same.refl H) (by rw [hH]; simp) (.inl rfl)⟩
 ·have hlen:its.toArray.size * k.toNat ≤ sizeLine:=by rw [List.size_toArray,← hl]; exact hz
  have hki:(its.toArray.size:Int) * k = ((its.toArray.size * k.toNat:Nat):Int):=by
   rw [Int.natCast_mul,Int.toNat_of_nonneg (by omega)]
  have hs:sizeLine = 16777216:=sizeLine_eq
  have hnew:List.foldl (fun x1 x2=>x1 ++ x2) #[] (List.replicate k.toNat its.toArray) = (List.replicate k.toNat its).flatten.toArray:=by
   have:=Qin its k.toNat []
   rw [List.nil_append] at this
   exact this
  refine call_meets F.slot_tuple_mul ⟨_,e,rfl⟩ F.entry_tuple_mul (F.args_tuple_mul_2 _ _) (Qqb a its.toArray n k t dd sl h0 (by rw [hem]; simpa using hk) (by rw [hem]; simp; omega)
   (by rw [hki]; omega) (by rw [hki]; unfold Builtin.Tuple.tupleTooMany; rw [decide_eq_true_eq]; omega) (by rw [hnew,List.size_toArray,Qht,← hl,Nat.mul_comm]; exact hz)) ⟨e,?_⟩
  rw [hnew]
  have I2:Inv X pins σ (upd H s.heap.objs.size (.tup (List.replicate k.toNat xs).flatten)) { s with heap:=s.heap.push { cls:=.type "tuple",data:=.seq (List.replicate k.toNat its).flatten.toArray },toks:=s.toks } :=
   I.laid (fun b o e=>Heap.get?_push_of_some _ e) (Nat.le_refl _) ⟨by rw [Qht,Nat.mul_comm]; exact hz,_,r.rep k.toNat,IsTupD.new _ _⟩
  exact ⟨.ref _,_,I2,rfl,q _ _ (Same.upd I.fresh) Qi (.inr I.fresh)⟩
end
section
variable {X:Cx}
theorem Qtd {j:Int} (h0:0 < j) (h:j < 2 ^ 64):j.natAbs.log2 < 9000:=by
 have h1:j.natAbs ≠ 0:=by omega
 have h2:j.natAbs.log2 < 64:=(Nat.log2_lt h1).mpr (by omega)
 omega
noncomputable def CDv (i j:Int):Prop:=0 < j ∧ j < 2 ^ 64
theorem Qvk:CallR X (.builtin "divmod") (fun xs H Q=>∃ i j,xs = [.int i,.int j] ∧ CDv i j ∧ ∀ p,H p = none → Q (.ref p) (upd H p (.tup [.int (i / j),.int (i % j)]))):=by
 intro pins s σ H xs us Q I r h
 obtain ⟨i,j,rfl,⟨h1,h2⟩,q⟩:=h
 obtain ⟨u,w',rfl,⟨t,rfl⟩,⟨t',rfl⟩⟩:=Ql4 r
 refine divmod_int (by omega) ?_ (.inl (PyProof.noPylong_of_log2 (Qtd h1 h2)))
 rw [Int.fdiv_eq_ediv_of_nonneg i (by omega),Int.fmod_eq_emod_of_nonneg i (by omega)]
 have hn:H s.heap.objs.size = none:=I.hok.fresh (Nat.le_refl _)
 refine ⟨.ref s.heap.objs.size,_,?_,rfl,q _ hn⟩
 refine I.laid (fun b o e=>Heap.get?_push_of_some _ e) (Nat.le_refl _) ⟨by simp only [List.length_cons,List.length_nil]; rw [sizeLine_eq]; decide,[.int (i / j) s.toks,.int (i % j) (s.toks + 1)],.cons ⟨_,rfl⟩ (.cons ⟨_,rfl⟩ .nil),?_⟩
 exact ⟨_,Heap.get?_push_size s.heap rfl,rfl,0,rfl,rfl⟩
noncomputable def Qma (K:PySem.W.Frag):R2:=fun x y H Q=>(rI0 fun i j=>.int (i + j)) x y H Q ∨ Q7k x y H Q ∨ Q1k K x y H Q
theorem uAdd:OpR X (binaryOp .Add) (Qma X.K):=Q3h.or (Q3t.or Qy9)
noncomputable def Q1m:R2:=fun x y H Q=>(rI CMul fun i j=>.int (i * j)) x y H Q ∨ Q7l x y H Q ∨ Q1l x y H Q
theorem uMul:OpR X (binaryOp .Mult) Q1m:=Q3j.or (Q3u.or Qzb)
noncomputable abbrev Qte (K:PySem.W.Frag) (tl:TE):TI:=fun σ H R=>tl σ H fun x H1=>∃ a,x = .ref a ∧ (((∃ xs,SqL K H1 a xs) ∧ R (Itl K a) H1) ∨ ((∃ xs,SqT K H1 a xs) ∧ R (Itt K a) H1))
theorem Q3x {tg l:Expr} {tl:TE} (hl:PE X l tl):PI X tg l (Qte X.K tl):=by
 intro pins s σ H R I h
 refine thn (hl pins s σ H _ I h) fun v s1 ⟨x,H1,I1,r1,q1⟩=>?_
 obtain ⟨a,e,q⟩:=q1
 subst e
 cases r1
 rcases q with ⟨⟨xs,hq⟩,q⟩ | ⟨⟨xs,hq⟩,q⟩
 ·obtain ⟨its,rv,p,hz⟩:=I1.list hq
  refine wpAny_pyIter_list p.isList ?_
  refine ⟨s1.heap.objs.size,[s1.heap.objs.size],_,_,H1,rfl,I1.kept (t':=s1.toks) fun b o e=>Heap.get?_push_of_some _ e,Qsx a _,⟨_,Heap.get?_push_size _ rfl,rfl,rfl⟩,fun b hb=>?_,q⟩
  have e:b = s1.heap.objs.size:=by simpa using hb
  subst e
  exact I1.fpOk (Nat.le_refl _) (I1.hok.fresh (Nat.le_refl _))
 ·obtain ⟨its,rv,p,hz⟩:=I1.tuple hq
  refine wpAny_pyIter_tuple (show s1.heap.IsTuple a its.toArray from p) ?_
  refine ⟨s1.heap.objs.size,[s1.heap.objs.size],_,_,H1,rfl,I1.kept (t':=s1.toks) fun b o e=>Heap.get?_push_of_some _ e,Qp2 a _,⟨_,Heap.get?_push_size _ rfl,rfl,rfl⟩,fun b hb=>?_,q⟩
  have e:b = s1.heap.objs.size:=by simpa using hb
  subst e
  exact I1.fpOk (Nat.le_refl _) (I1.hok.fresh (Nat.le_refl _))
noncomputable def Qvl (K:PySem.W.Frag):V → Option Int → Option Int → Hp → VK → Prop:=fun x lo hi H Q=>Q7i K x lo hi H Q ∨ Q7v K x lo hi H Q
theorem uSl:SlR X (Qvl X.K):=Qy1.or Qza
end
structure Dfn (K:PySem.W.Frag) (mg:Str → Option Value) (x:Str) (st:Stmt):Prop where
 ex:∃ f fd,Fun K x x st f fd ∧ mg x = some (.ref f)
noncomputable def Has (P:Program) (w:World) (K:PySem.W.Frag) (mg:Str → Option Value) (base:Heap) (x:Str) (ps:List Str) (k:Nat) (sp:Sp):Prop :=
 ∃ f fd,PySem.W.keepIn K (.ref f) = true ∧ mg x = some (.ref f) ∧ Binds K fd ps [] ∧ FnOk P w K mg base CX0 k f fd ps sp
noncomputable def Qab (x:Str) (st:Stmt) (ps:List Str):Prop:=∀ (kV doc pm:Value) (an:Option Addr) (cdv ct:Value) (us:List Value),us.length = ps.length → bindArgs (PySem.W.fnOf x x (Qam st) (Q0 st) (Qd st) .none kV doc pm an cdv ct) ⟨us,[]⟩ = pure (ps.zip us)
section
variable {P:Program} {w:World} {K:PySem.W.Frag} {mg:Str → Option Value} {base:Heap}
theorem Q3y {x:Str} {st:Stmt} {N ps:List Str} {k:Nat} {sp:Sp} (d:Dfn K mg x st) (S:FnScope N ps (Qd st)) (bd:Qab x st ps) (len:∀ vs H Q E,sp vs H Q E → vs.length = ps.length)
  (hbody:∀ (f:Addr) (cdv:Value) (A:Around) (outer:List Env) (s:Shared) (H:Hp) (vs:List V) (Q:VK) (E:XK),Room k (A.deeper (envOfC x (Qd st) s.heap.objs.size f cdv)) → sp vs H Q E →
   ∃ t,PSs (Qeo (fun _=>true) CX0 P w K mg base N x (Qd st) f cdv A outer s H E).nox (Q0 st) t ∧ t { nx:=fun _ H'=>Q .non H',rt:=Q } (Qa3 N vs) H):Has P w K mg base x ps (k + 1) sp:=by
 obtain ⟨f,fd,F,m⟩:=d.ex
 exact ⟨f,fd,F.kp,m,F.binds bd,F.ok S len fun cdv A outer s H vs Q E hr hs=>hbody f cdv A outer s H vs Q E hr hs⟩
end
theorem Qvm {X:Cx} {x:Str} {ps:List Str} {k:Nat} {sp:Sp} {e:Expr} {es:List Expr} {t:TA} {p pos:Pos} (h:Has X.prog X.w X.K X.mg X.base x ps k sp) (hr:Room k X.A) (ha:PA X (e :: es) t) (hg:Gl X x:=by rfl)
  (hdb:(x == ("__debug__" : Str)) = false:=by decide) (he:starEach (e :: es) X.env = (false,eval e X.env) :: starEach es X.env:=by rfl) (hpl:(backTo pos (starEach es X.env)).any (·.1) = false:=by rfl) :
  PE X (.Call (.Name x p) (e :: es) [] pos) (Qj5 sp [] E0 t):=by
 obtain ⟨f,fd,kp,m,b,F⟩:=h
 exact Qyx F hr hg m kp b .nil Q7m ha hdb he hpl
inductive T where
 | non | bl (b:Bool) | int (i:Int) | str (x:Str) | tup (ts:List T) | lst (ts:List T) | dct (ks:List Key) (ts:List T) | dtt (ks:List (List Int)) (ts:List T) | clo (k:Nat) (ts:List T)
noncomputable def kIs (ks:List Int):List Key:=ks.map Sum.inl
noncomputable def CellsAt (H:Hp):List Addr → List V → Prop
 | [],vs=>vs = []
 | c :: cs,vs=>∃ v r oc u w,vs = v :: r ∧ H c = some (.frz oc w) ∧ oc.data = .cell (some u) ∧ RelV v u ∧ CellsAt H cs r
noncomputable def CloAt (H:Hp) (f:Addr) (l:LamT) (us:List V):Prop:=∃ cs c' pm ctv,cs.Nodup ∧ cs.length = l.caps.length ∧ H f = some (.frz (PySem.W.kla_obj "<lambda>" l.qual l.params l.body l.scope (l.caps.zip cs) pm c' ctv) (.own f)) ∧ H c' = some (.cod l.qual) ∧ CellsAt H cs us
theorem CellsAt.mono {H H':Hp} (h:Same H H'):∀ {cs:List Addr} {vs:List V},CellsAt H cs vs → CellsAt H' cs vs
 | [],_,r=>r
 | c :: cs,_,r=>by
  obtain ⟨v,w,oc,u,w',e,a,b,d,q⟩:=r
  exact ⟨v,w,oc,u,w',e,h _ _ a,b,d,CellsAt.mono h q⟩
theorem CloAt.mono {H H':Hp} (h:Same H H') {f:Addr} {l:LamT} {us:List V} (r:CloAt H f l us):CloAt H' f l us:=by
 obtain ⟨cs,c',pm,ctv,a,b,c,d,e⟩:=r
 exact ⟨cs,c',pm,ctv,a,b,h _ _ c,h _ _ d,e.mono h⟩
mutual
noncomputable def Is (H:Hp):V → T → Prop
 | v,.non=>v = .non
 | v,.bl b=>v = .bl b
 | v,.int i=>v = .int i
 | v,.str x=>v = .str x
 | v,.tup ts=>ts.length ≤ 100000 ∧ ∃ a vs,v = .ref a ∧ H a = some (.tup vs) ∧ IsL H vs ts
 | v,.lst ts=>ts.length ≤ 100000 ∧ ∃ a vs,v = .ref a ∧ H a = some (.lst vs) ∧ IsL H vs ts
 | v,.dct ks ts=>∃ a vs,v = .ref a ∧ H a = some (.dK (ks.zip vs)) ∧ ks.length = vs.length ∧ IsL H vs ts
 | v,.dtt ks ts=>ks.length ≤ 100000 ∧ ∃ a vs,v = .ref a ∧ H a = some (.dT ((ks.map kIs).zip vs)) ∧ ks.length = vs.length ∧ IsL H vs ts
 | v,.clo k ts=>∃ f us l,v = .ref f ∧ Qvc.lookup k = some l ∧ CloAt H f l us ∧ IsL H us ts
noncomputable def IsL (H:Hp):List V → List T → Prop
 | vs,[]=>vs = []
 | vs,t :: ts=>∃ v r,vs = v :: r ∧ Is H v t ∧ IsL H r ts
end
mutual
theorem Is.mono {H H':Hp} (h:Same H H'):∀ {v:V} {t:T},Is H v t → Is H' v t
 | v,.non,r=>by unfold Is at r ⊢; exact r
 | v,.bl b,r=>by unfold Is at r ⊢; exact r
 | v,.int i,r=>by unfold Is at r ⊢; exact r
 | v,.str x,r=>by unfold Is at r ⊢; exact r
 | v,.tup ts,r=>by
  unfold Is at r ⊢
  obtain ⟨z,a,vs,e,ha,q⟩:=r
  exact ⟨z,a,vs,e,h _ _ ha,IsL.mono h q⟩
 | v,.lst ts,r=>by
  unfold Is at r ⊢
  obtain ⟨z,a,vs,e,ha,q⟩:=r
  exact ⟨z,a,vs,e,h _ _ ha,IsL.mono h q⟩
 | v,.dct ks ts,r=>by
  unfold Is at r ⊢
  obtain ⟨a,vs,e,ha,l,q⟩:=r
  exact ⟨a,vs,e,h _ _ ha,l,IsL.mono h q⟩
 | v,.dtt ks ts,r=>by
  unfold Is at r ⊢
  obtain ⟨z,a,vs,e,ha,l,q⟩:=r
  exact ⟨z,a,vs,e,h _ _ ha,l,IsL.mono h q⟩
 | v,.clo l ts,r=>by
  unfold Is at r ⊢
  obtain ⟨f,us,l,e,k,c,q⟩:=r
  exact ⟨f,us,l,e,k,c.mono h,IsL.mono h q⟩
theorem IsL.mono {H H':Hp} (h:Same H H'):∀ {vs:List V} {ts:List T},IsL H vs ts → IsL H' vs ts
 | vs,[],r=>by unfold IsL at r ⊢; exact r
 | vs,t :: ts,r=>by
  unfold IsL at r ⊢
  obtain ⟨v,w,e,a,b⟩:=r
  exact ⟨v,w,e,Is.mono h a,IsL.mono h b⟩
end
theorem IsL.nil {H:Hp}:IsL H [] []:=by unfold IsL; rfl
theorem IsL.cons {H:Hp} {v:V} {t:T} {vs:List V} {ts:List T} (a:Is H v t) (b:IsL H vs ts):IsL H (v :: vs) (t :: ts):=by unfold IsL; exact ⟨v,vs,rfl,a,b⟩
theorem IsL.cons_inv {H:Hp} {vs:List V} {t:T} {ts:List T} (r:IsL H vs (t :: ts)):∃ v w,vs = v :: w ∧ Is H v t ∧ IsL H w ts:=by unfold IsL at r; exact r
theorem IsL.nil_inv {H:Hp} {vs:List V} (r:IsL H vs []):vs = []:=by unfold IsL at r; exact r
theorem IsL.length {H:Hp}:∀ {ts:List T} {vs:List V},IsL H vs ts → vs.length = ts.length
 | [],vs,r=>by rw [r.nil_inv]; rfl
 | t :: ts,vs,r=>by
  obtain ⟨v,w,rfl,_,q⟩:=r.cons_inv
  rw [List.length_cons,List.length_cons,q.length]
theorem IsL.get {H:Hp}:∀ {ts:List T} {vs:List V} {i:Nat} {v:V},IsL H vs ts → vs[i]? = some v → ∃ t,ts[i]? = some t ∧ Is H v t
 | [],vs,i,v,r,e=>by rw [r.nil_inv] at e; simp at e
 | t :: ts,vs,0,v,r,e=>by
  obtain ⟨x,w,rfl,a,q⟩:=r.cons_inv
  rw [List.getElem?_cons_zero] at e ⊢
  cases e
  exact ⟨t,rfl,a⟩
 | t :: ts,vs,i + 1,v,r,e=>by
  obtain ⟨x,w,rfl,a,q⟩:=r.cons_inv
  rw [List.getElem?_cons_succ] at e ⊢
  exact IsL.get q e
theorem IsL.getT {H:Hp}:∀ {ts:List T} {vs:List V} {i:Nat} {t:T},IsL H vs ts → ts[i]? = some t → ∃ v,vs[i]? = some v ∧ Is H v t
 | [],vs,i,v,r,e=>by simp at e
 | t :: ts,vs,0,v,r,e=>by
  obtain ⟨x,w,rfl,a,q⟩:=r.cons_inv
  rw [List.getElem?_cons_zero] at e ⊢
  cases e
  exact ⟨x,rfl,a⟩
 | t :: ts,vs,i + 1,v,r,e=>by
  obtain ⟨x,w,rfl,a,q⟩:=r.cons_inv
  rw [List.getElem?_cons_succ] at e ⊢
  exact IsL.getT q e
theorem IsL.append {H:Hp}:∀ {ts us:List T} {vs ws:List V},IsL H vs ts → IsL H ws us → IsL H (vs ++ ws) (ts ++ us)
 | [],us,vs,ws,r,q=>by rw [r.nil_inv]; exact q
 | t :: ts,us,vs,ws,r,q=>by
  obtain ⟨x,w,rfl,a,r⟩:=r.cons_inv
  exact .cons a (r.append q)
theorem IsL.take {H:Hp}:∀ {ts:List T} {vs:List V} (n:Nat),IsL H vs ts → IsL H (vs.take n) (ts.take n)
 | _,_,0,_=>by rw [List.take_zero,List.take_zero]; exact .nil
 | [],vs,n + 1,r=>by rw [r.nil_inv]; exact .nil
 | t :: ts,vs,n + 1,r=>by
  obtain ⟨x,w,rfl,a,r⟩:=r.cons_inv
  exact .cons a (r.take n)
theorem IsL.drop {H:Hp}:∀ {ts:List T} {vs:List V} (n:Nat),IsL H vs ts → IsL H (vs.drop n) (ts.drop n)
 | _,_,0,r=>r
 | [],vs,n + 1,r=>by rw [r.nil_inv]; exact .nil
 | t :: ts,vs,n + 1,r=>by
  obtain ⟨x,w,rfl,a,r⟩:=r.cons_inv
  exact r.drop n
theorem IsL.flat {H:Hp}:∀ (k:Nat) {ts:List T} {vs:List V},IsL H vs ts → IsL H (List.replicate k vs).flatten (List.replicate k ts).flatten
 | 0,ts,vs,r=>by simpa using IsL.nil
 | k + 1,ts,vs,r=>by
  rw [List.replicate_succ,List.replicate_succ,List.flatten_cons,List.flatten_cons]
  exact r.append (IsL.flat k r)
theorem IsL.one {H:Hp} {v:V} {t:T} (a:Is H v t):IsL H [v] [t]:=.cons a .nil
theorem Is.int {H:Hp} {i:Int}:Is H (.int i) (.int i):=by unfold Is; rfl
theorem Is.bl {H:Hp} {b:Bool}:Is H (.bl b) (.bl b):=by unfold Is; rfl
theorem Is.non {H:Hp}:Is H .non .non:=by unfold Is; rfl
theorem Is.str {H:Hp} {x:Str}:Is H (.str x) (.str x):=by unfold Is; rfl
theorem Is.tup {H:Hp} {a:Addr} {vs:List V} {ts:List T} (h:H a = some (.tup vs)) (r:IsL H vs ts) (z:ts.length ≤ 100000):Is H (.ref a) (.tup ts):=by unfold Is; exact ⟨z,a,vs,rfl,h,r⟩
theorem Is.lst {H:Hp} {a:Addr} {vs:List V} {ts:List T} (h:H a = some (.lst vs)) (r:IsL H vs ts) (z:ts.length ≤ 100000):Is H (.ref a) (.lst ts):=by unfold Is; exact ⟨z,a,vs,rfl,h,r⟩
theorem Is.int_inv {H:Hp} {v:V} {i:Int} (r:Is H v (.int i)):v = .int i:=by unfold Is at r; exact r
theorem Is.tup_inv {H:Hp} {v:V} {ts:List T} (r:Is H v (.tup ts)):∃ a vs,v = .ref a ∧ H a = some (.tup vs) ∧ IsL H vs ts:=by unfold Is at r; exact r.2
theorem Is.tup_len {H:Hp} {v:V} {ts:List T} (r:Is H v (.tup ts)):ts.length ≤ 100000:=by unfold Is at r; exact r.1
theorem Is.lst_len {H:Hp} {v:V} {ts:List T} (r:Is H v (.lst ts)):ts.length ≤ 100000:=by unfold Is at r; exact r.1
theorem Is.lst_inv {H:Hp} {v:V} {ts:List T} (r:Is H v (.lst ts)):∃ a vs,v = .ref a ∧ H a = some (.lst vs) ∧ IsL H vs ts:=by unfold Is at r; exact r.2
theorem IsL.ints {H:Hp}:∀ (ns:List Int),IsL H (ns.map V.int) (ns.map T.int)
 | []=>.nil
 | n :: ns=>.cons Is.int (IsL.ints ns)
theorem IsL.ints_inv {H:Hp}:∀ {ns:List Int} {vs:List V},IsL H vs (ns.map T.int) → vs = ns.map V.int
 | [],vs,r=>r.nil_inv
 | n :: ns,vs,r=>by
  obtain ⟨x,w,rfl,a,r⟩:=r.cons_inv
  rw [a.int_inv,r.ints_inv]
  rfl
theorem Qbh {n:Nat} (h:n ≤ 100000):n ≤ sizeLine:=by rw [sizeLine_eq]; omega
noncomputable def del (H:Hp) (p:Addr):Hp:=fun b=>if b = p then none else H b
noncomputable def tyT:T → String
 | .non => "NoneType" | .bl _ => "bool" | .int _ => "int" | .str _ => "str" | .tup _ => "tuple" | .lst _ => "list" | .dct _ _ => "dict" | .dtt _ _ => "dict" | .clo _ _ => "function"
noncomputable def Qck:T → Bool
 | .clo _ _=>true
 | _=>false
theorem Is.tyOf {K:PySem.W.Frag} {H:Hp} {v:V} {t:T} (r:Is H v t) (hc:Qck t = false):TyOf K H v (.type (tyT t)):=by
 cases t with
 | non=>unfold Is at r; subst r; exact .non
 | bl b=>unfold Is at r; subst r; exact .bl b
 | int i=>unfold Is at r; subst r; exact .int i
 | str x=>unfold Is at r; subst r; exact .str x
 | tup ts=>obtain ⟨a,vs,rfl,h,_⟩:=r.tup_inv; exact .tup h
 | lst ts=>obtain ⟨a,vs,rfl,h,_⟩:=r.lst_inv; exact .lst h
 | dct ks ts=>unfold Is at r; obtain ⟨a,vs,rfl,h,_⟩:=r; exact .dK h
 | dtt ks ts=>unfold Is at r; obtain ⟨_,a,vs,rfl,h,_⟩:=r; exact .dT h
 | clo l ts=>cases hc
noncomputable def Qka (a c:String):Bool:=a == c || (a == "bool" && c == "int")
theorem Qzc (K:PySem.W.Frag):∀ a ∈ ["NoneType","bool","int","str","tuple","list","dict"],∀ c ∈ ["int","bool","tuple","list","dict","str"],PySem.W.kitOne K (.type a) (.type c) = some (Qka a c):=by
 intro a ha c hc
 simp only [List.mem_cons,List.not_mem_nil,or_false] at ha hc
 rcases ha with rfl | rfl | rfl | rfl | rfl | rfl | rfl <;> rcases hc with rfl | rfl | rfl | rfl | rfl | rfl <;> rfl
theorem Qtf {X:Cx}:CallR X (.builtin "isinstance") (fun xs H Q=>∃ x c t,xs = [x,.ty c] ∧ Is H x t ∧ Qck t = false ∧ c ∈ ["int","bool","tuple","list","dict","str"] ∧ Q (.bl (Qka (tyT t) c)) H):=by
 intro pins s σ H xs us Q I r h
 obtain ⟨x,c,t,e,ty,nc,hc,q⟩:=h
 refine Qok pins s σ H xs us Q I r ⟨x,c,_,_,e,ty.tyOf nc,Qzc X.K (tyT t) ?_ c hc,q⟩
 cases t <;> first | (cases nc; done) | simp [tyT]
noncomputable def Qr:Expr → Bool
 | .Starred _ _=>false
 | _=>true
theorem Qa1 {e:Expr} {es:List Expr} {env:Env} (h:Qr e = true):starEach (e :: es) env = (false,eval e env) :: starEach es env:=by
 cases e <;> first | rfl | exact absurd h Bool.false_ne_true
theorem paC {X:Cx} {e:Expr} {es:List Expr} {te:TE} {t:TA} (ha:PE X e te) (hr:PA X es t) (hs:Qr e = true:=by rfl):PA X (e :: es) (Qey te t):=Qyw ha hr (Qa1 hs)
noncomputable def frp (H H':Hp):Hp:=fun b=>if (H b).isSome = true then none else H' b
theorem Qgl {H H':Hp} {b:Addr} {o:HO} (h:H b = none) (e:H' b = some o):frp H H' b = some o:=by unfold frp; rw [h]; exact e
theorem Qf3 {H H':Hp} {b:Addr} {o:HO} (e:frp H H' b = some o):H b = none ∧ H' b = some o:=by
 unfold frp at e
 by_cases h:(H b).isSome = true
 ·rw [if_pos h] at e; cases e
 ·rw [if_neg h] at e
  refine ⟨?_,e⟩
  cases q:H b with
  | none=>rfl
  | some u=>rw [q] at h; simp at h
theorem Qir {H H1 H2:Hp} (h:Same H1 H2):Same (frp H H1) (frp H H2):=fun b o e=>by
 obtain ⟨a,c⟩:=Qf3 e
 exact Qgl a (h b o c)
theorem Qvn {H H1 H2:Hp} (h:Same H H1):Same (frp H1 H2) (frp H H2):=fun b o e=>by
 obtain ⟨a,c⟩:=Qf3 e
 exact Qgl (h.free a) c
noncomputable abbrev tTh (t:T):TE:=fun _ H Q=>∀ v H',Same H H' → Is (frp H H') v t → Q v H'
noncomputable abbrev Qnc (ts:List T):TA:=fun _ H Q=>∀ vs H',Same H H' → IsL (frp H H') vs ts → Q vs H'
section
variable {X:Cx} {e a b:Expr} {es:List Expr} {t:T} {ts:List T} {pos:Pos}
theorem PE.weak {te te':TE} (h:PE X e te) (q:∀ σ H Q,te' σ H Q → te σ H Q):PE X e te':=fun pins s σ H Q I hq=>h pins s σ H Q I (q _ _ _ hq)
theorem PA.weak {ta ta':TA} (h:PA X es ta) (q:∀ σ H Q,ta' σ H Q → ta σ H Q):PA X es ta':=fun pos pins s σ H Q I hq=>h pos pins s σ H Q I (q _ _ _ hq)
theorem Qzd {i j pos}:PE X (.Constant (.int i) j pos) (tTh (.int i)):=Quo.weak fun _ H _ q=>q _ H (Same.refl H) Is.int
theorem Q3z {x j pos}:PE X (.Constant (.str x) j pos) (tTh (.str x)):=Qp1.weak fun _ H _ q=>q _ H (Same.refl H) Is.str
theorem Qze:PA X [] (Qnc []):=Qu3.weak fun _ H _ q=>q [] H (Same.refl H) .nil
theorem Qvo (ha:PE X e (tTh t)) (hr:PA X es (Qnc ts)) (hs:Qr e = true:=by rfl):PA X (e :: es) (Qnc (t :: ts)) :=
 (paC ha hr hs).weak fun σ H Q q v H1 s1 r1 vs H2 s2 r2=>q (v :: vs) H2 (s1.trans s2) (.cons (r1.mono (Qir s2)) (r2.mono (Qvn s1)))
theorem th_tup {x1} (h:PA X es (Qnc ts)) (hz:Nat.ble ts.length 1000 = true:=by rfl):PE X (.Tuple es x1 pos) (tTh (.tup ts)) :=
 (Qu4 h).weak fun σ H Q q vs H1 s1 r1=>by
  have hl:=r1.length
  have hz:=Nat.le_of_ble_eq_true hz
  refine ⟨by rw [hl,sizeLine_eq]; omega,fun p hp=>q _ _ (s1.trans (Same.upd hp)) (.tup (Qgl (s1.free hp) Qi) (r1.mono (Qir (Same.upd hp))) (by omega))⟩
theorem Q30 (h:PA X es (Qnc ts)) (hz:Nat.ble ts.length 1000 = true:=by rfl):PE X (.List es pos) (tTh (.lst ts)) :=
 (Qu5 h).weak fun σ H Q q vs H1 s1 r1=>by
  have hl:=r1.length
  have hz:=Nat.le_of_ble_eq_true hz
  refine ⟨by rw [hl,sizeLine_eq]; omega,fun p hp=>q _ _ (s1.trans (Same.upd hp)) (.lst (Qgl (s1.free hp) Qi) (r1.mono (Qir (Same.upd hp))) (by omega))⟩
theorem Qvp {k:Str} {j p2 pos} (h:PE X e (tTh t)):PE X (.Dict [some (.Constant (.str k) j p2)] [e] pos) (tTh (.dct [Sum.inr k] [t])) :=
 (Qy6 (Qve Qp1 h Qy5) rfl rfl (by simp) (by simp)).weak fun σ H Q q p hp=>by
  intro v H1 s1 r1
  have e1:H1 p = some (.dK []):=s1 p _ Qi
  have s0:Same H H1:=Same.trans (Same.upd hp) s1
  refine ⟨e1,[(Sum.inr k,v)],rfl,by simp,?_⟩
  have e2:Qio [] [((Sum.inr k:Key),v)] = [((Sum.inr k:Key),v)]:=rfl
  rw [e2]
  have s2:Same H (upd H1 p (.dK [((Sum.inr k:Key),v)])):=fun b o eb=>by
   have:b ≠ p:=Qa2 eb hp
   rw [Qv this]
   exact s0 b o eb
  refine q _ _ s2 ?_
  unfold Is
  refine ⟨p,[v],rfl,Qgl hp Qi,rfl,.one (r1.mono ?_)⟩
  intro b o eb
  obtain ⟨a1,a2⟩:=Qf3 eb
  have nb:b ≠ p:=fun z=>by rw [z,Qi] at a1; cases a1
  rw [Qv nb] at a1
  exact Qgl a1 (by rw [Qv nb]; exact a2)
end
structure Wk (J:It) (xs:List V) (P:Hp → Prop):Prop where
 go:∀ i H,i < xs.length → P H → J.go i H
 yld:∀ i H x H',i < xs.length → P H → J.yld i H x H' → H' = H ∧ xs[i]? = some x
 stop:∀ i H,xs.length ≤ i → P H → J.stop i H
 mono:∀ H H',Same H H' → P H → P H'
section
variable {X:Cx}
noncomputable def Q31 (K:PySem.W.Frag):List V → Hp → VK → Prop:=fun xs H Q=>∃ p ys,xs = [.ref p] ∧ (SqL K H p ys ∨ SqT K H p ys) ∧ Q (.int ys.length) H
theorem kLen (K:PySem.W.Frag) (hK:X.K = K):CallR X (.builtin "len") (Q31 K):=by subst hK; exact Qm5
noncomputable def Q32 (K:PySem.W.Frag):List V → Hp → VK → Prop:=fun xs H Q=>∃ p ys,xs = [.ref p] ∧ SqL K H p ys ∧ ys.all Qj8 = true ∧ Q (.bl (ys.all Qjo)) H
theorem kAll (K:PySem.W.Frag) (hK:X.K = K) (hc:X.calm = true):CallR X (.builtin "all") (Q32 K):=by subst hK; exact Qvi hc
noncomputable def Q33 (K:PySem.W.Frag):List V → Hp → VK → Prop:=fun xs H Q=>∃ p ys,xs = [.ref p] ∧ SqL K H p ys ∧ ys.all Qj8 = true ∧ Q (.bl (ys.any Qjo)) H
theorem kAny (K:PySem.W.Frag) (hK:X.K = K) (hc:X.calm = true):CallR X (.builtin "any") (Q33 K):=by subst hK; exact Qvj hc
noncomputable def Qvq (K:PySem.W.Frag):List V → Hp → VK → Prop:=fun xs H Q=>∃ (p:Addr) (ns:List Int),xs = [.ref p] ∧ SqL K H p (ns.map V.int) ∧ ns ≠ [] ∧ ∀ M,M ∈ ns → (∀ a ∈ ns,a ≤ M) → Q (.int M) H
theorem Q7w (K:PySem.W.Frag) (hK:X.K = K) (hc:X.calm = true):CallR X (.builtin "max") (Qvq K):=by subst hK; exact Qs9 hc
noncomputable def Qvr (K:PySem.W.Frag):List V → Hp → VK → Prop:=fun xs H Q=>∃ (p:Addr) (ns:List Int),xs = [.ref p] ∧ SqL K H p (ns.map V.int) ∧ ns ≠ [] ∧ ∀ M,M ∈ ns → (∀ a ∈ ns,M ≤ a) → Q (.int M) H
theorem Q7x (K:PySem.W.Frag) (hK:X.K = K) (hc:X.calm = true):CallR X (.builtin "min") (Qvr K):=by subst hK; exact Qta hc
noncomputable def Qnd (K:PySem.W.Frag):List V → Hp → VK → Prop:=fun xs H Q=>∃ p ys,xs = [.ref p] ∧ (SqL K H p ys ∨ SqT K H p ys) ∧ ∀ l,H l = none → Q (.ref l) (upd H l (.lst ys))
theorem Qzf (K:PySem.W.Frag) (hK:X.K = K):CallR X (.type "list") (Qnd K):=by subst hK; exact Qm6
noncomputable def Qqd (K:PySem.W.Frag):List V → Hp → VK → Prop:=fun xs H Q=>∃ p ys,xs = [.ref p] ∧ ((SqL K H p ys ∧ ∀ l,H l = none → Q (.ref l) (upd H l (.tup ys))) ∨ (SqT K H p ys ∧ Q (.ref p) H))
theorem Q34 (K:PySem.W.Frag) (hK:X.K = K):CallR X (.type "tuple") (Qqd K):=by subst hK; exact Qlo
noncomputable def Q1n:List V → Hp → VK → Prop:=fun xs H Q=>∃ x c t,xs = [x,.ty c] ∧ Is H x t ∧ Qck t = false ∧ c ∈ ["int","bool","tuple","list","dict","str"] ∧ Q (.bl (Qka (tyT t) c)) H
theorem Q7y:CallR X (.builtin "isinstance") Q1n:=Qtf
theorem kAdd (K:PySem.W.Frag) (hK:X.K = K):OpR X (binaryOp .Add) (Qma K):=by subst hK; exact uAdd
theorem kIx (K:PySem.W.Frag) (hK:X.K = K):IxR X (rIx K):=by subst hK; exact Q3r
theorem kSl (K:PySem.W.Frag) (hK:X.K = K):SlR X (Qvl K):=by subst hK; exact uSl
theorem kSeq (K:PySem.W.Frag) (hK:X.K = K) {tg l:Expr} {tl:TE} (hl:PE X l tl):PI X tg l (Qte K tl):=by subst hK; exact Q3x hl
theorem kTup (K:PySem.W.Frag) (hK:X.K = K) {es:List Expr} {k:Nat} {t:TGs} {n:Nat} {pos:Pos} (hc:X.calm = true) (h:PGs X es t)
  (hn:(assignEach es X.env).length = n:=by rfl) (hst:(assignEach es X.env).findIdx? (·.1) = none:=by rfl):PG X (.Tuple es k pos) (Qyp K n t):=by subst hK; exact Q28 hc h hn hst
theorem Qvs (K:PySem.W.Frag) (hK:X.K = K):MtM X "list.extend" (Qf2 K):=by subst hK; exact Qqc
theorem kBm (K:PySem.W.Frag) (hK:X.K = K) {T:String} {o e:Expr} {es:List Expr} {to:TE} {t:TA} {name:Str} {apos cpos:Pos} {id:String} {r:V → List V → Hp → VK → Prop} (pa:PlainAttrs T) (slot:Slot T name id) (hty:typeOf (.builtin id) = pure (.type "method_descriptor")) (hm:MtR X id r) (ho:PE X o to) (ha:PA X (e :: es) t)
  (hbase:attributeBase o name X.env (eval o X.env) = eval o X.env:=by rfl)
  (hfew:((backTo cpos (starEach (e :: es) X.env)).all (fun x=>!x.1) && (backToKw cpos (keywordEach [] X.env)).all (fun x=>x.1.isSome)
   && decide ((e :: es).length + ([]:List Keyword).length + (if ([]:List Keyword).isEmpty then 0 else 1) < 30)) = true:=by rfl)
  (hline:(apos.endLine == cpos.line) = true:=by rfl) (hs:starEach (e :: es) X.env = (false,eval e X.env) :: starEach es X.env:=by rfl) (hplain:(backTo cpos (starEach es X.env)).any (·.1) = false:=by rfl) :
  PE X (.Call (.Attribute o name apos) (e :: es) [] cpos) (tBM K T r to t):=by
 subst hK
 exact Q7j pa slot hty hm ho ha hbase hfew hline hs hplain
end
noncomputable def Tups (H H':Hp):Prop:=∀ a xs,H a = some (.tup xs) → H' a = some (.tup xs)
noncomputable def MkT (xs:List V) (H:Hp) (Q:VK):Prop:=xs.length ≤ sizeLine ∧ ∀ p,H p = none → Q (.ref p) (upd H p (.tup xs))
noncomputable def MkL (xs:List V) (H:Hp) (Q:VK):Prop:=xs.length ≤ sizeLine ∧ ∀ p,H p = none → Q (.ref p) (upd H p (.lst xs))
noncomputable abbrev Q1o (t:TA):TE:=fun σ H Q=>t σ H fun xs H1=>MkT xs H1 Q
noncomputable abbrev Q1p (t:TA):TE:=fun σ H Q=>t σ H fun xs H1=>MkL xs H1 Q
structure QE (X:Cx) (e:Expr) (t:TE):Prop where
 h:PE X e t
structure QT (X:Cx) (e:Expr) (t:TT):Prop where
 h:PT X e t
structure QW (X:Cx) (e:Expr) (t:TT):Prop where
 h:PW X e t
structure QA (X:Cx) (es:List Expr) (t:TA):Prop where
 h:PA X es t
structure QS (X:Cx) (st:Stmt) (t:TS):Prop where
 h:PS X st t
structure QB (X:Cx) (st:List Stmt) (t:TS):Prop where
 h:PSs X st t
structure QI (X:Cx) (tg it:Expr) (t:TI):Prop where
 h:PI X tg it t
structure QG (X:Cx) (tg:Expr) (t:TG):Prop where
 h:PG X tg t
structure QGs (X:Cx) (tg:List Expr) (t:TGs):Prop where
 h:PGs X tg t
structure QC (X:Cx) (ifs:List Expr) (t:TT):Prop where
 h:PTs X ifs t
structure QO (X:Cx) (e:Option Expr) (t:TO):Prop where
 h:PO X e t
structure QOp (X:Cx) (f:Value → Value → Sem Value) (r:R2):Prop where
 h:OpR X f r
structure QUn (X:Cx) (f:Value → Sem Value) (r:V → Hp → VK → Prop):Prop where
 h:UnR X f r
structure QCl (X:Cx) (f:Value) (r:List V → Hp → VK → Prop):Prop where
 h:CallR X f r
structure QIx (X:Cx) (r:R2):Prop where
 h:IxR X r
structure QSl (X:Cx) (r:V → Option Int → Option Int → Hp → VK → Prop):Prop where
 h:SlR X r
structure QMt (X:Cx) (id:String) (r:V → List V → Hp → VK → Prop):Prop where
 h:MtR X id r
section
variable {X:Cx} {e a b:Expr} {es rest:List Expr} {te ta tb:TE} {t:TA} {tt uu tA tB':TT} {pos p p2:Pos} {x:Str}
theorem Qb0 (i:Nat) (hN:X.N[i]? = some x:=by rfl) (hv:Vis X.env.scope x:=by first | exact Or.inl rfl | exact Or.inr (Or.inl rfl) | exact Or.inr (Or.inr rfl)) (hd:(x == ("__debug__" : Str)) = false:=by decide)
  (hcd:(x == ("__classdict__" : Str)) = false:=by decide):QE X (.Name x pos) (Qg8 i):=⟨pv i hN hv hd hcd⟩
theorem Qmb {i j}:QE X (.Constant (.int i) j pos) (tC (.int i)):=⟨Quo⟩
theorem Qzg {b j}:QE X (.Constant (.bool b) j pos) (tC (.bl b)):=⟨Q6y⟩
theorem Q1q {j}:QE X (.Constant .none j pos) (tC .non):=⟨Q2x⟩
theorem Qvt {x j}:QE X (.Constant (.str x) j pos) (tC (.str x)):=⟨Qp1⟩
theorem Q35 {v:V} (h:∃ u,X.mg x = some u ∧ RelV v u) (hg:Gl X x:=by rfl) (hd:(x == ("__debug__" : Str)) = false:=by decide):QE X (.Name x pos) (tC v):=by
 obtain ⟨u,m,r⟩:=h
 exact ⟨Qrm hg m r hd⟩
theorem Qis (T:String) (hm:X.mg x = none) (hv:bootBuiltins x = some (.type T)) (hg:Gl X x:=by rfl) (hn:x ≠ "__name__" := by decide) (hd:(x == ("__debug__" : Str)) = false:=by decide):QE X (.Name x pos) (tC (.ty T)):=⟨Qyh (v:=.ty T) hg hm hv rfl hn hd⟩
theorem Qzh {op:Operator} {r:R2} (ho:QOp X (binaryOp op) r) (ha:QE X a ta) (hb:QE X b tb):QE X (.BinOp a op b pos) (tOp r ta tb):=⟨Q65 ho.h ha.h hb.h⟩
theorem q_un {op:UnaryOp} {r:V → Hp → VK → Prop} (ho:QUn X (unaryOp op) r) (ha:QE X a ta):QE X (.UnaryOp op a pos) (tUn r ta):=⟨Q66 ho.h ha.h⟩
theorem Q7z (ha:QE X a ta):QE X (.UnaryOp .Not a pos) (Q1f ta):=⟨Q24 ha.h⟩
theorem Q70 {op} (ha:QE X a ta):QE X (.BoolOp op [a] pos) ta:=⟨Q22 ha.h⟩
theorem Q71 (ha:QE X a ta) (hb:QE X (.BoolOp .And (b :: rest) pos) tb):QE X (.BoolOp .And (a :: b :: rest) pos) (Q1e ta tb):=⟨Q23 ha.h hb.h⟩
theorem q_if {c:Expr} (hc:QT X c tA) (ha:QE X a ta) (hb:QE X b tb):QE X (.IfExp c a b pos) (tIf tA ta tb):=⟨Quq hc.h ha.h hb.h⟩
theorem Q72 {op:CmpOp} {r:R2} (ho:QOp X (compareOp op) r) (ha:QE X a ta) (hb:QE X b tb) (hm:behindInMarks op b = false):QE X (.Compare a [op] [b] pos) (tOp r ta tb):=⟨Qys ho.h ha.h hb.h hm⟩
theorem Qkb {op:CmpOp} {r:R2} (ho:QOp X (compareOp op) r) (ha:QE X a ta) (hb:QE X b tb) (hm:behindInMarks op b = false):QT X (.Compare a [op] [b] pos) (Qu1 (tOp r ta tb)):=⟨Qyt ho.h ha.h hb.h hm⟩
theorem Qvu (ha:QE X e te) (he:∀ whole,isTrue e X.env whole = (do let v ← whole; standAt e.pos; holding [v] (truthy v)):=by intro _; rfl):QT X e (tB te):=⟨Q2y ha.h he⟩
theorem Qvv (ha:QT X a tA):QT X (.UnaryOp .Not a pos) (Q60 tA):=⟨Q21 ha.h⟩
theorem Q73 (ha:QW X e tA):QT X e tA:=⟨ha.h.pt⟩
theorem Qzi (ha:QT X a tA):QW X (.BoolOp .And [a] pos) tA:=⟨Qyi ha.h⟩
theorem Qvw (ha:QT X a tA):QW X (.BoolOp .Or [a] pos) tA:=⟨Q2z ha.h⟩
theorem Q36 (ha:QT X a tA) (hb:QW X (.BoolOp .And (b :: rest) pos) tB'):QW X (.BoolOp .And (a :: b :: rest) pos) (Q6z tA tB'):=⟨Q20 ha.h hb.h⟩
theorem Q1r (ha:QT X a tA) (hb:QW X (.BoolOp .Or (b :: rest) pos) tB'):QW X (.BoolOp .Or (a :: b :: rest) pos) (tOr tA tB'):=⟨Q61 ha.h hb.h⟩
theorem Qat:QA X [] Qlm:=⟨Qu3⟩
theorem Qo (ha:QE X e te) (hr:QA X es t) (hs:Qr e = true:=by rfl):QA X (e :: es) (Qey te t):=⟨paC ha.h hr.h hs⟩
theorem Q1s {x1} (h:QA X es t):QE X (.Tuple es x1 pos) (Q1o t):=⟨Qu4 h.h⟩
theorem Qon (h:QA X es t):QE X (.List es pos) (Q1p t):=⟨Qu5 h.h⟩
variable {ts:List T} {u:T}
theorem Q74 {i j}:QE X (.Constant (.int i) j pos) (tTh (.int i)):=⟨Qzd⟩
theorem Qg1 {x j}:QE X (.Constant (.str x) j pos) (tTh (.str x)):=⟨Q3z⟩
theorem Q75:QA X [] (Qnc []):=⟨Qze⟩
theorem Qeq (ha:QE X e (tTh u)) (hr:QA X es (Qnc ts)) (hs:Qr e = true:=by rfl):QA X (e :: es) (Qnc (u :: ts)):=⟨Qvo ha.h hr.h hs⟩
theorem Q76 (h:QA X es (Qnc ts)) (hz:Nat.ble ts.length 1000 = true:=by rfl):QE X (.List es pos) (tTh (.lst ts)):=⟨Q30 h.h hz⟩
theorem Qzj {k:Str} {j} (h:QE X e (tTh u)):QE X (.Dict [some (.Constant (.str k) j p2)] [e] pos) (tTh (.dct [Sum.inr k] [u])):=⟨Qvp h.h⟩
theorem q_fn {ps:List Str} {k:Nat} {sp:Sp} (h:Has X.prog X.w X.K X.mg X.base x ps k sp) (hr:Room k X.A) (ha:QA X (e :: es) t) (hg:Gl X x:=by rfl)
  (hdb:(x == ("__debug__" : Str)) = false:=by decide) (he:Qr e = true:=by rfl) (hpl:(backTo pos (starEach es X.env)).any (·.1) = false:=by rfl):QE X (.Call (.Name x p) (e :: es) [] pos) (Qj5 sp [] E0 t):=⟨Qvm h hr ha.h hg hdb (Qa1 he) hpl⟩
theorem Qhw {id:String} {r:List V → Hp → VK → Prop} (hc:QCl X (.builtin id) r) (hm:X.mg x = none) (hv:bootBuiltins x = some (.builtin id)) (ha:QA X (e :: es) t) (hg:Gl X x:=by rfl) (hn:x ≠ "__name__" := by decide) (hdb:(x == ("__debug__" : Str)) = false:=by decide)
  (he:Qr e = true:=by rfl) (hpl:(backTo pos (starEach es X.env)).any (·.1) = false:=by rfl):QE X (.Call (.Name x p) (e :: es) [] pos) (tCB r t):=⟨Qu6 hc.h hg hm hv ha.h hn hdb (Qa1 he) hpl⟩
theorem Q1t {T:String} {r:List V → Hp → VK → Prop} (hc:QCl X (.type T) r) (hm:X.mg x = none) (hv:bootBuiltins x = some (.type T)) (ha:QA X (e :: es) t) (hg:Gl X x:=by rfl) (hn:x ≠ "__name__" := by decide) (hdb:(x == ("__debug__" : Str)) = false:=by decide)
  (he:Qr e = true:=by rfl) (hpl:(backTo pos (starEach es X.env)).any (·.1) = false:=by rfl):QE X (.Call (.Name x p) (e :: es) [] pos) (tCB r t):=⟨Qs7 hc.h hg hm hv ha.h hn hdb (Qa1 he) hpl⟩
theorem Qoo (K:PySem.W.Frag) (hK:X.K = K) {T:String} {o:Expr} {to:TE} {name:Str} {apos cpos:Pos} {id:String} {r:V → List V → Hp → VK → Prop} (pa:PlainAttrs T) (slot:Slot T name id) (hty:typeOf (.builtin id) = pure (.type "method_descriptor")) (hm:QMt X id r) (ho:QE X o to) (ha:QA X (e :: es) t)
  (hbase:attributeBase o name X.env (eval o X.env) = eval o X.env:=by rfl)
  (hfew:((backTo cpos (starEach (e :: es) X.env)).all (fun x=>!x.1) && (backToKw cpos (keywordEach [] X.env)).all (fun x=>x.1.isSome)
   && decide ((e :: es).length + ([]:List Keyword).length + (if ([]:List Keyword).isEmpty then 0 else 1) < 30)) = true:=by rfl)
  (hline:(apos.endLine == cpos.line) = true:=by rfl) (hs:Qr e = true:=by rfl) (hplain:(backTo cpos (starEach es X.env)).any (·.1) = false:=by rfl) :
  QE X (.Call (.Attribute o name apos) (e :: es) [] cpos) (tBM K T r to t):=⟨kBm K hK pa slot hty hm.h ho.h ha.h hbase hfew hline (Qa1 hs) hplain⟩
theorem Q37 {r:R2} (hr:QIx X r) (ha:QE X a ta) (hb:QE X b tb) (hs:Qjr b:=by exact fun _ _=>rfl):QE X (.Subscript a b pos) (tOp r ta tb):=⟨Q7e hr.h ha.h hb.h hs⟩
theorem Q77 {r:V → Option Int → Option Int → Hp → VK → Prop} {lo hi:Option Expr} {tl th:TO} (hr:QSl X r) (he:QE X e te) (hl:QO X lo tl) (hu:QO X hi th):QE X (.Subscript e (.Slice lo hi none p2) pos) (tSl r te tl th):=⟨Qu7 hr.h he.h hl.h hu.h⟩
theorem Qqe (h:QE X e te):QO X (some e) (Qrq te):=⟨Qyy h.h⟩
variable {tg:Expr}
theorem Qvx (K:PySem.W.Frag) (hK:X.K = K) (hl:QE X e te):QI X tg e (Qte K te):=⟨kSeq K hK hl.h⟩
theorem Q38 (hm:X.mg "range" = none) (ha:QA X [a] t) (hg:Gl X "range" := by rfl) (hs:Qr a = true:=by rfl):QI X tg (.Call (.Name "range" p) [a] [] pos) (Q1h t):=⟨Qsy hg hm ha.h (Qa1 hs)⟩
theorem Q39 (hm:X.mg "range" = none) (ha:QA X [a,b] t) (hg:Gl X "range" := by rfl) (hs:Qr a = true:=by rfl) (hs2:Qr b = true:=by rfl):QI X tg (.Call (.Name "range" p) [a,b] [] pos) (Q1i t) :=
 ⟨Qsz hg hm ha.h (by rw [Qa1 hs,Qa1 hs2]; rfl) (Qa1 hs2)⟩
theorem Q6 {i:Nat} (hN:X.N.Nodup) (hi:X.N[i]? = some x:=by rfl) (hx:Loc X.env.scope x:=by first | exact Or.inl rfl | exact Or.inr rfl) (hf:X.fn x = true ∨ X.env.scope.names.lookup x = some .local:=by first | exact .inl rfl | exact .inr rfl | exact .inl (by decide +kernel)):QG X (.Name x pos) (Qfz i):=⟨Qyn hN hi hx hf⟩
theorem Qvy:QGs X [] Q27:=⟨Qyo⟩
theorem Qjt {es:List Expr} {t:TG} {u:TGs} (h1:QG X e t) (h2:QGs X es u) (hs:(assignEach (e :: es) X.env).map (·.2) = assign e X.env :: (assignEach es X.env).map (·.2):=by rfl):QGs X (e :: es) (Qut t u):=⟨Quu h1.h h2.h hs⟩
theorem Qvz (K:PySem.W.Frag) (hK:X.K = K) {es:List Expr} {k:Nat} {t:TGs} {n:Nat} (hc:X.calm = true) (h:QGs X es t) (hn:(assignEach es X.env).length = n:=by rfl) (hst:(assignEach es X.env).findIdx? (·.1) = none:=by rfl):QG X (.Tuple es k pos) (Qyp K n t):=⟨kTup K hK hc h.h hn hst⟩
theorem Qv0 {o i:Expr} {to ti:TE} (ho:QE X o to) (hi:QE X i ti)
  (ha:∀ v,assign (.Subscript o i pos) X.env v = (do
   let ov ← holding [v] (eval o X.env)
   let iv ← holding [v,ov] (eval i X.env)
   standAt pos
   holding [v,ov,iv] (setItem ov iv v)
   release [v,ov,iv] []):=by intro _; rfl):QG X (.Subscript o i pos) (Q29 to ti Qrs):=⟨Q3a ho.h hi.h Qu8 ha⟩
theorem q_c0:QC X [] Q7t:=⟨Qy8⟩
theorem Q4a {elt iter:Expr} {ifs:List Expr} {scope:Scope} (N:List Str) (js:List (Option Nat)) {wi:TI} {g:TG} {tc:TT} (hcalm:X.calm = true)
  (hi:QI X tg iter wi) (hg:∀ s H fp,QG (Qa4 X scope N s H fp) tg g) (hc:∀ s H fp,QC (Qa4 X scope N s H fp) ifs tc) (he:∀ s H fp,QE (Qa4 X scope N s H fp) elt te)
  (hk:scope.kind = .function:=by rfl) (h1:scOk X scope = true:=by rfl) (h2:Ql9 X scope N js = true:=by rfl)
  (hs:∀ x,foldedSetIterable iter X.env x = pure x:=by intro _; rfl):QE X (.ListComp elt [⟨tg,iter,ifs,0⟩] scope pos) (Qvg wi js g tc te):=⟨Qvh hcalm hi.h (fun s H fp=>(hg s H fp).h) (fun s H fp=>(hc s H fp).h) (fun s H fp=>(he s H fp).h) hk h1 h2 hs⟩
variable {st:Stmt} {sts:List Stmt} {t1 t2:TS}
theorem Qqf:QB X [] Q1g:=⟨Qyj⟩
theorem Qdp (h1:QS X st t1) (h2:QB X sts t2):QB X (st :: sts) (Qur t1 t2):=⟨Qus h1.h h2.h⟩
theorem Qha (h1:QS X st t1):QB X [st] t1:=⟨Qyk h1.h⟩
theorem Qhb (he:QE X e te) (hs:swapsWith e none pos.line X.env = pure false:=by rfl):QS X (.Expr e pos) (Qof te):=⟨Qyl he.h hs⟩
theorem Qkc (he:QE X e te):QS X (.Return (some e) pos) (Qym te):=⟨Q25 he.h⟩
theorem Qv1 {c:Expr} {bs cs:List Stmt} (hc:QT X c tt) (ha:QB X bs t1) (hb:QB X cs t2):QS X (.If c bs cs pos) (Q62 tt t1 t2):=⟨Q63 hc.h ha.h hb.h⟩
theorem Qru {iter:Expr} {body:List Stmt} {wi:TI} {g:TG} (hp:PassesOwn (model X.prog X.w) X.A X.env X.xe) (hc:X.calm = true) (hi:QI X tg iter wi) (hg:QG X tg g) (hb:QB X body t1)
  (hs:∀ x,foldedSetIterable iter X.env x = pure x:=by intro _; rfl):QS X (.For tg iter body [] pos) (Quy wi g t1):=⟨Q3d hp hc hi.h hg.h hb.h hs⟩
theorem Qbk {i:Nat} (hN:X.N.Nodup) (he:QE X e te) (hi:X.N[i]? = some x:=by rfl) (hx:Loc X.env.scope x:=by first | exact Or.inl rfl | exact Or.inr rfl) (hs:swapsWith e (some (.Name x p2)) pos.line X.env = pure false:=by rfl) (hf:X.fn x = true ∨ X.env.scope.names.lookup x = some .local:=by first | exact .inl rfl | exact .inr rfl) :
  QS X (.Assign [.Name x p2] e pos) (Qm2 te (Qfz i)):=⟨Q3c hN hi hx he.h hs hf⟩
theorem Qrv {g:TG} (he:QE X e te) (hg:QG X tg g) (hs:swapsWithSole [tg] e pos.line X.env = pure false:=by rfl) (hw:swappedStores [tg] e X.env = pure none:=by rfl)
  (h1:(assignEach [tg] X.env).map (·.2) = [assign tg X.env]:=by rfl):QS X (.Assign [tg] e pos) (Qm2 te g):=⟨Q3b he.h hg.h hs hw h1⟩
theorem Qzk {c:Expr} {body:List Stmt} (hp:PassesOwn (model X.prog X.w) X.A X.env X.xe) (hc:QT X c tt) (hb:QB X body t1):QS X (.While c body [] pos) (Quv tt t1):=⟨Quw hp hc.h hb.h⟩
theorem Qrw (K:PySem.W.Frag) (hK:X.K = K):QOp X (binaryOp .Add) (Qma K):=⟨kAdd K hK⟩
theorem Q78:QOp X (binaryOp .Sub) (rI0 fun i j=>.int (i - j)):=⟨Q3i⟩
theorem Q79:QOp X (binaryOp .Pow) (rI Q3g fun i j=>.int (i ^ j.toNat)):=⟨Q3k⟩
theorem Q8a:QUn X (unaryOp .USub) (rU fun i=>.int (-i)):=⟨Q3l⟩
theorem Q8b:QOp X (compareOp .Eq) rEq:=⟨Q68⟩
theorem Q8c:QOp X (compareOp .NotEq) rNe:=⟨Q69⟩
theorem Q4b:QOp X (compareOp .Lt) (rI0 fun i j=>.bl (decide (i < j))):=⟨Q7a⟩
theorem o_gt:QOp X (compareOp .Gt) (rI0 fun i j=>.bl (decide (j < i))):=⟨Q7b⟩
theorem o_ge:QOp X (compareOp .GtE) (rI0 fun i j=>.bl (decide (j ≤ i))):=⟨Q7c⟩
noncomputable def Q1u:R2:=fun x y H Q=>y = .non ∧ Q (.bl (!decide (x = .non))) H
theorem Q4c:QOp X (compareOp .IsNot) Q1u:=⟨Qyr⟩
theorem Qv2:QOp X (compareOp .NotIn) (Q7u true):=⟨Qtc⟩
theorem Q4d (K:PySem.W.Frag) (hK:X.K = K):QIx X (rIx K):=⟨kIx K hK⟩
theorem Q8d (K:PySem.W.Frag) (hK:X.K = K):QSl X (Qvl K):=⟨kSl K hK⟩
theorem Qhx:QMt X "list.append" Qjs:=⟨Ql7⟩
theorem Qtg (K:PySem.W.Frag) (hK:X.K = K):QMt X "list.extend" (Qf2 K):=⟨Qvs K hK⟩
theorem Q4e:QCl X (.builtin "isinstance") Q1n:=⟨Q7y⟩
theorem Qd0 (K:PySem.W.Frag) (hK:X.K = K):QCl X (.builtin "len") (Q31 K):=⟨kLen K hK⟩
theorem Qkd (K:PySem.W.Frag) (hK:X.K = K) (hc:X.calm = true:=by rfl):QCl X (.builtin "all") (Q32 K):=⟨kAll K hK hc⟩
theorem Q8e (K:PySem.W.Frag) (hK:X.K = K) (hc:X.calm = true:=by rfl):QCl X (.builtin "any") (Q33 K):=⟨kAny K hK hc⟩
theorem Q4f (K:PySem.W.Frag) (hK:X.K = K) (hc:X.calm = true:=by rfl):QCl X (.builtin "max") (Qvq K):=⟨Q7w K hK hc⟩
theorem Q4g (K:PySem.W.Frag) (hK:X.K = K) (hc:X.calm = true:=by rfl):QCl X (.builtin "min") (Qvr K):=⟨Q7x K hK hc⟩
noncomputable def Q1v:List V → Hp → VK → Prop:=fun xs H Q=>∃ i j,xs = [.int i,.int j] ∧ Q (.int (if j > i then j else i)) H
noncomputable def Q1w:List V → Hp → VK → Prop:=fun xs H Q=>∃ i j,xs = [.int i,.int j] ∧ Q (.int (if j < i then j else i)) H
theorem Q4h (hc:X.calm = true:=by rfl):QCl X (.builtin "max") Q1v:=⟨Qs1 hc⟩
theorem Q4i (hc:X.calm = true:=by rfl):QCl X (.builtin "min") Q1w:=⟨Qs2 hc⟩
noncomputable def Q8f:List V → Hp → VK → Prop:=fun xs H Q=>∃ i,xs = [.int i] ∧ Q (.int (if i < 0 then -i else i)) H
theorem Q8g:QCl X (.builtin "abs") Q8f:=⟨Qu2⟩
noncomputable def Q8h:List V → Hp → VK → Prop:=fun xs H Q=>∃ i j,xs = [.int i,.int j] ∧ CDv i j ∧ ∀ p,H p = none → Q (.ref p) (upd H p (.tup [.int (i / j),.int (i % j)]))
theorem Q8i:QCl X (.builtin "divmod") Q8h:=⟨Qvk⟩
noncomputable def Q1x:List V → Hp → VK → Prop:=fun xs H Q=>(∃ i,xs = [.int i] ∧ Q (.int i) H) ∨ ∃ k,xs = [.bl k] ∧ Q (.int (if k then 1 else 0)) H
theorem Qqg:QCl X (.type "int") Q1x:=⟨Qs3⟩
theorem Q4j (K:PySem.W.Frag) (hK:X.K = K):QCl X (.type "list") (Qnd K):=⟨Qzf K hK⟩
theorem Qc3 (K:PySem.W.Frag) (hK:X.K = K):QCl X (.type "tuple") (Qqd K):=⟨Q34 K hK⟩
noncomputable def Qzl:List V → Hp → VK → Prop:=fun xs H Q=>∃ i j:Int,xs = [.int i,.int j] ∧ ∀ p,H p = none → Q (.ref p) (upd H p (.rng i j))
theorem Qv3:QCl X (.type "range") Qzl:=⟨Qnb⟩
end
section
variable {P:Program} {w:World} {K:PySem.W.Frag} {mg:Str → Option Value} {base:Heap}
theorem Q8j {x:Str} {st:Stmt} {N ps:List Str} {k:Nat} {sp:Sp} (d:Dfn K mg x st) (S:FnScope N ps (Qd st)) (bd:Qab x st ps) (len:∀ vs H Q E,sp vs H Q E → vs.length = ps.length)
  (hbody:∀ (f:Addr) (cdv:Value) (A:Around) (outer:List Env) (s:Shared) (H:Hp) (vs:List V) (Q:VK) (E:XK),Room k (A.deeper (envOfC x (Qd st) s.heap.objs.size f cdv)) → sp vs H Q E →
   ∃ t,QB (Qeo (fun _=>true) CX0 P w K mg base N x (Qd st) f cdv A outer s H E).nox (Q0 st) t ∧ t { nx:=fun _ H'=>Q .non H',rt:=Q } (Qa3 N vs) H):Has P w K mg base x ps (k + 1) sp :=
 Q3y d S bd len fun f cdv A outer s H vs Q E hr hs=>let ⟨t,a,b⟩:=hbody f cdv A outer s H vs Q E hr hs; ⟨t,a.h,b⟩
end
open Classical in
noncomputable def dls (H:Hp) (S:Addr → Prop):Hp:=fun b=>if S b then none else H b
theorem Qbc {H:Hp} {S:Addr → Prop} {b:Addr} (h:¬ S b):dls H S b = H b:=by unfold dls; rw [if_neg h]
theorem Q3 {H:Hp} {S:Addr → Prop} {b:Addr} {o:HO} (e:dls H S b = some o):¬ S b ∧ H b = some o:=by
 unfold dls at e
 by_cases h:S b
 ·rw [if_pos h] at e; cases e
 ·rw [if_neg h] at e; exact ⟨h,e⟩
theorem Qv4 (H:Hp) (S:Addr → Prop):Same (dls H S) H:=fun b o e=>(Q3 e).2
theorem Qa8 {S:Addr → Prop} {H H':Hp} (s:Same H H'):Same (dls H S) (dls H' S):=fun b o e=>by
 obtain ⟨n,e⟩:=Q3 e
 rw [Qbc n]; exact s b o e
theorem Qc4 {S S':Addr → Prop} {H:Hp} (h:∀ b,S b → S' b):Same (dls H S') (dls H S):=fun b o e=>by
 obtain ⟨n,e⟩:=Q3 e
 rw [Qbc fun z=>n (h b z)]; exact e
noncomputable def Q4k:HO → Bool
 | .lst _=>true
 | .dT _=>true
 | _=>false
noncomputable def Pen (H:Hp) (S:Addr → Prop):Prop:=∀ b,S b → ∃ o,H b = some o ∧ Q4k o = true
theorem Pen.mono {H H':Hp} {S:Addr → Prop} (h:Pen H S) (s:Same H H'):Pen H' S:=fun b hb=>by
 obtain ⟨xs,e,p⟩:=h b hb
 exact ⟨xs,s _ _ e,p⟩
theorem Pen.new {H:Hp} {S:Addr → Prop} {q:Addr} (h:Pen H S) (hq:H q = none):¬ S q:=fun z=>by
 obtain ⟨xs,e,_⟩:=h q z
 rw [hq] at e; cases e
theorem Qv5 {H:Hp} {S:Addr → Prop} (h:Pen H S):Tups H (dls H S):=fun a ys e=>by
 rw [Qbc fun z=>by
  obtain ⟨xs,e',p⟩:=h a z
  rw [e] at e'; cases e'; cases p]
 exact e
section
variable {K:PySem.W.Frag} {H:Hp} {S:Addr → Prop} {x y:V} {ts us:List T} {Q:VK}
theorem Qth {H':Hp} {a:Addr} {vs:List V} (hp:Pen H' S) (e:H' a = some (.tup vs)):dls H' S a = some (.tup vs):=Qv5 hp a vs e
theorem Qgm {a:Addr} {vs:List V} (hp:Pen H S) (e:H a = some (.tup vs)) (r:IsL (dls H S) vs ts) (z:ts.length ≤ 100000):Is (dls H S) (.ref a) (.tup ts):=.tup (Qth hp e) r z
noncomputable def Qke (ts:List T) (lo hi:Option Int):List T:=(ts.drop (HT.sIx ts.length 0 lo)).take (HT.sIx ts.length ts.length hi - HT.sIx ts.length 0 lo)
theorem Qop (ts:List T) (lo hi:Option Int):(Qke ts lo hi).length ≤ ts.length:=by
 unfold Qke
 rw [List.length_take,List.length_drop]
 omega
theorem IsL.cut {D:Hp} {vs:List V} (r:IsL D vs ts) (lo hi:Option Int):IsL D (Qf0 vs lo hi) (Qke ts lo hi):=by
 unfold Qf0 Qke
 rw [r.length]
 exact (r.drop _).take _
theorem Qv6 {lo hi:Option Int} (hp:Pen H S) (it:Is (dls H S) x (.tup ts)) (k:∀ y H',Same H H' → Is (dls H' S) y (.tup (Qke ts lo hi)) → Q y H'):Qvl K x lo hi H Q:=by
 obtain ⟨a,vs,rfl,ha,r⟩:=it.tup_inv
 refine .inr ⟨a,vs,rfl,(Q3 ha).2,fun q H' s' e' _=>k _ H' s' (Qgm (hp.mono s') e' ((r.cut lo hi).mono (Qa8 s')) ?_)⟩
 have:=Qop ts lo hi
 have:=it.tup_len
 omega
theorem Q4l (hp:Pen H S) (ix:Is (dls H S) x (.tup ts)) (iy:Is (dls H S) y (.tup us)) (hz:ts.length + us.length ≤ 100000) (k:∀ z H',Same H H' → Is (dls H' S) z (.tup (ts ++ us)) → Q z H'):Qma K x y H Q:=by
 obtain ⟨a,vs,rfl,ha,r⟩:=ix.tup_inv
 obtain ⟨b,ws,rfl,hb,r2⟩:=iy.tup_inv
 refine .inr (.inr ⟨a,b,vs,ws,rfl,rfl,(Q3 ha).2,(Q3 hb).2,Qbh (by rw [r.length,r2.length]; exact hz),fun q H' s' e' _=>k _ H' s' (Qgm (hp.mono s') e' ((r.append r2).mono (Qa8 s')) (by rw [List.length_append]; exact hz))⟩)
theorem Q4m {vs:List V} (hp:Pen H S) (r:IsL (dls H S) vs ts) (hz:ts.length ≤ 100000) (k:∀ z H',Same H H' → Is (dls H' S) z (.tup ts) → Q z H'):MkT vs H Q :=
 ⟨Qbh (by rw [r.length]; exact hz),fun q hq=>k _ _ (Same.upd hq) (Qgm (hp.mono (Same.upd hq)) Qi (r.mono (Qa8 (Same.upd hq))) hz)⟩
theorem Q4n {vs:List V} (hp:Pen H S) (r:IsL (dls H S) vs ts) (hz:ts.length ≤ 100000) (k:∀ l H',Same H H' → H l = none → H' l = some (.lst vs) → Is (dls H' S) (.ref l) (.lst ts) → Q (.ref l) H'):MkL vs H Q :=
 ⟨Qbh (by rw [r.length]; exact hz),fun q hq=>k _ _ (Same.upd hq) hq Qi (.lst (by rw [Qbc (hp.new hq),Qi]) (r.mono (Qa8 (Same.upd hq))) hz)⟩
theorem Q4o {t:T} {v:V} {H':Hp} (hp:Pen H S) (r:Is (frp H H') v t):Is (dls H' S) v t:=by
 refine r.mono fun b o e=>?_
 obtain ⟨a,c⟩:=Qf3 e
 rw [Qbc fun z=>by
  obtain ⟨xs,e',_⟩:=hp b z
  rw [a] at e'; cases e']
 exact c
end
structure Raw (fs:List Addr) (g:Heap) (H:Hp) (h h':Heap):Prop where
 keep:∀ b o,h.get? b = some o → ((∃ u,g.get? b = some u) ∨ H b ≠ none) → b ∉ fs → h'.get? b = some o
 slot:∀ b o,h.get? b = some o → ((∃ u,g.get? b = some u) ∨ H b ≠ none) → ∃ sl,h'.get? b = some { o with slots:=sl }
 size:h.objs.size ≤ h'.objs.size
theorem Raw.refl (fs:List Addr) (g:Heap) (H:Hp) (h:Heap):Raw fs g H h h:=⟨fun _ _ e _ _=>e,fun _ o e _=>⟨o.slots,e⟩,Nat.le_refl _⟩
theorem Raw.trans {fs:List Addr} {g:Heap} {H:Hp} {h h1 h2:Heap} (a:Raw fs g H h h1) (b:Raw fs g H h1 h2):Raw fs g H h h2 where
 keep:=fun c o e p q=>b.keep c o (a.keep c o e p q) p q
 slot:=fun c o e p=>by
  obtain ⟨sl,e1⟩:=a.slot c o e p
  obtain ⟨sl',e2⟩:=b.slot c _ e1 p
  exact ⟨sl',e2⟩
 size:=Nat.le_trans a.size b.size
noncomputable def XObj (H:Hp) (h:Heap) (g:Heap) (e:Addr) (cls:Value) (dx:Option Addr):Prop :=
 g.get? e = none ∧ H e = none ∧ ∃ oe vs,h.get? e = some oe ∧ oe.cls = cls ∧ oe.dict = dx ∧ oe.data = .fields vs ∧ 1 < vs.size ∧
  (vs[1]? = some .none ∨ ∃ T oT ts,vs[1]? = some (.ref T) ∧ T ≠ e ∧ g.get? T = none ∧ H T = none ∧ h.get? T = some oT ∧ oT.data = .fields ts ∧ 3 < ts.size)
section
variable {M:Model} {A:Around} {E:Value → Shared → Prop} {s:Shared} {H:Hp} {g:Heap} {e L:Addr} {cls:Value} {dx:Option Addr} {env:Env} {outer:List Env} {base:Heap} {Q:Unit → Shared → Prop}
theorem Qne {fs:List Addr} {h:Heap} {a:Addr} {f:Obj → Obj} (ha:g.get? a = none) (hH:H a = none):Raw fs g H h (h.update a f):=by
 have ne:∀ b,((∃ u,g.get? b = some u) ∨ H b ≠ none) → a ≠ b:=fun b p z=>by
  subst z
  rcases p with p | p
  ·obtain ⟨u,q⟩:=p
   rw [ha] at q; cases q
  ·exact p hH
 refine ⟨fun b o e p _=>?_,fun b o e p=>⟨o.slots,?_⟩,?_⟩
 ·rw [Heap.get?_update_other _ _ (ne b p)]; exact e
 ·rw [Heap.get?_update_other _ _ (ne b p)]; exact e
 ·exact Nat.le_of_eq (by rw [Heap.size_update])
theorem Qv7 {fs:List Addr} {h:Heap} {o:Obj}:Raw fs g H h (h.push o) :=
 ⟨fun _ _ e _ _=>Heap.get?_push_of_some _ e,fun _ u e _=>⟨u.slots,Heap.get?_push_of_some _ e⟩,by rw [Heap.size_push]; omega⟩
theorem Qti {fs:List Addr} {h h':Heap} (x:Heap.SlotsOnly fs h h'):Raw fs g H h h' :=
 ⟨fun b o e _ q=>(x.2.1 b q).trans e,fun b o e _=>x.2.2 b o e,Nat.le_of_eq x.1.symm⟩
theorem Qmc {hd0:Value} {nx:Bool} (hfr:A.frames = some (env :: outer)) (hl:s.heap.FunFrames base (env :: outer)) (hf:env.frame = some L) (fresh:∀ b,s.heap.objs.size ≤ b → H b = none) (hn:∀ b o,g.get? b = some o → b < s.heap.objs.size)
  (X:XObj H s.heap g e cls dx) (h:∀ h',XObj H h' g e cls dx → Raw (frs (env :: outer)) g H s.heap h' → Q () { s with heap:=h' }) :
  wpAny M A (do let a ← frameOf env; let pl ← entryPlaceOf L nx; let b ← EntryCells.newEntry hd0 a .none (rawInt L) .none pl; setField (.ref e) 1 b) Q E s:=by
 obtain ⟨hne,hHe,oe,vs,he,hc,hdx,hd,hsz,_⟩:=X
 have nofr:e ∉ frs (env :: outer):=fun hm=>by
  obtain ⟨_,o,ho,hnf⟩:=hl.mem hm
  rw [he] at ho; cases ho; exact hnf vs hd
 refine wpAny_bind (wpAny_frameOf_fun hfr hl hf fun h1 hs1=>wpAny_bind (wpAny_entryPlaceOf fun pl hpl=>?_))
 unfold EntryCells.newEntry newFields
 refine wpAny_bind (wpAny_newObj_type ?_ (hpl.sizeOk5 _ _ _ _ _))
 have he1:h1.get? e = some oe:=(hs1.2.1 e nofr).trans he
 have sz1:h1.objs.size = s.heap.objs.size:=hs1.1
 generalize hob:({ cls:=.type "traceback",dict:=none,data:=.fields ([hd0,.ref L,.none,rawInt L,.none] ++ (if pl.isEmpty then List.replicate 6 Value.none else pl)).toArray }:Obj) = ob
 have he2:(h1.push ob).get? e = some oe:=Heap.get?_push_of_some _ he1
 have hTe:h1.objs.size ≠ e:=Nat.ne_of_gt (Heap.lt_size he1)
 have dd:=Obj.data_mapFields hd (·.setIfInBounds 1 (Value.ref h1.objs.size))
 refine wpAny_setField he2 hd hsz (h _ ?_ (((Qti hs1).trans Qv7).trans (Qne hne hHe)))
 refine ⟨hne,hHe,_,_,Heap.get?_update_self _ he2 (Obj.isFreed_of_fields dd),(Obj.cls_mapFields _ _).trans hc,?_,dd,by simpa using hsz,.inr ⟨h1.objs.size,ob,_,by simp [hsz],hTe,?_,fresh _ (by omega),?_,by rw [← hob],?_⟩⟩
 ·rw [← hdx]
  cases oe
  subst hd
  rfl
 ·cases z:g.get? h1.objs.size with
  | none=>rfl
  | some o=>exact absurd (hn _ _ z) (by rw [sz1]; exact Nat.lt_irrefl _)
 ·rw [Heap.get?_update_other _ _ (Ne.symm hTe)]
  exact Heap.get?_push_size h1 (by rw [← hob]; rfl)
 ·simp only [List.size_toArray,List.length_append,List.length_cons,List.length_nil]
  omega
theorem Qoq (hfr:A.frames = some (env :: outer)) (hl:s.heap.FunFrames base (env :: outer)) (hf:env.frame = some L) (fresh:∀ b,s.heap.objs.size ≤ b → H b = none) (hn:∀ b o,g.get? b = some o → b < s.heap.objs.size)
  (X:XObj H s.heap g e cls dx) (h:∀ h',XObj H h' g e cls dx → Raw (frs (env :: outer)) g H s.heap h' → Q () { s with heap:=h' }) :
  wpAny M A (noteFrame (.ref e) env) Q E s:=by
 obtain ⟨hne,hHe,oe,vs,he,hc,hdx,hd,hsz,h1⟩:=id X
 unfold noteFrame
 simp only [hf]
 rcases h1 with h1 | ⟨T,oT,ts,h1,hTe,hnT,hHT,hT,hdT,h3⟩
 ·refine wpAny_bind (wpAny_field he hd h1 ?_)
  rw [if_neg (by decide)]
  exact Qmc hfr hl hf fresh hn X h
 ·refine wpAny_bind (wpAny_field he hd h1 ?_)
  rw [if_pos (by simp)]
  refine wpAny_bind (wpAny_field hT hdT (Array.getElem?_eq_getElem h3) ?_)
  by_cases hz:(ts[3] == rawInt L) = true
  ·rw [if_pos hz]
   exact wpAny_pure (h _ X (Raw.refl _ _ _ _))
  ·rw [if_neg hz]
   refine wpAny_bind (wpAny_setField hT hdT h3 ?_)
   have rw1:Raw (frs (env :: outer)) g H s.heap (s.heap.update T (Obj.mapFields (·.setIfInBounds 3 Value.none))):=Qne hnT hHT
   have oth:∀ b,b ≠ T → (s.heap.update T (Obj.mapFields (·.setIfInBounds 3 Value.none))).get? b = s.heap.get? b:=fun b hb=>Heap.get?_update_other _ _ (Ne.symm hb)
   have dT:=Obj.data_mapFields hdT (·.setIfInBounds 3 Value.none)
   refine Qmc (s:={ s with heap:=s.heap.update T (Obj.mapFields (·.setIfInBounds 3 Value.none)) }) hfr (hl.of_keeps fun b o hb hnf=>⟨o,(oth b ?_).trans hb,rfl⟩) hf (fun b hb=>fresh b (Nat.le_trans rw1.size hb)) (fun b o q=>Nat.lt_of_lt_of_le (hn b o q) rw1.size)
    ⟨hne,hHe,oe,vs,(oth e (Ne.symm hTe)).trans he,hc,hdx,hd,hsz,.inr ⟨T,_,_,h1,hTe,hnT,hHT,Heap.get?_update_self _ hT (Obj.isFreed_of_fields dT),dT,by simpa using h3⟩⟩ fun h' x r=>h h' x (rw1.trans r)
   intro z
   rw [z,hT] at hb
   cases hb
   exact hnf ts hdT
theorem Qhc {fs:List Addr} (X:XObj H s.heap g e cls dx) (h:∀ h',XObj H h' g e cls dx → Raw fs g H s.heap h' → Q () { s with heap:=h' }):wpAny M A (setFlight (.ref e) none) Q E s:=by
 obtain ⟨hne,hHe,oe,vs,he,hc,hdx,hd,hsz,h1⟩:=id X
 unfold setFlight
 rcases h1 with h1 | ⟨T,oT,ts,h1,hTe,hnT,hHT,hT,hdT,h3⟩
 ·refine wpAny_bind (wpAny_field he hd h1 ?_)
  rw [if_neg (by decide)]
  exact wpAny_pure (h _ X (Raw.refl _ _ _ _))
 ·refine wpAny_bind (wpAny_field he hd h1 ?_)
  rw [if_pos (by simp)]
  have dT:=Obj.data_mapFields hdT (·.setIfInBounds 3 Value.none)
  refine wpAny_setField hT hdT h3 (h _ ⟨hne,hHe,oe,vs,?_,hc,hdx,hd,hsz,.inr ⟨T,_,_,h1,hTe,hnT,hHT,Heap.get?_update_self _ hT (Obj.isFreed_of_fields dT),dT,by simpa using h3⟩⟩ (Qne hnT hHT))
  rw [Heap.get?_update_other _ _ hTe]
  exact he
theorem Qtj (hfr:A.frames = some (env :: outer)) (hl:s.heap.FunFrames base (env :: outer)) (hf:env.frame = some L) (fresh:∀ b,s.heap.objs.size ≤ b → H b = none) (hn:∀ b o,g.get? b = some o → b < s.heap.objs.size)
  (X:XObj H s.heap g e cls dx) (h:∀ h',XObj H h' g e cls dx → Raw (frs (env :: outer)) g H s.heap h' → Q () { s with heap:=h' }) :
  wpAny M A (leaving env (.ref e)) Q E s:=by
 unfold leaving
 exact wpAny_bind (Qoq hfr hl hf fresh hn X fun h1 x1 r1=>Qhc x1 fun h2 x2 r2=>h h2 x2 (r1.trans r2))
end
noncomputable def CXE (P:Program) (w:World):CXT:=fun outer H s E e s'=>∃ a cls dx H',e = .ref a ∧ s'.os = s.os ∧ AllBare s'.gens ∧ Un (frs outer) [] H H' s.heap s'.heap ∧ HOk P w H' s'.heap ∧ XObj H' s'.heap s.heap a cls dx ∧ E cls dx H'
noncomputable abbrev XR:=Value → Option Addr → St → Hp → Prop
noncomputable def Qed (X:Cx) (R:XR):Prop:=∀ (pins:List (Addr × Obj)) (σ:St) (H:Hp) (s:Shared) (e:Value) (s':Shared),Inv X pins σ H s → CXE X.prog X.w X.stack H s (fun cls dx H'=>R cls dx σ H') e s' → X.xe e s'
section
variable {P:Program} {w:World} {H H0:Hp} {h h' h0 g:Heap} {fs fs':List Addr}
theorem Raw.hok (r:Raw fs g H h h') (ok:HOk P w H h) (hf:∀ b ∈ fs,H b = none):HOk P w H h':=fun a o e=>by
 have ht:∀ b u,H b = some u → ((∃ u,g.get? b = some u) ∨ H b ≠ none) ∧ b ∉ fs:=fun b u q=>⟨.inr (by rw [q]; simp),fun z=>by rw [hf b z] at q; cases q⟩
 refine (ok a o e).stay (fun b u hb q=>?_) (fun _ q=>q) fun _ _ q=>q
 rcases hb with rfl | hb
 ·exact r.keep _ u q (ht _ _ e).1 (ht _ _ e).2
 ·exact r.keep _ u q (ht _ _ hb).1 (ht _ _ hb).2
theorem Raw.un (r:Raw fs' g H h h') (u:Un fs [] H0 H h0 h) (hg:∀ b o,h0.get? b = some o → ∃ v,g.get? b = some v) (hs:∀ b ∈ fs',b ∈ fs ∨ h0.objs.size ≤ b):Un fs [] H0 H h0 h' where
 keep:=fun b o e n hb hx=>r.keep b o (u.keep b o e n hb hx) (.inl (hg b o e)) fun z=>by
  rcases hs b z with z | z
  ·exact hb z
  ·exact absurd (Nat.lt_of_lt_of_le (Heap.lt_size e) z) (Nat.lt_irrefl _)
 slot:=fun b o e n hb hx=>by
  obtain ⟨sl,q⟩:=u.slot b o e n hb hx
  obtain ⟨sl',q'⟩:=r.slot b _ q (.inl (hg b o e))
  exact ⟨sl',q'⟩
 free:=u.free
 there:=fun b o e hx=>by
  obtain ⟨o',q⟩:=u.there b o e hx
  obtain ⟨sl',q'⟩:=r.slot b _ q (.inl (hg b o e))
  exact ⟨_,q'⟩
 tups:=u.tups
 frzs:=u.frzs
 tbls:=u.tbls
theorem XObj.mono {e:Addr} {cls:Value} {dx:Option Addr} {g':Heap} (x:XObj H h g e cls dx) (hg:∀ b o,g'.get? b = some o → ∃ v,g.get? b = some v):XObj H h g' e cls dx:=by
 have nn:∀ b,g.get? b = none → g'.get? b = none:=fun b q=>by
  cases z:g'.get? b with
  | none=>rfl
  | some o =>
   obtain ⟨v,q'⟩:=hg b o z
   rw [q] at q'; cases q'
 obtain ⟨h1,h2,oe,vs,a1,a2,a3,a4,a5,a6⟩:=x
 refine ⟨nn _ h1,h2,oe,vs,a1,a2,a3,a4,a5,a6.imp (fun z=>z) fun ⟨T,oT,ts,b1,b2,b3,b4⟩=>⟨T,oT,ts,b1,b2,nn _ b3,b4⟩⟩
end
section
variable {X:Cx} {pins:List (Addr × Obj)} {σ:St} {H H':Hp} {s s':Shared} {e:Addr} {cls:Value} {dx:Option Addr}
theorem Inv.thrown (I:Inv X pins σ H s) (os:s'.os = s.os) (bare:AllBare s'.gens) (un:Un (frs X.stack) [] H H' s.heap s'.heap) (hok:HOk X.prog X.w H' s'.heap):Inv X pins σ H' s' :=
 I.call' (ch:=[]) os un hok bare fun b z=>absurd z (by simp)
end
theorem Q8k {g:Str → Bool} {P:Program} {w:World} {K:PySem.W.Frag} {mg:Str → Option Value} {base:Heap} {N:List Str} {qual:Str} {scope:Scope} {f:Addr} {cd:Value} {A:Around} {outer:List Env} {s0:Shared} {H0:Hp} {E:XK} :
  Qed (Qeo g (CXE P w) P w K mg base N qual scope f cd A outer s0 H0 E) (fun cls dx _ H=>E cls dx H):=by
 intro pins σ H s e s' I h
 obtain ⟨a,cls,dx,H',rfl,os,bare,un,hok,xo,hE⟩:=h
 have J:=I.thrown os bare un hok
 show wpAny _ _ (leaving _ _) _ _ _
 refine Qtj (base:=base) (outer:=outer) J.ok.frames J.stack rfl (fun b hb=>J.hok.fresh hb) (fun b o q=>?_) xo fun h' x' r'=>?_
 ·obtain ⟨o',q'⟩:=un.there b o q (by simp)
  exact Heap.lt_size q'
 ·have hg:∀ b o,s0.heap.get? b = some o → ∃ v,s.heap.get? b = some v:=fun b o q=>I.base.there b o q (by intro z; exact absurd (show b ∈ ([]:List Addr) from z) (by simp))
  refine ⟨a,cls,dx,H',rfl,J.os,J.bare,r'.un J.base hg (fun b hb=>?_),r'.hok hok J.stkFree,x'.mono hg,hE⟩
  rcases List.mem_cons.mp (J.stkSub b hb) with z | z
  ·rw [z]; exact .inr J.ok.above
  ·exact .inl z
noncomputable def Qqh (K:PySem.W.Frag) (mg:Str → Option Value) (x:Str) (cdv:Value):Prop:=∃ f oc od fd osl,mg x = some (.ref f) ∧ K.lookup f = some ⟨oc,od,.func fd,osl⟩ ∧ fd.code = cdv
noncomputable def Qv8 (P:Program) (w:World) (K:PySem.W.Frag) (mg:Str → Option Value) (base:Heap) (x:Str) (ps:List Str) (k:Nat) (sp:Sp):Prop :=
 ∃ f fd,PySem.W.keepIn K (.ref f) = true ∧ mg x = some (.ref f) ∧ Binds K fd ps [] ∧ FnOk P w K mg base (CXE P w) k f fd ps sp
section
variable {P:Program} {w:World} {K:PySem.W.Frag} {mg:Str → Option Value} {base:Heap}
theorem Q4p {g:Str → Bool} {x:Str} {st:Stmt} {N ps:List Str} {k:Nat} {sp:Sp} (d:Dfn K mg x st) (S:FnScope N ps (Qd st)) (bd:Qab x st ps) (len:∀ vs H Q E,sp vs H Q E → vs.length = ps.length)
  (hbody:∀ (X:Cx) (f:Addr) (cdv:Value) (A:Around) (outer:List Env) (s:Shared) (H:Hp) (vs:List V) (Q:VK) (E:XK),X = Qeo g (CXE P w) P w K mg base N x (Qd st) f cdv A outer s H E → Qqh K mg x cdv → Qed (Qeo g (CXE P w) P w K mg base N x (Qd st) f cdv A outer s H E) (fun cls dx _ H=>E cls dx H) →
   Room k (A.deeper (envOfC x (Qd st) s.heap.objs.size f cdv)) → sp vs H Q E →
   ∃ t,QB (Qeo g (CXE P w) P w K mg base N x (Qd st) f cdv A outer s H E) (Q0 st) t ∧ t { nx:=fun _ H'=>Q .non H',rt:=Q } (Qa3 N vs) H):Qv8 P w K mg base x ps (k + 1) sp:=by
 obtain ⟨f,fd,F,m⟩:=d.ex
 refine ⟨f,fd,F.kp,m,F.binds bd,?_⟩
 obtain ⟨oc,od,kV,doc,pm,an,cdv,ct,osl,rfl,lk,hcd⟩:=F.ex
 refine Q1j (g:=g) lk hcd S len fun A outer s H vs Q E hr hsp=>?_
 obtain ⟨t,h,q⟩:=hbody _ f cdv A outer s H vs Q E rfl ⟨f,_,_,_,_,m,lk,rfl⟩ Q8k hr hsp
 exact ⟨t,h.h,q⟩
end
noncomputable abbrev Qv9 (sp:Sp) (R:XR) (t:TA):TE:=fun σ H Q=>t σ H fun vs H1=>sp vs H1 Q (fun cls dx H2=>R cls dx σ H2)
section
variable {X:Cx} {x:Str} {ps:List Str} {k:Nat} {sp:Sp} {e:Expr} {es:List Expr} {t:TA} {p pos cpos np:Pos} {R:XR}
theorem Q8l (h:Qv8 X.prog X.w X.K X.mg X.base x ps k sp) (pz:Qed X R) (hr:Room k X.A) (ha:QA X (e :: es) t) (hg:Gl X x:=by rfl)
  (hdb:(x == ("__debug__" : Str)) = false:=by decide) (he:starEach (e :: es) X.env = (false,eval e X.env) :: starEach es X.env:=by rfl) (hpl:(backTo pos (starEach es X.env)).any (·.1) = false:=by rfl) :
  QE X (.Call (.Name x p) (e :: es) [] pos) (Qv9 sp R t):=by
 obtain ⟨f,fd,kp,m,b,F⟩:=h
 refine ⟨fun pins s σ H Q I hq=>?_⟩
 refine wpAny_Call_Name_kw (Qe7 I hg m ?_ hdb)
 refine PySem.W.callWith_K (h₀:=X.base) I.ok.mod.kin kp (thn (ha.h pos pins s σ H _ I hq) fun us s1 ⟨vs,H1,I1,r,q⟩=>⟨I1.kIn,?_⟩) he hpl
 have hl:(us ++ []).length = ps.length:=by rw [List.append_nil,← r.length]; exact F.len _ _ _ _ q
 have r2:Vals vs (us ++ []):=by rw [List.append_nil]; exact r
 refine wpAny_call (codeAny_mono (F.run X.A X.stack s1 H1 ⟨us,[]⟩ (us ++ []) vs Q _ hr I1.env0 (b s1 us I1.kIn hl) r2 q) fun rr s' hq'=>?_)
 cases rr with
 | error ev=>exact pz pins σ H1 s1 ev s' I1 hq'
 | ok fl =>
  cases fl with
  | ret u=>exact I1.after hq'
  | next=>exact False.elim hq'
  | brk=>exact False.elim hq'
  | cont=>exact False.elim hq'
theorem Q4q {st:Stmt} {t:TS} (h:QS X.nox st t):QS X st t:=⟨fun pins s σ H D I hw=>wpAny_mono (h.h pins s σ H D (I.wish _) hw) (fun _ _ q=>q.unwish) fun _ _ z=>False.elim z⟩
end
theorem Qwa {K:PySem.W.Frag} {h:Heap} {C:Addr} {bmB:List Value} {newId:String} (X:K.In h) (q:PySem.W.excIn K C bmB newId = true) :
  ∃ bm N nm qn bs hdct sn sub ab col dd k0 k1 k2 k3 k5 mN,h.get? C = some (excClassObj nm qn C N bs bm hdct sn sub ab col dd k0 k1 k2 k3 k5 newId) ∧ h.Ns N mN ∧ mN "__init__" = none ∧ OwnTail h bmB bm:=by
 unfold PySem.W.excIn at q
 split at q
 ·rename_i d0 c0 sl0 look
  split at q
  ·rename_i C' bm a0 a1 a2 a3 nid a5 eqm eqs
   simp only [Bool.and_eq_true,beq_iff_eq,Bool.not_eq_true'] at q
   obtain ⟨⟨⟨⟨⟨rfl,rfl⟩,q1⟩,q2⟩,q3⟩,q4⟩:=q
   obtain ⟨nm,bs,mro,ns,qn,hd,sn,sub,ab,col,del⟩:=c0
   dsimp only at eqm q1 q3 q4
   subst eqm q1
   obtain ⟨sll⟩:=sl0
   simp only at eqs
   subst eqs
   exact ⟨bm,ns,nm,qn,bs,hd,sn,sub,ab,col,d0,a0,a1,a2,a3,a5,_,X _ _ look,.of_isNs (PySem.W.isNs_of_in X q3),PySem.W.nsMap_none_of_in X q3 q4,PySem.W.tail_of_in X q2⟩
  ·cases q
 ·cases q
section
variable {X:Cx} {x:Str} {e:Expr} {es:List Expr} {t:TA} {pos cpos np:Pos} {R:XR} {C:Addr} {B newId initId:String} {bmB:List Value}
theorem Qzm (pz:Qed X R) (hc:X.calm = true) (F:ExcBaseFacts B newId initId bmB) (hC:PySem.W.excIn X.K C bmB newId = true) (hm:X.mg x = some (.ref C)) (ha:QA X (e :: es) t) (hg:Gl X x:=by rfl)
  (hdb:(x == ("__debug__" : Str)) = false:=by decide) (he:starEach (e :: es) X.env = (false,eval e X.env) :: starEach es X.env:=by rfl) (hpl:(backTo cpos (starEach es X.env)).any (·.1) = false:=by rfl) :
  QS X (.Raise (some (.Call (.Name x np) (e :: es) [] cpos)) none pos) (fun _ σ H=>t σ H fun vs H1=>vs.length ≤ sizeLine ∧ R (.ref C) none σ H1):=by
 refine ⟨fun pins s σ H D I hw=>?_⟩
 obtain ⟨bm,N,nm,qn,bs,hdct,sn,sub,ab,col,dd,k0,k1,k2,k3,k5,mN,oC,oN,ni,TL⟩:=Qwa I.ok.mod.kin hC
 refine wpAny_Raise_call_subT (C:=C) (nm:=nm) (q:=qn) (N:=N) (bs:=bs) (bm:=bm) (hdct:=hdct) (sn:=sn) (sub:=sub) (ab:=ab) (col:=col) (dd:=dd) (k0:=k0) (k1:=k1) (k2:=k2) (k3:=k3) (k5:=k5) F (mN:=mN) (TL.hasType F.hasBase) (I.ok.hd hc) ?_ ni (Qe7 I hg hm ⟨rfl,?_⟩ hdb)
 ·rw [he]
  show (false || (backTo cpos (starEach es X.env)).any (·.1)) = false
  rw [hpl]; rfl
 ·have h2:=ha.h cpos pins s σ H _ I hw
  rw [he] at h2 ⊢
  refine Calls.evalArgs_plain (wpAny_mono h2 (fun us s2 ⟨vs,H1,I1,r,z,q⟩=>⟨rfl,by rw [← r.length]; exact z,I1.bk _ _ oC,oN.keeps I1.bk,TL.keeps I1.bk,fun h' ea hm2=>?_⟩) fun _ _ y=>y)
  have hHe:H1 ea = none:=by
   cases z2:H1 ea with
   | none=>rfl
   | some o =>
    have:=I1.hok.lt z2
    have hk:∃ o',s2.heap.get? ea = some o':=by
     have ok:=I1.hok ea o z2
     cases o with
     | lst xs=>obtain ⟨_,_,_,_,e1⟩:=ok; exact ⟨_,e1⟩
     | tup xs=>obtain ⟨_,_,_,o,e1,_⟩:=ok; exact ⟨_,e1⟩
     | dK kvs=>obtain ⟨_,_,_,_,o,_,_,e1,_⟩:=ok; exact ⟨_,e1⟩
     | dT kvs=>obtain ⟨_,_,_,_,o,_,_,e1,_⟩:=ok; exact ⟨_,e1⟩
     | set S n=>obtain ⟨o,_,_,_,e1,_⟩:=ok; exact ⟨_,e1⟩
     | ins C dx fs=>obtain ⟨_,_,_,e1,_⟩:=ok; exact ⟨_,e1⟩
     | own y=>exact ok
     | xd fs=>obtain ⟨_,⟨_,_,_,e1,_⟩,_⟩:=ok; exact ⟨_,e1⟩
     | rng lo hi=>obtain ⟨_,_,_,e1⟩:=ok; exact ⟨_,e1⟩
     | frz ob u=>exact ⟨_,ok.1⟩
     | cod q=>obtain ⟨_,_,_,_,ec,e1,_⟩:=ok; cases ec; exact ⟨_,e1⟩
     | tbl q=>obtain ⟨_,e1,_⟩:=ok; exact ⟨_,e1⟩
     | _=>first | exact ok.2.1 | exact ⟨_,ok⟩ | (obtain ⟨_,e1,_⟩:=ok; exact ⟨_,e1⟩)
    obtain ⟨o',e1⟩:=hk
    rw [hm2.new] at e1; cases e1
  obtain ⟨tt,ht,_,_⟩:=hm2.there
  exact pz pins σ H1 s2 (.ref ea) { s2 with heap:=h' } I1 ⟨ea,.ref C,none,H1,rfl,rfl,I1.bare,Un.kept hm2.keeps,I1.hok.kept hm2.keeps,⟨hm2.new,hHe,_,_,ht,rfl,rfl,rfl,by simp,.inl rfl⟩,q⟩
end
structure RoomH (k:Nat) (A:Around):Prop where
 dp:A.depth + 3 * k + 5 < recursionLimit
 un:A.units + 16 * k + 200 < cLine
theorem RoomH.deeper {k:Nat} {A:Around} (r:RoomH (k + 1) A) (env:Env):RoomH k (A.deeper env) :=
 ⟨by have:=r.dp; show A.depth + 1 + 3 * k + 5 < _; omega,by have:=r.un; show A.units + 3 + 16 * k + 200 < _; omega⟩
theorem RoomH.depth {k:Nat} {A:Around} (r:RoomH k A):A.depth < recursionLimit:=by have:=r.dp; omega
theorem Room.mark {k:Nat} {A:Around} (r:Room k A) (h:Option Value):RoomH k (A.mark h):=⟨r.dp,r.un⟩
structure FnOkH (P:Program) (w:World) (K:PySem.W.Frag) (mg:Str → Option Value) (base:Heap) (CX:CXT) (k:Nat) (f:Addr) (fd:FuncData) (ps:List Str) (sp:Sp):Prop where
 len:∀ vs H Q E,sp vs H Q E → vs.length = ps.length
 run:∀ (A:Around) (outer:List Env) (s:Shared) (H:Hp) (args:Args) (us:List Value) (vs:List V) (Q:VK) (E:XK),RoomH k A → Env0 P w K mg base A outer s H → BindsTo s fd args (ps.zip us) → Vals vs us → sp vs H Q E →
  codeAny (model P w) A (.call (.ref f) args) (CR CX outer P w H s Q E) s
noncomputable def Qmd (CX:CXT) (P:Program) (w:World) (K:PySem.W.Frag) (mg:Str → Option Value) (base:Heap) (N:List Str) (qual:Str) (scope:Scope) (f:Addr) (cd:Value) (A:Around) (outer:List Env) (s:Shared) (H:Hp) (E:XK):Cx where
 prog:=P
 w:=w
 K:=K
 mg:=mg
 base:=base
 A:=A.deeper (envOfC qual scope s.heap.objs.size f cd)
 N:=N
 s₀:=s
 H₀:=H
 env:=envOfC qual scope s.heap.objs.size f cd
 outer:=outer
 stack:=envOfC qual scope s.heap.objs.size f cd :: outer
 ex:=[]
 calm:=false
 fn:=fun _=>true
 pn:=[]
 xe:=fun e s'=>wpAny (model P w) (A.deeper (envOfC qual scope s.heap.objs.size f cd)) (leaving (envOfC qual scope s.heap.objs.size f cd) e) (fun _ s''=>CX outer H s E e s'') (fun e' s''=>CX outer H s E e' s'') s'
theorem Qqi {CX:CXT} {P:Program} {w:World} {K:PySem.W.Frag} {mg:Str → Option Value} {base:Heap} {N ps:List Str} {qual:Str} {scope:Scope} {f:Addr} {cd:Value} {A:Around} {outer:List Env} {s s1:Shared} {H:Hp} {E:XK} {us:List Value} {vs:List V}
  (S:FnScope N ps scope) (e0:Env0 P w K mg base A outer s H) (hl:vs.length = ps.length) (r:Vals vs us)
  (x:InCallC s s.heap.objs.size (bindL (envOfC qual scope s.heap.objs.size f cd).kindOf (ps.zip us) fun _=>none) (cellsFrom (s.heap.objs.size + 1) scope.names []) (bindC (envOfC qual scope s.heap.objs.size f cd).kindOf (ps.zip us) fun _=>none) s1) :
  Inv (Qmd CX P w K mg base N qual scope f cd A outer s H E) [] (Qa3 N vs) H s1:=by
 have hpl:ps.length ≤ N.length:=by have:=congrArg List.length S.pre; rw [List.length_take] at this; omega
 obtain ⟨h1,tk,rfl,hk⟩:=x.done
 have noA:∀ b:Addr,b ∉ (Qmd CX P w K mg base N qual scope f cd A outer s H E).ex:=fun b z=>absurd (show b ∈ ([]:List Addr) from z) (by simp)
 refine ⟨⟨e0.mod,S.kind,rfl,rfl,Nat.le_refl _,fun y z c h1 h2=>?_,fun y hy=>?_,fun y c _ h=>?_,fun z=>(Bool.false_ne_true z).elim,Around.frames_deeper e0.frames,.inr ⟨rfl,rfl⟩,fun b z=>absurd z (noA b),e0.bs,e0.bsz,fun b _ _=>noA b,fun b z=>absurd z (noA b),e0.funs,e0.frf⟩,
  rfl,e0.bare,Un.kept hk,⟨_,x.toInCall.ns,fun i y v h1 h2 h3=>?_⟩,fun y c h=>⟨_,x.cell y c h⟩,e0.hok.fresh (Nat.le_refl _),fun y c h=>?_,fun p hp=>absurd (show p ∈ ([]:List (Addr × Obj)) from hp) (by simp),e0.hok.kept hk,?_⟩
 ·exact name_of_addr x.apart (PySem.mem_of_lookup h1) (PySem.mem_of_lookup h2)
 ·have hy:scope.names.lookup y = some .cell ∨ scope.names.lookup y = some .free:=hy
  rcases hy with hy | hy
  ·exact Qhr hy
  ·exact absurd rfl (S.nofree _ (PySem.mem_of_lookup hy))
 ·exact Nat.le_of_lt (x.above y c (PySem.mem_of_lookup h))
 ·have hi:i < vs.length:=by
   unfold Qa3 at h2
   by_cases hi:i < vs.length
   ·exact hi
   ·rw [List.getElem?_append_right (by simpa using hi)] at h2
    rw [List.getElem?_replicate] at h2
    split at h2 <;> cases h2
  have ha:vs[i]? = some v:=by
   unfold Qa3 at h2
   rw [List.getElem?_append_left (by simpa using hi),List.getElem?_map] at h2
   cases e:vs[i]? with
   | none=>rw [e] at h2; cases h2
   | some a=>rw [e] at h2; cases h2; rfl
  obtain ⟨u,hu,rv⟩:=r.get ha
  have hp:ps[i]? = some y:=by
   rw [← S.pre,List.getElem?_take_of_lt (by omega)]; exact h1
  have ndP:ps.Nodup:=by rw [← S.pre]; exact S.nd.sublist (List.take_sublist _ _)
  refine ⟨u,rv,?_⟩
  rcases S.par y (List.mem_of_getElem? hp) with k | k
  ·exact .inl ⟨k,Qez ndP hp hu k⟩
  ·obtain ⟨c,e⟩:=Qhr (n:=s.heap.objs.size + 1) k
   refine .inr ⟨.inl k,c,e,?_⟩
   have q:=x.cell y c e
   rw [Qim ndP hp hu (by show scope.names.lookup y ≠ _; rw [k]; decide)] at q
   exact q
 ·exact .inl (e0.hok.fresh (Nat.le_of_lt (x.above y c (PySem.mem_of_lookup h))))
 ·unfold Qa3
  show _ = N.length
  rw [List.length_append,List.length_map,List.length_replicate]
  omega
theorem Q4r {CX:CXT} {P:Program} {w:World} {K:PySem.W.Frag} {mg:Str → Option Value} {base:Heap} {k:Nat} {f:Addr} {name qual:Str} {params:Arguments} {body:List Stmt} {scope:Scope} {dV kV doc pm cdv ct oc:Value} {an od:Option Addr}
  {osl:Array (Option Value)} {N ps:List Str} {sp:Sp} (lk:K.lookup f = some ⟨oc,od,.func (PySem.W.fnOf name qual params body scope dV kV doc pm an cdv ct),osl⟩) (hcd:PySem.W.codeIn K cdv qual = true) (S:FnScope N ps scope)
  (len:∀ vs H Q E,sp vs H Q E → vs.length = ps.length)
  (hbody:∀ (A:Around) (outer:List Env) (s:Shared) (H:Hp) (vs:List V) (Q:VK) (E:XK),RoomH k (A.deeper (envOfC qual scope s.heap.objs.size f cdv)) → sp vs H Q E →
   ∃ t,PSs (Qmd CX P w K mg base N qual scope f cdv A outer s H E) body t ∧ t { nx:=fun _ H'=>Q .non H',rt:=Q } (Qa3 N vs) H) :
  FnOkH P w K mg base CX (k + 1) f (PySem.W.fnOf name qual params body scope dV kV doc pm an cdv ct) ps sp:=by
 refine ⟨len,fun A outer s H args us vs Q E hr e0 hb r hsp=>?_⟩
 have hl:=len _ _ _ _ hsp
 have KX:K.In s.heap:=e0.mod.kin.keeps fun b o e=>(e0.bs b o e).1
 have lim:s.heap.NoLimit:=e0.mod.nolimit.keeps fun b o e=>(e0.bs b o e).1
 have hkind:∀ y ∈ ps.zip us,scope.names.lookup y.1 = some .local ∨ (scope.names.lookup y.1 = some .cell ∧ ((cellsFrom (s.heap.objs.size + 1) scope.names []).lookup y.1).isSome = true):=fun ⟨n,v⟩ hy=>by
  rcases S.par n (List.of_mem_zip hy).1 with q | q
  ·exact .inl q
  ·exact .inr ⟨q,PySem.W.cellsFrom_some _ _ _ (.inl q)⟩
 refine codeAny_call_function hr.depth (KX _ _ lk) rfl S.co S.gen rfl (PySem.W.codeRec_of KX hcd) (hb _ _ _ _ ?_)
 refine wpAny_newFunctionEnv_cells S.kind hkind fun env he s1 x=>?_
 subst he
 refine ⟨lim.keeps x.toInCall.keep,codeAny_func ?_⟩
 obtain ⟨t,ht,hq⟩:=hbody A outer s H vs Q E (hr.deeper _) hsp
 have I:Inv (Qmd CX P w K mg base N qual scope f cdv A outer s H E) [] (Qa3 N vs) H s1:=Qqi S e0 hl r x
 refine wpAny_mono (ht [] s1 (Qa3 N vs) H _ I hq) (fun fl s' hs=>?_) fun e s' hs=>hs
 have fin:∀ {σ':St} {H':Hp} {v:V} {u:Value},Inv (Qmd CX P w K mg base N qual scope f cdv A outer s H E) [] σ' H' s' → RelV v u → Q v H' → CE outer P w H s Q u s' :=
  fun {σ' H' v u} J rv q=>⟨v,H',J.os,J.bare,J.base,J.hok,rv,q⟩
 cases fl with
 | ret u =>
  obtain ⟨v,σ',H',J,rv,q⟩:=hs
  exact fin J rv q
 | next =>
  obtain ⟨σ',H',J,q⟩:=hs
  exact fin (v:=V.non) (u:=Value.none) J rfl q
 | brk =>
  obtain ⟨_,_,_,q⟩:=hs
  exact False.elim q
 | cont =>
  obtain ⟨_,_,_,q⟩:=hs
  exact False.elim q
section
variable {X:Cx} {pins p2:List (Addr × Obj)} {σ σ0:St} {H H0:Hp} {s s0:Shared} {h':Heap} {R:XR}
theorem Inv.ns_in (I:Inv X pins σ H s):∃ o,s.heap.get? X.env.locals = some o:=by
 obtain ⟨m,⟨o,_,_,ho,_⟩,_⟩:=I.loc
 exact ⟨o,ho⟩
theorem Inv.cell_in (I:Inv X pins σ H s) {x:Str} {c:Addr} (e:X.env.cells.lookup x = some c):∃ o,s.heap.get? c = some o:=by
 obtain ⟨v,o,ho,_⟩:=I.cell x c e
 exact ⟨o,ho⟩
theorem Inv.old_in (I:Inv X pins σ H s) {b:Addr} {o:Obj} (e:X.s₀.heap.get? b = some o) (hx:b ∉ X.ex):∃ v,s.heap.get? b = some v:=I.base.there b o e hx
theorem Inv.raw (I:Inv X pins σ H s) (I0:Inv X pins σ0 H0 s0) (r:Raw (frs X.stack) s0.heap H s.heap h'):Inv X pins σ H { s with heap:=h' }:=by
 have sub:∀ b,b ∉ X.fs → b ≠ X.env.locals → b ∉ frs X.stack:=fun b h1 h2 z=>(List.mem_cons.mp (I.stkSub b z)).elim h2 h1
 have cellK:∀ x c v,X.env.cells.lookup x = some c → s.heap.IsCell c v → h'.IsCell c v:=fun x c v e ⟨o,ho,hd⟩=>by
  obtain ⟨sl,q⟩:=r.slot c o ho (.inl (I0.cell_in e))
  exact ⟨_,q,hd⟩
 refine ⟨I.ok,I.os,I.bare,⟨fun b o e n hb hx=>?_,fun b o e n hb hx=>?_,I.base.free,fun b o e hx=>?_,I.base.tups,I.base.frzs,I.base.tbls⟩,?_,fun x c e=>?_,I.free,I.freeC,fun p hp=>?_,r.hok I.hok I.stkFree,I.len⟩
 ·refine r.keep b o (I.base.keep b o e n hb hx) (.inl (I0.old_in e hx)) (sub b hb ?_)
  exact Nat.ne_of_lt (Nat.lt_of_lt_of_le (Heap.lt_size e) I.ok.above)
 ·obtain ⟨sl,q⟩:=I.base.slot b o e n hb hx
  obtain ⟨sl',q'⟩:=r.slot b _ q (.inl (I0.old_in e hx))
  exact ⟨sl',q'⟩
 ·obtain ⟨o',q⟩:=I.base.there b o e hx
  obtain ⟨sl',q'⟩:=r.slot b _ q (.inl (I0.old_in e hx))
  exact ⟨_,q'⟩
 ·obtain ⟨m,⟨o,es,ep,ho,rest⟩,hl⟩:=I.loc
  obtain ⟨sl,q⟩:=r.slot _ o ho (.inl I0.ns_in)
  refine ⟨m,⟨_,es,ep,q,rest⟩,fun i x v e1 e2 e3=>?_⟩
  obtain ⟨u,rv,l⟩:=hl i x v e1 e2 e3
  refine ⟨u,rv,?_⟩
  rcases l with l | ⟨k,c,e,z⟩
  ·exact .inl l
  ·exact .inr ⟨k,c,e,cellK x c _ e z⟩
 ·obtain ⟨v,z⟩:=I.cell x c e
  exact ⟨v,cellK x c v e z⟩
 ·obtain ⟨e,n,ne,nf,d⟩:=I.pin p hp
  exact ⟨r.keep p.1 p.2 e (.inl ⟨_,(I0.pin p hp).1⟩) (sub _ nf ne),n,ne,nf,d⟩
noncomputable def Qnf (a:Addr) (cls:Value) (dx:Option Addr):HO:=.ext fun h=>∃ o vs,h.get? a = some o ∧ o.cls = cls ∧ o.dict = dx ∧ o.data = .fields vs
theorem Inv.track {a:Addr} {cls:Value} {dx:Option Addr} (I:Inv X pins σ H s) (I0:Inv X pins σ0 H0 s0) (x:XObj H s.heap s0.heap a cls dx):Inv X pins σ (upd H a (Qnf a cls dx)) s:=by
 obtain ⟨hn,hH,oe,vs,he,hc,hdx,hd,_⟩:=x
 have ne:∀ b o,s0.heap.get? b = some o → b ≠ a:=fun b o e z=>by rw [z,hn] at e; cases e
 have neH:∀ b u,H b = some u → b ≠ a:=fun b u e z=>by rw [z,hH] at e; cases e
 obtain ⟨oL,hL⟩:=I0.ns_in
 refine ⟨I.ok,I.os,I.bare,⟨I.base.keep,I.base.slot,fun b o e n hx=>?_,I.base.there,fun b xs e=>?_,fun b o u e=>?_,fun b ps e=>?_⟩,I.loc,I.cell,?_,fun x c e=>?_,fun p hp=>?_,fun b u e=>?_,I.len⟩
 ·obtain ⟨v,q⟩:=I0.old_in e hx
  rw [Qv (ne _ _ q)]
  exact I.base.free b o e n hx
 ·have q:=I.base.tups b xs e
  rw [Qv (neH _ _ q)]; exact q
 ·have q:=I.base.frzs b o u e
  rw [Qv (neH _ _ q)]; exact q
 ·have q:=I.base.tbls b ps e
  rw [Qv (neH _ _ q)]; exact q
 ·rw [Qv (ne _ _ hL)]; exact I.free
 ·obtain ⟨o,q⟩:=I0.cell_in e
  rw [Qv (ne _ _ q)]; exact I.freeC x c e
 ·obtain ⟨e,n,r⟩:=I.pin p hp
  exact ⟨e,by rw [Qv (ne _ _ (I0.pin p hp).1)]; exact n,r⟩
 ·by_cases hb:b = a
  ·subst hb
   rw [Qi] at e
   cases e
   refine ⟨⟨oe,vs,he,hc,hdx,hd⟩,⟨oe,he⟩,fun h1 h2 ⟨o,vs',q,r1,r2,r3⟩ k=>⟨o,vs',k o q,r1,r2,r3⟩⟩
  ·rw [Qv hb] at e
   exact (I.hok b u e).stay (fun _ _ _ q=>q) (fun c q=>by rw [Qv (neH _ _ q)]; exact q) (fun c xs q=>by rw [Qv (neH _ _ q)]; exact q) fun c xs q=>by rw [Qv (neH _ _ q)]; exact q
noncomputable def Qkf (X:Cx) (pins:List (Addr × Obj)) (R:XR):Cx:={ X with
 pn:=X.pn ++ pins
 xe:=fun e s'=>∃ a cls dx σ' H' H1 s1,e = .ref a ∧ Inv X pins σ' H1 s1 ∧ Inv X pins σ' H' s' ∧ XObj H' s'.heap s1.heap a cls dx ∧ (∀ b o,s1.heap.get? b = some o → b < s'.heap.objs.size) ∧ R cls dx σ' H' }
theorem Inv.toTry (I:Inv X pins σ H s):Inv (Qkf X pins R) [] σ H s :=
 ⟨⟨I.ok.mod,I.ok.kind,I.ok.glob,I.ok.blt,I.ok.above,I.ok.inj,I.ok.has,I.ok.cab,I.ok.hd,I.ok.frames,I.ok.stk,I.ok.exf,I.ok.bs,I.ok.bsz,I.ok.noex,I.ok.exfs,I.ok.funs,I.ok.frf⟩,
  I.os,I.bare,I.base,I.loc,I.cell,I.free,I.freeC,fun p hp=>I.pin p (by rw [List.append_nil] at hp; exact hp),I.hok,I.len⟩
theorem Inv.ofTry (I:Inv (Qkf X pins R) p2 σ H s):Inv X pins σ H s :=
 ⟨⟨I.ok.mod,I.ok.kind,I.ok.glob,I.ok.blt,I.ok.above,I.ok.inj,I.ok.has,I.ok.cab,I.ok.hd,I.ok.frames,I.ok.stk,I.ok.exf,I.ok.bs,I.ok.bsz,I.ok.noex,I.ok.exfs,I.ok.funs,I.ok.frf⟩,
  I.os,I.bare,I.base,I.loc,I.cell,I.free,I.freeC,fun p hp=>I.pin p (List.mem_append_left _ hp),I.hok,I.len⟩
theorem Qzn:Qed (Qkf X pins R) R:=by
 intro p2 σ H s e s' I h
 obtain ⟨a,cls,dx,H',rfl,os,bare,un,hok,xo,hR⟩:=h
 have J:=I.thrown os bare un hok
 refine ⟨a,cls,dx,σ,H',H,s,rfl,I.ofTry,J.ofTry,xo,fun b o q=>?_,hR⟩
 obtain ⟨o',q'⟩:=un.there b o q (by simp)
 exact Heap.lt_size q'
noncomputable def Qkg (X:Cx) (pins:List (Addr × Obj)) (e:Addr):Cx:={ X with A:=X.A.mark (some (.ref e)),calm:=false,pn:=X.pn ++ pins,xe:=fun _ _=>False }
theorem Inv.toHan {e:Addr} (I:Inv X pins σ H s):Inv (Qkg X pins e) [] σ H s :=
 ⟨⟨I.ok.mod,I.ok.kind,I.ok.glob,I.ok.blt,I.ok.above,I.ok.inj,I.ok.has,I.ok.cab,fun z=>(Bool.false_ne_true z).elim,I.ok.frames,I.ok.stk,I.ok.exf,I.ok.bs,I.ok.bsz,I.ok.noex,I.ok.exfs,I.ok.funs,I.ok.frf⟩,
  I.os,I.bare,I.base,I.loc,I.cell,I.free,I.freeC,fun p hp=>I.pin p (by rw [List.append_nil] at hp; exact hp),I.hok,I.len⟩
theorem Inv.ofHan {e:Addr} (I:Inv (Qkg X pins e) p2 σ H s) (ok:X.Ok):Inv X pins σ H s :=
 ⟨ok,I.os,I.bare,I.base,I.loc,I.cell,I.free,I.freeC,fun p hp=>I.pin p (List.mem_append_left _ hp),I.hok,I.len⟩
end
section
variable {X:Cx} {pins:List (Addr × Obj)} {σ:St} {H:Hp} {s:Shared} {M:Model} {A:Around} {E:Value → Shared → Prop} {Q:Unit → Shared → Prop} {i:Nat} {x:Str} {v:V}
theorem Qtk (I:Inv X pins σ H s) (hN:X.N.Nodup) (hi:X.N[i]? = some x) (hl:X.env.scope.names.lookup x = some .local) (hv:σ[i]? = some (some v)) (h:∀ s',Inv X pins (σ.set i none) H s' → Q () s'):wpAny M A (unbindName X.env x) Q E s:=by
 obtain ⟨m,hn,hm⟩:=id I.loc
 have hcls:(X.env.scope.kind == .class || (X.env.scope.kind == .module && X.env.locals != X.env.globals)) = false:=by rw [I.ok.kind]; rfl
 obtain ⟨u,_,lk⟩:=hm i x v hi hv (.inl hl)
 have mv:m x = some u:=by
  rcases lk with ⟨_,e⟩ | ⟨k,_⟩
  ·exact e
  ·rcases k with k | k
   ·have k:X.env.scope.names.lookup x = some .cell:=k
    rw [hl] at k; cases k
   ·have k:X.env.scope.names.lookup x = some .free:=k
    rw [hl] at k; cases k
 obtain ⟨oL,_,_,hoL,_⟩:=id hn
 refine wpAny_unbindName_local hl hn mv hcls fun h' u' hn' hs=>h _ ?_
 have oth:∀ b o,X.s₀.heap.get? b = some o → h'.get? b = s.heap.get? b:=fun b o e=>hs.2 b (Nat.ne_of_lt (Nat.lt_of_lt_of_le (Heap.lt_size e) I.ok.above))
 have tracked:HOk X.prog X.w H h':=fun b ob e=>by
  refine (I.hok b ob e).stay (fun c w' hc q=>(hs.2 c ?_).trans q) (fun _ q=>q) fun _ _ q=>q
  rintro rfl
  rcases hc with rfl | hc
  ·rw [I.free] at e; cases e
  ·rw [I.free] at hc; cases hc
 refine ⟨I.ok,I.os,I.bare,⟨fun b o e n hb hx=>(oth b o e).trans (I.base.keep b o e n hb hx),fun b o e n hb hx=>?_,I.base.free,fun b o e hx=>?_,I.base.tups,I.base.frzs,I.base.tbls⟩,⟨_,hn',fun j y v' e1 e2 e3=>?_⟩,fun y c e=>?_,I.free,I.freeC,fun p hp=>?_,tracked,by simpa using I.len⟩
 ·obtain ⟨sl,e1⟩:=I.base.slot b o e n hb hx
  exact ⟨sl,(oth b o e).trans e1⟩
 ·obtain ⟨o',e1⟩:=I.base.there b o e hx
  exact ⟨o',(oth b o e).trans e1⟩
 ·have hj:j ≠ i:=fun z=>by
   have hlt:i < σ.length:=(List.getElem?_eq_some_iff.mp hv).1
   rw [z,List.getElem?_set_self hlt] at e2
   cases e2
  rw [List.getElem?_set_ne (Ne.symm hj)] at e2
  obtain ⟨u2,r2,q⟩:=hm j y v' e1 e2 e3
  refine ⟨u2,r2,?_⟩
  rcases q with ⟨k,e⟩ | ⟨k,c,e,z⟩
  ·refine .inl ⟨k,?_⟩
   have:y ≠ x:=fun e=>hj (Qj1 hN e1 (e ▸ hi))
   simp [this,e]
  ·exact .inr ⟨k,c,e,z.sameBut hs (I.cne y c e)⟩
 ·obtain ⟨w',z⟩:=I.cell y c e
  exact ⟨w',z.sameBut hs (I.cne y c e)⟩
 ·obtain ⟨e,n,ne,nf,d⟩:=I.pin p hp
  exact ⟨(hs.2 p.1 ne).trans e,n,ne,nf,d⟩
end
theorem Qqj {K:PySem.W.Frag} {M:Model} {A:Around} {E:Value → Shared → Prop} {h:Heap} {g:Array GenState} {d:Drawn} {t:Nat} {os:OsState} {e C0 C1:Addr} {oe:Obj} {bmB:List Value} {newId:String} {Q:Bool → Shared → Prop} (X:K.In h)
  (q0:PySem.W.excIn K C0 bmB newId = true) (hb:bmB.contains (.type "BaseException") = true) (q1:PySem.W.mroIn K C1 (.ref C0) = some true) (he:h.get? e = some oe) (hcls:oe.cls = .ref C1) (hq:Q true ⟨h,g,d,t,os⟩) :
  wpAny M A (excMatches (.ref e) (.ref C0)) Q E ⟨h,g,d,t,os⟩:=by
 obtain ⟨bm,N,nm,qn,bs,hdct,sn,sub,ab,col,dd,k0,k1,k2,k3,k5,mN,oC,oN,ni,TL⟩:=Qwa X q0
 have cB:(Value.ref C0 :: bm).contains (.type "BaseException") = true:=by rw [List.contains_cons,TL.hasType hb,Bool.or_true]
 have L1:=PySem.W.looks_mroIn (M:=M) X q1
 have f:=tc_notTuple
 unfold excMatches
 repeat (first | (with_reducible refine wpAny_loadPart_at he ?_; rw [hcls]) | with_reducible refine wpAny_loadPart_at oC ?_ | with_reducible refine L1.at ?_ | (with_reducible refine wpAny_isSubtype_exc oC ?_; rw [cB]) | wp_step)
 exact hq
noncomputable def Q8m (i:Nat) (K:PySem.W.Frag) (C0:Addr) (tb:XR → TS) (th:TS):TS:=fun D σ H=>∃ R:XR,tb R D σ H ∧ ∀ cls dx σ' H' a,R cls dx σ' H' → H' a = none → σ'.length = σ.length →
 (∃ C1,cls = .ref C1 ∧ PySem.W.mroIn K C1 (.ref C0) = some true) ∧ th { nx:=fun σ2 H2=>D.nx (σ2.set i none) H2,rt:=D.rt,bk:=fun σ2 H2=>D.bk (σ2.set i none) H2,ct:=fun σ2 H2=>D.ct (σ2.set i none) H2 } (σ'.set i (some (.ref a))) (upd H' a (Qnf a cls dx))
section
variable {X:Cx} {body suite:List Stmt} {b0:Stmt} {x n:Str} {np hpos pos:Pos} {tb:XR → TS} {th:TS} {i:Nat} {C0:Addr} {bmB:List Value} {newId:String}
theorem Q8n (hb:∀ (pins:List (Addr × Obj)) (R:XR),Qed (Qkf X pins R) R → QB (Qkf X pins R) body (tb R)) (hs:∀ (pins:List (Addr × Obj)) (e:Addr),QB (Qkg X pins e) (b0 :: suite) th)
  (hN:X.N.Nodup) (hC:PySem.W.excIn X.K C0 bmB newId = true) (hB:bmB.contains (.type "BaseException") = true) (hm:X.mg x = some (.ref C0)) (hi:X.N[i]? = some n:=by rfl) (hl:X.env.scope.names.lookup n = some .local:=by rfl) (hg:Gl X x:=by rfl)
  (hst:∃ env outer L,X.stack = env :: outer ∧ X.env = env ∧ env.frame = some L:=by exact ⟨_,_,_,rfl,rfl,rfl⟩)
  (hdb:(x == ("__debug__" : Str)) = false:=by decide):QS X (.Try body [.ExceptHandler (some (.Name x np)) (some n) (b0 :: suite) hpos] [] [] pos) (Q8m i X.K C0 tb th):=by
 refine ⟨fun pins s σ H D I hw=>?_⟩
 obtain ⟨R,hwb,hwh⟩:=hw
 obtain ⟨env0,outer,L,est,eenv,efr⟩:=hst
 have body_ok:=(hb pins R Qzn).h [] s σ H D I.toTry hwb
 refine wpAny_Try_except (wpAny_mono body_ok (fun f s1 q=>?_) fun ev s1 q=>?_)
 ·have q':SP X pins D f s1:=by
   cases f with
   | next=>obtain ⟨σ',H',J,z⟩:=q; exact ⟨σ',H',J.ofTry,z⟩
   | brk=>obtain ⟨σ',H',J,z⟩:=q; exact ⟨σ',H',J.ofTry,z⟩
   | cont=>obtain ⟨σ',H',J,z⟩:=q; exact ⟨σ',H',J.ofTry,z⟩
   | ret u=>obtain ⟨v,σ',H',J,r,z⟩:=q; exact ⟨v,σ',H',J.ofTry,r,z⟩
  cases f with
  | next=>exact wpAny_execs_nil q'
  | brk=>exact q'
  | cont=>exact q'
  | ret u=>exact q'
 ·obtain ⟨a,cls,dx,σ',H',H1,s2,rfl,I0,J,xo,hlt,hR⟩:=q
  have frJ:X.A.frames = some (env0 :: outer):=by rw [J.ok.frames,est]
  have stJ:s1.heap.FunFrames X.base (env0 :: outer):=by rw [← est]; exact J.stack
  rw [← est] at stJ
  rw [eenv]
  refine Qoq (base:=X.base) (outer:=outer) frJ (by rw [← est]; exact stJ) efr (fun b hb=>J.hok.fresh hb) hlt xo fun h3 x3 r3=>?_
  rw [← est] at r3
  have J3:=J.raw I0 r3
  refine Qhc (s:={ s1 with heap:=h3 }) (fs:=frs X.stack) x3 fun h4 x4 r4=>?_
  have J4:=J3.raw I0 r4
  obtain ⟨⟨C1,rfl,hmro⟩,hsuite⟩:=hwh cls dx σ' H' a hR x4.2.1 (J.len.trans I.len.symm)
  obtain ⟨hn,hH,oe,vs,he,hc,hdx,hd,_⟩:=id x4
  rw [← eenv]
  have ld:∀ (E':Value → Shared → Prop) (Q':Value → Shared → Prop),Q' (.ref C0) { s1 with heap:=h4 } → wpAny (model X.prog X.w) (X.A.mark (some (.ref a))) (eval (.Name x np) X.env) Q' E' { s1 with heap:=h4 }:=fun E' Q' hq=>Qe7 (X:=Qkg X pins a) (J4.toHan) hg hm hq hdb
  refine wpAny_handleBy_cons (codeAny_handlers_test (ld _ _ (Qqj (h:=h4) J4.kIn hC hB hmro he hc ?_))) (by intro z; cases z)
  refine codeAny_handlers_suite_as ?_
  refine Qhc (s:={ s1 with heap:=h4 }) (fs:=frs X.stack) x4 fun h5 x5 r5=>?_
  have J5:=J4.raw I0 r5
  have J6:=J5.track I0 x5
  refine Qhq (X:=Qkg X pins a) J6.toHan hN hi (.inl hl) (v:=.ref a) rfl (fun s6 I6=>?_) (.inr hl)
  refine wpAny_mono ((hs pins a).h [] s6 _ _ _ I6 hsuite) (fun f s7 q7=>?_) fun _ _ z=>False.elim z
  have fin:∀ {σ7:St} {H7:Hp} {P:Prop},Inv (Qkg X pins a) [] σ7 H7 s7 → (∀ s9,Inv X pins (σ7.set i none) H7 s9 → SP X pins D f s9) →
    wpAny (model X.prog X.w) X.A (do bindName X.env n .none; unbindBehindTheSuite X.env n hpos) (fun _ s9=>SP X pins D f s9) X.xe s7:=fun {σ7 H7 P} I7 k=>by
   have K7:=I7.ofHan I.ok
   have hlen:i < σ7.length:=by
    rw [K7.len]
    exact (List.getElem?_eq_some_iff.mp hi).1
   refine wpAny_bind (wpAny_bindName (Qhq K7 hN hi (.inl hl) (v:=.non) rfl (fun s8 I8=>?_) (.inr hl)))
   unfold unbindBehindTheSuite
   refine wpAny_onRaise (Qtk I8 hN hi hl (v:=.non) (List.getElem?_set_self hlen) fun s9 I9=>k s9 ?_)
   rw [List.set_set] at I9
   exact I9
  cases f with
  | next =>
   obtain ⟨σ7,H7,I7,z⟩:=q7
   exact fin (P:=True) I7 fun s9 I9=>⟨_,_,I9,z⟩
  | brk =>
   obtain ⟨σ7,H7,I7,z⟩:=q7
   exact fin (P:=True) I7 fun s9 I9=>⟨_,_,I9,z⟩
  | cont =>
   obtain ⟨σ7,H7,I7,z⟩:=q7
   exact fin (P:=True) I7 fun s9 I9=>⟨_,_,I9,z⟩
  | ret u =>
   obtain ⟨v,σ7,H7,I7,r,z⟩:=q7
   exact fin (P:=True) I7 fun s9 I9=>⟨v,_,_,I9,r,z⟩
end
end L2
namespace PySem.SeqAt
open PySem PySem.Spec PyProof PyProof.Rows
theorem sub_tuple_dict:isSubtype (.type "tuple") (.type "dict") = pure false:=by rw [isSubtype_type]; kernel_rfl
theorem sub_dict_tuple:isSubtype (.type "dict") (.type "tuple") = pure false:=by rw [isSubtype_type]; kernel_rfl
theorem sub_dict_dict:isSubtype (.type "dict") (.type "dict") = pure true:=by rw [isSubtype_type]; kernel_rfl
theorem dict_ne_declines_tuple (l b:Addr) (da:Data) (items2:Array Value) (n2:Nat) (dd dd2:Option Addr) (sl sl2:Array (Option Value)) :
  Meets (Builtin.«dict.__ne__» ⟨[.ref l,.ref b],[]⟩) (fun _ R s=>s.heap.get? l = some { cls:=.type "dict",dict:=dd,data:=da,slots:=sl } ∧ s.heap.get? b = some { cls:=.type "tuple",dict:=dd2,data:=.seq items2 n2,slots:=sl2 } ∧ R (.ok (.ret .notImplemented)) s) :=
 .of_wp fun prog w A R s h=>by obtain ⟨hp,g,d,tk,os⟩:=s; obtain ⟨hl,hb,h⟩:=h; have f1:=sub_tuple_dict; have f2:=sub_dict_dict; wp_walk using wpAny_loadPart' hl,wpAny_loadPart' hb; exact ⟨_,rfl,h⟩
theorem tuple_ne_declines_dict (l b:Addr) (da:Data) (items:Array Value) (n:Nat) (dd dd2:Option Addr) (sl sl2:Array (Option Value)) :
  Meets (Builtin.«tuple.__ne__» ⟨[.ref l,.ref b],[]⟩) (fun _ R s=>s.heap.get? l = some { cls:=.type "tuple",dict:=dd,data:=.seq items n,slots:=sl } ∧ s.heap.get? b = some { cls:=.type "dict",dict:=dd2,data:=da,slots:=sl2 } ∧ R (.ok (.ret .notImplemented)) s) :=
 .of_wp fun prog w A R s h=>by obtain ⟨hp,g,d,tk,os⟩:=s; obtain ⟨hl,hb,h⟩:=h; have f1:=sub_dict_tuple; wp_walk using wpAny_loadPart' hl,wpAny_loadPart' hb; exact ⟨_,rfl,h⟩
theorem dict_eq_declines_tuple (l b:Addr) (da:Data) (items2:Array Value) (n2:Nat) (dd dd2:Option Addr) (sl sl2:Array (Option Value)) :
  Meets (Builtin.«dict.__eq__» ⟨[.ref l,.ref b],[]⟩) (fun _ R s=>s.heap.get? l = some { cls:=.type "dict",dict:=dd,data:=da,slots:=sl } ∧ s.heap.get? b = some { cls:=.type "tuple",dict:=dd2,data:=.seq items2 n2,slots:=sl2 } ∧ R (.ok (.ret .notImplemented)) s) :=
 .of_wp fun prog w A R s h=>by obtain ⟨hp,g,d,tk,os⟩:=s; obtain ⟨hl,hb,h⟩:=h; have f1:=sub_tuple_dict; have f2:=sub_dict_dict; wp_walk using wpAny_loadPart' hl,wpAny_loadPart' hb; exact ⟨_,rfl,h⟩
theorem tuple_eq_declines_dict (l b:Addr) (da:Data) (items:Array Value) (n:Nat) (dd dd2:Option Addr) (sl sl2:Array (Option Value)) :
  Meets (Builtin.«tuple.__eq__» ⟨[.ref l,.ref b],[]⟩) (fun _ R s=>s.heap.get? l = some { cls:=.type "tuple",dict:=dd,data:=.seq items n,slots:=sl } ∧ s.heap.get? b = some { cls:=.type "dict",dict:=dd2,data:=da,slots:=sl2 } ∧ R (.ok (.ret .notImplemented)) s) :=
 .of_wp fun prog w A R s h=>by obtain ⟨hp,g,d,tk,os⟩:=s; obtain ⟨hl,hb,h⟩:=h; have f1:=sub_dict_tuple; wp_walk using wpAny_loadPart' hl,wpAny_loadPart' hb; exact ⟨_,rfl,h⟩
section
variable {A:Around} {s:Shared}
theorem RcNeAt.dict_tuple {l b:Addr} {o:Obj} {items2:Array Value} (ho:s.heap.get? l = some o) (hc:o.cls = .type "dict") (hb:s.heap.IsTuple b items2) (hu:A.units < cLine):RcNeAt A s (.ref l) (.ref b) true:=fun prog w E Q h=>by
 obtain ⟨⟨cls2,dd2,data2,sl2⟩,ho2,hc2,n2,hd2⟩:=id hb
 obtain ⟨cls,dd,data,sl⟩:=o
 simp only at hc hc2 hd2
 subst hc hc2 hd2
 have hne:l ≠ b:=fun z=>by subst z; rw [ho] at ho2; have e:(Value.type "dict") = .type "tuple" := congrArg (·.cls) (Option.some.inj ho2); exact absurd e (by decide)
 exact (rc_ne_decline_or (k:=false) ⟨_,ho,rfl⟩ ⟨_,ho2,rfl⟩ (by decide) sub_tuple_dict F.slot_dict_ne F.slot_tuple_ne_refl
  (fun _ hq=>call_meets F.slot_dict_ne ⟨_,ho,rfl⟩ F.entry_dict_ne (F.args_dict_ne_2 _ _) (dict_ne_declines_tuple l b data items2 n2 dd dd2 sl sl2) ⟨ho,ho2,hq⟩)
  (fun _ hq=>call_meets F.slot_tuple_ne_refl ⟨_,ho2,rfl⟩ F.entry_tuple_ne (F.args_tuple_ne_2 _ _) (tuple_ne_declines_dict b l data items2 n2 dd2 dd sl2 sl) ⟨ho2,ho,hq⟩)
  (fun _ hq=>wpAny_isSame_ref_other hne ho ho2 (by simp) hq) (.inr hu) h)
theorem RcAt.dict_tuple {l b:Addr} {o:Obj} {items2:Array Value} (ho:s.heap.get? l = some o) (hc:o.cls = .type "dict") (hb:s.heap.IsTuple b items2) (hu:A.units < cLine):RcAt A s (.ref l) (.ref b) false:=fun prog w E Q h=>by
 obtain ⟨⟨cls2,dd2,data2,sl2⟩,ho2,hc2,n2,hd2⟩:=id hb
 obtain ⟨cls,dd,data,sl⟩:=o
 simp only at hc hc2 hd2
 subst hc hc2 hd2
 have hne:l ≠ b:=fun z=>by subst z; rw [ho] at ho2; have e:(Value.type "dict") = .type "tuple" := congrArg (·.cls) (Option.some.inj ho2); exact absurd e (by decide)
 exact (rc_eq_decline_or (k:=false) ⟨_,ho,rfl⟩ ⟨_,ho2,rfl⟩ (by decide) sub_tuple_dict F.slot_dict_eq F.slot_tuple_eq_refl
  (fun _ hq=>call_meets F.slot_dict_eq ⟨_,ho,rfl⟩ F.entry_dict_eq (F.args_dict_eq_2 _ _) (dict_eq_declines_tuple l b data items2 n2 dd dd2 sl sl2) ⟨ho,ho2,hq⟩)
  (fun _ hq=>call_meets F.slot_tuple_eq_refl ⟨_,ho2,rfl⟩ F.entry_tuple_eq (F.args_tuple_eq_2 _ _) (tuple_eq_declines_dict b l data items2 n2 dd2 dd sl2 sl) ⟨ho2,ho,hq⟩)
  (fun _ hq=>wpAny_isSame_ref_other hne ho ho2 (by simp) hq) (.inr hu) h)
end
end PySem.SeqAt
namespace L2
open PySem PySem.Spec PyProof.Rows
mutual
noncomputable def eqT:T → T → Bool
 | .non,.non=>true
 | .bl a,.bl b=>a == b
 | .int a,.int b=>a == b
 | .bl a,.int b=>(if a then 1 else 0) == b
 | .int a,.bl b=>a == (if b then 1 else 0)
 | .str a,.str b=>a == b
 | .tup a,.tup b=>eqL a b
 | .lst a,.lst b=>eqL a b
 | _,_=>false
noncomputable def eqL:List T → List T → Bool
 | [],[]=>true
 | x :: xs,y :: ys=>eqT x y && eqL xs ys
 | _,_=>false
end
noncomputable def Qk:Nat → T → Bool
 | _,.non=>true
 | _,.bl _=>true
 | _,.int _=>true
 | _,.str _=>true
 | n + 1,.tup ts=>ts.all (Qk n)
 | n + 1,.lst ts=>ts.all (Qk n)
 | _,_=>false
theorem Qju:eqL [] [] = true:=by unfold eqL; rfl
theorem Qf4 (x y:T) (xs ys:List T):eqL (x :: xs) (y :: ys) = (eqT x y && eqL xs ys):=by rw [eqL]
theorem Qjv:∀ {xs ys:List T},xs.length ≠ ys.length → eqL xs ys = false
 | [],[],h=>absurd rfl h
 | [],_ :: _,_=>by unfold eqL; rfl
 | _ :: _,[],_=>by unfold eqL; rfl
 | x :: xs,y :: ys,h=>by rw [Qf4,Qjv (xs:=xs) (ys:=ys) (by simpa using h),Bool.and_false]
theorem Qme:∀ {xs ys:List T} {e:Nat → Bool},(∀ (j:Nat) a b,xs[j]? = some a → ys[j]? = some b → e j = eqT a b) → ((List.range (min xs.length ys.length)).all e && (xs.length == ys.length)) = eqL xs ys
 | [],[],e,_=>by rw [Qju]; rfl
 | [],y :: ys,e,_=>by rw [Qjv (by simp)]; simp
 | x :: xs,[],e,_=>by rw [Qjv (by simp)]; simp
 | x :: xs,y :: ys,e,h=>by
  rw [Qf4,← Qme (xs:=xs) (ys:=ys) (e:=fun j=>e (j + 1)) fun j a b p q=>h (j + 1) a b p q,List.length_cons,List.length_cons,Nat.succ_min_succ,List.range_succ_eq_map,List.all_cons,List.all_map,← h 0 x y rfl rfl,Bool.and_assoc]
  congr 2
  simp
theorem Qkh:∀ (n:Nat) (t:T),Qk n t = true → eqT t t = true
 | _,.non,_=>by rw [eqT]
 | _,.bl b,_=>by rw [eqT]; simp
 | _,.int i,_=>by rw [eqT]; simp
 | _,.str x,_=>by rw [eqT]; simp
 | n + 1,.tup ts,h=>by
  have h:ts.all (Qk n) = true:=by rw [Qk] at h; exact h
  have go:∀ ts:List T,ts.all (Qk n) = true → eqL ts ts = true:=fun ts=>by
   induction ts with
   | nil=>intro _; exact Qju
   | cons x xs ih =>
    intro h
    rw [List.all_cons,Bool.and_eq_true] at h
    rw [Qf4,Qkh n x h.1,ih h.2]
    rfl
  rw [eqT]; exact go ts h
 | n + 1,.lst ts,h=>by
  have h:ts.all (Qk n) = true:=by rw [Qk] at h; exact h
  have go:∀ ts:List T,ts.all (Qk n) = true → eqL ts ts = true:=fun ts=>by
   induction ts with
   | nil=>intro _; exact Qju
   | cons x xs ih =>
    intro h
    rw [List.all_cons,Bool.and_eq_true] at h
    rw [Qf4,Qkh n x h.1,ih h.2]
    rfl
  rw [eqT]; exact go ts h
 | 0,.tup _,h=>by simp [Qk] at h
 | 0,.lst _,h=>by simp [Qk] at h
 | 0,.dct _ _,h=>by simp [Qk] at h
 | 0,.clo _ _,h=>by simp [Qk] at h
 | _ + 1,.dct _ _,h=>by simp [Qk] at h
 | _ + 1,.clo _ _,h=>by simp [Qk] at h
 | 0,.dtt _ _,h=>by simp [Qk] at h
 | _ + 1,.dtt _ _,h=>by simp [Qk] at h
theorem Q1y {H:Hp}:∀ (n:Nat) {v:V} {t t':T},Is H v t → Is H v t' → Qk n t = true → Qk n t' = true → eqT t t' = true:=by
 intro n
 induction n with
 | zero =>
  intro v t t' i j h h'
  cases t <;> first | (simp [Qk] at h; done) | skip
  all_goals (cases t' <;> first | (simp [Qk] at h'; done) | skip)
  all_goals (unfold Is at i j; rw [i] at j; first | (cases j; simp [eqT]; done) | cases j)
 | succ n ih =>
  intro v t t' i j h h'
  have go:∀ (ts us:List T) (vs:List V),IsL H vs ts → IsL H vs us → ts.all (Qk n) = true → us.all (Qk n) = true → eqL ts us = true:=by
   intro ts
   induction ts with
   | nil =>
    intro us vs q1 q2 _ _
    rw [q1.nil_inv] at q2
    cases us with
    | nil=>exact Qju
    | cons y ys=>obtain ⟨_,_,z,_⟩:=q2.cons_inv; cases z
   | cons x xs ihx =>
    intro us vs q1 q2 a1 a2
    obtain ⟨v,r,rfl,c1,c2⟩:=q1.cons_inv
    cases us with
    | nil=>have:=q2.nil_inv; cases this
    | cons y ys =>
     obtain ⟨v',r',z,d1,d2⟩:=q2.cons_inv
     cases z
     rw [List.all_cons,Bool.and_eq_true] at a1 a2
     rw [Qf4,ihx ys r c2 d2 a1.2 a2.2,Bool.and_true]
     exact ih c1 d1 a1.1 a2.1
  cases t with
  | dct _ _=>simp [Qk] at h
  | clo _ _=>simp [Qk] at h
  | dtt _ _=>simp [Qk] at h
  | tup ts =>
   obtain ⟨a,vs,rfl,ha,q⟩:=i.tup_inv
   cases t' with
   | tup us =>
    obtain ⟨a',vs',e,ha',q'⟩:=j.tup_inv
    cases e
    rw [ha] at ha'
    cases ha'
    rw [eqT]
    exact go ts us vs q q' (by simpa only [Qk] using h) (by simpa only [Qk] using h')
   | lst us =>
    obtain ⟨a',vs',e,ha',q'⟩:=j.lst_inv
    cases e
    rw [ha] at ha'
    cases ha'
   | dct _ _=>simp [Qk] at h'
   | clo _ _=>simp [Qk] at h'
   | dtt _ _=>simp [Qk] at h'
   | _=>unfold Is at j; cases j
  | lst ts =>
   obtain ⟨a,vs,rfl,ha,q⟩:=i.lst_inv
   cases t' with
   | lst us =>
    obtain ⟨a',vs',e,ha',q'⟩:=j.lst_inv
    cases e
    rw [ha] at ha'
    cases ha'
    rw [eqT]
    exact go ts us vs q q' (by simpa only [Qk] using h) (by simpa only [Qk] using h')
   | tup us =>
    obtain ⟨a',vs',e,ha',q'⟩:=j.tup_inv
    cases e
    rw [ha] at ha'
    cases ha'
   | dct _ _=>simp [Qk] at h'
   | clo _ _=>simp [Qk] at h'
   | dtt _ _=>simp [Qk] at h'
   | _=>unfold Is at j; cases j
  | _ =>
   cases t' with
   | dct _ _=>simp [Qk] at h'
   | clo _ _=>simp [Qk] at h'
   | dtt _ _=>simp [Qk] at h'
   | tup us =>
    obtain ⟨a',vs',e,ha',q'⟩:=j.tup_inv
    unfold Is at i
    rw [i] at e; cases e
   | lst us =>
    obtain ⟨a',vs',e,ha',q'⟩:=j.lst_inv
    unfold Is at i
    rw [i] at e; cases e
   | _=>unfold Is at i j; rw [i] at j; first | (cases j; simp [eqT]; done) | cases j
inductive Shp (P:Program) (w:World) (H:Hp) (h:Heap):T → Value → Prop
 | non:Shp P w H h .non .none
 | bl (b):Shp P w H h (.bl b) (.bool b)
 | int (i t):Shp P w H h (.int i) (.int i t)
 | str (x t):Shp P w H h (.str x) (.str x t)
 | tup {a vs ts its}:Is H (.ref a) (.tup ts) → IsL H vs ts → Vals vs its → h.IsTuple a its.toArray → Shp P w H h (.tup ts) (.ref a)
 | lst {a vs ts its}:Is H (.ref a) (.lst ts) → IsL H vs ts → Vals vs its → h.IsList a its.toArray → Shp P w H h (.lst ts) (.ref a)
 | dct {ks ts u}:Shp P w H h (.dct ks ts) u
 | clo {l ts u}:Shp P w H h (.clo l ts) u
 | dtt {ks ts u}:Shp P w H h (.dtt ks ts) u
theorem Is.shp {P:Program} {w:World} {H:Hp} {h:Heap} {v:V} {u:Value}:∀ {t:T},Is H v t → RelV v u → HOk P w H h → Shp P w H h t u
 | .non,i,r,_=>by unfold Is at i; subst i; cases r; exact .non
 | .bl b,i,r,_=>by unfold Is at i; subst i; cases r; exact .bl b
 | .int n,i,r,_=>by unfold Is at i; subst i; obtain ⟨t,rfl⟩:=r; exact .int n t
 | .str x,i,r,_=>by unfold Is at i; subst i; obtain ⟨t,rfl⟩:=r; exact .str x t
 | .tup ts,i,r,ok=>by
  obtain ⟨a,vs,rfl,ha,q⟩:=i.tup_inv
  cases r
  obtain ⟨_,its,rv,p⟩:=ok a _ ha
  exact .tup i q rv p.tup
 | .lst ts,i,r,ok=>by
  obtain ⟨a,vs,rfl,ha,q⟩:=i.lst_inv
  cases r
  obtain ⟨_,its,n,rv,p⟩:=ok a _ ha
  exact .lst i q rv ⟨_,p,rfl,n,rfl⟩
 | .dct ks ts,_,_,_=>.dct
 | .clo l ts,_,_,_=>.clo
 | .dtt ks ts,_,_,_=>.dtt
section
variable {P:Program} {w:World} {H:Hp}
noncomputable def eAt (ts us:List T) (j:Nat):Bool:=eqT (ts.getD j .non) (us.getD j .non)
theorem Qmf (ts us:List T):((List.range (min ts.length us.length)).all (eAt ts us) && (ts.length == us.length)) = eqL ts us :=
 Qme fun j a b p q=>by unfold eAt; rw [List.getD_eq_getElem?_getD,List.getD_eq_getElem?_getD,p,q]; rfl
theorem Qor {s:Shared} {A:Around} {n:Nat} {ts us:List T} {vs ws:List V} {its its2:List Value} (i1:IsL H vs ts) (i2:IsL H ws us) (r1:Vals vs its) (r2:Vals ws its2) (ok:HOk P w H s.heap) (h1:ts.all (Qk n) = true) (h2:us.all (Qk n) = true)
  (ih:∀ (t t':T) (u u':Value),Qk n t = true → Qk n t' = true → Shp P w H s.heap t u → Shp P w H s.heap t' u' → SeqAt.EqAt A s u u' (eqT t t')) :
  ∀ (j:Nat) (g1:j < its.toArray.size) (g2:j < its2.toArray.size),SeqAt.EqAt A s its.toArray[j] its2.toArray[j] (eAt ts us j):=by
 intro j g1 g2
 have g1':j < its.length:=by simpa using g1
 have g2':j < its2.length:=by simpa using g2
 have l1:j < vs.length:=by rw [r1.length]; exact g1'
 have l2:j < ws.length:=by rw [r2.length]; exact g2'
 obtain ⟨u,hu,ru⟩:=r1.get (List.getElem?_eq_getElem l1)
 obtain ⟨u',hu',ru'⟩:=r2.get (List.getElem?_eq_getElem l2)
 obtain ⟨t,ht,it⟩:=i1.get (List.getElem?_eq_getElem l1)
 obtain ⟨t',ht',it'⟩:=i2.get (List.getElem?_eq_getElem l2)
 have e1:its.toArray[j] = u:=by
  rw [List.getElem?_eq_getElem g1'] at hu
  simpa using hu
 have e2:its2.toArray[j] = u':=by
  rw [List.getElem?_eq_getElem g2'] at hu'
  simpa using hu'
 have e3:eAt ts us j = eqT t t':=by unfold eAt; rw [List.getD_eq_getElem?_getD,List.getD_eq_getElem?_getD,ht,ht']; rfl
 rw [e1,e2,e3]
 exact ih t t' u u' (List.all_eq_true.mp h1 t (List.mem_of_getElem? ht)) (List.all_eq_true.mp h2 t' (List.mem_of_getElem? ht')) (it.shp ru ok) (it'.shp ru' ok)
theorem Qhy {ts:List T} {vs:List V} {its:List Value} (i:IsL H vs ts) (r:Vals vs its):its.toArray.size = ts.length:=by
 rw [List.size_toArray,← r.length,i.length]
open SeqAt in
theorem Qwb {s:Shared} {A:Around} {n:Nat} {ts us:List T} {a b:Addr} {vs ws:List V} {its its2:List Value} (i1:IsL H vs ts) (i2:IsL H ws us) (r1:Vals vs its) (r2:Vals ws its2) (ok:HOk P w H s.heap) (h1:ts.all (Qk n) = true) (h2:us.all (Qk n) = true)
  (hl:s.heap.IsTuple a its.toArray) (hb:s.heap.IsTuple b its2.toArray) (hu:A.units < cLine) (ih:∀ (t t':T) (u u':Value),Qk n t = true → Qk n t' = true → Shp P w H s.heap t u → Shp P w H s.heap t' u' → EqAt A.in1 s u u' (eqT t t')) :
  RcAt A s (.ref a) (.ref b) (eqL ts us) ∧ RcNeAt A s (.ref a) (.ref b) (!eqL ts us):=by
 have key:=Qor i1 i2 r1 r2 ok h1 h2 ih
 have l1:=Qhy i1 r1
 have l2:=Qhy i2 r2
 have k1:=RcAt.tuples hl hb hu key
 have k2:=RcNeAt.tuples hl hb hu key
 rw [l1,l2,Qmf] at k1 k2
 exact ⟨k1,k2⟩
open SeqAt in
theorem Qwc {s:Shared} {A:Around} {n:Nat} {ts us:List T} {a b:Addr} {vs ws:List V} {its its2:List Value} (i1:IsL H vs ts) (i2:IsL H ws us) (r1:Vals vs its) (r2:Vals ws its2) (ok:HOk P w H s.heap) (h1:ts.all (Qk n) = true) (h2:us.all (Qk n) = true)
  (hl:s.heap.IsList a its.toArray) (hb:s.heap.IsList b its2.toArray) (hu:A.units < cLine) (ih:∀ (t t':T) (u u':Value),Qk n t = true → Qk n t' = true → Shp P w H s.heap t u → Shp P w H s.heap t' u' → EqAt A.in1 s u u' (eqT t t')) :
  RcAt A s (.ref a) (.ref b) (eqL ts us) ∧ RcNeAt A s (.ref a) (.ref b) (!eqL ts us):=by
 have key:=Qor i1 i2 r1 r2 ok h1 h2 ih
 have l1:=Qhy i1 r1
 have l2:=Qhy i2 r2
 by_cases hz:ts.length = us.length
 ·have k1:=RcAt.lists hl hb (by rw [l1,l2,hz]) hu key
  have k2:=RcNeAt.lists hl hb (by rw [l1,l2,hz]) hu key
  have e:=Qmf ts us
  rw [hz,Nat.min_self,beq_self_eq_true,Bool.and_true] at e
  rw [l1,hz,e] at k1 k2
  exact ⟨k1,k2⟩
 ·rw [Qjv hz]
  have hb':(its.toArray.size != its2.toArray.size) = true:=by rw [l1,l2]; simpa using hz
  exact ⟨RcAt.lists_lengths hl hb hb' hu,RcNeAt.lists_lengths hl hb hb' hu⟩
open SeqAt in
theorem Q4s:∀ (n:Nat) {s:Shared} {A:Around},HOk P w H s.heap → A.units + n < cLine → ∀ (t t':T) (u u':Value),Qk n t = true → Qk n t' = true → Shp P w H s.heap t u → Shp P w H s.heap t' u' → EqAt A s u u' (eqT t t'):=by
 intro n
 induction n with
 | zero =>
  intro s A ok hu t t' u u' h1 h2 s1 s2
  cases s1 with
  | dct=>simp [Qk] at h1
  | clo=>simp [Qk] at h1
  | dtt=>simp [Qk] at h1
  | tup j1 i1 r1 p1=>simp [Qk] at h1
  | lst j1 i1 r1 p1=>simp [Qk] at h1
  | non =>
   cases s2 with
   | dct=>simp [Qk] at h2
   | clo=>simp [Qk] at h2
   | dtt=>simp [Qk] at h2
   | tup j2 i2 r2 p2=>simp [Qk] at h2
   | lst j2 i2 r2 p2=>simp [Qk] at h2
   | non=>simp only [eqT]; exact EqAt.same _
   | bl b=>simp only [eqT]; exact EqAt.none_bool  b
   | int i t=>simp only [eqT]; exact EqAt.none_int  i t
   | str x t=>simp only [eqT]; exact EqAt.none_str  x t
  | bl c =>
   cases s2 with
   | dct=>simp [Qk] at h2
   | clo=>simp [Qk] at h2
   | dtt=>simp [Qk] at h2
   | tup j2 i2 r2 p2=>simp [Qk] at h2
   | lst j2 i2 r2 p2=>simp [Qk] at h2
   | non=>simp only [eqT]; exact EqAt.bool_none c
   | bl b=>simp only [eqT]; exact EqAt.bool_bool c b
   | int i t=>simp only [eqT]; exact EqAt.bool_int c i t
   | str x t=>simp only [eqT]; exact EqAt.bool_str c x t
  | int c ct =>
   cases s2 with
   | dct=>simp [Qk] at h2
   | clo=>simp [Qk] at h2
   | dtt=>simp [Qk] at h2
   | tup j2 i2 r2 p2=>simp [Qk] at h2
   | lst j2 i2 r2 p2=>simp [Qk] at h2
   | non=>simp only [eqT]; exact EqAt.int_none c ct
   | bl b=>simp only [eqT]; exact EqAt.int_bool c ct b
   | int i t=>simp only [eqT]; exact EqAt.int_int c ct i t
   | str x t=>simp only [eqT]; exact EqAt.int_str c ct x t
  | str c ct =>
   cases s2 with
   | dct=>simp [Qk] at h2
   | clo=>simp [Qk] at h2
   | dtt=>simp [Qk] at h2
   | tup j2 i2 r2 p2=>simp [Qk] at h2
   | lst j2 i2 r2 p2=>simp [Qk] at h2
   | non=>simp only [eqT]; exact EqAt.str_none c ct
   | bl b=>simp only [eqT]; exact EqAt.str_bool c ct b
   | int i t=>simp only [eqT]; exact EqAt.str_int c ct i t
   | str x t=>simp only [eqT]; exact EqAt.str_str c ct x t
 | succ n ih =>
  intro s A ok hu t t' u u' h1 h2 s1 s2
  have hu0:A.units < cLine:=by omega
  have ih':=ih (s:=s) (A:=A.in1) ok (by show A.units + 1 + n < cLine; omega)
  cases s1 with
  | dct=>simp [Qk] at h1
  | clo=>simp [Qk] at h1
  | dtt=>simp [Qk] at h1
  | tup j1 i1 r1 p1 =>
   have g1:=h1
   rw [Qk] at g1
   cases s2 with
   | dct=>simp [Qk] at h2
   | clo=>simp [Qk] at h2
   | dtt=>simp [Qk] at h2
   | tup j2 i2 r2 p2 =>
    have g2:=h2
    rw [Qk] at g2
    rename_i a vs ts its b ws us its2
    by_cases hab:a = b
    ·subst hab
     rw [Q1y (n + 1) j1 j2 h1 h2]
     exact EqAt.same _
    ·rw [eqT]
     exact EqAt.of_refs hab (Qwb i1 i2 r1 r2 ok g1 g2 p1 p2 hu0 ih').1
   | lst j2 i2 r2 p2=>simp only [eqT]; exact EqAt.tuple_list p1 p2 hu0
   | non=>simp only [eqT]; exact EqAt.tuple_none p1 hu0
   | bl b=>simp only [eqT]; exact EqAt.tuple_bool b p1 hu0
   | int i t=>simp only [eqT]; exact EqAt.tuple_int i t p1 hu0
   | str x t=>simp only [eqT]; exact EqAt.tuple_str x t p1 hu0
  | lst j1 i1 r1 p1 =>
   have g1:=h1
   rw [Qk] at g1
   cases s2 with
   | dct=>simp [Qk] at h2
   | clo=>simp [Qk] at h2
   | dtt=>simp [Qk] at h2
   | lst j2 i2 r2 p2 =>
    have g2:=h2
    rw [Qk] at g2
    rename_i a vs ts its b ws us its2
    by_cases hab:a = b
    ·subst hab
     rw [Q1y (n + 1) j1 j2 h1 h2]
     exact EqAt.same _
    ·rw [eqT]
     exact EqAt.of_refs hab (Qwc i1 i2 r1 r2 ok g1 g2 p1 p2 hu0 ih').1
   | tup j2 i2 r2 p2=>simp only [eqT]; exact EqAt.list_tuple p1 p2 hu0
   | non=>simp only [eqT]; exact EqAt.list_none p1 hu0
   | bl b=>simp only [eqT]; exact EqAt.list_bool b p1 hu0
   | int i t=>simp only [eqT]; exact EqAt.list_int i t p1 hu0
   | str x t=>simp only [eqT]; exact EqAt.list_str x t p1 hu0
  | non =>
   cases s2 with
   | dct=>simp [Qk] at h2
   | clo=>simp [Qk] at h2
   | dtt=>simp [Qk] at h2
   | tup j2 i2 r2 p2=>simp only [eqT]; exact EqAt.none_tuple p2 hu0
   | lst j2 i2 r2 p2=>simp only [eqT]; exact EqAt.none_list p2 hu0
   | non=>simp only [eqT]; exact EqAt.same _
   | bl b=>simp only [eqT]; exact EqAt.none_bool b
   | int i t=>simp only [eqT]; exact EqAt.none_int i t
   | str x t=>simp only [eqT]; exact EqAt.none_str x t
  | bl c =>
   cases s2 with
   | dct=>simp [Qk] at h2
   | clo=>simp [Qk] at h2
   | dtt=>simp [Qk] at h2
   | tup j2 i2 r2 p2=>simp only [eqT]; exact EqAt.bool_tuple c p2 hu0
   | lst j2 i2 r2 p2=>simp only [eqT]; exact EqAt.bool_list c p2 hu0
   | non=>simp only [eqT]; exact EqAt.bool_none c
   | bl b=>simp only [eqT]; exact EqAt.bool_bool c b
   | int i t=>simp only [eqT]; exact EqAt.bool_int c i t
   | str x t=>simp only [eqT]; exact EqAt.bool_str c x t
  | int c ct =>
   cases s2 with
   | dct=>simp [Qk] at h2
   | clo=>simp [Qk] at h2
   | dtt=>simp [Qk] at h2
   | tup j2 i2 r2 p2=>simp only [eqT]; exact EqAt.int_tuple c ct p2 hu0
   | lst j2 i2 r2 p2=>simp only [eqT]; exact EqAt.int_list c ct p2 hu0
   | non=>simp only [eqT]; exact EqAt.int_none c ct
   | bl b=>simp only [eqT]; exact EqAt.int_bool c ct b
   | int i t=>simp only [eqT]; exact EqAt.int_int c ct i t
   | str x t=>simp only [eqT]; exact EqAt.int_str c ct x t
  | str c ct =>
   cases s2 with
   | dct=>simp [Qk] at h2
   | clo=>simp [Qk] at h2
   | dtt=>simp [Qk] at h2
   | tup j2 i2 r2 p2=>simp only [eqT]; exact EqAt.str_tuple c ct p2 hu0
   | lst j2 i2 r2 p2=>simp only [eqT]; exact EqAt.str_list c ct p2 hu0
   | non=>simp only [eqT]; exact EqAt.str_none c ct
   | bl b=>simp only [eqT]; exact EqAt.str_bool c ct b
   | int i t=>simp only [eqT]; exact EqAt.str_int c ct i t
   | str x t=>simp only [eqT]; exact EqAt.str_str c ct x t
end
section
variable {X:Cx}
noncomputable def Qzo (neg:Bool):R2:=fun x y H Q=>∃ t t',Is H x t ∧ Is H y t' ∧ Qk 50 t = true ∧ Qk 50 t' = true ∧ ((∃ ts us,t = .tup ts ∧ t' = .tup us) ∨ ∃ ts us,t = .lst ts ∧ t' = .lst us) ∧ Q (.bl (if neg then !eqT t t' else eqT t t')) H
theorem Qmg (hu:X.A.units + 64 < cLine) {pins:List (Addr × Obj)} {σ:St} {H:Hp} {s:Shared} (I:Inv X pins σ H s) {x y:V} {v u:Value} {t t':T} (rx:RelV x v) (ry:RelV y u) (i:Is H x t) (j:Is H y t') (h1:Qk 50 t = true) (h2:Qk 50 t' = true)
  (hk:(∃ ts us,t = .tup ts ∧ t' = .tup us) ∨ ∃ ts us,t = .lst ts ∧ t' = .lst us):SeqAt.RcAt X.A s v u (eqT t t') ∧ SeqAt.RcNeAt X.A s v u (!eqT t t'):=by
 have ih:=Q4s 49 (A:=X.A.in1) (P:=X.prog) (w:=X.w) I.hok (by show X.A.units + 1 + 49 < cLine; omega)
 have s1:=i.shp rx I.hok
 have s2:=j.shp ry I.hok
 rcases hk with ⟨ts,us,rfl,rfl⟩ | ⟨ts,us,rfl,rfl⟩
 ·rw [Qk] at h1 h2
  rw [eqT]
  cases s1 with
  | tup j1 i1 r1 p1 =>
   cases s2 with
   | tup j2 i2 r2 p2=>exact Qwb i1 i2 r1 r2 I.hok h1 h2 p1 p2 (by omega) ih
 ·rw [Qk] at h1 h2
  rw [eqT]
  cases s1 with
  | lst j1 i1 r1 p1 =>
   cases s2 with
   | lst j2 i2 r2 p2=>exact Qwc i1 i2 r1 r2 I.hok h1 h2 p1 p2 (by omega) ih
theorem Q8o (hu:X.A.units + 64 < cLine):QOp X (compareOp .Eq) (Qzo false):=⟨by
 intro pins s σ H x y v u Q I rx ry q
 obtain ⟨t,t',i,j,h1,h2,hk,q⟩:=q
 exact (Qmg hu I rx ry i j h1 h2 hk).1 _ _ _ _ ⟨.bl _,H,I,rfl,q⟩⟩
theorem Q8p (hu:X.A.units + 64 < cLine):QOp X (compareOp .NotEq) (Qzo true):=⟨by
 intro pins s σ H x y v u Q I rx ry q
 obtain ⟨t,t',i,j,h1,h2,hk,q⟩:=q
 exact (Qmg hu I rx ry i j h1 h2 hk).2 _ _ _ _ ⟨.bl _,H,I,rfl,q⟩⟩
noncomputable def Qzp:T → T → Bool
 | .tup _,.non=>true
 | .tup _,.bl _=>true
 | .tup _,.int _=>true
 | .tup _,.str _=>true
 | .tup _,.lst _=>true
 | .non,.tup _=>true
 | .bl _,.tup _=>true
 | .int _,.tup _=>true
 | .str _,.tup _=>true
 | .lst _,.tup _=>true
 | .dct _ _,.tup _=>true
 | _,_=>false
noncomputable def Qzq (neg:Bool):R2:=fun x y H Q=>∃ t t',Is H x t ∧ Is H y t' ∧ Qzp t t' = true ∧ Q (.bl neg) H
theorem Qos (hu:X.A.units + 64 < cLine) {pins:List (Addr × Obj)} {σ:St} {H:Hp} {s:Shared} (I:Inv X pins σ H s) {x y:V} {v u:Value} {t t':T} (rx:RelV x v) (ry:RelV y u) (i:Is H x t) (j:Is H y t') (hk:Qzp t t' = true):SeqAt.RcAt X.A s v u false ∧ SeqAt.RcNeAt X.A s v u true:=by
 have s1:=i.shp rx I.hok
 have s2:=j.shp ry I.hok
 have hu:X.A.units < cLine:=by omega
 cases s1 with
 | non =>
  cases s2 with
  | tup _ _ _ p=>exact ⟨SeqAt.RcAt.none_tuple p hu,SeqAt.RcNeAt.none_tuple p hu⟩
  | _=>cases hk
 | bl b =>
  cases s2 with
  | tup _ _ _ p=>exact ⟨SeqAt.RcAt.bool_tuple b p hu,SeqAt.RcNeAt.bool_tuple b p hu⟩
  | _=>cases hk
 | int b c =>
  cases s2 with
  | tup _ _ _ p=>exact ⟨SeqAt.RcAt.int_tuple b c p hu,SeqAt.RcNeAt.int_tuple b c p hu⟩
  | _=>cases hk
 | str b c =>
  cases s2 with
  | tup _ _ _ p=>exact ⟨SeqAt.RcAt.str_tuple b c p hu,SeqAt.RcNeAt.str_tuple b c p hu⟩
  | _=>cases hk
 | tup _ _ _ p =>
  cases s2 with
  | non=>exact ⟨SeqAt.RcAt.tuple_none p hu,SeqAt.RcNeAt.tuple_none p hu⟩
  | bl b=>exact ⟨SeqAt.RcAt.tuple_bool b p hu,SeqAt.RcNeAt.tuple_bool b p hu⟩
  | int b c=>exact ⟨SeqAt.RcAt.tuple_int b c p hu,SeqAt.RcNeAt.tuple_int b c p hu⟩
  | str b c=>exact ⟨SeqAt.RcAt.tuple_str b c p hu,SeqAt.RcNeAt.tuple_str b c p hu⟩
  | lst _ _ _ q=>exact ⟨SeqAt.RcAt.tuple_list p q hu,SeqAt.RcNeAt.tuple_list p q hu⟩
  | _=>cases hk
 | lst _ _ _ p =>
  cases s2 with
  | tup _ _ _ q=>exact ⟨SeqAt.RcAt.list_tuple p q hu,SeqAt.RcNeAt.list_tuple p q hu⟩
  | _=>cases hk
 | dct =>
  cases s2 with
  | tup _ _ _ p =>
   unfold Is at i
   obtain ⟨a,vs,rfl,ha,_⟩:=i
   cases rx
   obtain ⟨_,_,ws,_,ob,es,ep,e,c,_⟩:=(show ObjOk X.prog X.w H s.heap a (.dK _) from I.hok a _ ha)
   exact ⟨SeqAt.RcAt.dict_tuple e c.1 p hu,SeqAt.RcNeAt.dict_tuple e c.1 p hu⟩
  | _=>cases hk
 | _=>cases s2 <;> cases hk
theorem Q8q (hu:X.A.units + 64 < cLine):QOp X (compareOp .Eq) (Qzq false):=⟨by
 intro pins s σ H x y v u Q I rx ry q
 obtain ⟨t,t',i,j,hk,q⟩:=q
 exact (Qos hu I rx ry i j hk).1 _ _ _ _ ⟨.bl _,H,I,rfl,q⟩⟩
theorem Q8r (hu:X.A.units + 64 < cLine):QOp X (compareOp .NotEq) (Qzq true):=⟨by
 intro pins s σ H x y v u Q I rx ry q
 obtain ⟨t,t',i,j,hk,q⟩:=q
 exact (Qos hu I rx ry i j hk).2 _ _ _ _ ⟨.bl _,H,I,rfl,q⟩⟩
end
section
open PySem.W
theorem Qot {prog:Program} {w:World} {A:Around} {E:Value → Shared → Prop} {s:Shared} {K:Frag} {x D:Addr} {ox:Obj} {od:Option Obj} {name:Str} {fill xp:Bool} {Q:Value → Shared → Prop} {tk:Tok} {r:Value}
  (X:K.In s.heap) (I:InstAt s.heap x ox D od) (hga:findIn K (.ref D) "__getattribute__" = some (some (.builtin "BaseException.__getattribute__"))) (hgt:findIn K (.ref D) "__getattr__" = some none) (hbe:mroIn K D (.type "BaseException") = some true)
  (h:∀ (A:Around) (E:Value → Shared → Prop) (R:Value → Shared → Prop),R r s → wpAny (model prog w) A (Builtin.«object.__getattribute__» ⟨[.ref x,.str name tk],[]⟩) (fun fin s'=>∃ v,fin = .done (.ret v) ∧ R v s') E s) (hh:handedIn r = true) (hq:Q r s) :
  wpAny (model prog w) A (getAttrBy (.ref x) (.str name tk) fill xp) Q E s:=by
 obtain ⟨hp,g,d,t,os⟩:=s
 have L0:=I.type (M:=model prog w)
 have L1:=looks_findIn (M:=model prog w) X hga
 have L2:=looks_findIn (M:=model prog w) X hgt
 have L3:=looks_mroIn (M:=model prog w) X hbe
 have ne:(onTheHeap (Value.ref D) && Value.builtin "BaseException.__getattribute__" == Value.builtin "object.__getattribute__") = false:=by
  rw [show (Value.builtin "BaseException.__getattribute__" == Value.builtin "object.__getattribute__") = false from by decide +kernel,Bool.and_false]
 have bnd:=F.excAttr_ValueError.ga.bind (.ref x)
 unfold getAttrBy
 refine wpAny_holding (wpAny_bind (L0.at (wpAny_bind (L1.at ?_))))
 show wpAny _ _ (if (onTheHeap (Value.ref D) && Value.builtin "BaseException.__getattribute__" == Value.builtin "object.__getattribute__") = true then _ else _) _ _ _
 rw [ne,if_neg Bool.false_ne_true]
 unfold getAttrByItsOwn hookBefore
 rw [show onTheHeap (Value.ref D) = true from rfl,if_pos rfl]
 refine wpAny_bind (L2.at (wpAny_bind (wpAny_attempt (wpAny_holding ?_))))
 unfold callGetattribute
 rw [if_neg (by cases xp <;> decide)]
 unfold boundAndCalled
 refine wpAny_bind (wpAny_of_eq bnd ?_)
 have chk:∀ (A:Around) (E:Value → Shared → Prop) (Q:Unit → Shared → Prop),Q () ⟨hp,g,d,t,os⟩ → wpAny (model prog w) A (checkBuiltinCall "BaseException.__getattribute__" ⟨[.ref x,.str name tk],[]⟩) Q E ⟨hp,g,d,t,os⟩:=fun A E Q hq=>by
  have k1:builtinKind "BaseException.__getattribute__" = some .slot:=by decide +kernel
  have k2:splitId "BaseException.__getattribute__" = some ("BaseException","__getattribute__"):=by decide +kernel
  have k3:=F.args_bexc_ga (.ref x) (.str name tk)
  simp only [checkBuiltinCall,k1,k2]
  refine wpAny_bind ?_
  unfold isInstance
  refine wpAny_bind (L0.at (L3.at ?_))
  repeat wp_step
  exact hq
 refine wpAny_call (codeAny_call_builtin F.excAttr_ValueError.ga.plain F.entry_bexc_ga (chk _ _ _ ?_))
 refine wpAny_mono (h _ _ (fun v s'=>v = r ∧ s' = ⟨hp,g,d,t,os⟩) ⟨rfl,rfl⟩) (fun fin s' z=>?_) fun _ _ z=>z
 obtain ⟨v,rfl,rfl,rfl⟩:=z
 exact handed_on hh hq
theorem Qtl {prog:Program} {w:World} {A:Around} {E:Value → Shared → Prop} {s:Shared} {K:Frag} {x D:Addr} {ox:Obj} {od:Option Obj} {Q:Fin → Shared → Prop} {tk:Tok}
  (X:K.In s.heap) (I:InstAt s.heap x ox D od) (hf:findObj K D od "__class__" = some (.bind (.builtin "getset_descriptor.__get__") (.builtin "object.__class__"))) (hm:mroIn K D (.type "object") = some true) (hq:Q (.done (.ret (.ref D))) s) :
  wpAny (model prog w) A (Builtin.«object.__getattribute__» ⟨[.ref x,.str "__class__" tk],[]⟩) Q E s:=by
 obtain ⟨hp,g,d,t,os⟩:=s
 have L0:=I.type (M:=model prog w)
 have L1:=looks_find (M:=model prog w) X I hf
 unfold Builtin.«object.__getattribute__»
 repeat (first | with_reducible refine L0.at ?_ | with_reducible refine L1.at ?_ | wp_step)
 exact class_get (ox:=ox) (od:=od) X I hm (wpAny_pure hq)
end
noncomputable def Qou (K:PySem.W.Frag) (D:Addr):Bool:=PySem.W.findIn K (.ref D) "__getattribute__" == some (some (.builtin "BaseException.__getattribute__")) && PySem.W.findIn K (.ref D) "__getattr__" == some none && PySem.W.mroIn K D (.type "BaseException") == some true && (PySem.W.clsIn K D).isSome && PySem.W.findIn K (.ref D) "__class__" == some (some (.builtin "object.__class__")) &&
 PySem.W.specialIn K (.builtin "object.__class__") "__get__" == some (some (.builtin "getset_descriptor.__get__")) && PySem.W.takesIn K (.builtin "object.__class__") == some true && PySem.W.mroIn K D (.type "object") == some true
theorem Qov {K:PySem.W.Frag} {h:Heap} {D:Addr} (X:K.In h) (hc:(PySem.W.clsIn K D).isSome = true):∃ c d cd sl,h.get? D = some ⟨c,d,.cls cd,sl⟩:=by
 unfold PySem.W.clsIn at hc
 split at hc
 ·rename_i c d cd sl look
  exact ⟨c,d,cd,sl,X _ _ look⟩
 ·cases hc
theorem Qwd {K:PySem.W.Frag} {x D:Addr} (hk:Qou K D = true):PySem.W.KitX K (.ref x) (.ref D) (fun h=>∃ ox od,PySem.W.InstAt h x ox D od):=by
 unfold Qou at hk
 simp only [Bool.and_eq_true,beq_iff_eq] at hk
 obtain ⟨⟨⟨⟨⟨⟨⟨k1,k7⟩,k8⟩,k2⟩,k3⟩,k4⟩,k5⟩,k6⟩:=hk
 refine ⟨fun _ _ _ ⟨ox,od,I⟩=>I.type,fun M h X _=>?_,fun h tp dd its n sl X htp=>?_,fun {prog w A E Q s} X ⟨ox,od,I⟩ k=>?_⟩
 ·obtain ⟨c,d,cd,sl,ho⟩:=Qov X k2
  intro A' Q' E' s' kp q
  unfold isType loadHead
  exact wpAny_bind (wpAny_loadPart (kp _ _ ho) (wpAny_pure q))
 ·obtain ⟨c,d,cd,sl',ho⟩:=Qov X k2
  refine Bool.eq_false_iff.mpr fun q=>?_
  have e:D = tp:=Value.ref.inj (beq_iff_eq.mp q)
  subst e
  rw [ho] at htp
  cases htp
 ·have hf:PySem.W.findObj K D od "__class__" = some (.bind (.builtin "getset_descriptor.__get__") (.builtin "object.__class__")):=by
   obtain ⟨cd,hc⟩:=Option.isSome_iff_exists.mp k2
   unfold PySem.W.findObj
   rw [hc,Option.bind_some,k3,Option.bind_some]
   simp [k4,k5]
  unfold getAttr? getAttrBy?
  refine wpAny_bind (wpAny_mkText (wpAny_bind (wpAny_attempt (Qot (s:={ s with toks:=s.toks + 1 }) X I k1 k7 k8 (fun A E R hr=>?_) rfl (wpAny_pure k)))))
  exact Qtl (s:={ s with toks:=s.toks + 1 }) X I hf k6 ⟨_,rfl,hr⟩
noncomputable def Q8s:V → Value
 | .ref a=>.ref a
 | .ty n=>.type n
 | _=>.none
noncomputable def Qng (K:PySem.W.Frag):List V → Hp → VK → Prop:=fun xs H Q=>∃ a C1 dx c b,xs = [.ref a,c] ∧ H a = some (Qnf a (.ref C1) dx) ∧ (∀ d,dx = some d → ∃ fs,H d = some (.xd fs)) ∧ Qou K C1 = true ∧ ((∃ C,c = .ref C) ∨ ∃ n,c = .ty n) ∧ PySem.W.kitOne K (.ref C1) (Q8s c) = some b ∧ Q (.bl b) H
section
variable {X:Cx}
theorem Qqk:CallR X (.builtin "isinstance") (Qng X.K):=by
 intro pins s σ H xs us Q I r h
 obtain ⟨a,C1,dx,c,b,rfl,ha,hdx,hk,hc,e,q⟩:=h
 obtain ⟨u,w',rfl,rx,ry⟩:=Ql4 r
 cases rx
 have ew:w' = Q8s c:=by
  rcases hc with ⟨C,rfl⟩ | ⟨n,rfl⟩
  ·exact ry
  ·exact ry
 subst ew
 obtain ⟨⟨o,vs,ho,h1,h2,h3⟩,_⟩:=(show ObjOk X.prog X.w H s.heap a (Qnf a (.ref C1) dx) from I.hok a _ ha)
 have hod:∃ od:Option Obj,(dx = none ∧ od = none) ∨ ∃ d u,dx = some d ∧ od = some u ∧ s.heap.get? d = some u:=by
  cases e0:dx with
  | none=>exact ⟨none,.inl ⟨rfl,rfl⟩⟩
  | some d =>
   obtain ⟨fs,hf⟩:=hdx d e0
   obtain ⟨mA,⟨od,_,_,e1,_⟩,_⟩:=(show ObjOk X.prog X.w H s.heap d (.xd fs) from I.hok d _ hf)
   exact ⟨some od,.inr ⟨d,od,rfl,rfl,e1⟩⟩
 obtain ⟨od,hod⟩:=hod
 refine PySem.W.kia_one (Qwd hk) I.kIn ⟨o,od,ho,h1,?_,?_⟩ e (fun z=>nomatch z) fun tk=>⟨.bl b,H,I.tok _,rfl,q⟩
 ·unfold PySem.W.notCls; rw [h3]
 ·rw [h2]
  rcases hod with ⟨rfl,rfl⟩ | ⟨d,u,rfl,rfl,e1⟩
  ·trivial
  ·exact e1
theorem Qcp (K:PySem.W.Frag) (hK:X.K = K):QCl X (.builtin "isinstance") (Qng K):=⟨by subst hK; exact Qqk⟩
noncomputable def Qrx (K:PySem.W.Frag):V → List V → Hp → VK → Prop:=fun x vs H Q=>∃ (l:Addr) (bs:List Bool) (b:Bool),x = .ref l ∧ vs = [.bl b] ∧ H l = some (.lst (bs.map V.bl)) ∧ Q (.int (bs.count b:Nat)) H
theorem Qnh:∀ {bs:List Bool} {us:List Value},Vals (bs.map V.bl) us → us = bs.map Value.bool
 | [],_,.nil=>rfl
 | b :: bs,_,.cons r t=>by cases r; rw [Qnh t]; rfl
noncomputable def isB (b:Bool) (v:Value):Bool:=match v with
 | .bool c=>c == b
 | _=>false
theorem Qow (b:Bool):∀ bs:List Bool,(bs.map Value.bool).countP (isB b) = bs.count b
 | []=>rfl
 | c :: bs=>by
  rw [List.map_cons,List.countP_cons,Qow b bs,List.count_cons]
  rfl
theorem Qtm:MtM X "list.count" (Qrx X.K):=by
 intro pins s σ H x vs v us Q I rx rv h
 obtain ⟨l,bs,b,rfl,rfl,hH,q⟩:=h
 cases rx
 obtain ⟨u,rfl,ru⟩:=rv.one
 cases ru
 obtain ⟨z,its,n,r,hl,e⟩:=I.lstM hH
 have ei:=Qnh r
 subst ei
 refine call_meets F.slot_list_count ⟨_,e,rfl⟩ F.entry_list_count (F.args_list_count_2 _ _) (SeqAt.list_countAt l _ n none #[] (.bool b) (isB b)) ⟨e,fun y hy=>?_,?_⟩
 ·have hy:y ∈ bs.map Value.bool:=by simpa using hy
  obtain ⟨c,_,rfl⟩:=List.mem_map.mp hy
  exact SeqAt.EqAt.bool_bool c b
 ·have ec:List.countP (isB b) (bs.map Value.bool).toArray.toList = bs.count b:=by rw [List.toList_toArray]; exact Qow b bs
  rw [ec]
  exact ⟨.int _,H,I.tok _,⟨_,rfl⟩,q⟩
noncomputable def Qry (K:PySem.W.Frag):V → List V → Hp → VK → Prop:=fun x vs H Q=>∃ (l:Addr) (bs:List Bool) (b:Bool) (j:Nat),x = .ref l ∧ vs = [.bl b] ∧ H l = some (.lst (bs.map V.bl)) ∧ bs.length ≤ 1000 ∧ bs[j]? = some b ∧ (∀ m,m < j → bs[m]? ≠ some b) ∧ Q (.int (j:Nat)) H
theorem Qtn:MtM X "list.index" (Qry X.K):=by
 intro pins s σ H x vs v us Q I rx rv h
 obtain ⟨l,bs,b,j,rfl,rfl,hH,hz,hj,hno,q⟩:=h
 cases rx
 obtain ⟨u,rfl,ru⟩:=rv.one
 cases ru
 obtain ⟨z,its,n,r,hl,e⟩:=I.lstM hH
 have ei:=Qnh r
 subst ei
 have hjl:j < bs.length:=(List.getElem?_eq_some_iff.mp hj).1
 refine call_meets F.slot_list_index ⟨_,e,rfl⟩ F.entry_list_index (F.args_list_index_2 _ _) (SeqAt.list_indexAt l _ n none #[] (.bool b) (isB b) j (by simpa using hjl) (by omega) ?_ ?_) ⟨e,fun y hy=>?_,⟨.int _,H,I.tok _,⟨_,rfl⟩,q⟩⟩
 ·have e1:bs[j] = b:=by rw [List.getElem?_eq_getElem hjl] at hj; exact Option.some.inj hj
  simp [isB,e1]
 ·intro m hm hmj
  have hml:m < bs.length:=by simpa using hm
  have e1:bs[m] ≠ b:=fun z=>hno m hmj (by rw [List.getElem?_eq_getElem hml,z])
  simp [isB,e1]
 ·have hy:y ∈ bs.map Value.bool:=by simpa using hy
  obtain ⟨c,_,rfl⟩:=List.mem_map.mp hy
  exact SeqAt.EqAt.bool_bool c b
theorem Qwe (K:PySem.W.Frag) (hK:X.K = K):QMt X "list.count" (Qrx K):=⟨by subst hK; exact Qtm⟩
theorem Qwf (K:PySem.W.Frag) (hK:X.K = K):QMt X "list.index" (Qry K):=⟨by subst hK; exact Qtn⟩
end
noncomputable def Q4t (P:Program) (w:World) (K:PySem.W.Frag) (mg:Str → Option Value) (base:Heap) (x:Str) (ps:List Str) (k:Nat) (sp:Sp):Prop :=
 ∃ f fd,PySem.W.keepIn K (.ref f) = true ∧ mg x = some (.ref f) ∧ Binds K fd ps [] ∧ FnOkH P w K mg base CX0 k f fd ps sp
section
variable {P:Program} {w:World} {K:PySem.W.Frag} {mg:Str → Option Value} {base:Heap}
theorem Q4u {x:Str} {st:Stmt} {N ps:List Str} {k:Nat} {sp:Sp} (d:Dfn K mg x st) (S:FnScope N ps (Qd st)) (bd:Qab x st ps) (len:∀ vs H Q E,sp vs H Q E → vs.length = ps.length)
  (hbody:∀ (f:Addr) (cdv:Value) (A:Around) (outer:List Env) (s:Shared) (H:Hp) (vs:List V) (Q:VK) (E:XK),RoomH k (A.deeper (envOfC x (Qd st) s.heap.objs.size f cdv)) → sp vs H Q E →
   ∃ t,QB (Qmd CX0 P w K mg base N x (Qd st) f cdv A outer s H E).nox (Q0 st) t ∧ t { nx:=fun _ H'=>Q .non H',rt:=Q } (Qa3 N vs) H):Q4t P w K mg base x ps (k + 1) sp:=by
 obtain ⟨f,fd,F,m⟩:=d.ex
 refine ⟨f,fd,F.kp,m,F.binds bd,?_⟩
 obtain ⟨oc,od,kV,doc,pm,an,cdv,ct,osl,rfl,lk,hcd⟩:=F.ex
 refine Q4r lk hcd S len fun A outer s H vs Q E hr hsp=>?_
 obtain ⟨t,h,q⟩:=hbody f cdv A outer s H vs Q E hr hsp
 exact ⟨t,h.h.nox,q⟩
end
section
variable {X:Cx} {x:Str} {ps:List Str} {k:Nat} {sp:Sp} {e:Expr} {es:List Expr} {t:TA} {p pos:Pos}
theorem Q1z (h:Q4t X.prog X.w X.K X.mg X.base x ps k sp) (hr:RoomH k X.A) (ha:QA X (e :: es) t) (hg:Gl X x:=by rfl)
  (hdb:(x == ("__debug__" : Str)) = false:=by decide) (he:starEach (e :: es) X.env = (false,eval e X.env) :: starEach es X.env:=by rfl) (hpl:(backTo pos (starEach es X.env)).any (·.1) = false:=by rfl) :
  QE X (.Call (.Name x p) (e :: es) [] pos) (Qj5 sp [] E0 t):=by
 obtain ⟨f,fd,kp,m,b,F⟩:=h
 refine ⟨fun pins s σ H Q I hq=>?_⟩
 refine wpAny_Call_Name_kw (Qe7 I hg m ?_ hdb)
 refine PySem.W.callWith_K (h₀:=X.base) I.ok.mod.kin kp (thn (ha.h pos pins s σ H _ I hq) fun us s1 ⟨vs,H1,I1,r,q⟩=>⟨I1.kIn,?_⟩) he hpl
 have q2:sp vs H1 Q E0:=by
  have q:sp (vs ++ []) H1 Q E0:=q
  rw [List.append_nil] at q
  exact q
 have hl:(us ++ []).length = ps.length:=by rw [List.append_nil,← r.length]; exact F.len _ _ _ _ q2
 have r2:Vals vs (us ++ []):=by rw [List.append_nil]; exact r
 refine wpAny_call (codeAny_mono (F.run X.A X.stack s1 H1 ⟨us,[]⟩ (us ++ []) vs Q _ hr I1.env0 (b s1 us I1.kIn hl) r2 q2) fun rr s' hq'=>?_)
 cases rr with
 | error ev=>exact False.elim hq'
 | ok fl =>
  cases fl with
  | ret u=>exact I1.after hq'
  | next=>exact False.elim hq'
  | brk=>exact False.elim hq'
  | cont=>exact False.elim hq'
end
noncomputable def cad (mg:Str → Option Value) (x:Str):Addr:=match mg x with
 | some (.ref a)=>a
 | _=>0
noncomputable def bmV:List Value:=[.type "ValueError",.type "Exception",.type "BaseException",.type "object"]
noncomputable def Qas:List Str:=["NoTable","NoWay","NoSet","NoRest","NoLine","NoRow","NoTables","Below","NoText","TooGreat"]
noncomputable def Qwg (K:PySem.W.Frag) (c0:Addr) (cs:List Addr):Bool :=
 PySem.W.excIn K c0 bmV "ValueError.__new__" && (cs.take 6).all (fun c=>PySem.W.excIn K c bmV "ValueError.__new__") && cs.all (fun c=>Qou K c && PySem.W.mroIn K c (.ref c0) == some true && PySem.W.kitOne K (.ref c) (.type "ValueError") == some true) &&
  cs.zipIdx.all (fun p=>cs.zipIdx.all fun q=>PySem.W.kitOne K (.ref p.1) (.ref q.1) == some (p.2 == q.2))
structure Exs (K:PySem.W.Frag) (mg:Str → Option Value):Prop where
 m0:mg "NoughtError" = some (.ref (cad mg "NoughtError"))
 m:∀ (i:Nat) (x:Str),Qas[i]? = some x → mg x = some (.ref (cad mg x))
 ok:Qwg K (cad mg "NoughtError") (Qas.map (cad mg)) = true
theorem Qaw {mg:Str → Option Value} {x:Str} {a:Addr} (h:mg x = some (.ref a)):cad mg x = a:=by unfold cad; rw [h]
theorem Q4v {K:PySem.W.Frag} {mg:Str → Option Value} {h:Heap} {c0 c1 c2 c3 c4 c5 c6 c7 c8 c9 c10:Addr} (X:K.In h) (G:h.Ns mainGlobals mg) (e0:PySem.W.nsIn K mainGlobals "NoughtError" = some (some (.ref c0)))
  (e1:PySem.W.nsIn K mainGlobals "NoTable" = some (some (.ref c1))) (e2:PySem.W.nsIn K mainGlobals "NoWay" = some (some (.ref c2))) (e3:PySem.W.nsIn K mainGlobals "NoSet" = some (some (.ref c3))) (e4:PySem.W.nsIn K mainGlobals "NoRest" = some (some (.ref c4)))
  (e5:PySem.W.nsIn K mainGlobals "NoLine" = some (some (.ref c5))) (e6:PySem.W.nsIn K mainGlobals "NoRow" = some (some (.ref c6))) (e7:PySem.W.nsIn K mainGlobals "NoTables" = some (some (.ref c7))) (e8:PySem.W.nsIn K mainGlobals "Below" = some (some (.ref c8)))
  (e9:PySem.W.nsIn K mainGlobals "NoText" = some (some (.ref c9))) (e10:PySem.W.nsIn K mainGlobals "TooGreat" = some (some (.ref c10))) (ok:Qwg K c0 [c1,c2,c3,c4,c5,c6,c7,c8,c9,c10] = true):Exs K mg:=by
 have g0:=PySem.W.mg_of X G e0
 have g1:=PySem.W.mg_of X G e1
 have g2:=PySem.W.mg_of X G e2
 have g3:=PySem.W.mg_of X G e3
 have g4:=PySem.W.mg_of X G e4
 have g5:=PySem.W.mg_of X G e5
 have g6:=PySem.W.mg_of X G e6
 have g7:=PySem.W.mg_of X G e7
 have g8:=PySem.W.mg_of X G e8
 have g9:=PySem.W.mg_of X G e9
 have g10:=PySem.W.mg_of X G e10
 have em:Qas.map (cad mg) = [c1,c2,c3,c4,c5,c6,c7,c8,c9,c10]:=by
  unfold Qas
  simp only [List.map_cons,List.map_nil]
  rw [Qaw g1,Qaw g2,Qaw g3,Qaw g4,Qaw g5,Qaw g6,Qaw g7,Qaw g8,Qaw g9,Qaw g10]
 refine ⟨by rw [Qaw g0]; exact g0,fun i x hx=>?_,by rw [em,Qaw g0]; exact ok⟩
 have ms:=List.mem_of_getElem? hx
 unfold Qas at ms
 simp only [List.mem_cons,List.not_mem_nil,or_false] at ms
 rcases ms with rfl | rfl | rfl | rfl | rfl | rfl | rfl | rfl | rfl | rfl
 ·rw [Qaw g1]; exact g1
 ·rw [Qaw g2]; exact g2
 ·rw [Qaw g3]; exact g3
 ·rw [Qaw g4]; exact g4
 ·rw [Qaw g5]; exact g5
 ·rw [Qaw g6]; exact g6
 ·rw [Qaw g7]; exact g7
 ·rw [Qaw g8]; exact g8
 ·rw [Qaw g9]; exact g9
 ·rw [Qaw g10]; exact g10
section
variable {K:PySem.W.Frag} {mg:Str → Option Value}
theorem Exs.parts (ex:Exs K mg):PySem.W.excIn K (cad mg "NoughtError") bmV "ValueError.__new__" = true ∧ (∀ c ∈ (Qas.map (cad mg)).take 6,PySem.W.excIn K c bmV "ValueError.__new__" = true) ∧
  (∀ c ∈ Qas.map (cad mg),Qou K c = true ∧ PySem.W.mroIn K c (.ref (cad mg "NoughtError")) = some true ∧ PySem.W.kitOne K (.ref c) (.type "ValueError") = some true) ∧
  ∀ (i j:Nat) (c d:Addr),(Qas.map (cad mg))[i]? = some c → (Qas.map (cad mg))[j]? = some d → PySem.W.kitOne K (.ref c) (.ref d) = some (i == j):=by
 have h:=ex.ok
 unfold Qwg at h
 simp only [Bool.and_eq_true,List.all_eq_true,beq_iff_eq] at h
 obtain ⟨⟨⟨h1,h2⟩,h3⟩,h4⟩:=h
 refine ⟨h1,h2,fun c hc=>⟨(h3 c hc).1.1,(h3 c hc).1.2,(h3 c hc).2⟩,fun i j c d hi hj=>?_⟩
 exact h4 (c,i) (List.mk_mem_zipIdx_iff_getElem?.mpr hi) (d,j) (List.mk_mem_zipIdx_iff_getElem?.mpr hj)
theorem Exs.nou (ex:Exs K mg):PySem.W.excIn K (cad mg "NoughtError") bmV "ValueError.__new__" = true:=ex.parts.1
theorem Exs.rz (ex:Exs K mg) (i:Nat) {x:Str} (hi:i < 6) (hx:Qas[i]? = some x):PySem.W.excIn K (cad mg x) bmV "ValueError.__new__" = true:=by
 refine ex.parts.2.1 _ (List.mem_of_getElem? (i:=i) ?_)
 rw [List.getElem?_take_of_lt hi,List.getElem?_map,hx]
 rfl
theorem Exs.at (i:Nat) {x:Str} (hx:Qas[i]? = some x):(Qas.map (cad mg))[i]? = some (cad mg x):=by rw [List.getElem?_map,hx]; rfl
theorem Exs.xc (ex:Exs K mg) (i:Nat) {x:Str} (hx:Qas[i]? = some x):Qou K (cad mg x) = true:=(ex.parts.2.2.1 _ (List.mem_of_getElem? (Exs.at i hx))).1
theorem Exs.sub (ex:Exs K mg) (i:Nat) {x:Str} (hx:Qas[i]? = some x):PySem.W.mroIn K (cad mg x) (.ref (cad mg "NoughtError")) = some true:=(ex.parts.2.2.1 _ (List.mem_of_getElem? (Exs.at i hx))).2.1
theorem Exs.val (ex:Exs K mg) (i:Nat) {x:Str} (hx:Qas[i]? = some x):PySem.W.kitOne K (.ref (cad mg x)) (.type "ValueError") = some true:=(ex.parts.2.2.1 _ (List.mem_of_getElem? (Exs.at i hx))).2.2
theorem Exs.kit (ex:Exs K mg) (i j:Nat) {x y:Str} (hx:Qas[i]? = some x) (hy:Qas[j]? = some y):PySem.W.kitOne K (.ref (cad mg x)) (.ref (cad mg y)) = some (i == j):=ex.parts.2.2.2 i j _ _ (Exs.at i hx) (Exs.at j hy)
end
theorem Qg2 {X:Cx} {x:Str} {a:Addr} {pos:Pos} (m:X.mg x = some (.ref a)) (hg:Gl X x:=by rfl) (hd:(x == ("__debug__" : Str)) = false:=by decide):QE X (.Name x pos) (tC (.ref a)):=⟨Qrm (v:=.ref a) hg m rfl hd⟩
section
variable {X:Cx} {pins:List (Addr × Obj)} {σ:St} {H:Hp} {s:Shared} {h':Heap}
end
section
variable {X:Cx}
end
section
variable {P:Program} {w:World} {A:Around} {E:Value → Shared → Prop} {s:Shared}
noncomputable def Q8t:Bool → Heap → Addr → Addr → Nat → Prop
 | true,h,i,l,n=>h.IsListIter i l n
 | false,h,i,l,n=>h.IsTupleIter i l n
noncomputable def Q8u:Bool → Heap → Addr → Array Value → Prop
 | true,h,l,xs=>h.IsList l xs
 | false,h,l,xs=>h.IsTuple l xs
structure ZT (lb lc:Bool) (h:Heap) (z ti to i1 i2 l1 l2:Addr) (n:Nat) (xs ys:Array Value):Prop where
 z:IsZip h z ti to .none
 ti:IsPair h ti (.ref i1) (.ref i2)
 to:∃ a b,IsPair h to a b
 i1:Q8t lb h i1 l1 n
 i2:Q8t lc h i2 l2 n
 l1:Q8u lb h l1 xs
 l2:Q8u lc h l2 ys
end
section
variable {P:Program} {w:World} {A:Around} {E:Value → Shared → Prop} {s:Shared}
end
section
variable {X:Cx}
end
section
variable {prog:Program} {w:World} {A:Around} {E:Value → Shared → Prop} {s:Shared}
end
section
variable {X:Cx}
end
noncomputable def Qto (K:PySem.W.Frag) (c0 C:Addr) (bmB:List Value) (newId:String) (f:Addr):Bool:=match K.lookup C with
 | some ⟨.type "type",_,.cls cl,ks⟩=>(match cl.mro,ks.toList with
  | .ref C1 :: .ref b0 :: tl,[_,_,_,_,some (.builtin n1),_]=>C1 == C && n1 == newId && b0 == c0 && tl == bmB && !cl.hasDel && cl.hasDict && PySem.W.tailIn K bmB (.ref b0 :: tl)
  | _,_=>false)
 | _=>false
noncomputable def Qki (K:PySem.W.Frag) (c0 C f:Addr):Bool:=Qto K c0 C bmV "ValueError.__new__" f && PySem.W.findIn K (.ref C) "__init__" == some (some (.ref f)) && PySem.W.findIn K (.ref C) "__setattr__" == some (some (.builtin "object.__setattr__")) && PySem.W.findIn K (.ref C) "at" == some none && PySem.W.mroIn K C (.type "object") == some true
theorem Qrz {K:PySem.W.Frag} {h:Heap} {c0 C f:Addr} {bmB:List Value} {newId:String} (X:K.In h) (q:Qto K c0 C bmB newId f = true) :
  ∃ N nm qn bs sn sub ab col dd k0 k1 k2 k3 k5,h.get? C = some (excClassObj nm qn C N bs (.ref c0 :: bmB) true sn sub ab col dd k0 k1 k2 k3 k5 newId) ∧ OwnTail h bmB (.ref c0 :: bmB):=by
 unfold Qto at q
 split at q
 ·rename_i d0 cl ks look
  split at q
  ·rename_i C1 b0 tl a0 a1 a2 a3 n1 a5 eqm eqs
   simp only [Bool.and_eq_true,beq_iff_eq,Bool.not_eq_true'] at q
   obtain ⟨⟨⟨⟨⟨⟨rfl,rfl⟩,rfl⟩,rfl⟩,q1⟩,q2⟩,q3⟩:=q
   obtain ⟨nm,bs,mro,ns,qn,hd,sn,sub,ab,col,del⟩:=cl
   dsimp only at eqm q1 q2
   subst eqm q1 q2
   obtain ⟨kl⟩:=ks
   simp only at eqs
   subst eqs
   exact ⟨ns,nm,qn,bs,sn,sub,ab,col,d0,a0,a1,a2,a3,a5,X _ _ look,PySem.W.tail_of_in X q3⟩
  ·cases q
 ·cases q
section
variable {prog:Program} {w:World} {A:Around} {E:Value → Shared → Prop} {h:Heap} {g:Array GenState} {d:Drawn} {t:Nat} {os:OsState}
variable {nm q:Str} {C N c0:Addr} {bs bm bmB:List Value} {hd:Bool} {sn:List Str} {sub:List Value} {ab:Bool} {col:Option Bool} {dd:Option Addr} {k0 k1 k2 k3 k5:Option Value} {B nid iid:String}
noncomputable abbrev exH (h:Heap) (C:Addr) (us:List Value):Heap:=(h.push { cls:=.type "tuple",data:=.seq us.toArray }).push { cls:=.ref C,data:=.fields #[.ref h.objs.size,.none,.none,.none,.bool false,.none] }
theorem Qox (h:Heap) (C:Addr) (us:List Value) (b:Addr) (o:Obj) (e:h.get? b = some o):(exH h C us).get? b = some o:=Heap.get?_push_of_some _ (Heap.get?_push_of_some _ e)
theorem Qr0 (h:Heap) (C:Addr) (us:List Value):(exH h C us).get? (h.objs.size + 1) = some { cls:=.ref C,data:=.fields #[.ref h.objs.size,.none,.none,.none,.bool false,.none] }:=by heap_get
theorem Qtp (F:ExcBaseFacts B nid iid bmB) (T:OwnTail h bmB bm) {K:PySem.W.Frag} (X:K.In h) {us:List Value} {f:Addr} {of:Obj} {Q:Fin → Shared → Prop}
  (cC:h.get? C = some (excClassObj nm q C N bs bm hd sn sub ab col dd k0 k1 k2 k3 k5 nid)) (ini:PySem.W.findIn K (.ref C) "__init__" = some (some (.ref f))) (cf:h.get? f = some of) (tf:of.cls = .type "function")
  (run:wpAny (model prog w) A (call (.ref f) (.ref (h.objs.size + 1) :: us)) (fun r s'=>r = .none ∧ Q (.done (.ret (.ref (h.objs.size + 1)))) s') E ⟨exH h C us,g,d,t,os⟩) (hz:us.length ≤ sizeLine) :
  wpAny (model prog w) A (Builtin.«type.__call__» ⟨.ref C :: us,[]⟩) Q E ⟨h,g,d,t,os⟩:=by
 repeat (first | with_reducible refine wpAny_loadPart_at cC ?_ | with_reducible refine wpAny_madeBy_exc cC ?_ | wp_step)
 refine codeAny_call_builtin_code (Code.quiet_builtin _ F.quiet) (wpAny_check_new_subT F T cC ?_)
 refine codeAny_exc_new_subT F T cC ?_ hz
 show wpAny _ _ _ _ _ _
 have kp:=Qox h C us
 have c1:=kp _ _ cC
 have X1:K.In (exH h C us):=X.keeps kp
 have f1:=kp _ _ cf
 have e1:=Qr0 h C us
 have hcC:(Value.ref C :: bm).contains (.ref C) = true:=by simp
 unfold isInstance
 repeat (first | with_reducible refine wpAny_loadPart_at e1 ?_ | (with_reducible refine wpAny_isSubtype_exc c1 ?_; rw [hcC]) | wp_step)
 show wpAny _ _ (typeLookup (.ref C) _) _ _ _
 refine PySem.W.looks_findIn X1 ini _ _ _ _ (fun _ _ z=>z) ?_
 refine wpAny_holding (wpAny_bind ?_)
 unfold bindSpecial
 refine wpAny_bind (wpAny_typeOf (T := "function") ⟨_,f1,tf⟩ ?_)
 rw [if_pos (by decide)]
 refine wpAny_pure (wpAny_bind (wpAny_mono run (fun r s' hr=>?_) fun _ _ x=>x))
 obtain ⟨rfl,hQ⟩:=hr
 wp_walk
 exact hQ
theorem Qtq (F:ExcBaseFacts B nid iid bmB) (T:OwnTail h bmB bm) {K:PySem.W.Frag} (X:K.In h) {us:List Value} {f:Addr} {of:Obj} {Q:Value → Shared → Prop}
  (cC:h.get? C = some (excClassObj nm q C N bs bm hd sn sub ab col dd k0 k1 k2 k3 k5 nid)) (ini:PySem.W.findIn K (.ref C) "__init__" = some (some (.ref f))) (cf:h.get? f = some of) (tf:of.cls = .type "function")
  (run:wpAny (model prog w) (A.under (.builtin "type.__call__" ⟨.ref C :: us,[]⟩)) (call (.ref f) (.ref (h.objs.size + 1) :: us)) (fun r s'=>r = .none ∧ Q (.ref (h.objs.size + 1)) s') E ⟨exH h C us,g,d,t,os⟩) (hz:us.length ≤ sizeLine) :
  wpAny (model prog w) A (call (.ref C) us) Q E ⟨h,g,d,t,os⟩:=by
 have f1:=tc_lookup
 have f2:=tc_bind (.ref C)
 have hT:(⟨h,g,d,t,os⟩:Shared).TypeIs (.ref C) "type" := ⟨_,cC,rfl⟩
 refine wpAny_call (codeAny_of_tree ?_)
 show wpAny _ _ (callAny (.ref C) _) _ _ _
 repeat (any_goals (first | assumption | with_reducible refine wpAny_loadPart_at cC ?_ | wp_step))
 refine ⟨rfl,?_⟩
 exact codeAny_call_builtin_at (Code.quiet_builtin _ (by decide +kernel)) entry_typeCall (wpAny_check_type_call_sub cC (Qtp F T X cC ini cf tf run hz))
noncomputable def Q4w (h:Heap) (x:Addr):Heap:=(h.push { cls:=.type "dict",data:=.dict #[] }).update x fun o=>{ cls:=o.cls,dict:=some h.objs.size,data:=o.data,slots:=o.slots }
theorem Qoy {K:PySem.W.Frag} (X:K.In h) {x:Addr} {ox:Obj} {name:Str} {v:Value} {tk:Tok} {vs:Array Value} {Q:Fin → Shared → Prop}
  (cC:h.get? C = some (excClassObj nm q C N bs (.ref c0 :: bmV) true sn sub ab col dd k0 k1 k2 k3 k5 nid)) (hx:h.get? x = some ox) (hc:ox.cls = .ref C) (hdn:ox.dict = none) (hdt:ox.data = .fields vs) (fnd:PySem.W.findIn K (.ref C) name = some none)
  (hq:∀ h' tk',h'.get? x = some { cls:=ox.cls,dict:=some h.objs.size,data:=ox.data,slots:=ox.slots } → h'.Ns1 h.objs.size (fun y=>if y = name then some v else none) → (∀ b o,b ≠ x → h.get? b = some o → h'.get? b = some o) → Q (.done (.ret .none)) ⟨h',g,d,tk',os⟩) :
  wpAny (model prog w) A (Builtin.«object.__setattr__» ⟨[.ref x,.str name tk,v],[]⟩) Q E ⟨h,g,d,t,os⟩:=by
 have ok:refuseLoop (.ref x) "__setattr__" bmV = pure ():=F.store_ValueError.passes (.ref x)
 have L:=PySem.W.looks_findIn (M:=model prog w) X fnd
 unfold Builtin.«object.__setattr__»
 repeat (first | rw [refuse_eq] | (rw [refuseLoop_ref,refuseLoop_ref,ok]) | (with_reducible refine wpAny_loadPart_at hx ?_; rw [hc]) | with_reducible refine wpAny_mroOf_exc cC ?_ | with_reducible refine L.at ?_ | wp_step)
 rw [hdn,if_neg (by simp [typeHasDict])]
 split
 ·rename_i z
  cases z
 split
 ·rename_i c z
  rw [hdt] at z
  cases z
 have xs:x ≠ h.objs.size:=Nat.ne_of_lt (Heap.lt_size hx)
 have x1:(h.push { cls:=.type "dict",data:=.dict #[] }).get? x = some ox:=Heap.get?_push_of_some _ hx
 refine wpAny_bind (wpAny_alloc' (wpAny_bind (wpAny_update' x1 (wpAny_pure ?_))))
 have gd:(Q4w h x).get? h.objs.size = some { cls:=.type "dict",data:=.dict #[] }:=(Heap.get?_update_ne _ _ _ _ xs.symm).trans (Heap.get?_push_at rfl rfl)
 have gx:(Q4w h x).get? x = some { cls:=ox.cls,dict:=some h.objs.size,data:=ox.data,slots:=ox.slots }:=Heap.get?_update_self _ x1 (by
  obtain ⟨oc,od,odt,osl⟩:=ox
  dsimp only at hdt
  subst hdt
  rfl)
 show wpAny _ _ (Builtin.ObjectAttr.storeInDict h.objs.size (.str name tk) name v) _ _ ⟨Q4w h x,g,d,_,os⟩
 unfold Builtin.ObjectAttr.storeInDict Builtin.ObjectAttr.newKeyGuard
 refine wpAny_bind (wpAny_pure (wpAny_bind (wpAny_nsSet1 (Heap.Ns1.of_empty ⟨_,#[],_,gd,rfl,fun e he=>absurd he (by simp),fun _=>rfl⟩) fun h' hn' hs=>?_)))
 obtain ⟨oD,esD,epD,hoD,hdD,hcD⟩:=hn'.count (Within.cons name v Within.nil)
 refine wpAny_bind (wpAny_lookBehind hoD (by rw [hdD]; exact pastItsLine_dict (Nat.le_trans hcD (by rw [List.length_cons,List.length_nil,sizeLine_eq]; omega))) ?_)
 wp_walk
 exact hq h' _ ((hs.2 x xs).trans gx) hn' fun b o hb e=>(hs.2 b (Nat.ne_of_lt (Heap.lt_size e))).trans ((Heap.get?_update_ne _ _ _ _ hb).trans (Heap.get?_push_of_some _ e))
theorem Qtr {K:PySem.W.Frag} (X:K.In h) {x:Addr} {ox:Obj} {name:Str} {v:Value} {vs:Array Value} {Q:Unit → Shared → Prop}
  (cC:h.get? C = some (excClassObj nm q C N bs (.ref c0 :: bmV) true sn sub ab col dd k0 k1 k2 k3 k5 nid)) (hx:h.get? x = some ox) (hc:ox.cls = .ref C) (hdn:ox.dict = none) (hdt:ox.data = .fields vs) (fnd:PySem.W.findIn K (.ref C) name = some none)
  (fsa:PySem.W.findIn K (.ref C) "__setattr__" = some (some (.builtin "object.__setattr__"))) (fmo:PySem.W.mroIn K C (.type "object") = some true)
  (hq:∀ h' tk',h'.get? x = some { cls:=ox.cls,dict:=some h.objs.size,data:=ox.data,slots:=ox.slots } → h'.Ns1 h.objs.size (fun y=>if y = name then some v else none) → (∀ b o,b ≠ x → h.get? b = some o → h'.get? b = some o) → Q () ⟨h',g,d,tk',os⟩) :
  wpAny (model prog w) A (setAttr (.ref x) name v) Q E ⟨h,g,d,t,os⟩:=by
 have f3:=F.store_ValueError.slot.bind (.ref x)
 have L1:=PySem.W.looks_findIn (M:=model prog w) X fsa
 have L2:=PySem.W.looks_mroIn (M:=model prog w) X fmo
 unfold setAttr callSpecial? specialOf
 repeat (any_goals (first | assumption | (with_reducible refine wpAny_loadPart_at hx ?_; rw [hc]) | with_reducible refine L1.at ?_ | wp_step))
 refine codeAny_call_builtin F.store_ValueError.slot.plain F.store_ValueError.entry ?_
 have chk:∀ (A:Around) (E:Value → Shared → Prop) (nv:Value) (t':Nat) (Q:Unit → Shared → Prop),Q () ⟨h,g,d,t',os⟩ → wpAny (model prog w) A (checkBuiltinCall "object.__setattr__" ⟨[.ref x,nv,v],[]⟩) Q E ⟨h,g,d,t',os⟩:=fun A E nv t' Q hq=>by
  have ha:=F.store_ValueError.args (.ref x) nv v
  have k1:builtinKind "object.__setattr__" = some .slot:=F.store_ValueError.kind
  have k2:splitId "object.__setattr__" = some ("object","__setattr__"):=F.store_ValueError.split
  simp only [checkBuiltinCall,k1,k2]
  refine wpAny_bind ?_
  unfold isInstance
  repeat (first | (with_reducible refine wpAny_loadPart_at hx ?_; rw [hc]) | with_reducible refine L2.at ?_ | wp_step)
  exact hq
 refine chk _ _ _ _ _ (Qoy X cC hx hc hdn hdt fnd fun h' tk' a b c=>?_)
 repeat (any_goals (first | assumption | wp_step))
 exact hq h' tk' a b c
structure Ini (K:PySem.W.Frag) (c0 C:Addr):Prop where
 ex:∃ (f:Addr) (fd:FuncData) (qn:Str) (st:Stmt) (p1 p2 p3 p4:Pos),Qki K c0 C f = true ∧ Fun K "__init__" qn st f fd ∧ (∃ od osl,K.lookup f = some ⟨.type "function",od,.func fd,osl⟩) ∧ FnScope ["self","at"] ["self","at"] (Qd st) ∧
  (Qd st).names.lookup ("self" : Str) = some .local ∧ (Qd st).names.lookup ("at" : Str) = some .local ∧ Binds K fd ["self","at"] [] ∧ Q0 st = [.Assign [.Attribute (.Name "self" p1) "at" p2] (.Name "at" p3) p4]
end
section
variable {X:Cx} {pins:List (Addr × Obj)} {σ:St} {H:Hp} {s:Shared}
theorem Qwh {c0 C:Addr} (I:Inv X pins σ H s) (D:Ini X.K c0 C) {u:Value} {A:Around} {E:Value → Shared → Prop} {Q:Value → Shared → Prop} (hd:A.depth + 5 < recursionLimit)
  (hq:∀ (h':Heap) (tk:Nat) (e d:Addr),(∀ b o,s.heap.get? b = some o → h'.get? b = some o) → s.heap.objs.size ≤ e → s.heap.objs.size ≤ d → e ≠ d →
   h'.get? e = some { cls:=.ref C,dict:=some d,data:=.fields #[.ref s.heap.objs.size,.none,.none,.none,.bool false,.none] } → h'.Ns1 d (fun y=>if y = "at" then some u else none) → Q (.ref e) { s with heap:=h',toks:=tk }) :
  wpAny (model X.prog X.w) A (call (.ref C) [u]) Q E s:=by
 have KX:=I.kIn
 have lim0:=I.nolimit
 obtain ⟨hp,g,d,t,os⟩:=s
 obtain ⟨f,fd,qn,st,p1,p2,p3,p4,ok,Fu,⟨od',osl',lk'⟩,S,n1,n2,B,hb⟩:=D.ex
 unfold Qki at ok
 simp only [Bool.and_eq_true,beq_iff_eq] at ok
 obtain ⟨⟨⟨⟨k1,k2⟩,k3⟩,k4⟩,k5⟩:=ok
 obtain ⟨N,nm,qn',bs,sn,sub,ab,col,dd,a0,a1,a2,a3,a5,cC,T⟩:=Qrz KX k1
 obtain ⟨oc,od,kV,doc,pm,an,cdv,ct,osl,rfl,lk,hcd⟩:=Fu.ex
 refine Qtq F.excBase_ValueError T KX cC k2 (KX _ _ lk') rfl ?_ (by show 1 ≤ sizeLine; decide)
 have kp:=Qox hp C [u]
 have e1:=Qr0 hp C [u]
 have K1:X.K.In (exH hp C [u]):=KX.keeps kp
 have sz:(exH hp C [u]).objs.size = hp.objs.size + 2:=by show ((hp.push _).push _).objs.size = _; rw [Heap.size_push,Heap.size_push]
 refine wpAny_call (codeAny_call_function ?_ (K1 _ _ lk') rfl S.co S.gen rfl (PySem.W.codeRec_of K1 hcd) (B ⟨exH hp C [u],g,d,t,os⟩ [.ref (hp.objs.size + 1),u] K1 rfl _ _ _ _ ?_))
 ·show A.depth + 1 < _
  omega
 refine wpAny_newFunctionEnv_cells S.kind (fun y hy=>?_) fun env he s1 x=>?_
 ·rcases List.mem_cons.mp hy with rfl | hy
  ·exact .inl n1
  ·rcases List.mem_cons.mp hy with rfl | hy
   ·exact .inl n2
   ·cases hy
 subst he
 refine ⟨(lim0.keeps kp).keeps x.toInCall.keep,codeAny_func ?_⟩
 rw [show (PySem.W.fnOf "__init__" qn (Qam st) (Q0 st) (Qd st) .none kV doc pm an cdv ct).scope = Qd st from rfl] at x ⊢
 obtain ⟨h1,tk1,rfl⟩:=x.toInCall.same
 have ns:=x.toInCall.ns
 have kp1:=x.toInCall.keep
 have ga:bindL (newEnv (Qd st) (exH hp C [u]).objs.size (PySem.W.fnOf "__init__" qn (Qam st) (Q0 st) (Qd st) .none kV doc pm an cdv ct).globals (cellsFrom ((exH hp C [u]).objs.size + 1) (Qd st).names []) ((PySem.W.fnOf "__init__" qn (Qam st) (Q0 st) (Qd st) .none kV doc pm an cdv ct).qualname ++ ".<locals>.") (some f) (PySem.W.fnOf "__init__" qn (Qam st) (Q0 st) (Qd st) .none kV doc pm an cdv ct).code none (PySem.W.fnOf "__init__" qn (Qam st) (Q0 st) (Qd st) .none kV doc pm an cdv ct).builtins).kindOf ((["self","at"]:List Str).zip [.ref (hp.objs.size + 1),u]) (fun _=>none) "at" = some u:=Qez (i:=1) S.nd rfl rfl n2
 have gs:bindL (newEnv (Qd st) (exH hp C [u]).objs.size (PySem.W.fnOf "__init__" qn (Qam st) (Q0 st) (Qd st) .none kV doc pm an cdv ct).globals (cellsFrom ((exH hp C [u]).objs.size + 1) (Qd st).names []) ((PySem.W.fnOf "__init__" qn (Qam st) (Q0 st) (Qd st) .none kV doc pm an cdv ct).qualname ++ ".<locals>.") (some f) (PySem.W.fnOf "__init__" qn (Qam st) (Q0 st) (Qd st) .none kV doc pm an cdv ct).code none (PySem.W.fnOf "__init__" qn (Qam st) (Q0 st) (Qd st) .none kV doc pm an cdv ct).builtins).kindOf ((["self","at"]:List Str).zip [.ref (hp.objs.size + 1),u]) (fun _=>none) "self" = some (.ref (hp.objs.size + 1)):=Qez (i:=0) S.nd rfl rfl n1
 have sz1:hp.objs.size + 2 ≤ h1.objs.size:=by
  have z:=ns.lt
  have y:(exH hp C [u]).objs.size < h1.objs.size:=z
  omega
 rw [hb]
 refine wpAny_execs_cons (plainObj_wpAny_Assign_Attribute (wpAny_Name (wpAny_loadName_local (v:=u) S.kind n2 ns ga (wpAny_Name (wpAny_loadName_local (v:=.ref (hp.objs.size + 1)) S.kind n1 ns gs ?_) rfl)) rfl))
 refine Qtr (K1.keeps kp1) (kp1 _ _ (kp _ _ cC)) (kp1 _ _ e1) rfl rfl rfl k4 k3 k5 fun h2 tk2 gx nd kk=>wpAny_execs_nil ⟨rfl,?_⟩
 refine hq h2 tk2 (hp.objs.size + 1) h1.objs.size (fun b o q=>kk b o (Nat.ne_of_lt (Nat.lt_succ_of_lt (Heap.lt_size q))) (kp1 _ _ (kp _ _ q))) (Nat.le_succ _) (by show hp.objs.size ≤ h1.objs.size; omega) (Nat.ne_of_lt (show hp.objs.size + 1 < h1.objs.size by omega)) gx nd
end
section
variable {M:Model} {A:Around} {E:Value → Shared → Prop} {env:Env} {nm q:Str} {C N:Addr} {bs bm:List Value} {hd:Bool} {sn:List Str} {sub:List Value} {ab:Bool} {col:Option Bool} {dd:Option Addr} {k0 k1 k2 k3 k5:Option Value} {nid:String}
theorem Qql {s:Shared} {x:Sem Value} {Q:Flow → Shared → Prop} (hb:bm.contains (.type "BaseException") = true) (hh:A.handled = none)
  (h:wpAny M A x (fun v s1=>∃ e od ta,v = .ref e ∧ s1.heap.get? C = some (excClassObj nm q C N bs bm hd sn sub ab col dd k0 k1 k2 k3 k5 nid) ∧ s1.heap.get? e = some { cls:=.ref C,dict:=od,data:=.fields #[.ref ta,.none,.none,.none,.bool false,.none] } ∧ E (.ref e) s1) E s) :
  wpAny M A (raiseStmt env (some x) none) Q E s:=by
 have hcB:(Value.ref C :: bm).contains (.type "BaseException") = true:=by rw [List.contains_cons,hb,Bool.or_true]
 unfold raiseStmt
 refine wpAny_bind (wpAny_mono h (fun v s1 h1=>?_) fun _ _ x=>x)
 obtain ⟨e,od,ta,rfl,cC,he,hE⟩:=h1
 obtain ⟨hp,g,d,tk,os⟩:=s1
 repeat (first | with_reducible refine wpAny_loadPart_at he ?_ | with_reducible refine wpAny_loadPart_at cC ?_ | (with_reducible refine wpAny_isSubtype_exc cC ?_; rw [hcB]) | wp_step)
 exact wpAny_raiseNew_none hh hE
end
section
variable {X:Cx} {x:Str} {e:Expr} {t:TA} {pos cpos np:Pos} {R:XR} {c0 C:Addr} {k:Nat}
theorem Qwi (pz:Qed X R) (hc:X.calm = true) (D:Ini X.K c0 C) (hr:Room k X.A) (hm:X.mg x = some (.ref C)) (ha:QA X [e] t) (hg:Gl X x:=by rfl)
  (hdb:(x == ("__debug__" : Str)) = false:=by decide) (he:starEach [e] X.env = [(false,eval e X.env)]:=by rfl) :
  QS X (.Raise (some (.Call (.Name x np) [e] [] cpos)) none pos) (fun _ σ H=>t σ H fun vs H1=>∃ v,vs = [v] ∧ ∀ d,H1 d = none → R (.ref C) (some d) σ (upd H1 d (.xd [("at",v)]))):=by
 refine ⟨fun pins s σ H D' I hw=>?_⟩
 have D0:=D
 obtain ⟨f,fd,qn,st,p1,p2,p3,p4,ok,Fu,_,S,n1,n2,B,hb⟩:=D.ex
 unfold Qki at ok
 simp only [Bool.and_eq_true,beq_iff_eq] at ok
 obtain ⟨N,nm,qn',bs,sn,sub,ab,col,dd,a0,a1,a2,a3,a5,cC,T⟩:=Qrz I.ok.mod.kin ok.1.1.1.1
 rw [arm_exec_Raise]
 refine wpAny_bind (wpAny_standAt (Qql (C:=C) (nm:=nm) (q:=qn') (N:=N) (bs:=bs) (bm:=.ref c0 :: bmV) (hd:=true) (sn:=sn) (sub:=sub) (ab:=ab) (col:=col) (dd:=dd) (k0:=a0) (k1:=a1) (k2:=a2) (k3:=a3) (k5:=a5) (nid := "ValueError.__new__") (T.hasType F.excBase_ValueError.hasBase) (I.ok.hd hc) ?_))
 refine wpAny_bind (wpAny_mono (wpAny_Call_ofName (Qe7 I hg hm ?_ hdb)) (fun v s3 h3=>wpAny_bind (wpAny_standAt (wpAny_pure h3))) fun _ _ x=>x)
 unfold callWith
 have h2:=ha.h cpos pins s σ H _ I hw
 rw [he] at h2 ⊢
 refine wpAny_bind (wpAny_holding (Calls.evalArgs_plain (wpAny_mono h2 (fun us s2 h=>wpAny_bind (wpAny_standAt ?_)) fun _ _ y=>y)))
 obtain ⟨vs,H1,I1,r,v,rfl,q⟩:=h
 obtain ⟨u,rfl,ru⟩:=r.one
 have c2:=I1.bk _ _ cC
 have hpl:(backTo cpos [(false,eval e X.env)]).any (·.1) = false:=rfl
 simp only [hpl]
 have dp:=hr.dp
 have s2k:∀ b,s2.heap.objs.size ≤ b → H1 b = none:=fun b hb=>I1.hok.fresh hb
 have fin:∀ (h':Heap) (tk:Nat) (ea d:Addr),(∀ b o,s2.heap.get? b = some o → h'.get? b = some o) → s2.heap.objs.size ≤ ea → s2.heap.objs.size ≤ d → ea ≠ d →
   h'.get? ea = some { cls:=.ref C,dict:=some d,data:=.fields #[.ref s2.heap.objs.size,.none,.none,.none,.bool false,.none] } → h'.Ns1 d (fun y=>if y = "at" then some u else none) → X.xe (.ref ea) { s2 with heap:=h',toks:=tk }:=fun h' tk ea d kp le ld ne ge nd=>by
  have new:ObjOk X.prog X.w (upd H1 d (.xd [("at",v)])) h' d (.xd [("at",v)]):=⟨_,nd,fun y=>?_⟩
  refine pz pins σ H1 s2 (.ref ea) { s2 with heap:=h',toks:=tk } I1 ⟨ea,.ref C,some d,upd H1 d (.xd [("at",v)]),rfl,rfl,I1.bare,Un.laid kp ld (s2k d ld),I1.hok.laid kp ld new,⟨Heap.get?_none_of_le le,by rw [Qv ne]; exact s2k ea le,_,_,ge,rfl,rfl,rfl,by simp,.inl rfl⟩,q d (s2k d ld)⟩
  by_cases hy:y = "at"
  ·subst hy
   simp only [List.lookup,if_pos]
   exact ru
  ·have:(y == ("at" : Str)) = false:=by simpa using hy
   simp only [List.lookup,this,if_neg hy]
   trivial
 obtain ⟨hp,g,d,tk,os⟩:=s2
 refine wpAny_bind (wpAny_keeperOf_exc c2 ?_)
 refine wpAny_bind (Qwh I1 D0 (by omega) fun h' tk' ea d' kp le ld ne ge nd=>wpAny_bind (wpAny_holding (wpAny_point (wpAny_pure ?_))))
 exact ⟨ea,some d',_,rfl,kp _ _ c2,ge,fin h' tk' ea d' kp le ld ne ge nd⟩
end
theorem Qwj {h:Heap} {d:Addr} {mA:Str → Option Value} {name:Str} {v:Value} (n:h.Ns1 d mA) (e:mA name = some v):∃ od,h.get? d = some od ∧ PySem.W.lookIn name od = some (some v):=by
 obtain ⟨o,es,ep,ho,hd,hk,hu,hf⟩:=n
 refine ⟨o,ho,?_⟩
 unfold PySem.W.lookIn
 rw [hd]
 have hf:=hf name
 unfold nsFind findBy at hf
 rw [e,← Array.find?_toList] at hf
 cases z:es.toList.find? (fun x=>x.key.isStr name) with
 | none=>rw [z] at hf; cases hf
 | some x =>
  rw [z] at hf
  have:x.val = v:=Option.some.inj hf
  rw [← this]
  show (match es.toList.find? (fun x=>x.key.isStr name) with
   | some e=>some (some e.val)
   | none=>if es.toList.any (·.refKey) then none else some none) = _
  rw [z]
theorem Qwk {K:PySem.W.Frag} {c0 C f:Addr} {bmB:List Value} {newId:String} (q:Qto K c0 C bmB newId f = true):∃ cd,PySem.W.clsIn K C = some cd ∧ cd.hasDict = true:=by
 unfold Qto at q
 split at q
 ·rename_i d0 cl ks look
  split at q
  ·simp only [Bool.and_eq_true,beq_iff_eq,Bool.not_eq_true'] at q
   exact ⟨cl,by unfold PySem.W.clsIn; rw [look],q.1.2⟩
  ·cases q
 ·cases q
noncomputable def Q10 (K:PySem.W.Frag) (f:Str):V → Hp → VK → Prop:=fun x H Q=>∃ a C d fs v,x = .ref a ∧ H a = some (Qnf a (.ref C) (some d)) ∧ H d = some (.xd fs) ∧ fs.lookup f = some v ∧ (∃ i,v = .int i) ∧ (∃ c0,Ini K c0 C) ∧ Qou K C = true ∧ Q v H
section
variable {X:Cx} {e:Expr} {te:TE} {pos:Pos}
noncomputable abbrev Q11 (K:PySem.W.Frag) (f:Str) (te:TE):TE:=fun σ H Q=>te σ H fun x H1=>Q10 K f x H1 Q
theorem Q4x (K:PySem.W.Frag) (hK:X.K = K) (he:QE X e te) (hb:attributeBase e "at" X.env (eval e X.env) = eval e X.env:=by rfl):QE X (.Attribute e "at" pos) (Q11 K "at" te):=by
 subst hK
 refine ⟨fun pins s σ H Q I hq=>?_⟩
 refine Qyv hb (thn (he.h pins s σ H _ I hq) fun u s1 ⟨x,H1,I1,r1,q1⟩=>?_)
 obtain ⟨a,C,d,fs,v,rfl,ha,hd,hl,⟨iv,rfl⟩,⟨c0,D⟩,hx,q⟩:=q1
 cases r1
 obtain ⟨f,fd,qn,st,p1,p2,p3,p4,ok,_⟩:=D.ex
 unfold Qki at ok
 simp only [Bool.and_eq_true,beq_iff_eq] at ok
 obtain ⟨⟨⟨⟨k1,_⟩,_⟩,k4⟩,k5⟩:=ok
 obtain ⟨⟨o,vs,ho,h1,h2,h3⟩,_⟩:=(show ObjOk X.prog X.w H1 s1.heap a (Qnf a (.ref C) (some d)) from I1.hok a _ ha)
 obtain ⟨mA,nA,rel⟩:=(show ObjOk X.prog X.w H1 s1.heap d (.xd fs) from I1.hok d _ hd)
 have rl:=rel "at"
 rw [hl] at rl
 cases em:mA "at" with
 | none=>rw [em] at rl; cases rl
 | some u =>
  rw [em] at rl
  obtain ⟨tu,rfl⟩:=(show RelV (.int iv) u from rl)
  obtain ⟨od,hod,look⟩:=Qwj nA em
  have IA:PySem.W.InstAt s1.heap a o C (some od):=⟨ho,h1,by unfold PySem.W.notCls; rw [h3],by rw [h2]; exact hod⟩
  unfold Qou at hx
  simp only [Bool.and_eq_true,beq_iff_eq] at hx
  obtain ⟨⟨⟨⟨⟨⟨⟨x1,x7⟩,x8⟩,x2⟩,x3⟩,x4⟩,x5⟩,x6⟩:=hx
  obtain ⟨cd,hcd,hdi⟩:=Qwk k1
  have hf:PySem.W.findObj X.K C (some od) "at" = some (.value (.int iv tu)):=by
   unfold PySem.W.findObj
   rw [hcd,Option.bind_some,k4,Option.bind_some]
   simp only [Option.bind_some]
   unfold PySem.W.ownOf
   rw [if_pos hdi]
   simp only [look,Option.bind_some]
  unfold getAttr
  refine wpAny_bind (wpAny_mkText (Qot (s:={ s1 with toks:=s1.toks + 1 }) I1.kIn IA x1 x7 x8 (r:=.int iv tu) (fun A E R hr=>?_) rfl ⟨.int iv,H1,I1.tok _,⟨tu,rfl⟩,q⟩))
  have L0:=IA.type (M:=model X.prog X.w)
  have L1:=PySem.W.looks_find (M:=model X.prog X.w) I1.kIn IA hf
  obtain ⟨hp,g,d',t',os⟩:=s1
  unfold Builtin.«object.__getattribute__»
  repeat (first | with_reducible refine L0.at ?_ | with_reducible refine L1.at ?_ | wp_step)
  exact ⟨_,rfl,hr⟩
end
theorem Qwl {K:PySem.W.Frag} {mg:Str → Option Value} {h:Heap} {x qn:Str} {c0 c1 f:Addr} {oc:Value} {od fod an:Option Addr} {cd:ClassData} {sl osl:Array (Option Value)} {kV doc pm cdv ct:Value} {st:Stmt} {p1 p2 p3 p4:Pos}
  (X:K.In h) (G:h.Ns mainGlobals mg) (e0:PySem.W.nsIn K mainGlobals "NoughtError" = some (some (.ref c0))) (e1:PySem.W.nsIn K mainGlobals x = some (some (.ref c1))) (lc:K.lookup c1 = some ⟨oc,od,.cls cd,sl⟩) (fi:PySem.W.nsIn K cd.ns "__init__" = some (some (.ref f)))
  (l:K.lookup f = some ⟨.type "function",fod,.func (PySem.W.fnOf "__init__" qn (Qam st) (Q0 st) (Qd st) .none kV doc pm an cdv ct),osl⟩) (c:PySem.W.codeIn K cdv qn = true) (k:PySem.W.keepIn K (.ref f) = true)
  (S:FnScope ["self","at"] ["self","at"] (Qd st)) (n1:(Qd st).names.lookup ("self" : Str) = some .local) (n2:(Qd st).names.lookup ("at" : Str) = some .local)
  (b:∀ (kV doc pm:Value) (an:Option Addr) (cdv ct:Value) (us:List Value),us.length = 2 → bindArgs (PySem.W.fnOf "__init__" qn (Qam st) (Q0 st) (Qd st) .none kV doc pm an cdv ct) ⟨us,[]⟩ = pure ((["self","at"]:List Str).zip us))
  (hb:Q0 st = [.Assign [.Attribute (.Name "self" p1) "at" p2] (.Name "at" p3) p4]) (ok:Qki K c0 c1 f = true):Ini K (cad mg "NoughtError") (cad mg x):=by
 rw [Qaw (PySem.W.mg_of X G e0),Qaw (PySem.W.mg_of X G e1)]
 have Fu:=Qvb l c k
 exact ⟨⟨f,_,qn,st,p1,p2,p3,p4,ok,Fu,⟨fod,osl,l⟩,S,n1,n2,Fu.binds b,hb⟩⟩
section
variable {prog:Program} {w:World} {A:Around} {E:Value → Shared → Prop} {h:Heap} {g:Array GenState} {d:Drawn} {t:Nat} {os:OsState}
variable {nm q:Str} {C N c0:Addr} {bs bm bmB:List Value} {hd:Bool} {sn:List Str} {sub:List Value} {ab:Bool} {col:Option Bool} {dd:Option Addr} {k0 k1 k2 k3 k5:Option Value} {B nid iid:String}
noncomputable def Qzr (K:PySem.W.Frag) (c0 C f:Addr):Bool:=Qto K c0 C bmV "ValueError.__new__" f && PySem.W.findIn K (.ref C) "__init__" == some (some (.ref f)) && PySem.W.findIn K (.ref C) "__setattr__" == some (some (.builtin "object.__setattr__")) && PySem.W.findIn K (.ref C) "many" == some none && PySem.W.findIn K (.ref C) "most" == some none && PySem.W.mroIn K C (.type "object") == some true
structure Ini2 (K:PySem.W.Frag) (c0 C:Addr):Prop where
 ex:∃ (f:Addr) (fd:FuncData) (qn:Str) (st:Stmt) (p1 p2 p3 p4 q1 q2 q3 q4:Pos),Qzr K c0 C f = true ∧ Fun K "__init__" qn st f fd ∧ (∃ od osl,K.lookup f = some ⟨.type "function",od,.func fd,osl⟩) ∧ FnScope ["self","many","most"] ["self","many","most"] (Qd st) ∧
  (Qd st).names.lookup ("self" : Str) = some .local ∧ (Qd st).names.lookup ("many" : Str) = some .local ∧ (Qd st).names.lookup ("most" : Str) = some .local ∧ Binds K fd ["self","many","most"] [] ∧
  Q0 st = [.Assign [.Attribute (.Name "self" p1) "many" p2] (.Name "many" p3) p4,.Assign [.Attribute (.Name "self" q1) "most" q2] (.Name "most" q3) q4]
end
section
variable {X:Cx} {pins:List (Addr × Obj)} {σ:St} {H:Hp} {s:Shared}
end
section
variable {X:Cx} {x:Str} {e e2:Expr} {t:TA} {pos cpos np:Pos} {R:XR} {c0 C:Addr} {k:Nat}
end
section
variable {X:Cx} {e:Expr} {te:TE} {pos:Pos}
end
section
variable {X:Cx}
noncomputable def isI (n:Int) (v:Value):Bool:=match v with
 | .int m _=>m == n
 | _=>false
end
noncomputable def keyD:Key → PyData
 | .inl i=>.int i
 | .inr x=>.str x
mutual
noncomputable def pyD:T → PyData
 | .non=>.none
 | .bl b=>.bool b
 | .int i=>.int i
 | .str x=>.str x
 | .tup ts=>.tuple (Qlp ts)
 | .lst ts=>.list (Qlp ts)
 | .dct ks ts=>.dict ((ks.map keyD).zip (Qlp ts))
 | .dtt _ _=>.none
 | .clo _ _=>.none
noncomputable def Qlp:List T → List PyData
 | []=>[]
 | t :: ts=>pyD t :: Qlp ts
end
mutual
noncomputable def Qd1:T → Bool
 | .tup ts=>Qkj ts
 | .lst ts=>Qkj ts
 | .dct _ _=>false
 | .clo _ _=>false
 | .dtt _ _=>false
 | _=>true
noncomputable def Qkj:List T → Bool
 | []=>true
 | t :: ts=>Qd1 t && Qkj ts
end
mutual
theorem Qoz:∀ t:T,Qd1 t = true → (pyD t).hasDict = false
 | .non,_=>by simp only [pyD,PyData.hasDict]
 | .bl _,_=>by simp only [pyD,PyData.hasDict]
 | .int _,_=>by simp only [pyD,PyData.hasDict]
 | .str _,_=>by simp only [pyD,PyData.hasDict]
 | .tup ts,h=>by simp only [pyD,PyData.hasDict]; exact Qfc ts (by simpa only [Qd1] using h)
 | .lst ts,h=>by simp only [pyD,PyData.hasDict]; exact Qfc ts (by simpa only [Qd1] using h)
 | .dct _ _,h=>by simp only [Qd1] at h; cases h
 | .clo _ _,h=>by simp only [Qd1] at h; cases h
 | .dtt _ _,h=>by simp only [Qd1] at h; cases h
theorem Qfc:∀ ts:List T,Qkj ts = true → PyData.hasDictAll (Qlp ts) = false
 | [],_=>by simp only [Qlp,PyData.hasDictAll]
 | t :: ts,h=>by
  simp only [Qkj,Bool.and_eq_true] at h
  simp only [Qlp,PyData.hasDictAll,Qoz t h.1,Qfc ts h.2,Bool.or_false]
end
section
variable {P:Program} {w:World} {H:Hp} {h:Heap}
mutual
theorem Qwm (ok:HOk P w H h):∀ (t:T) {v:V} {u:Value},Qd1 t = true → Is H v t → RelV v u → ∃ as,Reads h u (pyD t) as
 | .non,v,u,_,i,r=>by unfold Is at i; subst i; cases r; exact ⟨_,by unfold pyD; exact .none⟩
 | .bl b,v,u,_,i,r=>by unfold Is at i; subst i; cases r; exact ⟨_,by unfold pyD; exact .bool b⟩
 | .int n,v,u,_,i,r=>by unfold Is at i; subst i; obtain ⟨t,rfl⟩:=r; exact ⟨_,by unfold pyD; exact .int n t⟩
 | .str x,v,u,_,i,r=>by unfold Is at i; subst i; obtain ⟨t,rfl⟩:=r; exact ⟨_,by unfold pyD; exact .str x t⟩
 | .tup ts,v,u,f,i,r=>by
  obtain ⟨a,vs,rfl,ha,q⟩:=i.tup_inv
  cases r
  obtain ⟨_,its,rv,o,e,c,n,d,_⟩:=(show ObjOk P w H h a (.tup vs) from ok a _ ha)
  obtain ⟨as,R⟩:=Qit ok ts (by simpa only [Qd1] using f) q rv
  exact ⟨as,by unfold pyD; exact .tuple e c d (by simpa using R)⟩
 | .lst ts,v,u,f,i,r=>by
  obtain ⟨a,vs,rfl,ha,q⟩:=i.lst_inv
  cases r
  obtain ⟨_,its,n,rv,e⟩:=(show ObjOk P w H h a (.lst vs) from ok a _ ha)
  obtain ⟨as,R⟩:=Qit ok ts (by simpa only [Qd1] using f) q rv
  exact ⟨a :: as,by unfold pyD; exact .list e rfl rfl (by simpa using R)⟩
 | .dct _ _,v,u,f,i,r=>by simp only [Qd1] at f; cases f
 | .clo _ _,v,u,f,i,r=>by simp only [Qd1] at f; cases f
 | .dtt _ _,v,u,f,i,r=>by simp only [Qd1] at f; cases f
theorem Qit (ok:HOk P w H h):∀ (ts:List T) {vs:List V} {us:List Value},Qkj ts = true → IsL H vs ts → Vals vs us → ∃ as,ReadsAll h us (Qlp ts) as
 | [],vs,us,_,i,r=>by
  rw [i.nil_inv] at r
  cases r
  exact ⟨_,by unfold Qlp; exact .nil⟩
 | t :: ts,vs,us,f,i,r=>by
  obtain ⟨v,w',rfl,iv,iw⟩:=i.cons_inv
  simp only [Qkj,Bool.and_eq_true] at f
  cases r with
  | cons r0 rr =>
   obtain ⟨as,R⟩:=Qwm ok t f.1 iv r0
   obtain ⟨bs,R2⟩:=Qit ok ts f.2 iw rr
   exact ⟨_,by unfold Qlp; exact .cons R R2⟩
end
end
noncomputable def isD:T → Bool
 | .dct [] []=>true
 | .dct [.inr _] [.int _]=>true
 | _=>false
noncomputable def shOk (t:T):Bool:=(pyD t).showable && decide ((pyD t).shown.length ≤ sizeLine) && decide ((pyD t).depth ≤ 40) && (Qd1 t || isD t)
section
variable {X:Cx}
end
structure ShD (c d:Nat) (t:T):Prop where
 b:(pyD t).bulk ≤ c
 l:(pyD t).leavesShort 32 = true
 s:(pyD t).showable = true
 d:(pyD t).depth ≤ d
 f:Qd1 t = true
namespace Z
section
variable {H:Hp} {S:Addr → Prop} {x y:V} {Q:VK} {K:PySem.W.Frag}
variable {r:Nat}
end
end Z
end L2
namespace PySem
open Sem (wp)
open AutoSeq1 (wpAny_loadPart')
section
variable {prog:Program} {w:World} {A:Around} {E:Value → Shared → Prop} {s:Shared}
end
end PySem
namespace L2
open PySem PySem.Spec PyProof.Rows
section
variable {X:Cx}
end
end L2
namespace L2
open PySem PySem.Spec PyProof.Rows PySem.W PySem.Calls
noncomputable def Q8v {α:Type} (lt:Nat → Nat → Bool):KasT α → α
 | .ret a=>a
 | .ask i j k=>Q8v lt (k (lt i j))
noncomputable def ordK (n:Nat) (lt:Nat → Nat → Bool):List Nat:=if n < 2 then List.range n else (Q8v lt (kas_sort n)).toList
noncomputable def Q8w {α:Type} (vs:List α) (d:α) (is:List Nat):List α:=is.map fun i=>vs.getD i d
noncomputable abbrev ltK (ks:List (List Int)):Nat → Nat → Bool:=fun i j=>HT.lexLt (ks.getD i []) (ks.getD j [])
noncomputable def Qwn (ks:List (List Int)):List (List Int):=Q8w ks [] (ordK ks.length (ltK ks))
noncomputable def Q12:List (List Int) → Bool
 | []=>true
 | k :: _=>!k.isEmpty
end L2
namespace L2
open PySem PySem.Spec PyProof.Rows PySem.W PySem.Calls
noncomputable def Qr1 (k:List Int):Int:=reduceHash (Builtin.Tuple.tupleHashOf (k.map hashInt))
noncomputable def Qkk (ks:List (List Int)) (j:Nat):List Int:=ks.getD j []
noncomputable def hAt (ks:List (List Int)) (es:Array Nat) (i:Nat):Int:=(es[i]?.map fun x=>Qr1 (Qkk ks x)).getD 0
noncomputable def Q8x (ks:List (List Int)) (j:Nat) (r:SetTable × Array Nat):Option (SetTable × Array Nat) :=
 match r.1.probe (hAt ks r.2) (Qr1 (Qkk ks j)) (r.1.probeStart (Qr1 (Qkk ks j))) with
 | some (.empty s none) =>
  if (r.1.put s).1.fits (SetTable.insertAt r.2 (r.1.put s).2 j).size && !(r.1.put s).1.tooFull && !(r.1.put s).1.gaveWay && decide ((SetTable.insertAt r.2 (r.1.put s).2 j).size ≤ 1000) then some ((r.1.put s).1,SetTable.insertAt r.2 (r.1.put s).2 j) else none
 | some (.candidate _ i _)=>match r.2[i]? with
  | some x=>if Qkk ks x = Qkk ks j then some r else none
  | none=>none
 | _=>none
noncomputable def Qwo (led:Bool) (ks:List (List Int)):Nat → Option (SetTable × Array Nat)
 | 0=>some (.fresh 0 0 led,#[])
 | n + 1=>match Qwo led ks n with
  | some r=>Q8x ks n r
  | none=>none
noncomputable def Q8y (t:SetTable):Nat → Nat
 | 0=>0
 | i + 1=>t.place.getD i 0 + 1
noncomputable def Qwp (t:SetTable) (n:Nat):Bool:=(List.range (n + 1)).all fun i=>SetTable.below t.place (Q8y t i) == i
noncomputable def Qr2 (x:Nat):List Nat → List (List Nat)
 | []=>[[x]]
 | y :: ys=>(x :: y :: ys) :: (Qr2 x ys).map (y :: ·)
noncomputable def Q13:List Nat → List (List Nat)
 | []=>[[]]
 | x :: xs=>(Q13 xs).flatMap (Qr2 x)
noncomputable def Qqm (ks:List (List Int)) (is:List Nat):List (List Int):=Q8w ks [] is
noncomputable def srtS (ks:List (List Int)):Option (List (List Int)) :=
 match Qwo true ks ks.length,Qwo false ks ks.length with
 | some (t,es),some (t',es') =>
  if Qwp t es.size && decide (es.size < 6) && (es.toList.all fun j=>decide (j < ks.length) && !(Qkk ks j).isEmpty) && decide (es'.toList = es.toList) &&
    (Q13 es.toList).all (fun is=>decide (Qwn (Qqm ks is) = Qwn (Qqm ks es.toList))) then some (Qwn (Qqm ks es.toList)) else none
 | _,_=>none
end L2
namespace L2
open PySem PySem.Spec PyProof.Rows PySem.W PySem.Calls
noncomputable abbrev btx (w:World):Bool:=w.params.followText "set-order"
structure SOk (w:World) (es:Array (Int × Value)) (t:SetTable):Prop where
 fits:t.fits es.size = true
 plain:t.plain = true
 led:btx w = false → t.led = true
 wk:btx w = false → Qwp t es.size = true
section
variable {prog:Program} {w:World} {A:Around} {E:Value → Shared → Prop} {s:Shared} {it d:Addr} {i ep:Nat} {es:Array (Int × Value)} {t:SetTable}
end
set_option genInjectivity false
set_option genSizeOf false
inductive PV where
 | fz (t:T) | ow (t:T) | sl (i:Nat)
inductive Slot where
 | un | fz (t:T) | ow (t:T) | ml (t:T) | ro (t:T) | pin (a:Addr) | fx (t:T)
noncomputable abbrev En:=List Slot
structure Xn where
 c:Nat
 arg:List Int
inductive Out (α:Type) where
 | ok (a:α) (ρ:En) | xn (x:Xn) (ρ:En) | no
noncomputable def Out.bind {α β:Type} (o:Out α) (k:α → En → Out β):Out β:=match o with
 | .ok a ρ=>k a ρ
 | .xn x ρ=>.xn x ρ
 | .no=>.no
noncomputable def Out.opt {α:Type} (o:Option α) (ρ:En):Out α:=match o with
 | some a=>.ok a ρ
 | none=>.no
noncomputable def Slot.prv:Slot → Option T
 | .ow t=>some t | .ml t=>some t | .ro t=>some t | _=>none
noncomputable def Slot.mut:Slot → Bool
 | .ow (.lst _)=>true | .ml (.lst _)=>true | _=>false
noncomputable def Slot.mutD:Slot → Bool
 | .ow (.dtt _ _)=>true | .ml (.dtt _ _)=>true | _=>false
noncomputable def Slot.put (t:T):Slot → Slot
 | .ow _=>.ow t | .ml _=>.ml t | s=>s
noncomputable def Slot.lend:Slot → Slot
 | .ow t=>.ml t | .pin _=>.un | .fx t=>.fz t | s=>s
noncomputable def Qa (ρ:En) (i:Nat):Slot:=match ρ[i]? with
 | some s=>s
 | none=>.un
noncomputable def cont (ρ:En):PV → Option T
 | .fz t=>some t
 | .ow t=>some t
 | .sl i=>(Qa ρ i).prv
noncomputable def frz:PV → Option T
 | .fz t=>some t
 | .ow t=>some t
 | .sl _=>none
noncomputable def Qcq:List PV → Option (List T)
 | []=>some []
 | r :: rs=>match frz r,Qcq rs with
  | some t,some ts=>some (t :: ts)
  | _,_=>none
inductive BOp where
 | add | sub | mul | fdv | mod | pow | shl | shr | band
inductive COp where
 | eq | ne | lt | le | gt | ge | isn | isnn | inn | nin
inductive Bi where
 | len | abs | all | any | sum | max | min | dvm | int | list | tup | repr | dct | lstD | dcl | maxT | minT | srt | srtS
inductive Tg where
 | nm (i:Nat) | tp (is:List Nat)
mutual
inductive E where
 | var (i:Nat) | int (i:Int) | bl (b:Bool) | non | str (x:Str)
 | tup (es:Es) | lst (es:Es)
 | bin (o:BOp) (a b:E) | neg (a:E)
 | not (a:E) | and (a b:E) | or (a b:E) | ite (c a b:E)
 | cmp (o:COp) (a b:E)
 | isI (a:E) (n:String)
 | inR (ng:Bool) (a lo hi:E)
 | call (f:Nat) (es:Es)
 | bi (b:Bi) (es:Es)
 | cnt (a b:E)
 | ix (a i:E) | slc (a:E) (lo hi:Es) | rev (a:E)
 | comp (w:W) (js:List (Option Nat)) (tg:Tg) (cs:Es) (e:E)
 | tupR (l:Bool) (a:E)
 | dnew | din (ng:Bool) (k d:E) | dix (d k:E)
 | tcall (f:Nat) (es:Es) | lstR2 (a b:E) | lit (t:T) | dg1 (d k:E) | dg2 (d k x:E) | d1 (k x:E)
 | app (i:Nat) (es:Es) | lam (k:Nat) (js:List Nat) | lix (i:Nat) (a:E) | compS (i:Nat) (js:List (Option Nat)) (tg:Tg) (cs:Es) (e:E) | compZ (i j:Nat) (js:List (Option Nat)) (tg:Tg) (cs:Es) (e:E) | chl (a b c:E) | orv (a b:E)
 | fzE (e:E) | bad
inductive Es where
 | nil | cons (e:E) (es:Es)
inductive W where
 | seq (e:E) | rng1 (a:E) | rng2 (a b:E) | enm (e:E) | zip (a b:E) | dks (e:E)
end
inductive S where
 | nil | seq (a b:S) | expr (e:E) | set (i:Nat) (e:E) | setF (i:Nat) (e:E) | unp (is:List Nat) (e:E) | par (i j:Nat) (a b:E)
 | app (i:Nat) (e:E) | ext (i:Nat) (e:E) | put (i:Nat) (k e:E) | dput (i:Nat) (k e:E) | swp (i j k:Nat) | mov (i j:Nat) | look (i:Nat) (b:S)
 | ret (e:E) | retN | ite (c:E) (a b:S) | whl (c:E) (b:S) | for_ (w:W) (tg:Tg) (b:S) | forX (w:W) (tg:Tg) (b:S) | forS (i:Nat) (tg:Tg) (b:S) | extL (i:Nat) (e:E)
 | brk | cnt | frz (i:Nat) | raise (c:Nat) (es:Es) | scr (i a b f:Nat) (c1 c2:E) | ins (i:Nat) (k e:E) | rem (i:Nat) (e:E) | nest (iF iR iH iW iS iT iN:Nat) (a0 a:S) (c v e1 e2:E) | parO (i j:Nat) (a b:E) | tryR (i:Nat) (b:S) (h:Nat → List Int → Option T) | bad
inductive Arg where
 | fz (t:T) | ml (t:T) | ro (t:T)
inductive FR where
 | ok (r:PV) (fin:List T) | xn (x:Xn) (fin:List T) | no
inductive SO where
 | nx (ρ:En) | rt (r:PV) (ρ:En) | bk (ρ:En) | ct (ρ:En) | xn (x:Xn) (ρ:En) | no
noncomputable abbrev CF:=Nat → List Arg → FR
noncomputable def Qcl (i j:Int):Bool:=decide (i.natAbs < 2 ^ 64) || (decide (j.natAbs < 2 ^ 64) || ((decide (i.natAbs < 2 ^ 250) && decide (j.natAbs < 2 ^ 250)) || (decide (i.natAbs.log2 < 9000) && decide (j.natAbs.log2 < 9000))))
noncomputable def asI:T → Option Int
 | .int i=>some i
 | _=>none
noncomputable def opN:BOp → Int → Int → Option PV
 | .add,i,j=>some (.fz (.int (i + j)))
 | .sub,i,j=>some (.fz (.int (i - j)))
 | .mul,i,j=>if Qcl i j = true then some (.fz (.int (i * j))) else none
 | .fdv,i,j=>if 0 < j ∧ j.natAbs < 2 ^ 64 then some (.fz (.int (i / j))) else if j ≠ 0 ∧ j.natAbs < 2 ^ 250 then some (.fz (.int (i.fdiv j))) else none
 | .mod,i,j=>if 0 < j then some (.fz (.int (i % j))) else if j < 0 then some (.fz (.int (i.fmod j))) else none
 | .pow,i,j=>if 0 ≤ j ∧ j.natAbs ≤ 1000000 ∧ i.natAbs < 2 ^ 64 then some (.fz (.int (i ^ j.toNat))) else none
 | .shl,i,j=>if 0 ≤ j ∧ j.natAbs ≤ 64 ∧ i.natAbs < 2 ^ 64 then some (.fz (.int (i * 2 ^ j.toNat))) else none
 | .shr,i,j=>if 0 ≤ j ∧ j.natAbs ≤ 64 then some (.fz (.int (i / 2 ^ j.toNat))) else none
 | .band,i,j=>if j = 1 then some (.fz (.int (i % 2))) else none
noncomputable def Q4y:T → T → Option PV
 | .tup a,.tup b=>if a.length + b.length ≤ 100000 then some (.fz (.tup (a ++ b))) else none
 | .lst a,.lst b=>if a.length + b.length ≤ 100000 then some (.ow (.lst (a ++ b))) else none
 | _,_=>none
noncomputable def Q4z:T → Option Int → Option PV
 | .tup a,some k=>if a.length * k.toNat ≤ 100000 ∧ 1 ≤ k ∧ k.natAbs ≤ 100000 ∧ a ≠ [] then some (.fz (.tup (List.replicate k.toNat a).flatten)) else none
 | .lst a,some k=>if a.length * k.toNat ≤ 100000 ∧ 1 ≤ k ∧ k.natAbs ≤ 100000 then some (.ow (.lst (List.replicate k.toNat a).flatten)) else none
 | _,_=>none
noncomputable def opX:BOp → T → T → Option PV
 | .add,t,u=>Q4y t u
 | .mul,t,u=>Q4z t (asI u)
 | _,_,_=>none
noncomputable def opB (o:BOp) (t u:T):Option PV:=match asI t,asI u with
 | some i,some j=>opN o i j
 | _,_=>opX o t u
noncomputable def Qkl:T → Bool
 | .non=>true | .bl _=>true | .int _=>true | .str _=>true | _=>false
noncomputable def eqO:T → T → Option Bool
 | .int i,.int j=>some (decide (i = j))
 | .bl i,.bl j=>some (decide (i = j))
 | .str i,.str j=>some (decide (i = j))
 | .non,.non=>some true
 | .non,.int _=>some false | .int _,.non=>some false | .non,.bl _=>some false | .bl _,.non=>some false | .non,.str _=>some false | .str _,.non=>some false
 | .int _,.str _=>some false | .str _,.int _=>some false | .bl _,.str _=>some false | .str _,.bl _=>some false
 | .tup a,.tup b=>if Qk 50 (.tup a) = true ∧ Qk 50 (.tup b) = true then some (eqT (.tup a) (.tup b)) else none
 | .lst a,.lst b=>if Qk 50 (.lst a) = true ∧ Qk 50 (.lst b) = true then some (eqT (.lst a) (.lst b)) else none
 | t,u=>if Qzp t u = true then some false else none
noncomputable def Qjb:T → Bool
 | .non=>true
 | _=>false
noncomputable def Qts (f:Int → Int → Bool) (t u:T):Option Bool:=match asI t,asI u with
 | some i,some j=>some (f i j)
 | _,_=>none
noncomputable def Qft:T → Option (List T)
 | .lst a=>some a
 | .tup a=>some a
 | _=>none
noncomputable def inO (x t:T):Option Bool:=match Qft t with
 | some ts=>if Qk 49 x = true ∧ ts.all (Qk 49) = true then some (ts.any fun u=>eqT u x) else none
 | none=>none
noncomputable def opC:COp → T → T → Option Bool
 | .eq,a,b=>eqO a b
 | .ne,a,b=>(eqO a b).map (!·)
 | .lt,a,b=>Qts (fun i j=>decide (i < j)) a b
 | .le,a,b=>Qts (fun i j=>decide (i ≤ j)) a b
 | .gt,a,b=>Qts (fun i j=>decide (j < i)) a b
 | .ge,a,b=>Qts (fun i j=>decide (j ≤ i)) a b
 | .isn,a,b=>if Qjb b then some (Qjb a) else none
 | .isnn,a,b=>if Qjb b then some (!Qjb a) else none
 | .inn,a,b=>inO a b
 | .nin,a,b=>(inO a b).map (!·)
noncomputable def Q8z:T → Option Bool
 | .bl b=>some b
 | .int i=>some (decide (i ≠ 0))
 | _=>none
noncomputable def Qhd:List T → Option (List Bool)
 | []=>some []
 | t :: ts=>match Q8z t,Qhd ts with
  | some b,some bs=>some (b :: bs)
  | _,_=>none
noncomputable def Qcb:List T → Option (List Int)
 | []=>some []
 | .int i :: ts=>match Qcb ts with
  | some is=>some (i :: is)
  | none=>none
 | _ :: _=>none
noncomputable def Qqn:List (List Int) → List T → List Int → Option T
 | j :: ks,t :: ts,k=>if j = k then some t else Qqn ks ts k
 | _,_,_=>none
noncomputable def Q80:List (List Int) → List T → List Int → T → List T
 | j :: ks,t :: ts,k,u=>(if j = k then u else t) :: Q80 ks ts k u
 | _,_,_,_=>[]
noncomputable def Q81 (ks:List (List Int)) (ts:List T) (k:List Int) (u:T):T:=match Qqn ks ts k with
 | some _=>.dtt ks (Q80 ks ts k u)
 | none=>.dtt (ks ++ [k]) (ts ++ [u])
noncomputable def Q14:Option T → Bool
 | some (.dtt _ _)=>true
 | _=>false
noncomputable def Qtt:PV → Option (List Int)
 | .fz (.tup us)=>Qcb us
 | _=>none
noncomputable def Qwq:List T → Option (List (List Int))
 | []=>some []
 | .tup us :: ts=>match Qcb us,Qwq ts with
  | some k,some ks=>some (k :: ks)
  | _,_=>none
 | _=>none
noncomputable def Qgx:Int → List Int → Int
 | m,[]=>m
 | m,x :: xs=>Qgx (if m < x then x else m) xs
noncomputable def Qfd:Int → List Int → Int
 | m,[]=>m
 | m,x :: xs=>Qfd (if x < m then x else m) xs
noncomputable def Qhz:Bi → List T → Option PV
 | .len,[.lst a]=>some (.fz (.int a.length))
 | .len,[.tup a]=>some (.fz (.int a.length))
 | .abs,[.int i]=>some (.fz (.int (if i < 0 then -i else i)))
 | .all,[.lst a]=>(Qhd a).map fun bs=>.fz (.bl (bs.all id))
 | .any,[.lst a]=>(Qhd a).map fun bs=>.fz (.bl (bs.any id))
 | .sum,[.lst a]=>(Qcb a).map fun is=>.fz (.int is.sum)
 | .max,[.int i,.int j]=>some (.fz (.int (if j > i then j else i)))
 | .min,[.int i,.int j]=>some (.fz (.int (if j < i then j else i)))
 | .srt,[.lst a]=>match Qwq a with
  | some ks=>if ks.length < 64 ∧ Q12 ks = true then some (.ow (.lst ((Qwn ks).map fun k=>T.tup (k.map T.int)))) else none
  | none=>none
 | .srt,[.dtt ks _]=>if ks.length < 64 ∧ Q12 ks = true ∧ ks.all (fun k=>decide (k.length ≤ 100000)) = true then some (.ow (.lst ((Qwn ks).map fun k=>T.tup (k.map T.int)))) else none
 | .srtS,[.lst a]=>match Qwq a with
  | some ks=>match srtS ks with
   | some r=>some (.ow (.lst (r.map fun k=>T.tup (k.map T.int))))
   | none=>none
  | none=>none
 | .maxT,[.tup a]=>match Qcb a with
  | some (x :: xs)=>some (.fz (.int (Qgx x xs)))
  | _=>none
 | .minT,[.tup a]=>match Qcb a with
  | some (x :: xs)=>some (.fz (.int (Qfd x xs)))
  | _=>none
 | .max,[.lst a]=>match Qcb a with
  | some (x :: xs)=>some (.fz (.int (Qgx x xs)))
  | _=>none
 | .min,[.lst a]=>match Qcb a with
  | some (x :: xs)=>some (.fz (.int (Qfd x xs)))
  | _=>none
 | .dvm,[.int i,.int j]=>if 0 < j ∧ j.natAbs < 2 ^ 64 then some (.fz (.tup [.int (i / j),.int (i % j)])) else none
 | .int,[.int i]=>some (.fz (.int i))
 | .int,[.bl b]=>some (.fz (.int (if b then 1 else 0)))
 | .list,[.lst a]=>some (.ow (.lst a))
 | .list,[.tup a]=>some (.ow (.lst a))
 | .tup,[.lst a]=>some (.fz (.tup a))
 | .tup,[.tup a]=>some (.fz (.tup a))
 | .lstD,[.dtt ks _]=>if ks.length ≤ 100000 ∧ ks.all (fun k=>decide (k.length ≤ 100000)) = true then some (.ow (.lst (ks.map fun k=>T.tup (k.map T.int)))) else none
 | .dct,[.dtt [k] [t]]=>some (.ow (.dtt [k] [t]))
 | .dcl,[.lst [.tup [.tup us,t]]]=>match Qcb us with
  | some is=>some (.ow (.dtt [is] [t]))
  | none=>none
 | .repr,[t]=>if shOk t = true then some (.fz (.str (pyD t).shown)) else none
 | _,_=>none
noncomputable def Qzs:T → T → Option T
 | .lst a,.int i=>atI a i
 | .tup a,.int i=>atI a i
 | _,_=>none
noncomputable def Q40:T → Option Int → Option Int → Option PV
 | .lst a,lo,hi=>some (.ow (.lst (Qke a lo hi)))
 | .tup a,lo,hi=>some (.fz (.tup (Qke a lo hi)))
 | _,_,_=>none
noncomputable def Qni:List PV → Option (Option Int)
 | []=>some none
 | [.fz (.int i)]=>some (some i)
 | _=>none
noncomputable def Qad (ρ:En):List PV → Option (List T)
 | []=>some []
 | r :: rs=>match cont ρ r,Qad ρ rs with
  | some t,some ts=>some (t :: ts)
  | _,_=>none
noncomputable def Qkm (n:String):Bool:=n == "int" || n == "bool" || n == "tuple" || n == "list" || n == "dict" || n == "str"
noncomputable def Qak (ρ:En):PV → Option Arg
 | .fz t=>some (.fz t)
 | .ow t=>some (.fz t)
 | .sl i=>match Qa ρ i with
  | .ow t=>some (.ml t)
  | .ml t=>some (.ml t)
  | .ro t=>some (.ro t)
  | _=>none
noncomputable def Qx (ρ:En):List PV → Option (List Arg)
 | []=>some []
 | r :: rs=>match Qak ρ r,Qx ρ rs with
  | some t,some ts=>some (t :: ts)
  | _,_=>none
noncomputable def Qw:List PV → Bool
 | []=>true
 | .sl i :: rs=>(rs.all fun r=>match r with | .sl j=>i != j | _=>true) && Qw rs
 | _ :: rs=>Qw rs
noncomputable def Qh:List PV → Nat → Option Nat
 | [],_=>none
 | .sl j :: rs,i=>if j = i then some 0 else (Qh rs i).map (· + 1)
 | .fz _ :: rs,i=>(Qh rs i).map (· + 1)
 | .ow _ :: rs,i=>(Qh rs i).map (· + 1)
noncomputable def Qz (rs:List PV) (fin:List T) (i:Nat) (s:Slot):Slot:=match Qh rs i with
 | some k=>match fin[k]? with
  | some t=>s.put t
  | none=>s
 | none=>s
noncomputable def Qm (rs:List PV) (fin:List T):Nat → En → En
 | _,[]=>[]
 | i,s :: ρ=>Qz rs fin i s :: Qm rs fin (i + 1) ρ
noncomputable def Qax (ρ:En) (rs:List PV) (fin:List T):En:=Qm rs fin 0 ρ
noncomputable def Qjc (cf:CF) (f:Nat) (rs:List PV) (ρ:En):Out PV :=
 if Qw rs = true then
  match Qx ρ rs with
  | some as=>match cf f as with
   | .ok r fin=>.ok r (Qax ρ rs fin)
   | .xn x fin=>.xn x (Qax ρ rs fin)
   | .no=>.no
  | none=>.no
 else .no
noncomputable def fzL:List PV → Option (List T)
 | []=>some []
 | .fz t :: rs=>match fzL rs with
  | some ts=>some (t :: ts)
  | none=>none
 | _ :: _=>none
noncomputable def Q41 (cf:CF) (f:Nat) (rs:List PV) (ρ:En):Out PV:=match rs with
 | .ow t :: rs'=>match fzL rs' with
  | some ts=>match cf f (.ml t :: ts.map Arg.fz) with
   | .ok r _=>.ok r ρ
   | .xn x _=>.xn x ρ
   | .no=>.no
  | none=>.no
 | _=>.no
noncomputable def Qb3 (i:Nat) (s:Slot) (ρ:En):Option En:=if i < ρ.length then (match Qa ρ i with
 | .ml _=>none
 | .ro _=>none
 | .pin _=>none
 | .fx _=>none
 | _=>some (ρ.set i s)) else none
noncomputable def Qcf:List Nat → List T → En → Option En
 | [],[],ρ=>some ρ
 | i :: is,t :: ts,ρ=>match Qb3 i (.fz t) ρ with
  | some ρ'=>Qcf is ts ρ'
  | none=>none
 | _,_,_=>none
noncomputable def Qca:Tg → T → En → Option En
 | .nm i,t,ρ=>Qb3 i (.fz t) ρ
 | .tp is,.tup ts,ρ=>Qcf is ts ρ
 | .tp _,_,_=>none
noncomputable def Qdq (js:List (Option Nat)) (ρ:En):En:=js.map fun o=>match o with
 | none=>.un
 | some j=>(Qa ρ j).lend
noncomputable def Qg3 (js:List (Option Nat)) (ρi:En) (j:Nat) (s:Slot):Slot:=match js.idxOf? (some j) with
 | some k=>match Qa ρi k with
  | .ml t=>s.put t
  | _=>s
 | none=>s
noncomputable def Qc5 (js:List (Option Nat)) (ρi:En):Nat → En → En
 | _,[]=>[]
 | j,s :: ρ=>Qg3 js ρi j s :: Qc5 js ρi (j + 1) ρ
noncomputable def Qkn (js:List (Option Nat)) (ρi ρ:En):En:=Qc5 js ρi 0 ρ
noncomputable def Qe0 (tg:Tg) (c:En → Out Bool) (e:En → Out PV):List T → List T → En → Out (List T)
 | [],acc,ρ=>.ok acc ρ
 | x :: xs,acc,ρ=>match Qca tg x ρ with
  | none=>.no
  | some ρ1=>(c ρ1).bind fun b ρ2=>if b then (e ρ2).bind fun r ρ3=>match frz r with
    | some t=>if acc.length < 100000 then Qe0 tg c e xs (acc ++ [t]) ρ3 else .no
    | none=>.no
   else Qe0 tg c e xs acc ρ2
noncomputable def Qe1:En → En → Bool
 | .ml _ :: ρ0,s :: ρ=>(match s with | .ml _=>true | _=>false) && Qe1 ρ0 ρ
 | _ :: ρ0,_ :: ρ=>Qe1 ρ0 ρ
 | [],[]=>true
 | _,_=>false
noncomputable def Qch:List (Option Nat) → Bool
 | []=>true
 | some i :: rs=>(rs.all fun r=>match r with | some j=>i != j | none=>true) && Qch rs
 | none :: rs=>Qch rs
noncomputable def Qaj (o:Out PV):Out Bool:=o.bind fun r ρ=>match r with
 | .fz (.bl b)=>.ok b ρ
 | _=>.no
noncomputable def Qaz (lo:Int) (n:Nat):List T:=(List.range n).map fun i=>T.int (lo + (i:Nat))
noncomputable def Q42:Nat → List T → List T
 | _,[]=>[]
 | n,t :: ts=>.tup [.int n,t] :: Q42 (n + 1) ts
noncomputable def Qwr:List T → List T → List T
 | x :: xs,y :: ys=>.tup [x,y] :: Qwr xs ys
 | _,_=>[]
noncomputable def Q82:List Nat → En → Option (List T)
 | [],_=>some []
 | j :: js,ρ=>match Qa ρ j,Q82 js ρ with
  | .fz t,some ts=>some (t :: ts)
  | _,_=>none
noncomputable def Q83 (o:Out PV):Out PV:=match o with
 | .ok r ρ=>.ok r ρ
 | _=>.no
noncomputable def Q43:Slot → Bool
 | .fz (.clo _ _)=>true
 | _=>false
noncomputable def appO (cf:CF) (i:Nat) (rs:List PV) (ρ:En):Out PV:=match Qa ρ i with
 | .fz (.clo k ts)=>Q83 (Qjc cf k (rs ++ ts.map PV.fz) ρ)
 | _=>.no
noncomputable def Qiu:PV → Option Nat
 | .sl i=>some i
 | _=>none
noncomputable def ixI (n:Int):List Int → Option Nat
 | []=>none
 | m :: ms=>if m = n then some 0 else (ixI n ms).map (· + 1)
noncomputable def ixOf (n:Int):Option T → Option Int
 | some (.lst ts)=>match Qcb ts with
  | some is=>if is.length ≤ 1000 then (ixI n is).map fun j=>(j:Int) else none
  | none=>none
 | _=>none
noncomputable def insT (ts:List T) (n:Nat) (t:T):List T:=ts.take n ++ t :: ts.drop n
mutual
noncomputable def evE (cf:CF):E → En → Out PV
 | .var i,ρ=>match Qa ρ i with
  | .fz t=>.ok (.fz t) ρ
  | .un=>.no
  | .pin _=>.no
  | .fx t=>.ok (.fz t) ρ
  | _=>.ok (.sl i) ρ
 | .int i,ρ=>.ok (.fz (.int i)) ρ
 | .bl b,ρ=>.ok (.fz (.bl b)) ρ
 | .non,ρ=>.ok (.fz .non) ρ
 | .str x,ρ=>.ok (.fz (.str x)) ρ
 | .tup es,ρ=>(evA cf es ρ).bind fun rs ρ1=>match Qcq rs with
  | some ts=>if ts.length ≤ 100000 then .ok (.fz (.tup ts)) ρ1 else .no
  | none=>.no
 | .lst es,ρ=>(evA cf es ρ).bind fun rs ρ1=>match Qcq rs with
  | some ts=>if ts.length ≤ 100000 then .ok (.ow (.lst ts)) ρ1 else .no
  | none=>.no
 | .bin o a b,ρ=>(evE cf a ρ).bind fun ra ρ1=>(evE cf b ρ1).bind fun rb ρ2=>match cont ρ2 ra,cont ρ2 rb with
  | some x,some y=>.opt (opB o x y) ρ2
  | _,_=>.no
 | .neg a,ρ=>(evE cf a ρ).bind fun ra ρ1=>match ra with
  | .fz (.int i)=>.ok (.fz (.int (-i))) ρ1
  | _=>.no
 | .not a,ρ=>(Qaj (evE cf a ρ)).bind fun b ρ1=>.ok (.fz (.bl (!b))) ρ1
 | .and a b,ρ=>(Qaj (evE cf a ρ)).bind fun c ρ1=>if c then (Qaj (evE cf b ρ1)).bind fun d ρ2=>.ok (.fz (.bl d)) ρ2 else .ok (.fz (.bl false)) ρ1
 | .or a b,ρ=>(Qaj (evE cf a ρ)).bind fun c ρ1=>if c then .ok (.fz (.bl true)) ρ1 else (Qaj (evE cf b ρ1)).bind fun d ρ2=>.ok (.fz (.bl d)) ρ2
 | .ite c a b,ρ=>(Qaj (evE cf c ρ)).bind fun k ρ1=>if k then evE cf a ρ1 else evE cf b ρ1
 | .cmp o a b,ρ=>(evE cf a ρ).bind fun ra ρ1=>(evE cf b ρ1).bind fun rb ρ2=>match cont ρ2 ra,cont ρ2 rb with
  | some x,some y=>match opC o x y with
   | some k=>.ok (.fz (.bl k)) ρ2
   | none=>.no
  | _,_=>.no
 | .isI a n,ρ=>(evE cf a ρ).bind fun ra ρ1=>match cont ρ1 ra with
  | some t=>if Qkm n && !Qck t then .ok (.fz (.bl (Qka (tyT t) n))) ρ1 else .no
  | none=>.no
 | .inR ng a lo hi,ρ=>(evE cf a ρ).bind fun ra ρ1=>(evE cf lo ρ1).bind fun rl ρ2=>(evE cf hi ρ2).bind fun rh ρ3=>match ra,rl,rh with
  | .fz (.int i),.fz (.int l),.fz (.int h)=>.ok (.fz (.bl (if ng then !decide (l ≤ i ∧ i < h) else decide (l ≤ i ∧ i < h)))) ρ3
  | _,_,_=>.no
 | .call f es,ρ=>(evA cf es ρ).bind fun rs ρ1=>Qjc cf f rs ρ1
 | .bi b es,ρ=>(evA cf es ρ).bind fun rs ρ1=>match Qad ρ1 rs with
  | some ts=>.opt (Qhz b ts) ρ1
  | none=>.no
 | .cnt a b,ρ=>(evE cf a ρ).bind fun ra ρ1=>match ra with
  | .fz (.tup ts)=>(evE cf b ρ1).bind fun rb ρ2=>match rb,Qcb ts with
   | .fz (.int j),some is=>.ok (.fz (.int (is.count j:Nat))) ρ2
   | _,_=>.no
  | _=>.no
 | .ix a i,ρ=>(evE cf a ρ).bind fun ra ρ1=>(evE cf i ρ1).bind fun rb ρ2=>match cont ρ2 ra,cont ρ2 rb with
  | some x,some y=>match Qzs x y with
   | some t=>.ok (.fz t) ρ2
   | none=>.no
  | _,_=>.no
 | .slc a lo hi,ρ=>(evE cf a ρ).bind fun ra ρ1=>(evA cf lo ρ1).bind fun rl ρ2=>match Qni rl with
  | none=>.no
  | some l=>(evA cf hi ρ2).bind fun rh ρ3=>match Qni rh with
   | none=>.no
   | some h=>match cont ρ3 ra with
    | some x=>.opt (Q40 x l h) ρ3
    | none=>.no
 | .rev a,ρ=>(evE cf a ρ).bind fun ra ρ1=>match ra with
  | .fz (.tup ts)=>.ok (.fz (.tup ts.reverse)) ρ1
  | _=>.no
 | .comp w js tg cs e,ρ=>(evW cf w ρ).bind fun its ρ1=>match its.2 with
  | some _=>.no
  | none=>match Qe0 tg (evC cf cs) (evE cf e) its.1 [] (Qdq js ρ1) with
   | .ok ts ρi=>if Qe1 (Qdq js ρ1) ρi = true ∧ Qch js = true then .ok (.ow (.lst ts)) (Qkn js ρi ρ1) else .no
   | _=>.no
 | .compS i js tg cs e,ρ=>match (Qa ρ i).prv with
  | some (.lst ts)=>if js.all (fun j=>decide (j ≠ some i)) = true then match Qe0 tg (evC cf cs) (evE cf e) ts [] (Qdq js ρ) with
   | .ok us ρi=>if Qe1 (Qdq js ρ) ρi = true ∧ Qch js = true then .ok (.ow (.lst us)) (Qkn js ρi ρ) else .no
   | _=>.no
   else .no
  | _=>.no
 | .orv a b,ρ=>(evE cf a ρ).bind fun ra ρ1=>match ra with
  | .fz .non=>evE cf b ρ1
  | .fz (.tup [])=>evE cf b ρ1
  | .fz (.tup (x :: xs))=>.ok (.fz (.tup (x :: xs))) ρ1
  | _=>.no
 | .chl a b c,ρ=>(evE cf a ρ).bind fun ra ρ1=>(evE cf b ρ1).bind fun rb ρ2=>match ra,rb with
  | .fz (.int i),.fz (.int j)=>if i ≤ j then (evE cf c ρ2).bind fun rc ρ3=>match rc with
   | .fz (.int k)=>.ok (.fz (.bl (decide (j ≤ k)))) ρ3
   | _=>.no
   else .ok (.fz (.bl false)) ρ2
  | _,_=>.no
 | .compZ i j js tg cs e,ρ=>match (Qa ρ i).prv,Qa ρ j with
  | some (.lst ts),.fz (.lst us)=>if js.all (fun j=>decide (j ≠ some i)) = true then match Qe0 tg (evC cf cs) (evE cf e) (Qwr ts us) [] (Qdq js ρ) with
   | .ok us ρi=>if Qe1 (Qdq js ρ) ρi = true ∧ Qch js = true then .ok (.ow (.lst us)) (Qkn js ρi ρ) else .no
   | _=>.no
   else .no
  | _,_=>.no
 | .lix i a,ρ=>if (Qa ρ i).mut = true then (evE cf a ρ).bind fun r ρ1=>match r with
  | .fz (.int n)=>(match ixOf n ((Qa ρ1 i).prv) with
   | some j=>.ok (.fz (.int j)) ρ1
   | none=>.no)
  | _=>.no
  else .no
 | .tupR l a,ρ=>(evE cf a ρ).bind fun r ρ1=>match r with
  | .fz (.int j)=>if j.natAbs ≤ 100000 then .ok (if l then .ow (.lst (Qaz 0 j.toNat)) else .fz (.tup (Qaz 0 j.toNat))) ρ1 else .no
  | _=>.no
 | .lstR2 a b,ρ=>(evE cf a ρ).bind fun r ρ1=>(evE cf b ρ1).bind fun r2 ρ2=>match r,r2 with
  | .fz (.int i),.fz (.int j)=>if i.natAbs ≤ 100000 ∧ j.natAbs ≤ 100000 ∧ (j - i).natAbs ≤ 100000 then .ok (.ow (.lst (Qaz i (j - i).toNat))) ρ2 else .no
  | _,_=>.no
 | .lit t,ρ=>.ok (.fz t) ρ
 | .dg1 d k,ρ=>(evE cf d ρ).bind fun rd ρ1=>if Q14 (cont ρ1 rd) = true then (evE cf k ρ1).bind fun rk ρ2=>match Qtt rk,cont ρ2 rd with
   | some is,some (.dtt ks ts)=>.ok (.fz ((Qqn ks ts is).getD .non)) ρ2
   | _,_=>.no
  else .no
 | .dg2 d k x,ρ=>(evE cf d ρ).bind fun rd ρ1=>if Q14 (cont ρ1 rd) = true then (evE cf k ρ1).bind fun rk ρ2=>(evE cf x ρ2).bind fun rx ρ3=>match Qtt rk,cont ρ3 rd,rx with
   | some is,some (.dtt ks ts),.fz u=>.ok (.fz ((Qqn ks ts is).getD u)) ρ3
   | _,_,_=>.no
  else .no
 | .dnew,ρ=>.ok (.ow (.dtt [] [])) ρ
 | .d1 k x,ρ=>(evE cf k ρ).bind fun rk ρ1=>(evE cf x ρ1).bind fun rx ρ2=>match Qtt rk,rx with
  | some is,.fz t=>.ok (.ow (.dtt [is] [t])) ρ2
  | _,_=>.no
 | .tcall f es,ρ=>(evA cf es ρ).bind fun rs ρ1=>Q41 cf f rs ρ1
 | .din ng k d,ρ=>(evE cf k ρ).bind fun rk ρ1=>(evE cf d ρ1).bind fun rd ρ2=>match Qtt rk,cont ρ2 rd with
  | some is,some (.dtt ks ts)=>.ok (.fz (.bl (if ng then !(Qqn ks ts is).isSome else (Qqn ks ts is).isSome))) ρ2
  | _,_=>.no
 | .dix d k,ρ=>(evE cf d ρ).bind fun rd ρ1=>(evE cf k ρ1).bind fun rk ρ2=>match Qtt rk,cont ρ2 rd with
  | some is,some (.dtt ks ts)=>match Qqn ks ts is with
   | some t=>.ok (.fz t) ρ2
   | none=>.no
  | _,_=>.no
 | .app i es,ρ=>if Q43 (Qa ρ i) = true then (evA cf es ρ).bind fun rs ρ1=>appO cf i rs ρ1 else .no
 | .lam k js,ρ=>match Q82 js ρ with
  | some ts=>.ok (.fz (.clo k ts)) ρ
  | none=>.no
 | .fzE e,ρ=>(evE cf e ρ).bind fun r ρ1=>match frz r with
  | some t=>.ok (.fz t) ρ1
  | none=>.no
 | .bad,_=>.no
noncomputable def evA (cf:CF):Es → En → Out (List PV)
 | .nil,ρ=>.ok [] ρ
 | .cons e es,ρ=>(evE cf e ρ).bind fun r ρ1=>(evA cf es ρ1).bind fun rs ρ2=>.ok (r :: rs) ρ2
noncomputable def evC (cf:CF):Es → En → Out Bool
 | .nil,ρ=>.ok true ρ
 | .cons e .nil,ρ=>Qaj (evE cf e ρ)
 | .cons _ _,_=>.no
noncomputable def evW (cf:CF):W → En → Out (List T × Option Nat)
 | .seq e,ρ=>(evE cf e ρ).bind fun r ρ1=>match cont ρ1 r with
  | some t=>match Qft t with
   | some ts=>.ok (ts,Qiu r) ρ1
   | none=>.no
  | none=>.no
 | .rng1 a,ρ=>(evE cf a ρ).bind fun r ρ1=>match r with
  | .fz (.int j)=>if j.natAbs ≤ 100000 then .ok (Qaz 0 j.toNat,none) ρ1 else .no
  | _=>.no
 | .rng2 a b,ρ=>(evE cf a ρ).bind fun r ρ1=>(evE cf b ρ1).bind fun r2 ρ2=>match r,r2 with
  | .fz (.int i),.fz (.int j)=>if i.natAbs ≤ 100000 ∧ j.natAbs ≤ 100000 then .ok (Qaz i (j - i).toNat,none) ρ2 else .no
  | _,_=>.no
 | .enm e,ρ=>(evE cf e ρ).bind fun r ρ1=>match cont ρ1 r with
  | some (.lst ts)=>.ok (Q42 0 ts,Qiu r) ρ1
  | some (.tup ts)=>.ok (Q42 0 ts,Qiu r) ρ1
  | _=>.no
 | .zip a b,ρ=>(evE cf a ρ).bind fun r ρ1=>(evE cf b ρ1).bind fun r2 ρ2=>match r,r2 with
  | .fz (.tup xs),.fz (.tup ys)=>.ok (Qwr xs ys,none) ρ2
  | .fz (.lst xs),.fz (.tup ys)=>.ok (Qwr xs ys,none) ρ2
  | .fz (.lst xs),.fz (.lst ys)=>.ok (Qwr xs ys,none) ρ2
  | _,_=>.no
 | .dks e,ρ=>(evE cf e ρ).bind fun r ρ1=>match r with
  | .fz (.dtt ks _)=>if ks.all (fun k=>decide (k.length ≤ 100000)) = true then .ok (ks.map fun k=>T.tup (k.map T.int),none) ρ1 else .no
  | _=>.no
end
noncomputable def SO.seq (o:SO) (k:En → SO):SO:=match o with
 | .nx ρ=>k ρ
 | o=>o
noncomputable def ofO {α:Type} (o:Out α) (k:α → En → SO):SO:=match o with
 | .ok a ρ=>k a ρ
 | .xn x ρ=>.xn x ρ
 | .no=>.no
noncomputable def Qah {α:Type} (o:Option α) (k:α → SO):SO:=match o with
 | some a=>k a
 | none=>.no
noncomputable def Qo0 (c:En → Out Bool) (b:En → SO):Nat → En → SO
 | 0,_=>.no
 | n + 1,ρ=>ofO (c ρ) fun k ρ1=>if k then (match b ρ1 with
   | .nx ρ2=>Qo0 c b n ρ2
   | .ct ρ2=>Qo0 c b n ρ2
   | .bk ρ2=>.nx ρ2
   | o=>o) else .nx ρ1
noncomputable def Qbb (tg:Tg) (b:En → SO):List T → En → SO
 | [],ρ=>.nx ρ
 | x :: xs,ρ=>match Qca tg x ρ with
  | none=>.no
  | some ρ1=>match b ρ1 with
   | .nx ρ2=>Qbb tg b xs ρ2
   | .ct ρ2=>Qbb tg b xs ρ2
   | .bk ρ2=>.nx ρ2
   | o=>o
noncomputable def Qgy (i:Nat) (tg:Tg) (b:En → SO):Nat → Nat → En → SO
 | 0,_,_=>.no
 | m + 1,n,ρ=>match Qa ρ i with
  | .ro (.lst us)=>match us[n]? with
   | none=>.nx ρ
   | some x=>match Qca tg x ρ with
    | none=>.no
    | some ρ1=>match b ρ1 with
     | .nx ρ2=>Qgy i tg b m (n + 1) ρ2
     | .ct ρ2=>Qgy i tg b m (n + 1) ρ2
     | .bk ρ2=>.nx ρ2
     | o=>o
  | _=>.no
noncomputable def unE (i:Nat) (ρ:En):Option En:=match Qa ρ i with
 | .ro t=>some (ρ.set i (.ow t))
 | _=>none
noncomputable def unl (i:Nat):SO → SO
 | .nx ρ=>Qah (unE i ρ) .nx
 | .rt (.fz t) ρ=>Qah (unE i ρ) (.rt (.fz t))
 | _=>.no
noncomputable def Qko (o:SO):SO:=match o with
 | .xn _ _=>.no
 | o=>o
noncomputable def Qlq (i:Nat) (r:PV) (ρ:En):SO:=match r with
 | .fz t=>Qah (Qb3 i (.fz t) ρ) .nx
 | .ow t=>Qah (Qb3 i (.ow t) ρ) .nx
 | .sl _=>.no
noncomputable def Qqo:T → Bool
 | .tup _=>true
 | .lst _=>true
 | _=>false
noncomputable def flaT:T → Bool
 | .int _=>true
 | .bl _=>true
 | .str _=>true
 | .non=>true
 | _=>false
noncomputable def lkS:Slot → Slot
 | .fz t=>if Qqo t = true then .fx t else .fz t
 | s=>s
noncomputable def Qo1:Slot → Bool
 | .un=>true
 | .fz t=>Qqo t || flaT t
 | .pin _=>true
 | _=>false
noncomputable def Qzt:Slot → Bool
 | .fx _=>true
 | _=>false
noncomputable def lkB:Slot → Slot → Slot
 | s0,.fx _=>s0
 | _,.fz t=>if flaT t = true then .fz t else .un
 | _,.pin a=>.pin a
 | _,_=>.un
noncomputable def lkO (i:Nat) (ρ:En):SO → SO
 | .nx ρ1=>if Qzt (Qa ρ1 i) = true ∧ ρ1.length = ρ.length then .nx (List.zipWith lkB ρ ρ1) else .no
 | .rt (.fz (.bl b)) ρ1=>.rt (.fz (.bl b)) (ρ1.map fun _=>.un)
 | _=>.no
noncomputable def Q84:Slot → Bool
 | .un=>true
 | .fz _=>true
 | _=>false
noncomputable abbrev Qmh (is:List Int):T:=.lst (is.map T.int)
noncomputable abbrev Qdj (M:List (List Int)):T:=.lst (M.map Qmh)
noncomputable def nRow (fA:En → SO) (iF iR iH:Nat) (Ms:List (List (List Int))) (R:List (List Int)) (ρ:En):Option (List (List Int) × En) :=
 match fA ((ρ.set iF (.ro (.lst (Ms.map Qdj)))).set iR (.ro (.lst (R.map Qmh)))) with
 | .nx ρ1=>match Qa ρ1 iF,Qa ρ1 iR,Qa ρ1 iH with
  | .ro _,.ro _,.ow (.lst us)=>match Qcb us with
   | some is=>if is.length ≤ 1000 ∧ R.length < 1000 then some (R ++ [is],((((ρ1.set iR (.ow (.lst (R.map Qmh)))).set iF (.ow (.lst (Ms.map Qdj)))).set iH (.fz (Qmh is))).set iR (.ow (.lst ((R ++ [is]).map Qmh))))) else none
   | none=>none
  | _,_,_=>none
 | _=>none
noncomputable def Q15 (fA:En → SO) (iF iR iH iW:Nat) (Ms:List (List (List Int))) (R0:List (List Int)) (ρ0:En):Nat → Option (List (List Int) × En)
 | 0=>some (R0,ρ0)
 | n + 1=>match Q15 fA iF iR iH iW Ms R0 ρ0 n with
  | some q=>if iW < q.2.length then nRow fA iF iR iH Ms q.1 (q.2.set iW (.fz (.int n))) else none
  | none=>none
noncomputable def nTab (f0 fA:En → SO) (iF iR iH iW iS:Nat) (Ms:List (List (List Int))) (ρ:En):Option (List (List (List Int)) × En) :=
 match f0 (ρ.set iF (.ro (.lst (Ms.map Qdj)))) with
 | .nx ρ1=>match Qa ρ1 iF,Qa ρ1 iR,Qa (ρ1.set iF (.ow (.lst (Ms.map Qdj)))) iS with
  | .ro _,.ow (.lst []),.fz (.int j)=>if j.natAbs ≤ 1000 then (match Q15 fA iF iR iH iW Ms [] (ρ1.set iF (.ow (.lst (Ms.map Qdj)))) j.toNat with
   | some q=>if q.1.length ≤ 1000 ∧ Ms.length < 1000 then some (Ms ++ [q.1],(q.2.set iR (.fz (Qdj q.1))).set iF (.ow (.lst ((Ms ++ [q.1]).map Qdj)))) else none
   | none=>none) else none
  | _,_,_=>none
 | _=>none
noncomputable def Q16 (f0 fA:En → SO) (iF iR iH iW iS iT:Nat) (ρ0:En):Nat → Option (List (List (List Int)) × En)
 | 0=>some ([],ρ0)
 | n + 1=>match Q16 f0 fA iF iR iH iW iS iT ρ0 n with
  | some q=>if iT < q.2.length then nTab f0 fA iF iR iH iW iS q.1 (q.2.set iT (.fz (.int n))) else none
  | none=>none
noncomputable def Q44:Slot → Slot
 | .ml (.lst ts)=>if (Qcb ts).isSome = true then .ml (.lst ts) else .un
 | _=>.un
noncomputable def nPut (fV f1 f2:En → Out PV) (iF:Nat):List (List (List Int)) → En → Option En
 | [],_=>none
 | M :: Ms,ρ=>if (M :: Ms).length ≤ 1000 then (match fV (ρ.set iF (.ro (.lst ((M :: Ms).map Qdj)))) with
  | .ok (.fz (.int v)) ρ1=>(match Qa ρ1 iF,f1 (ρ1.set iF (.ro (.lst ((M :: Ms).map Qdj)))) with
   | .ro _,.ok (.fz (.int j)) ρ2=>(match Qa ρ2 iF,f2 (ρ2.set iF (.ro (.lst ((M :: Ms).map Qdj)))) with
    | .ro _,.ok (.fz (.int k)) ρ3=>(match Qa ρ3 iF,ixN M.length j with
     | .ro _,some x=>(match M[x]? with
      | some is=>(match ixN is.length k with
       | some y=>some ((ρ3.map Q44).set iF (.ow (.lst ((M.set x (is.set y v) :: Ms).map Qdj))))
       | none=>none)
      | none=>none)
     | _,_=>none)
    | _,_=>none)
   | _,_=>none)
  | _=>none) else none
noncomputable def Q85 (f0 fA:En → SO) (fc:En → Out Bool) (fV f1 f2:En → Out PV) (iF iR iH iW iS iT iN:Nat) (ρ:En):SO :=
 match Qa ρ iF,Qa ρ iN with
 | .ow (.lst []),.fz (.int n)=>if n.natAbs ≤ 1000 then (match Q16 f0 fA iF iR iH iW iS iT ρ n.toNat with
  | some q=>if q.1.length ≤ 1000 then (match fc (q.2.set iF (.ro (.lst (q.1.map Qdj)))) with
   | .ok b ρ2=>(match Qa ρ2 iF with
    | .ro _=>if b = true then (match nPut fV f1 f2 iF q.1 (ρ2.set iF (.ow (.lst (q.1.map Qdj)))) with
     | some ρ3=>.nx ρ3
     | none=>.no) else .nx (ρ2.set iF (.ow (.lst (q.1.map Qdj))))
    | _=>.no)
   | _=>.no) else .no
  | none=>.no) else .no
 | _,_=>.no
noncomputable def exS (cf:CF):S → En → SO
 | .nil,ρ=>.nx ρ
 | .seq a b,ρ=>(exS cf a ρ).seq (exS cf b)
 | .expr e,ρ=>ofO (evE cf e ρ) fun _ ρ1=>.nx ρ1
 | .set i e,ρ=>ofO (evE cf e ρ) fun r ρ1=>Qlq i r ρ1
 | .setF i e,ρ=>ofO (evE cf e ρ) fun r ρ1=>match frz r with
  | some t=>Qah (Qb3 i (.fz t) ρ1) .nx
  | none=>.no
 | .unp is e,ρ=>ofO (evE cf e ρ) fun r ρ1=>match r with
  | .fz (.tup ts)=>Qah (Qcf is ts ρ1) .nx
  | _=>.no
 | .par i j a b,ρ=>ofO (evE cf a ρ) fun ra ρ1=>ofO (evE cf b ρ1) fun rb ρ2=>match ra,rb with
  | .fz x,.fz y=>Qah (Qcf [i,j] [x,y] ρ2) .nx
  | _,_=>.no
 | .app i e,ρ=>if (Qa ρ i).mut = true then ofO (evE cf e ρ) fun r ρ1=>match frz r with
   | none=>.no
   | some t=>match Qa ρ1 i with
    | .ow (.lst ts)=>if ts.length < 100000 then .nx (ρ1.set i (.ow (.lst (ts ++ [t])))) else .no
    | .ml (.lst ts)=>if ts.length < 100000 then .nx (ρ1.set i (.ml (.lst (ts ++ [t])))) else .no
    | _=>.no
  else .no
 | .ext i e,ρ=>if (Qa ρ i).mut = true then ofO (evE cf e ρ) fun r ρ1=>match r with
   | .fz (.tup us)=>match Qa ρ1 i with
    | .ow (.lst ts)=>if ts.length + us.length ≤ 100000 then .nx (ρ1.set i (.ow (.lst (ts ++ us)))) else .no
    | .ml (.lst ts)=>if ts.length + us.length ≤ 100000 then .nx (ρ1.set i (.ml (.lst (ts ++ us)))) else .no
    | _=>.no
   | _=>.no
  else .no
 | .put i k e,ρ=>ofO (evE cf e ρ) fun r ρ1=>match frz r with
  | none=>.no
  | some t=>if (Qa ρ1 i).mut = true then ofO (evE cf k ρ1) fun rk ρ2=>match rk with
    | .fz (.int j)=>match Qa ρ2 i with
     | .ow (.lst ts)=>Qah (ixN ts.length j) fun n=>.nx (ρ2.set i (.ow (.lst (ts.set n t))))
     | .ml (.lst ts)=>Qah (ixN ts.length j) fun n=>.nx (ρ2.set i (.ml (.lst (ts.set n t))))
     | _=>.no
    | _=>.no
   else .no
 | .dput i k e,ρ=>ofO (evE cf e ρ) fun r ρ1=>match frz r with
  | none=>.no
  | some t=>if (Qa ρ1 i).mutD = true then ofO (evE cf k ρ1) fun rk ρ2=>match Qtt rk with
    | some is=>match Qa ρ2 i with
     | .ow (.dtt ks ts)=>if ks.length < 100000 then .nx (ρ2.set i (.ow (Q81 ks ts is t))) else .no
     | .ml (.dtt ks ts)=>if ks.length < 100000 then .nx (ρ2.set i (.ml (Q81 ks ts is t))) else .no
     | _=>.no
    | none=>.no
   else .no
 | .look i b,ρ=>match Qa ρ i with
  | .ow (.lst ts)=>if (ρ.set i .un).all Qo1 = true then lkO i ρ (exS cf b ((ρ.set i (.fz (.lst ts))).map lkS)) else .no
  | _=>.no
 | .swp i j k,ρ=>ofO (evE cf (.tup (.cons (.ix (.var i) (.var k)) (.cons (.ix (.var i) (.var j)) .nil))) ρ) fun r ρ1=>match r with
  | .fz (.tup [u,v])=>match Qa ρ1 j,Qa ρ1 k,Qa ρ1 i with
   | .fz (.int x),.fz (.int y),.ow (.lst ts)=>Qah (ixN ts.length x) fun m=>Qah (ixN ts.length y) fun n=>.nx (ρ1.set i (.ow (.lst ((ts.set m u).set n v))))
   | _,_,_=>.no
  | _=>.no
 | .ret e,ρ=>ofO (evE cf e ρ) fun r ρ1=>.rt r ρ1
 | .retN,ρ=>.rt (.fz .non) ρ
 | .ite c a b,ρ=>ofO (Qaj (evE cf c ρ)) fun k ρ1=>if k then exS cf a ρ1 else exS cf b ρ1
 | .whl c b,ρ=>Qko (Qo0 (fun ρ=>Qaj (evE cf c ρ)) (exS cf b) 1000000 ρ)
 | .for_ w tg b,ρ=>Qko (ofO (evW cf w ρ) fun its ρ1=>match its.2 with
  | some _=>.no
  | none=>Qbb tg (exS cf b) its.1 ρ1)
 | .mov i j,ρ=>match Qa ρ j with
  | .ow t=>if i ≠ j ∧ i < ρ.length then .nx ((ρ.set j .un).set i (.ow t)) else .no
  | _=>.no
 | .forX w tg b,ρ=>ofO (evW cf w ρ) fun its ρ1=>match its.2 with
  | some _=>.no
  | none=>Qbb tg (exS cf b) its.1 ρ1
 | .extL i e,ρ=>if (Qa ρ i).mut = true then ofO (evE cf e ρ) fun r ρ1=>match r with
   | .ow (.lst us)=>match Qa ρ1 i with
    | .ow (.lst ts)=>if ts.length + us.length ≤ 100000 then .nx (ρ1.set i (.ow (.lst (ts ++ us)))) else .no
    | _=>.no
   | _=>.no
  else .no
 | .forS i tg b,ρ=>match Qa ρ i with
  | .ow (.lst ts)=>unl i (Qgy i tg (exS cf b) 100001 0 (ρ.set i (.ro (.lst ts))))
  | _=>.no
 | .brk,ρ=>.bk ρ
 | .cnt,ρ=>.ct ρ
 | .frz i,ρ=>match Qa ρ i with
  | .ow t=>.nx (ρ.set i (.fz t))
  | .ml _=>.no
  | .ro _=>.no
  | _=>.nx ρ
 | .raise c es,ρ=>ofO (evA cf es ρ) fun rs ρ1=>match rs with
  | [.fz (.int i)]=>if 6 ≤ c ∧ c < 9 then .xn ⟨c,[i]⟩ ρ1 else .no
  | [.fz (.str _)]=>if c < 6 then .xn ⟨c,[]⟩ ρ1 else .no
  | [.fz (.int i),.fz (.int j)]=>if c = 9 then .xn ⟨c,[i,j]⟩ ρ1 else .no
  | _=>.no
 | .ins i k e,ρ=>if (Qa ρ i).mut = true then ofO (evE cf k ρ) fun rk ρ1=>match rk with
   | .fz (.int j)=>ofO (evE cf e ρ1) fun r ρ2=>match r with
    | .fz t=>match Qa ρ2 i with
     | .ow (.lst ts)=>if ts.length < 100000 ∧ 0 ≤ j ∧ j ≤ ts.length then .nx (ρ2.set i (.ow (.lst (insT ts j.toNat t)))) else .no
     | _=>.no
    | _=>.no
   | _=>.no
  else .no
 | .rem i e,ρ=>if (Qa ρ i).mut = true then ofO (evE cf e ρ) fun r ρ1=>match r with
   | .fz (.int n)=>match Qa ρ1 i with
    | .ow (.lst ts)=>match Qcb ts with
     | some is=>match ixI n is with
      | some j=>.nx (ρ1.set i (.ow (.lst (ts.eraseIdx j))))
      | none=>.no
     | none=>.no
    | _=>.no
   | _=>.no
  else .no
 | .scr i a b f c1 c2,ρ=>if ρ.all Q84 = true then (match Qa ρ a,Qa ρ b with
  | .fz (.int x),.fz (.int y)=>match cf f [.fz (.int x),.fz (.int y)] with
   | .ok (.fz (.tup [u,.lst ts])) _=>match Qb3 i (.fz (.tup [u,.lst ts])) ρ with
    | some ρ1=>match Qaj (evE cf c1 ρ1) with
     | .ok false _=>match Qaj (evE cf c2 ρ1) with
      | .ok false _=>if ts.length < 100000 then .nx (ρ.set i .un) else .no
      | _=>.no
     | _=>.no
    | none=>.no
   | _=>.no
  | _,_=>.no) else .no
 | .nest iF iR iH iW iS iT iN a0 a c v e1 e2,ρ=>Q85 (exS cf a0) (exS cf a) (fun ρ=>Qaj (evE cf c ρ)) (evE cf v) (evE cf e1) (evE cf e2) iF iR iH iW iS iT iN ρ
 | .tryR i b h,ρ=>match exS cf b ρ with
  | .xn x ρ1=>(match h x.c x.arg with
   | some t=>.rt (.fz t) ρ1
   | none=>.no)
  | o=>o
 | .parO i j a b,ρ=>ofO (evE cf a ρ) fun ra ρ1=>ofO (evE cf b ρ1) fun rb ρ2=>match ra,rb with
  | .ow x,.ow y=>Qah (Qb3 i (.ow x) ρ2) fun ρ3=>Qah (Qb3 j (.ow y) ρ3) .nx
  | _,_=>.no
 | .bad,_=>.no
structure Fn where
 ps:Nat
 sz:Nat
 body:S
noncomputable def Qer (fn:Fn) (as:List Arg):En:=(as.map fun a=>match a with
 | .fz t=>Slot.fz t
 | .ml t=>.ml t
 | .ro t=>.ro t) ++ List.replicate (fn.sz - fn.ps) .un
noncomputable def Qu:List Arg → En → Option (List T)
 | [],_=>some []
 | .ml _ :: as,.ml t :: ρ=>(Qu as ρ).map (t :: ·)
 | .ml _ :: _,_=>none
 | .fz _ :: as,_ :: ρ=>(Qu as ρ).map (.non :: ·)
 | .ro _ :: as,_ :: ρ=>(Qu as ρ).map (.non :: ·)
 | _,[]=>none
noncomputable def Qar (ρ:En):PV → Option PV
 | .fz t=>some (.fz t)
 | .ow t=>some (.ow t)
 | .sl i=>match Qa ρ i with
  | .ow t=>some (.ow t)
  | _=>none
noncomputable def Qb6 (cf:CF) (fn:Fn) (as:List Arg):FR :=
 if as.length = fn.ps then match exS cf fn.body (Qer fn as) with
  | .nx ρ=>match Qu as ρ with
   | some fin=>.ok (.fz .non) fin
   | none=>.no
  | .rt r ρ=>match Qar ρ r,Qu as ρ with
   | some r,some fin=>.ok r fin
   | _,_=>.no
  | .xn x ρ=>match Qu as ρ with
   | some fin=>.xn x fin
   | none=>.no
  | _=>.no
 else .no
noncomputable def evF (tab:Nat → Option Fn):Nat → CF
 | 0,_,_=>.no
 | n + 1,f,as=>match tab f with
  | some fn=>Qb6 (evF tab n) fn as
  | none=>.no
structure Bs where
 H:Hp
 G:Addr → Prop
 O:Addr → Prop
 M:Addr → Prop
 P:Nat → Addr → Prop
noncomputable def OwnO (D:Hp):T → HO → Prop
 | .lst ts,.lst vs=>ts.length ≤ 100000 ∧ IsL D vs ts
 | .dtt ks ts,.dT kvs=>ks.length ≤ 100000 ∧ ∃ vs,kvs = (ks.map kIs).zip vs ∧ ks.length = vs.length ∧ IsL D vs ts
 | _,_=>False
theorem OwnO.mono {D D':Hp} {t:T} {o:HO} (h:OwnO D t o) (s:Same D D'):OwnO D' t o:=by
 cases t with
 | lst ts=>cases o <;> first | exact ⟨h.1,h.2.mono s⟩ | exact h.elim
 | dtt ks ts =>
  cases o with
  | dT kvs=>obtain ⟨z,vs,e,l,q⟩:=h; exact ⟨z,vs,e,l,q.mono s⟩
  | _=>exact h.elim
 | _=>cases o <;> exact h.elim
theorem OwnO.pen {D:Hp} {t:T} {o:HO} (h:OwnO D t o):Q4k o = true:=by
 cases t with
 | lst ts=>cases o <;> first | rfl | exact h.elim
 | dtt ks ts=>cases o <;> first | rfl | exact h.elim
 | _=>cases o <;> exact h.elim
theorem OwnO.is {D D':Hp} {t:T} {o:HO} {a:Addr} (h:OwnO D t o) (e:D' a = some o) (s:Same D D'):Is D' (.ref a) t:=by
 cases t with
 | lst ts =>
  cases o with
  | lst vs=>exact .lst e (h.2.mono s) h.1
  | _=>exact h.elim
 | dtt ks ts =>
  cases o with
  | dT kvs =>
   obtain ⟨z,vs,rfl,l,q⟩:=h
   unfold Is
   exact ⟨z,a,vs,rfl,e,l,q.mono s⟩
  | _=>exact h.elim
 | _=>cases o <;> exact h.elim
noncomputable def OwnAt (H:Hp) (G:Addr → Prop) (a:Addr) (t:T):Prop:=∃ o,H a = some o ∧ OwnO (dls H G) t o
theorem OwnAt.lst_inv {H:Hp} {G:Addr → Prop} {a:Addr} {ts:List T} (h:OwnAt H G a (.lst ts)):∃ vs,ts.length ≤ 100000 ∧ H a = some (.lst vs) ∧ IsL (dls H G) vs ts:=by
 obtain ⟨o,e,q⟩:=h
 cases o with
 | lst vs=>exact ⟨vs,q.1,e,q.2⟩
 | _=>exact q.elim
theorem OwnAt.no_tup {H:Hp} {G:Addr → Prop} {a:Addr} {ts:List T} (h:OwnAt H G a (.tup ts)):False:=by
 obtain ⟨o,e,q⟩:=h
 cases o <;> exact q
noncomputable def Qkp (H:Hp) (G:Addr → Prop) (σ:St) (i:Nat):Slot → Prop
 | .un=>True
 | .fz t=>∃ v,σ[i]? = some (some v) ∧ Is (dls H G) v t
 | .ow t=>∃ a,σ[i]? = some (some (.ref a)) ∧ G a ∧ OwnAt H G a t
 | .ml t=>∃ a,σ[i]? = some (some (.ref a)) ∧ G a ∧ OwnAt H G a t
 | .ro t=>∃ a,σ[i]? = some (some (.ref a)) ∧ G a ∧ OwnAt H G a t
 | .pin a=>σ[i]? = some (some (.ref a))
 | .fx t=>∃ a o,σ[i]? = some (some (.ref a)) ∧ dls H G a = some o ∧ Is (dls H G) (.ref a) t
noncomputable def PrvAt (σ:St) (ρ:En) (i:Nat) (a:Addr):Prop:=(∃ t,(Qa ρ i).prv = some t) ∧ σ[i]? = some (some (.ref a))
noncomputable def OwA (σ:St) (ρ:En) (a:Addr):Prop:=∃ i t,Qa ρ i = .ow t ∧ σ[i]? = some (some (.ref a))
noncomputable def MlA (σ:St) (ρ:En) (a:Addr):Prop:=∃ i t,Qa ρ i = .ml t ∧ σ[i]? = some (some (.ref a))
noncomputable def PnA (σ:St) (ρ:En) (i:Nat) (a:Addr):Prop:=(∃ t,Qa ρ i = .ml t ∨ Qa ρ i = .ro t ∨ Qa ρ i = .fx t) ∧ σ[i]? = some (some (.ref a))
structure FI (B:Bs) (H:Hp) (G:Addr → Prop) (σ:St) (ρ:En):Prop where
 len:σ.length = ρ.length
 slot:∀ i,Qkp H G σ i (Qa ρ i)
 apart:∀ i j a,PrvAt σ ρ i a → PrvAt σ ρ j a → i = j
 prv:Pen H G
 chg:∀ b o,¬ B.O b → ¬ B.M b → B.H b = some o → H b = some o
 keep:∀ b o,B.H b = some o → ∃ o',H b = some o'
 newO:∀ a,OwA σ ρ a → B.H a = none ∨ B.O a
 newM:∀ a,MlA σ ρ a → B.M a
 fix:∀ i a,PnA σ ρ i a → B.P i a
 gg:∀ b,B.G b → G b
 gn:∀ b,G b → B.G b ∨ B.H b = none
 bp:∀ b,B.G b → ∃ o,B.H b = some o
noncomputable abbrev Qan (H:Hp) (G:Addr → Prop) (σ:St) (ρ:En):Bs:=⟨H,G,OwA σ ρ,MlA σ ρ,PnA σ ρ⟩
section
variable {B:Bs} {H H1 H2:Hp} {G G1:Addr → Prop} {σ σ1:St} {ρ ρ1 ρ2:En}
theorem FI.self (F:FI B H G σ ρ):FI (Qan H G σ ρ) H G σ ρ :=
 ⟨F.len,F.slot,F.apart,F.prv,fun _ _ _ _ e=>e,fun _ o e=>⟨o,e⟩,fun _ h=>.inr h,fun _ h=>h,fun _ _ h=>h,fun _ h=>h,fun _ h=>.inl h,fun b h=>let ⟨xs,e,_⟩:=F.prv b h; ⟨_,e⟩⟩
theorem FI.ownG (F:FI B H G σ ρ) {a:Addr} (h:OwA σ ρ a):G a:=by
 obtain ⟨i,t,e,s⟩:=h
 have q:=F.slot i
 rw [e] at q
 obtain ⟨b,hb,g,_⟩:=q
 rw [s] at hb
 cases hb
 exact g
theorem FI.mlG (F:FI B H G σ ρ) {a:Addr} (h:MlA σ ρ a):G a:=by
 obtain ⟨i,t,e,s⟩:=h
 have q:=F.slot i
 rw [e] at q
 obtain ⟨b,hb,g,_⟩:=q
 rw [s] at hb
 cases hb
 exact g
theorem FI.same (F0:FI B H G σ ρ) (F:FI (Qan H G σ ρ) H1 G1 σ1 ρ1):Same (dls H G) (dls H1 G1):=fun b o e=>by
 obtain ⟨n,e⟩:=Q3 e
 have e1:=F.chg b o (fun z=>n (F0.ownG z)) (fun z=>n (F0.mlG z)) e
 rw [Qbc fun z=>?_]
 ·exact e1
 ·rcases F.gn b z with z | z
  ·exact n z
  ·rw [show H b = none from z] at e; cases e
theorem FI.trans (F0:FI B H G σ ρ) (F:FI (Qan H G σ ρ) H1 G1 σ1 ρ1):FI B H1 G1 σ1 ρ1 where
 len:=F.len
 slot:=F.slot
 apart:=F.apart
 prv:=F.prv
 chg:=fun b o h1 h2 e=>F.chg b o (fun z=>by
  rcases F0.newO b z with z | z
  ·rw [e] at z; cases z
  ·exact h1 z) (fun z=>h2 (F0.newM b z)) (F0.chg b o h1 h2 e)
 keep:=fun b o e=>by
  obtain ⟨o1,e1⟩:=F0.keep b o e
  exact F.keep b o1 e1
 newO:=fun a h=>by
  rcases F.newO a h with z | z
  ·refine .inl ?_
   cases e:B.H a with
   | none=>rfl
   | some o =>
    obtain ⟨o1,e1⟩:=F0.keep a o e
    rw [show H a = none from z] at e1
    cases e1
  ·exact F0.newO a z
 newM:=fun a h=>F0.newM a (F.newM a h)
 fix:=fun i a h=>F0.fix i a (F.fix i a h)
 gg:=fun b h=>F.gg b (F0.gg b h)
 gn:=fun b h=>by
  rcases F.gn b h with z | z
  ·exact F0.gn b z
  ·refine .inr ?_
   cases e:B.H b with
   | none=>rfl
   | some o =>
    obtain ⟨o1,e1⟩:=F0.keep b o e
    rw [show H b = none from z] at e1
    cases e1
 bp:=F0.bp
theorem FI.free (F:FI B H G σ ρ) {b:Addr} (h:H b = none):B.H b = none:=by
 cases e:B.H b with
 | none=>rfl
 | some o =>
  obtain ⟨o1,e1⟩:=F.keep b o e
  rw [h] at e1
  cases e1
theorem FI.grow (F:FI B H G σ ρ) (s:Same H H1):FI B H1 G σ ρ where
 len:=F.len
 slot:=fun i=>by
  have q:=F.slot i
  cases hs:Qa ρ i with
  | un=>trivial
  | fz t=>rw [hs] at q; obtain ⟨v,a,b⟩:=q; exact ⟨v,a,b.mono (Qa8 s)⟩
  | ow t=>rw [hs] at q; obtain ⟨a,h1,h2,o,h5,h6⟩:=q; exact ⟨a,h1,h2,o,s _ _ h5,h6.mono (Qa8 s)⟩
  | ml t=>rw [hs] at q; obtain ⟨a,h1,h2,o,h5,h6⟩:=q; exact ⟨a,h1,h2,o,s _ _ h5,h6.mono (Qa8 s)⟩
  | ro t=>rw [hs] at q; obtain ⟨a,h1,h2,o,h5,h6⟩:=q; exact ⟨a,h1,h2,o,s _ _ h5,h6.mono (Qa8 s)⟩
  | pin a=>rw [hs] at q; exact q
  | fx t=>rw [hs] at q; obtain ⟨v,o,a,e,b⟩:=q; exact ⟨v,o,a,Qa8 s _ _ e,b.mono (Qa8 s)⟩
 apart:=F.apart
 prv:=F.prv.mono s
 chg:=fun b o h1 h2 e=>s b o (F.chg b o h1 h2 e)
 keep:=fun b o e=>by
  obtain ⟨o1,e1⟩:=F.keep b o e
  exact ⟨o1,s _ _ e1⟩
 newO:=F.newO
 newM:=F.newM
 fix:=F.fix
 gg:=F.gg
 gn:=F.gn
 bp:=F.bp
end
section
variable {B:Bs} {H H1 H2:Hp} {G G1:Addr → Prop} {σ σ1:St} {ρ ρ1 ρ2:En} {t:T}
theorem FI.prvAt (F:FI B H G σ ρ) {i:Nat} (e:(Qa ρ i).prv = some t):∃ a,σ[i]? = some (some (.ref a)) ∧ G a ∧ OwnAt H G a t:=by
 have q:=F.slot i
 cases hs:Qa ρ i with
 | un=>rw [hs] at e; cases e
 | fz t=>rw [hs] at e; cases e
 | ow t=>rw [hs] at e q; cases e; exact q
 | ml t=>rw [hs] at e q; cases e; exact q
 | ro t=>rw [hs] at e q; cases e; exact q
 | pin a=>rw [hs] at e; cases e
 | fx t=>rw [hs] at e; cases e
theorem Qhe {i:Nat} {s:Slot} (h:Qkp H G σ i s) (sm:Same (dls H G) (dls H1 G1)) (hk:∀ a o,(∃ t,s.prv = some t) → σ[i]? = some (some (.ref a)) → H a = some o → H1 a = some o ∧ G1 a):Qkp H1 G1 σ i s:=by
 cases s with
 | un=>trivial
 | fz t=>obtain ⟨v,a,b⟩:=h; exact ⟨v,a,b.mono sm⟩
 | ow t=>obtain ⟨a,h1,h2,o,h5,h6⟩:=h; exact ⟨a,h1,(hk a _ ⟨_,rfl⟩ h1 h5).2,o,(hk a _ ⟨_,rfl⟩ h1 h5).1,h6.mono sm⟩
 | ml t=>obtain ⟨a,h1,h2,o,h5,h6⟩:=h; exact ⟨a,h1,(hk a _ ⟨_,rfl⟩ h1 h5).2,o,(hk a _ ⟨_,rfl⟩ h1 h5).1,h6.mono sm⟩
 | ro t=>obtain ⟨a,h1,h2,o,h5,h6⟩:=h; exact ⟨a,h1,(hk a _ ⟨_,rfl⟩ h1 h5).2,o,(hk a _ ⟨_,rfl⟩ h1 h5).1,h6.mono sm⟩
 | pin a=>exact h
 | fx t=>obtain ⟨v,o,a,e,b⟩:=h; exact ⟨v,o,a,sm _ _ e,b.mono sm⟩
theorem PrvAt.at (F:FI B H G σ ρ) {i:Nat} {a:Addr} (h:PrvAt σ ρ i a):G a ∧ ∃ t,OwnAt H G a t:=by
 obtain ⟨⟨t,e⟩,s⟩:=h
 obtain ⟨b,sb,g,o⟩:=F.prvAt e
 rw [s] at sb
 cases sb
 exact ⟨g,t,o⟩
theorem OwA.prv {a:Addr} (h:OwA σ ρ a):∃ i,PrvAt σ ρ i a:=by
 obtain ⟨i,t,e,s⟩:=h
 exact ⟨i,⟨t,by rw [e]; rfl⟩,s⟩
theorem MlA.prv {a:Addr} (h:MlA σ ρ a):∃ i,PrvAt σ ρ i a:=by
 obtain ⟨i,t,e,s⟩:=h
 exact ⟨i,⟨t,by rw [e]; rfl⟩,s⟩
theorem Qtu {i:Nat} {a:Addr} (h:PrvAt σ ρ i a):OwA σ ρ a ∨ MlA σ ρ a ∨ PnA σ ρ i a:=by
 obtain ⟨⟨t,e⟩,s⟩:=h
 cases hs:Qa ρ i with
 | un=>rw [hs] at e; cases e
 | fz t=>rw [hs] at e; cases e
 | ow t=>exact .inl ⟨i,t,hs,s⟩
 | ml t=>exact .inr (.inl ⟨i,t,hs,s⟩)
 | ro t=>exact .inr (.inr ⟨⟨t,.inr (.inl hs)⟩,s⟩)
 | pin a=>rw [hs] at e; cases e
 | fx t=>rw [hs] at e; cases e
theorem FI.reG (F:FI B H G σ ρ) (sm:Same (dls H G) (dls H1 G1)) (s:Same H H1) (hk:∀ i a,PrvAt σ ρ i a → G1 a) (hp:Pen H1 G1) (gg:∀ b,B.G b → G1 b) (gn:∀ b,G1 b → B.G b ∨ B.H b = none):FI B H1 G1 σ ρ where
 len:=F.len
 slot:=fun i=>Qhe (F.slot i) sm fun a o h1 h2 e=>⟨s _ _ e,hk i a ⟨h1,h2⟩⟩
 apart:=F.apart
 prv:=hp
 chg:=fun b o h1 h2 e=>s b o (F.chg b o h1 h2 e)
 keep:=fun b o e=>by
  obtain ⟨o1,e1⟩:=F.keep b o e
  exact ⟨o1,s _ _ e1⟩
 newO:=F.newO
 newM:=F.newM
 fix:=F.fix
 gg:=gg
 gn:=gn
 bp:=F.bp
theorem FI.lessG (F:FI B H G σ ρ) (Z:Addr → Prop) (hz:∀ b,Z b → B.H b = none ∧ ∀ i,¬ PrvAt σ ρ i b):FI B H (fun b=>G b ∧ ¬ Z b) σ ρ:=by
 refine F.reG (Qc4 fun b h=>h.1) (Same.refl H) (fun i a h=>⟨(PrvAt.at F h).1,fun z=>(hz a z).2 i h⟩) (fun b h=>F.prv b h.1) (fun b h=>⟨F.gg b h,fun z=>?_⟩) fun b h=>F.gn b h.1
 obtain ⟨o,e⟩:=F.bp b h
 rw [(hz b z).1] at e
 cases e
theorem FI.addG (F:FI B H G σ ρ) {l:Addr} {vs:HO} (hl:H l = none) (s:Same H H1) (e:H1 l = some vs) (hpn:Q4k vs = true):FI B H1 (fun b=>G b ∨ b = l) σ ρ:=by
 refine F.reG (fun b o eb=>?_) s (fun i a h=>.inl (PrvAt.at F h).1) (fun b hb=>?_) (fun b h=>.inl (F.gg b h)) (fun b h=>?_)
 ·obtain ⟨nb,eb⟩:=Q3 eb
  rw [Qbc fun z=>?_]
  ·exact s b o eb
  ·rcases z with z | z
   ·exact nb z
   ·rw [z,hl] at eb; cases eb
 ·rcases hb with hb | hb
  ·exact F.prv.mono s b hb
  ·exact ⟨vs,hb ▸ e,hpn⟩
 ·rcases h with h | h
  ·exact F.gn b h
  ·exact .inr (h ▸ F.free hl)
end
noncomputable def Q86 (H0:Hp) (H:Hp) (G:Addr → Prop) (σ:St) (ρ:En) (v:V) (t:T):Prop:=∃ a,v = .ref a ∧ H0 a = none ∧ G a ∧ (∀ i,¬ PrvAt σ ρ i a) ∧ OwnAt H G a t
noncomputable def PVR (H0:Hp) (H:Hp) (G:Addr → Prop) (σ:St) (ρ:En) (v:V):PV → Prop
 | .fz t=>Is (dls H G) v t
 | .ow t=>Q86 H0 H G σ ρ v t
 | .sl i=>σ[i]? = some (some v)
section
variable {H0 H:Hp} {G:Addr → Prop} {σ:St} {ρ:En}
theorem PVR.is {v:V} {t:T} (h:PVR H0 H G σ ρ v (.fz t)):Is (dls H G) v t:=h
theorem pvI {i:Int}:PVR H0 H G σ ρ (.int i) (.fz (.int i)):=show Is (dls H G) (.int i) (.int i) from Is.int
theorem pvB {i:Bool}:PVR H0 H G σ ρ (.bl i) (.fz (.bl i)):=show Is (dls H G) (.bl i) (.bl i) from Is.bl
theorem pvN:PVR H0 H G σ ρ .non (.fz .non):=show Is (dls H G) .non .non from Is.non
theorem pvS {i:Str}:PVR H0 H G σ ρ (.str i) (.fz (.str i)):=show Is (dls H G) (.str i) (.str i) from Is.str
end
noncomputable def Rdb (H:Hp) (G:Addr → Prop) (v:V) (t:T):Prop:=Is (dls H G) v t ∨ ∃ a,v = .ref a ∧ OwnAt H G a t
theorem Rdb.is {H:Hp} {G:Addr → Prop} {v:V} {t:T} (h:Rdb H G v t):Is H v t:=by
 rcases h with h | ⟨a,rfl,o,e,q⟩
 ·exact h.mono (Qv4 _ _)
 ·exact q.is e (Qv4 _ _)
theorem Rdb.lst {H:Hp} {G:Addr → Prop} {v:V} {ts:List T} (h:Rdb H G v (.lst ts)):∃ a vs,v = .ref a ∧ ts.length ≤ 100000 ∧ H a = some (.lst vs) ∧ IsL (dls H G) vs ts:=by
 rcases h with h | ⟨a,rfl,q⟩
 ·obtain ⟨a,vs,rfl,e,r⟩:=h.lst_inv
  exact ⟨a,vs,rfl,h.lst_len,(Q3 e).2,r⟩
 ·obtain ⟨vs,z,h,r⟩:=q.lst_inv
  exact ⟨a,vs,rfl,z,h,r⟩
theorem Rdb.tup {H:Hp} {G:Addr → Prop} {v:V} {ts:List T} (h:Rdb H G v (.tup ts)):Is (dls H G) v (.tup ts):=by
 rcases h with h | ⟨a,_,q⟩
 ·exact h
 ·exact q.no_tup.elim
theorem Rdb.int {H:Hp} {G:Addr → Prop} {v:V} {i:Int} (h:Rdb H G v (.int i)):v = .int i:=h.is.int_inv
theorem Rdb.bl {H:Hp} {G:Addr → Prop} {v:V} {b:Bool} (h:Rdb H G v (.bl b)):v = .bl b:=by
 have q:=h.is
 unfold Is at q
 exact q
theorem Rdb.str {H:Hp} {G:Addr → Prop} {v:V} {b:Str} (h:Rdb H G v (.str b)):v = .str b:=by
 have q:=h.is
 unfold Is at q
 exact q
theorem Rdb.non {H:Hp} {G:Addr → Prop} {v:V} (h:Rdb H G v .non):v = .non:=by
 have q:=h.is
 unfold Is at q
 exact q
section
variable {B:Bs} {H H0 H1 H2:Hp} {G G1 G2:Addr → Prop} {σ σ1:St} {ρ ρ1 ρ2:En} {v:V} {r:PV} {t:T}
theorem PVR.rdb (h:PVR H0 H G σ ρ1 v r) (F:FI B H G σ ρ) (e:cont ρ r = some t):Rdb H G v t:=by
 cases r with
 | fz t=>cases e; exact .inl h
 | ow t =>
  cases e
  obtain ⟨a,rfl,_,_,_,q⟩:=h
  exact .inr ⟨a,rfl,q⟩
 | sl i =>
  obtain ⟨a,s,g,q⟩:=F.prvAt e
  have h:σ[i]? = some (some v):=h
  rw [s] at h
  cases h
  exact .inr ⟨a,rfl,q⟩
theorem OwnAt.mono {a:Addr} (h:OwnAt H G a t) (s:Same (dls H G) (dls H1 G1)) (e:∀ o,H a = some o → H1 a = some o):OwnAt H1 G1 a t:=by
 obtain ⟨o,h3,h4⟩:=h
 exact ⟨o,e _ h3,h4.mono s⟩
theorem FI.nobody (F0:FI B H G σ ρ) (F:FI (Qan H G σ ρ) H1 G1 σ ρ1) {a:Addr} {o:HO} (e:H a = some o) (n:∀ i,¬ PrvAt σ ρ i a):∀ i,¬ PrvAt σ ρ1 i a:=fun i h=>by
 have h0:=h
 rcases Qtu h with h | h | h
 ·rcases F.newO a h with z | z
  ·rw [show H a = none from z] at e; cases e
  ·obtain ⟨j,z⟩:=OwA.prv z; exact n j z
 ·obtain ⟨j,z⟩:=MlA.prv (F.newM a h); exact n j z
 ·obtain ⟨⟨t,z⟩,s⟩:=F.fix i a h
  have g1:=(PrvAt.at F h0).1
  rcases z with z | z | z
  ·exact n i ⟨⟨t,by rw [z]; rfl⟩,s⟩
  ·exact n i ⟨⟨t,by rw [z]; rfl⟩,s⟩
  ·have q:=F0.slot i
   rw [z] at q
   obtain ⟨b,o',sb,eb,_⟩:=q
   rw [s] at sb
   cases sb
   obtain ⟨ng,hb⟩:=Q3 eb
   rcases F.gn a g1 with z | z
   ·exact ng z
   ·rw [show H a = none from z] at hb; cases hb
theorem PVR.step (h:PVR H0 H G σ ρ v r) (F0:FI B H G σ ρ) (F:FI (Qan H G σ ρ) H1 G1 σ ρ1):PVR H0 H1 G1 σ ρ1 v r:=by
 cases r with
 | fz t=>exact Is.mono (F0.same F) h
 | sl i=>exact h
 | ow t =>
  obtain ⟨a,rfl,n,g,np,q⟩:=h
  have q':=q
  obtain ⟨ob,ea,_⟩:=q
  refine ⟨a,rfl,n,F.gg a g,F0.nobody F ea np,q'.mono (F0.same F) fun o e=>F.chg a o (fun z=>?_) (fun z=>?_) e⟩
  ·obtain ⟨j,z⟩:=OwA.prv z; exact np j z
  ·obtain ⟨j,z⟩:=MlA.prv z; exact np j z
theorem PVR.early (h:PVR H1 H2 G2 σ ρ2 v r) (F:FI (Qan H G σ ρ) H1 G1 σ ρ1):PVR H H2 G2 σ ρ2 v r:=by
 cases r with
 | fz t=>exact h
 | sl i=>exact h
 | ow t =>
  obtain ⟨a,rfl,n,g⟩:=h
  exact ⟨a,rfl,F.free n,g⟩
end
noncomputable def argR (H:Hp) (dx:Option Addr):List Int → Prop
 | []=>dx = none
 | [i]=>∃ d,dx = some d ∧ H d = some (.xd [("at",.int i)])
 | [i,j]=>∃ d,dx = some d ∧ H d = some (.xd [("many",.int i),("most",.int j)])
 | _=>False
noncomputable def Qzu (mg:Str → Option Value) (H:Hp) (x:Xn) (cls:Value) (dx:Option Addr):Prop:=∃ nm,Qas[x.c]? = some nm ∧ cls = .ref (cad mg nm) ∧ argR H dx x.arg
structure Pr where
 cf:CF
 R:XR
 mg:Str → Option Value
noncomputable def Fin (p:Pr) (B:Bs) (σ:St) {α:Type} (o:Out α) (K:α → En → Prop):Prop:=match o with
 | .ok a ρ1=>K a ρ1
 | .xn x ρ1=>∀ cls dx H1 G1,FI B H1 G1 σ ρ1 → Qzu p.mg H1 x cls dx → p.R cls dx σ H1
 | .no=>False
noncomputable def tE (p:Pr) (e:E):TE:=fun σ H Q=>∃ G ρ,FI (Qan H G σ ρ) H G σ ρ ∧ Fin p (Qan H G σ ρ) σ (evE p.cf e ρ) fun r ρ1=>∀ v H1 G1,FI (Qan H G σ ρ) H1 G1 σ ρ1 → PVR H H1 G1 σ ρ1 v r → Q v H1
inductive PVRs (H0:Hp) (H:Hp) (G:Addr → Prop) (σ:St) (ρ:En):List V → List PV → Prop where
 | nil:PVRs H0 H G σ ρ [] []
 | cons {v r vs rs}:PVR H0 H G σ ρ v r → PVRs H0 H G σ ρ vs rs → PVRs H0 H G σ ρ (v :: vs) (r :: rs)
noncomputable def tA (p:Pr) (es:Es):TA:=fun σ H Q=>∃ G ρ,FI (Qan H G σ ρ) H G σ ρ ∧ Fin p (Qan H G σ ρ) σ (evA p.cf es ρ) fun rs ρ1=>∀ vs H1 G1,FI (Qan H G σ ρ) H1 G1 σ ρ1 → PVRs H H1 G1 σ ρ1 vs rs → Q vs H1
noncomputable def tT (p:Pr) (e:E):TT:=fun σ H Q=>∃ G ρ,FI (Qan H G σ ρ) H G σ ρ ∧ Fin p (Qan H G σ ρ) σ (Qaj (evE p.cf e ρ)) fun b ρ1=>∀ H1 G1,FI (Qan H G σ ρ) H1 G1 σ ρ1 → Q b H1
section
variable {p:Pr} {B:Bs} {H H0 H1 H2:Hp} {G G1:Addr → Prop} {σ:St} {ρ ρ1 ρ2:En} {α β:Type}
theorem Fin.bind {o:Out α} {k:α → En → Out β} {K:β → En → Prop} (h:Fin p B σ (o.bind k) K):Fin p B σ o fun a ρ1=>Fin p B σ (k a ρ1) K:=by
 cases o with
 | ok a ρ1=>exact h
 | xn x ρ1=>exact h
 | no=>exact h
theorem Fin.imp {o:Out α} {K K':α → En → Prop} (h:Fin p B σ o K) (q:∀ a ρ1,K a ρ1 → K' a ρ1):Fin p B σ o K':=by
 cases o with
 | ok a ρ1=>exact q _ _ h
 | xn x ρ1=>exact h
 | no=>exact h
theorem Fin.rebase {o:Out α} {K K':α → En → Prop} (F:FI B H1 G σ ρ1) (h:Fin p B σ o K) (q:∀ a ρ2,K a ρ2 → K' a ρ2):Fin p (Qan H1 G σ ρ1) σ o K':=by
 cases o with
 | ok a ρ1=>exact q _ _ h
 | xn x ρ1=>exact fun cls dx H2 G2 F2=>h cls dx H2 G2 (F.trans F2)
 | no=>exact h
theorem Qo2 {e:E} {Q:VK} {K:PV → En → Prop} (F:FI B H1 G σ ρ1) (h:Fin p B σ (evE p.cf e ρ1) K) (q:∀ r ρ2 v H2 G2,K r ρ2 → FI B H2 G2 σ ρ2 → FI (Qan H1 G σ ρ1) H2 G2 σ ρ2 → PVR H1 H2 G2 σ ρ2 v r → Q v H2):tE p e σ H1 Q :=
 ⟨G,ρ1,F.self,h.rebase F fun r ρ2 k v H2 G2 F2 pv=>q r ρ2 v H2 G2 k (F.trans F2) F2 pv⟩
theorem Qws {es:Es} {Q:List V → Hp → Prop} {K:List PV → En → Prop} (F:FI B H1 G σ ρ1) (h:Fin p B σ (evA p.cf es ρ1) K) (q:∀ r ρ2 v H2 G2,K r ρ2 → FI B H2 G2 σ ρ2 → FI (Qan H1 G σ ρ1) H2 G2 σ ρ2 → PVRs H1 H2 G2 σ ρ2 v r → Q v H2):tA p es σ H1 Q :=
 ⟨G,ρ1,F.self,h.rebase F fun r ρ2 k v H2 G2 F2 pv=>q r ρ2 v H2 G2 k (F.trans F2) F2 pv⟩
theorem Qwt {e:E} {Q:Bool → Hp → Prop} {K:Bool → En → Prop} (F:FI B H1 G σ ρ1) (h:Fin p B σ (Qaj (evE p.cf e ρ1)) K) (q:∀ b ρ2 H2 G2,K b ρ2 → FI B H2 G2 σ ρ2 → FI (Qan H1 G σ ρ1) H2 G2 σ ρ2 → Q b H2):tT p e σ H1 Q :=
 ⟨G,ρ1,F.self,h.rebase F fun r ρ2 k H2 G2 F2=>q r ρ2 H2 G2 k (F.trans F2) F2⟩
theorem tE2 {a b:E} {f:PV → PV → En → Out β} {K:β → En → Prop} {Z:V → V → Hp → Prop} (F:FI (Qan H G σ ρ) H G σ ρ) (h:Fin p (Qan H G σ ρ) σ ((evE p.cf a ρ).bind fun ra ρ1=>(evE p.cf b ρ1).bind fun rb ρ2=>f ra rb ρ2) K)
  (q:∀ ra rb ρ2 x y H2 G2,FI (Qan H G σ ρ) H2 G2 σ ρ2 → PVR H H2 G2 σ ρ2 x ra → PVR H H2 G2 σ ρ2 y rb → Fin p (Qan H G σ ρ) σ (f ra rb ρ2) K → Z x y H2):tE p a σ H fun x H1=>tE p b σ H1 fun y H2=>Z x y H2:=by
 refine ⟨G,ρ,F,h.bind.imp fun ra ρ1 h1 x H1 G1 F1 r1=>?_⟩
 refine Qo2 F1 h1.bind fun rb ρ2 y H2 G2 h2 F2 F2' r2=>?_
 exact q ra rb ρ2 x y H2 G2 F2 (r1.step F1 F2') (r2.early F1) h2
theorem Qo3 {o:Out PV} {K:Bool → En → Prop} (h:Fin p B σ (Qaj o) K):Fin p B σ o fun r ρ1=>∃ b,r = .fz (.bl b) ∧ K b ρ1:=by
 cases o with
 | ok r ρ1 =>
  cases r with
  | fz t=>cases t <;> first | exact ⟨_,rfl,h⟩ | exact False.elim h
  | ow t=>exact False.elim h
  | sl i=>exact False.elim h
 | xn x ρ1=>exact h
 | no=>exact h
end
theorem QE.weak {X:Cx} {e:Expr} {t t':TE} (h:QE X e t) (q:∀ σ H Q,t' σ H Q → t σ H Q):QE X e t':=⟨h.h.weak q⟩
theorem QA.weak {X:Cx} {e:List Expr} {t t':TA} (h:QA X e t) (q:∀ σ H Q,t' σ H Q → t σ H Q):QA X e t':=⟨h.h.weak q⟩
theorem QT.weak {X:Cx} {e:Expr} {t t':TT} (h:QT X e t) (q:∀ σ H Q,t' σ H Q → t σ H Q):QT X e t':=⟨fun pins s σ H Q I z=>h.h pins s σ H Q I (q _ _ _ z)⟩
theorem QW.weak {X:Cx} {e:Expr} {t t':TT} (h:QW X e t) (q:∀ σ H Q,t' σ H Q → t σ H Q):QW X e t':=⟨fun wh pins s σ H Q I z=>h.h wh pins s σ H Q I (q _ _ _ z)⟩
section
variable {X:Cx} {p:Pr} {e a b:Expr} {es:List Expr} {e' a' b' c':E} {es':Es} {pos p1 p2 p3:Pos} {x:Str}
theorem Q87 {i:Nat} (hN:X.N[i]? = some x) (hv:Vis X.env.scope x) (hd:(x == ("__debug__" : Str)) = false) (hcd:(x == ("__classdict__" : Str)) = false):QE X (.Name x pos) (tE p (.var i)) :=
 (Qb0 i hN hv hd hcd).weak fun σ H Q ⟨G,ρ,F,h⟩=>by
  have q:=F.slot i
  unfold evE at h
  cases hs:Qa ρ i with
  | un=>rw [hs] at h; exact False.elim h
  | pin _=>rw [hs] at h; exact False.elim h
  | fx t=>rw [hs] at h q; obtain ⟨v,o,e,_,r⟩:=q; exact ⟨_,e,h _ H G F r⟩
  | fz t=>rw [hs] at h q; obtain ⟨v,e,r⟩:=q; exact ⟨v,e,h v H G F r⟩
  | ow t=>rw [hs] at h q; obtain ⟨a,e,_⟩:=q; exact ⟨_,e,h _ H G F e⟩
  | ml t=>rw [hs] at h q; obtain ⟨a,e,_⟩:=q; exact ⟨_,e,h _ H G F e⟩
  | ro t=>rw [hs] at h q; obtain ⟨a,e,_⟩:=q; exact ⟨_,e,h _ H G F e⟩
theorem Qp {i j}:QE X (.Constant (.int i) j pos) (tE p (.int i)):=Qmb.weak fun σ H Q ⟨G,ρ,F,h⟩=>by unfold evE at h; exact h _ H G F pvI
theorem Qgz {i j}:QE X (.Constant (.bool i) j pos) (tE p (.bl i)):=Qzg.weak fun σ H Q ⟨G,ρ,F,h⟩=>by unfold evE at h; exact h _ H G F pvB
theorem Qmi {j}:QE X (.Constant .none j pos) (tE p .non):=Q1q.weak fun σ H Q ⟨G,ρ,F,h⟩=>by unfold evE at h; exact h _ H G F pvN
theorem Qjd {i j}:QE X (.Constant (.str i) j pos) (tE p (.str i)):=Qvt.weak fun σ H Q ⟨G,ρ,F,h⟩=>by unfold evE at h; exact h _ H G F pvS
theorem Q45 {i:Int} (h:∃ u,X.mg x = some u ∧ RelV (.int i) u) (hg:Gl X x) (hd:(x == ("__debug__" : Str)) = false):QE X (.Name x pos) (tE p (.int i)) :=
 (Q35 h hg hd).weak fun σ H Q ⟨G,ρ,F,h⟩=>by unfold evE at h; exact h _ H G F pvI
theorem Qg:QA X [] (tA p .nil):=Qat.weak fun σ H Q ⟨G,ρ,F,h⟩=>by unfold evA at h; exact h [] H G F .nil
theorem PVRs.early {H H1 H2:Hp} {G G1 G2:Addr → Prop} {σ:St} {ρ ρ1 ρ2:En} {vs:List V} {rs:List PV} (h:PVRs H1 H2 G2 σ ρ2 vs rs) (F:FI (Qan H G σ ρ) H1 G1 σ ρ1):PVRs H H2 G2 σ ρ2 vs rs:=by
 induction h with
 | nil=>exact .nil
 | cons a _ ih=>exact .cons (a.early F) ih
theorem Q46 (ha:QE X e (tE p e')) (hr:QA X es (tA p es')) (hs:Qr e = true):QA X (e :: es) (tA p (.cons e' es')) :=
 (Qo ha hr hs).weak fun σ H Q ⟨G,ρ,F,h⟩=>by
  unfold evA at h
  refine ⟨G,ρ,F,h.bind.imp fun r ρ1 h1 v H1 G1 F1 r1=>?_⟩
  refine Qws F1 h1.bind fun rs ρ2 vs H2 G2 h2 F2 F2' r2=>?_
  exact h2 (v :: vs) H2 G2 F2 (.cons (r1.step F1 F2') (r2.early F1))
noncomputable def Qkq:List V → List PV → Addr → Prop
 | v :: vs,.ow _ :: rs,b=>v = .ref b ∨ Qkq vs rs b
 | _ :: vs,_ :: rs,b=>Qkq vs rs b
 | _,_,_=>False
theorem PVRs.tmp {H0 H:Hp} {G:Addr → Prop} {σ:St} {ρ:En} {vs:List V} {rs:List PV} (h:PVRs H0 H G σ ρ vs rs) {b:Addr} (z:Qkq vs rs b):H0 b = none ∧ ∀ i,¬ PrvAt σ ρ i b:=by
 induction h with
 | nil=>exact False.elim z
 | cons a _ ih =>
  rename_i v r vs rs _
  cases r with
  | fz t=>exact ih z
  | sl i=>exact ih z
  | ow t =>
   rcases z with z | z
   ·obtain ⟨c,e,n,_,np,_⟩:=a
    rw [z] at e
    cases e
    exact ⟨n,np⟩
   ·exact ih z
theorem PVRs.frz {H0 H:Hp} {G G':Addr → Prop} {σ:St} {ρ:En} {vs:List V} {rs:List PV} (h:PVRs H0 H G σ ρ vs rs) (s:∀ b,G' b → G b) (n:∀ b,Qkq vs rs b → ¬ G' b):∀ {ts:List T},Qcq rs = some ts → IsL (dls H G') vs ts:=by
 induction h with
 | nil=>intro ts e; cases e; exact .nil
 | cons a _ ih =>
  intro ts e
  rename_i v r vs rs _
  unfold Qcq at e
  cases h1:L2.frz r with
  | none=>rw [h1] at e; cases e
  | some t =>
   cases h2:Qcq rs with
   | none=>rw [h1,h2] at e; cases e
   | some us =>
    rw [h1,h2] at e
    cases e
    cases r with
    | sl i=>cases h1
    | fz t' =>
     cases h1
     exact .cons (Is.mono (Qc4 s) a) (ih (fun b z=>n b z) h2)
    | ow t' =>
     cases h1
     obtain ⟨c,rfl,_,_,_,ob,ec,q⟩:=a
     exact .cons (q.is (by rw [Qbc (n c (.inl rfl))]; exact ec) (Qc4 s)) (ih (fun b z=>n b (.inr z)) h2)
theorem PVRs.lay {B:Bs} {H:Hp} {G:Addr → Prop} {σ:St} {ρ:En} {vs:List V} {rs:List PV} {ts:List T} (h:PVRs B.H H G σ ρ vs rs) (F:FI B H G σ ρ) (e:Qcq rs = some ts):∃ G',FI B H G' σ ρ ∧ IsL (dls H G') vs ts ∧ ∀ b,G' b → G b :=
 ⟨_,F.lessG (Qkq vs rs) fun b z=>h.tmp z,h.frz (fun b z=>z.1) (fun b z y=>y.2 z) e,fun b z=>z.1⟩
theorem PVR.lay {B:Bs} {H:Hp} {G:Addr → Prop} {σ:St} {ρ:En} {v:V} {r:PV} {t:T} (h:PVR B.H H G σ ρ v r) (F:FI B H G σ ρ) (e:L2.frz r = some t):∃ G',FI B H G' σ ρ ∧ Is (dls H G') v t ∧ ∀ b,G' b → G b:=by
 obtain ⟨G',F',i,s⟩:=PVRs.lay (.cons h .nil) F (ts:=[t]) (by unfold Qcq; rw [e]; rfl)
 obtain ⟨v',w,e,a,_⟩:=i.cons_inv
 cases e
 exact ⟨G',F',a,s⟩
theorem Qc7 {x1} (h:QA X es (tA p es')):QE X (.Tuple es x1 pos) (tE p (.tup es')) :=
 (Q1s h).weak fun σ H Q ⟨G,ρ,F,h⟩=>by
  unfold evE at h
  refine ⟨G,ρ,F,h.bind.imp fun rs ρ1 h1 vs H1 G1 F1 r1=>?_⟩
  cases e:Qcq rs with
  | none=>rw [e] at h1; exact False.elim h1
  | some ts =>
   rw [e] at h1
   by_cases z:ts.length ≤ 100000
   ·simp only [if_pos z] at h1
    obtain ⟨G',F',r,_⟩:=PVRs.lay (B:=Qan H G σ ρ) r1 F1 e
    refine Q4m F'.prv r z fun y H2 s2 i2=>h1 y H2 G' (F'.grow s2) i2
   ·simp only [if_neg z] at h1
    exact False.elim h1
theorem Qwu {B:Bs} {H H1:Hp} {G:Addr → Prop} {σ:St} {ρ:En} {l:Addr} {ob:HO} {t:T} (F:FI B H G σ ρ) (hl:H l = none) (s:Same H H1) (e:H1 l = some ob) (r:OwnO (dls H G) t ob) :
  FI B H1 (fun b=>G b ∨ b = l) σ ρ ∧ PVR B.H H1 (fun b=>G b ∨ b = l) σ ρ (.ref l) (.ow t):=by
 refine ⟨F.addG hl s e r.pen,l,rfl,F.free hl,.inr rfl,fun i h=>?_,ob,e,r.mono fun b o eb=>?_⟩
 ·obtain ⟨_,t,o,ea,_⟩:=PrvAt.at F h
  rw [hl] at ea
  cases ea
 ·obtain ⟨nb,eb⟩:=Q3 eb
  rw [Qbc fun z=>?_]
  ·exact s b o eb
  ·rcases z with z | z
   ·exact nb z
   ·rw [z,hl] at eb; cases eb
theorem Qgn {B:Bs} {H H1:Hp} {G:Addr → Prop} {σ:St} {ρ:En} {l:Addr} {vs:List V} {ts:List T} (F:FI B H G σ ρ) (hl:H l = none) (s:Same H H1) (e:H1 l = some (.lst vs)) (r:IsL (dls H G) vs ts) (z:ts.length ≤ 100000) :
  FI B H1 (fun b=>G b ∨ b = l) σ ρ ∧ PVR B.H H1 (fun b=>G b ∨ b = l) σ ρ (.ref l) (.ow (.lst ts)):=Qwu F hl s e ⟨z,r⟩
theorem Qdk (h:QA X es (tA p es')):QE X (.List es pos) (tE p (.lst es')) :=
 (Qon h).weak fun σ H Q ⟨G,ρ,F,h⟩=>by
  unfold evE at h
  refine ⟨G,ρ,F,h.bind.imp fun rs ρ1 h1 vs H1 G1 F1 r1=>?_⟩
  cases e:Qcq rs with
  | none=>rw [e] at h1; exact False.elim h1
  | some ts =>
   rw [e] at h1
   by_cases z:ts.length ≤ 100000
   ·simp only [if_pos z] at h1
    obtain ⟨G',F',r,_⟩:=PVRs.lay (B:=Qan H G σ ρ) r1 F1 e
    refine Q4n F'.prv r z fun l H2 s2 n2 e2 i2=>?_
    obtain ⟨F2,r2⟩:=Qgn F' n2 s2 e2 r z
    exact h1 _ H2 _ F2 r2
   ·simp only [if_neg z] at h1
    exact False.elim h1
theorem Qnj {B:Bs} {σ:St} {ρ:En} {α:Type} {o:Option α} {K:α → En → Prop} (h:Fin p B σ (.opt o ρ) K):∃ a,o = some a ∧ K a ρ:=by
 cases o with
 | none=>exact False.elim h
 | some a=>exact ⟨a,rfl,h⟩
theorem Qwv {B:Bs} {σ:St} {ρ:En} {α:Type} {ra rb:PV} {f:T → T → Out α} {K:α → En → Prop} (h:Fin p B σ (match cont ρ ra,cont ρ rb with | some x,some y=>f x y | _,_=>.no) K):∃ x y,cont ρ ra = some x ∧ cont ρ rb = some y ∧ Fin p B σ (f x y) K:=by
 cases h1:cont ρ ra with
 | none=>rw [h1] at h; exact False.elim h
 | some x =>
  cases h2:cont ρ rb with
  | none=>rw [h1,h2] at h; exact False.elim h
  | some y=>rw [h1,h2] at h; exact ⟨x,y,rfl,rfl,h⟩
noncomputable def Op2 (r:R2) (f:T → T → Option PV):Prop:=∀ (B:Bs) (H:Hp) (G:Addr → Prop) (σ:St) (ρ:En) (x y:V) (t u:T) (w:PV) (Q:VK),FI B H G σ ρ → Rdb H G x t → Rdb H G y u → f t u = some w → (∀ v H1 G1,FI B H1 G1 σ ρ → PVR B.H H1 G1 σ ρ v w → Q v H1) → r x y H Q
theorem Qh0 {op:Operator} {r:R2} {o:BOp} (ho:QOp X (binaryOp op) r) (hs:Op2 r (opB o)) (ha:QE X a (tE p a')) (hb:QE X b (tE p b')):QE X (.BinOp a op b pos) (tE p (.bin o a' b')) :=
 (Qzh ho ha hb).weak fun σ H Q ⟨G,ρ,F,h⟩=>by
  unfold evE at h
  refine tE2 F h fun ra rb ρ2 x y H2 G2 F2 r1 r2 h2=>?_
  obtain ⟨t,u,c1,c2,h3⟩:=Qwv h2
  obtain ⟨w,e,k⟩:=Qnj h3
  exact hs _ H2 G2 σ ρ2 x y t u w Q F2 (r1.rdb F2 c1) (r2.rdb F2 c2) e fun v H3 G3 F3 pv=>k v H3 G3 F3 pv
theorem Qee {t:T} {i:Int} (e:asI t = some i):t = .int i:=by
 cases t <;> first | (cases e; done) | skip
 cases e
 rfl
theorem Qfe {o:BOp} {t u:T} {w:PV} (e:opB o t u = some w) (hx:∀ t u,opX o t u = none):∃ i j,t = .int i ∧ u = .int j ∧ opN o i j = some w:=by
 unfold opB at e
 cases h1:asI t with
 | none=>rw [h1] at e; exact absurd e (by simp [hx])
 | some i =>
  cases h2:asI u with
  | none=>rw [h1,h2] at e; exact absurd e (by simp [hx])
  | some j=>rw [h1,h2] at e; exact ⟨i,j,Qee h1,Qee h2,e⟩
theorem Qr3 {o:BOp} {t u:T} {w:PV} (e:opB o t u = some w):(∃ i j,t = .int i ∧ u = .int j ∧ opN o i j = some w) ∨ opX o t u = some w:=by
 unfold opB at e
 cases h1:asI t with
 | none=>rw [h1] at e; exact .inr e
 | some i =>
  cases h2:asI u with
  | none=>rw [h1,h2] at e; exact .inr e
  | some j=>rw [h1,h2] at e; exact .inl ⟨i,j,Qee h1,Qee h2,e⟩
theorem Qzv (K:PySem.W.Frag):Op2 (Qma K) (opB .add):=by
 intro B H G σ ρ x y t u w Q F hx hy e q
 rcases Qr3 e with ⟨i,j,rfl,rfl,e⟩ | e1
 ·obtain rfl:=hx.int
  obtain rfl:=hy.int
  cases e
  exact .inl ⟨_,_,rfl,rfl,q _ H G F pvI⟩
 replace e:Q4y t u = some w:=e1
 clear e1
 unfold Q4y at e
 split at e
 ·rename_i ts us
  by_cases z:ts.length + us.length ≤ 100000
  ·rw [if_pos z] at e; cases e
   exact Q4l F.prv hx.tup hy.tup z fun v H1 s1 i1=>q v H1 G (F.grow s1) i1
  ·rw [if_neg z] at e; cases e
 ·rename_i ts us
  by_cases z:ts.length + us.length ≤ 100000
  ·rw [if_pos z] at e; cases e
   obtain ⟨a,vs,rfl,z1,ea,r1⟩:=hx.lst
   obtain ⟨b,ws,rfl,z2,eb,r2⟩:=hy.lst
   refine .inr (.inl ⟨a,b,vs,ws,rfl,rfl,ea,eb,Qbh (by rw [r1.length,r2.length]; exact z),fun l hl=>?_⟩)
   obtain ⟨F2,r3⟩:=Qgn F hl (Same.upd hl) Qi (r1.append r2) (by rw [List.length_append]; exact z)
   exact q _ _ _ F2 r3
  ·rw [if_neg z] at e; cases e
 ·cases e
theorem Qzw:Op2 (rI0 fun i j=>.int (i - j)) (opB .sub):=by
 intro B H G σ ρ x y t u w Q F hx hy e q
 obtain ⟨i,j,rfl,rfl,e⟩:=Qfe e fun _ _=>rfl
 obtain rfl:=hx.int
 obtain rfl:=hy.int
 cases e
 exact ⟨_,_,rfl,rfl,q _ H G F pvI⟩
theorem Qo4 {i:Int} (h:i.natAbs < 2 ^ 250):Builtin.Int.intBits i ≤ 2 ^ 20:=by
 have h1:Builtin.Int.intBits i ≤ 250:=by
  unfold Builtin.Int.intBits
  split
  ·exact Nat.zero_le _
  ·rename_i hn
   have h0:i.natAbs ≠ 0:=by
    intro z
    exact hn (by simpa using z)
   have h2:i.natAbs.log2 < 250:=(Nat.log2_lt h0).mpr h
   omega
 exact Nat.le_trans h1 (by decide)
theorem Qo5 {i:Int} (h:i.natAbs.log2 < 9000):Builtin.Int.intBits i ≤ 2 ^ 20:=by
 have h1:Builtin.Int.intBits i ≤ 9000:=by
  unfold Builtin.Int.intBits
  split
  ·exact Nat.zero_le _
  ·omega
 exact Nat.le_trans h1 (by decide)
theorem Qzx {i j:Int} (h:Qcl i j = true):IntMulOk i j:=by
 unfold Qcl at h
 simp only [Bool.or_eq_true,Bool.and_eq_true,decide_eq_true_eq] at h
 rcases h with h | h | ⟨h1,h2⟩ | ⟨h1,h2⟩
 ·exact CMul.ok (.inl ⟨by omega,by omega⟩)
 ·exact CMul.ok (.inr ⟨by omega,by omega⟩)
 ·exact .of_bits (Qo4 h1) (Qo4 h2)
 ·exact .of_bits (Qo5 h1) (Qo5 h2)
noncomputable def Q17:R2:=fun x y H Q=>(rI (fun i j=>IntMulOk i j) fun i j=>.int (i * j)) x y H Q ∨ Q1m x y H Q
theorem Q47:QOp X (binaryOp .Mult) Q17:=⟨(opI fun _ _ _ _ _ _ _ hc q=>mul_int q hc).or uMul⟩
theorem Qzy:Op2 Q17 (opB .mul):=by
 intro B H G σ ρ x y t u w Q F hx hy e q
 rcases Qr3 e with ⟨i,j,rfl,rfl,e⟩ | e1
 ·obtain rfl:=hx.int
  obtain rfl:=hy.int
  have e':(if Qcl i j = true then some (PV.fz (.int (i * j))) else none) = some w:=e
  by_cases z:Qcl i j = true
  ·rw [if_pos z] at e'; cases e'
   exact .inl ⟨_,_,rfl,rfl,Qzx z,q _ H G F pvI⟩
  ·rw [if_neg z] at e'; cases e'
 replace e:Q4z t (asI u) = some w:=e1
 clear e1
 unfold Q4z at e
 split at e
 ·rename_i ts k hk
  obtain rfl:=Qee hk
  obtain rfl:=hy.int
  by_cases z:ts.length * k.toNat ≤ 100000 ∧ 1 ≤ k ∧ k.natAbs ≤ 100000 ∧ ts ≠ []
  ·rw [if_pos z] at e; cases e
   obtain ⟨a,vs,rfl,ha,r⟩:=hx.tup.tup_inv
   obtain ⟨z1,z2,z3,z4⟩:=z
   have hl:=r.length
   refine .inr (.inr (.inr ⟨a,k,vs,rfl,rfl,(Q3 ha).2,fun e=>?_,z2,by omega,Qbh (by rw [hl]; exact z1),fun l H1 s1 e1 _=>q _ H1 G (F.grow s1) (Qgm (F.prv.mono s1) e1 ((r.flat k.toNat).mono (Qa8 s1)) ?_)⟩))
   ·rw [e] at hl
    exact z4 (List.length_eq_zero_iff.mp hl.symm)
   ·rw [Qht,Nat.mul_comm]; exact z1
  ·rw [if_neg z] at e; cases e
 ·rename_i ts k hk
  obtain rfl:=Qee hk
  obtain rfl:=hy.int
  by_cases z:ts.length * k.toNat ≤ 100000 ∧ 1 ≤ k ∧ k.natAbs ≤ 100000
  ·rw [if_pos z] at e; cases e
   obtain ⟨a,vs,rfl,z1,ea,r1⟩:=hx.lst
   obtain ⟨z2,z3,z4⟩:=z
   refine .inr (.inr (.inl ⟨a,k,vs,rfl,rfl,ea,by omega,by omega,Qbh (by rw [r1.length]; exact z2),fun l hl=>?_⟩))
   obtain ⟨F2,r3⟩:=Qgn F hl (Same.upd hl) Qi (r1.flat k.toNat) (by rw [Qht,Nat.mul_comm]; exact z2)
   exact q _ _ _ F2 r3
  ·rw [if_neg z] at e; cases e
 ·cases e
noncomputable def Q88 (i j:Int):Prop:=j ≠ 0 ∧ j.natAbs < 2 ^ 250
theorem Q48:QOp X (binaryOp .FloorDiv) (rI Q88 fun i j=>.int (i.fdiv j)):=⟨opI fun i j _ _ _ _ _ hc q=>floordiv_int hc.1 q (.inl (PyProof.noPylong_of_log2 (by
 have h1:j.natAbs ≠ 0:=by have:=hc.1; omega
 have h2:j.natAbs.log2 < 250:=(Nat.log2_lt h1).mpr hc.2
 omega)))⟩
theorem Q49:QOp X (binaryOp .Mod) (rI (fun _ j=>j ≠ 0) fun i j=>.int (i.fmod j)):=⟨Qyq⟩
theorem Qzz:Op2 (rI Q88 fun i j=>.int (i.fdiv j)) (opB .fdv):=by
 intro B H G σ ρ x y t u w Q F hx hy e q
 obtain ⟨i,j,rfl,rfl,e⟩:=Qfe e fun _ _=>rfl
 obtain rfl:=hx.int
 obtain rfl:=hy.int
 have e':(if 0 < j ∧ j.natAbs < 2 ^ 64 then some (PV.fz (.int (i / j))) else if j ≠ 0 ∧ j.natAbs < 2 ^ 250 then some (.fz (.int (i.fdiv j))) else none) = some w:=e
 by_cases z:0 < j ∧ j.natAbs < 2 ^ 64
 ·rw [if_pos z] at e'; cases e'
  refine ⟨_,_,rfl,rfl,⟨by omega,Nat.lt_trans z.2 (by decide)⟩,?_⟩
  show Q (.int (i.fdiv j)) H
  rw [Int.fdiv_eq_ediv_of_nonneg i (by omega)]
  exact q _ H G F pvI
 ·rw [if_neg z] at e'
  by_cases z2:j ≠ 0 ∧ j.natAbs < 2 ^ 250
  ·rw [if_pos z2] at e'; cases e'
   exact ⟨_,_,rfl,rfl,z2,q _ H G F pvI⟩
  ·rw [if_neg z2] at e'; cases e'
theorem Qz0:Op2 (rI (fun _ j=>j ≠ 0) fun i j=>.int (i.fmod j)) (opB .mod):=by
 intro B H G σ ρ x y t u w Q F hx hy e q
 obtain ⟨i,j,rfl,rfl,e⟩:=Qfe e fun _ _=>rfl
 obtain rfl:=hx.int
 obtain rfl:=hy.int
 have e':(if 0 < j then some (PV.fz (.int (i % j))) else if j < 0 then some (.fz (.int (i.fmod j))) else none) = some w:=e
 by_cases z:0 < j
 ·rw [if_pos z] at e'; cases e'
  refine ⟨_,_,rfl,rfl,by omega,?_⟩
  show Q (.int (i.fmod j)) H
  rw [Int.fmod_eq_emod_of_nonneg i (by omega)]
  exact q _ H G F pvI
 ·rw [if_neg z] at e'
  by_cases z2:j < 0
  ·rw [if_pos z2] at e'; cases e'
   exact ⟨_,_,rfl,rfl,by omega,q _ H G F pvI⟩
  ·rw [if_neg z2] at e'; cases e'
theorem Qz1:Op2 (rI Q3g fun i j=>.int (i ^ j.toNat)) (opB .pow):=by
 intro B H G σ ρ x y t u w Q F hx hy e q
 obtain ⟨i,j,rfl,rfl,e⟩:=Qfe e fun _ _=>rfl
 obtain rfl:=hx.int
 obtain rfl:=hy.int
 have e':(if 0 ≤ j ∧ j.natAbs ≤ 1000000 ∧ i.natAbs < 2 ^ 64 then some (PV.fz (.int (i ^ j.toNat))) else none) = some w:=e
 by_cases z:0 ≤ j ∧ j.natAbs ≤ 1000000 ∧ i.natAbs < 2 ^ 64
 ·rw [if_pos z] at e'; cases e'
  exact ⟨_,_,rfl,rfl,⟨z.1,by omega,z.2.2⟩,q _ H G F pvI⟩
 ·rw [if_neg z] at e'; cases e'
theorem Q89:QOp X (binaryOp .LShift) (rI (fun i j=>0 ≤ j ∧ j ≤ 1000000 ∧ i.natAbs < 2 ^ 64) fun i j=>.int (i * 2 ^ j.toNat)):=⟨opI fun i j _ _ _ _ _ hc q=>lshift_int_small hc.1 hc.2.1 hc.2.2 q⟩
theorem Q9a:QOp X (binaryOp .RShift) (rI (fun _ j=>0 ≤ j) fun i j=>.int (i / 2 ^ j.toNat)):=⟨opI fun i j _ _ _ _ _ hc q=>rshift_int hc (by
 rw [Int.fdiv_eq_ediv_of_nonneg i (Int.le_of_lt (Int.pow_pos (by decide)))]
 exact q)⟩
theorem Q5a:QOp X (binaryOp .BitAnd) (rI (fun _ j=>j = 1) fun i _=>.int (i % 2)):=⟨opI fun i j _ _ _ _ _ hc q=>by
 subst hc
 exact and_int (by rw [PyProof.Rows.bitAnd_m1]; exact q)⟩
theorem Qz2:Op2 (rI (fun i j=>0 ≤ j ∧ j ≤ 1000000 ∧ i.natAbs < 2 ^ 64) fun i j=>.int (i * 2 ^ j.toNat)) (opB .shl):=by
 intro B H G σ ρ x y t u w Q F hx hy e q
 obtain ⟨i,j,rfl,rfl,e⟩:=Qfe e fun _ _=>rfl
 obtain rfl:=hx.int
 obtain rfl:=hy.int
 have e':(if 0 ≤ j ∧ j.natAbs ≤ 64 ∧ i.natAbs < 2 ^ 64 then some (PV.fz (.int (i * 2 ^ j.toNat))) else none) = some w:=e
 by_cases z:0 ≤ j ∧ j.natAbs ≤ 64 ∧ i.natAbs < 2 ^ 64
 ·rw [if_pos z] at e'; cases e'
  exact ⟨_,_,rfl,rfl,⟨z.1,by omega,z.2.2⟩,q _ H G F pvI⟩
 ·rw [if_neg z] at e'; cases e'
theorem Qz3:Op2 (rI (fun _ j=>0 ≤ j) fun i j=>.int (i / 2 ^ j.toNat)) (opB .shr):=by
 intro B H G σ ρ x y t u w Q F hx hy e q
 obtain ⟨i,j,rfl,rfl,e⟩:=Qfe e fun _ _=>rfl
 obtain rfl:=hx.int
 obtain rfl:=hy.int
 have e':(if 0 ≤ j ∧ j.natAbs ≤ 64 then some (PV.fz (.int (i / 2 ^ j.toNat))) else none) = some w:=e
 by_cases z:0 ≤ j ∧ j.natAbs ≤ 64
 ·rw [if_pos z] at e'; cases e'
  exact ⟨_,_,rfl,rfl,z.1,q _ H G F pvI⟩
 ·rw [if_neg z] at e'; cases e'
theorem Qww:Op2 (rI (fun _ j=>j = 1) fun i _=>.int (i % 2)) (opB .band):=by
 intro B H G σ ρ x y t u w Q F hx hy e q
 obtain ⟨i,j,rfl,rfl,e⟩:=Qfe e fun _ _=>rfl
 obtain rfl:=hx.int
 obtain rfl:=hy.int
 have e':(if j = 1 then some (PV.fz (.int (i % 2))) else none) = some w:=e
 by_cases z:j = 1
 ·rw [if_pos z] at e'; cases e'
  exact ⟨_,_,rfl,rfl,z,q _ H G F pvI⟩
 ·rw [if_neg z] at e'; cases e'
theorem Qwx (ha:QE X a (tE p a')):QE X (.UnaryOp .USub a pos) (tE p (.neg a')) :=
 (q_un Q8a ha).weak fun σ H Q ⟨G,ρ,F,h⟩=>by
  unfold evE at h
  refine ⟨G,ρ,F,h.bind.imp fun r ρ1 h1 v H1 G1 F1 r1=>?_⟩
  cases r with
  | fz t =>
   cases t <;> first | exact False.elim h1 | skip
   obtain rfl:=r1.is.int_inv
   exact ⟨_,rfl,h1 _ H1 G1 F1 pvI⟩
  | ow t=>exact False.elim h1
  | sl i=>exact False.elim h1
theorem PVR.bl {H0 H:Hp} {G:Addr → Prop} {σ:St} {ρ:En} {v:V} {b:Bool} (h:PVR H0 H G σ ρ v (.fz (.bl b))):v = .bl b:=by
 have q:=h.is
 unfold Is at q
 exact q
theorem Qo6 {Q:Bool → Hp → Prop} {σ:St} {H:Hp} (h:tT p e' σ H Q):tE p e' σ H fun x H1=>∃ c,x = .bl c ∧ Q c H1:=by
 obtain ⟨G,ρ,F,h⟩:=h
 refine ⟨G,ρ,F,(Qo3 h).imp ?_⟩
 rintro r ρ1 ⟨b,rfl,k⟩ v H1 G1 F1 r1
 exact ⟨b,r1.bl,k H1 G1 F1⟩
theorem Q18 (ha:QE X a (tE p a')):QE X (.UnaryOp .Not a pos) (tE p (.not a')) :=
 (Q7z ha).weak fun σ H Q ⟨G,ρ,F,h⟩=>by
  unfold evE at h
  exact Qo6 (Q:=fun c H1=>Q (.bl (!c)) H1) ⟨G,ρ,F,h.bind.imp fun b ρ1 k H1 G1 F1=>k _ H1 G1 F1 pvB⟩
theorem Qwy {rest:List Expr} (ha:QE X a (tE p a')) (hb:QE X (.BoolOp .And (b :: rest) pos) (tE p b')):QE X (.BoolOp .And (a :: b :: rest) pos) (tE p (.and a' b')) :=
 (Q71 ha hb).weak fun σ H Q ⟨G,ρ,F,h⟩=>by
  unfold evE at h
  refine Qo6 (Q:=fun c H1=>if c = true then tE p b' σ H1 Q else Q (.bl false) H1) ⟨G,ρ,F,h.bind.imp fun c ρ1 k H1 G1 F1=>?_⟩
  cases c with
  | false=>exact k _ H1 G1 F1 pvB
  | true =>
   show tE p b' σ H1 Q
   refine Qo2 F1 (Qo3 k.bind) ?_
   rintro r ρ2 v H2 G2 ⟨d,rfl,k2⟩ F2 F2' r2
   exact k2 v H2 G2 F2 r2
theorem Qwz {op} (ha:QE X a (tE p a')):QE X (.BoolOp op [a] pos) (tE p a'):=Q70 ha
theorem Q9b (ha:QE X e (tE p e')) (he:∀ whole,isTrue e X.env whole = (do let v ← whole; standAt e.pos; holding [v] (truthy v))):QT X e (tT p e'):=(Qvu ha he).weak fun σ H Q h=>Qo6 h
theorem Qdl (ha:QT X a (tT p a')):QT X (.UnaryOp .Not a pos) (tT p (.not a')) :=
 (Qvv ha).weak fun σ H Q ⟨G,ρ,F,h⟩=>by
  unfold evE at h
  refine ⟨G,ρ,F,?_⟩
  cases e:Qaj (evE p.cf a' ρ) with
  | ok b ρ1=>rw [e] at h; exact h
  | xn x ρ1=>rw [e] at h; exact h
  | no=>rw [e] at h; exact h
theorem Q9c {rest:List Expr} (ha:QT X a (tT p a')) (hb:QW X (.BoolOp .And (b :: rest) pos) (tT p b')):QW X (.BoolOp .And (a :: b :: rest) pos) (tT p (.and a' b')) :=
 (Q36 ha hb).weak fun σ H Q ⟨G,ρ,F,h⟩=>by
  unfold evE at h
  have h2:Fin p (Qan H G σ ρ) σ (Qaj (evE p.cf a' ρ)) fun c ρ1=>Fin p (Qan H G σ ρ) σ (if c then Qaj (evE p.cf b' ρ1) else .ok false ρ1) fun b ρ1=>∀ H1 G1,FI (Qan H G σ ρ) H1 G1 σ ρ1 → Q b H1:=by
   cases e:Qaj (evE p.cf a' ρ) with
   | ok b ρ1 =>
    rw [e] at h
    cases b with
    | false=>exact h
    | true =>
     show Fin _ _ _ (Qaj (evE p.cf b' ρ1)) _
     cases e2:Qaj (evE p.cf b' ρ1) with
     | ok b ρ2=>simp only [Out.bind,if_true,e2] at h; exact h
     | xn x ρ2=>simp only [Out.bind,if_true,e2] at h; exact h
     | no=>simp only [Out.bind,if_true,e2] at h; exact h
   | xn x ρ1=>rw [e] at h; exact h
   | no=>rw [e] at h; exact h
  refine ⟨G,ρ,F,h2.imp fun c ρ1 k H1 G1 F1=>?_⟩
  cases c with
  | false=>exact k H1 G1 F1
  | true=>exact Qwt F1 k fun b ρ2 H2 G2 k2 F2 _=>k2 H2 G2 F2
theorem Qkr {rest:List Expr} (ha:QT X a (tT p a')) (hb:QW X (.BoolOp .Or (b :: rest) pos) (tT p b')):QW X (.BoolOp .Or (a :: b :: rest) pos) (tT p (.or a' b')) :=
 (Q1r ha hb).weak fun σ H Q ⟨G,ρ,F,h⟩=>by
  unfold evE at h
  have h2:Fin p (Qan H G σ ρ) σ (Qaj (evE p.cf a' ρ)) fun c ρ1=>Fin p (Qan H G σ ρ) σ (if c then .ok true ρ1 else Qaj (evE p.cf b' ρ1)) fun b ρ1=>∀ H1 G1,FI (Qan H G σ ρ) H1 G1 σ ρ1 → Q b H1:=by
   cases e:Qaj (evE p.cf a' ρ) with
   | ok b ρ1 =>
    rw [e] at h
    cases b with
    | true=>exact h
    | false =>
     show Fin _ _ _ (Qaj (evE p.cf b' ρ1)) _
     cases e2:Qaj (evE p.cf b' ρ1) with
     | ok b ρ2=>simp only [Out.bind,e2] at h; exact h
     | xn x ρ2=>simp only [Out.bind,e2] at h; exact h
     | no=>simp only [Out.bind,e2] at h; exact h
   | xn x ρ1=>rw [e] at h; exact h
   | no=>rw [e] at h; exact h
  refine ⟨G,ρ,F,h2.imp fun c ρ1 k H1 G1 F1=>?_⟩
  cases c with
  | true=>exact k H1 G1 F1
  | false=>exact Qwt F1 k fun b ρ2 H2 G2 k2 F2 _=>k2 H2 G2 F2
theorem Qh1 {op} (ha:QT X a (tT p a')):QW X (.BoolOp op [a] pos) (tT p a'):=by
 cases op with
 | And=>exact Qzi ha
 | Or=>exact Qvw ha
theorem t_w (h:QW X e (tT p e')):QT X e (tT p e'):=Q73 h
end
section
variable {X:Cx} {p:Pr} {e a b:Expr} {es:List Expr} {e' a' b' c':E} {es':Es} {pos p1 p2 p3:Pos} {x:Str}
noncomputable def Oc2 (r:R2) (f:T → T → Option Bool):Prop:=∀ (H:Hp) (G:Addr → Prop) (x y:V) (t u:T) (k:Bool) (Q:VK),Rdb H G x t → Rdb H G y u → f t u = some k → Q (.bl k) H → r x y H Q
theorem Qw0 {r:R2} {o:COp} (hs:Oc2 r (opC o)) {σ:St} {H:Hp} {Q:VK} (h:tE p (.cmp o a' b') σ H Q):tOp r (tE p a') (tE p b') σ H Q:=by
 obtain ⟨G,ρ,F,h⟩:=h
 unfold evE at h
 refine tE2 F h fun ra rb ρ2 x y H2 G2 F2 r1 r2 h2=>?_
 obtain ⟨t,u,c1,c2,h3⟩:=Qwv h2
 cases e:opC o t u with
 | none=>rw [e] at h3; exact False.elim h3
 | some k =>
  rw [e] at h3
  exact hs H2 G2 x y t u k Q (r1.rdb F2 c1) (r2.rdb F2 c2) e (h3 _ H2 G2 F2 pvB)
theorem Qr4 {op:CmpOp} {r:R2} {o:COp} (ho:QOp X (compareOp op) r) (hs:Oc2 r (opC o)) (ha:QE X a (tE p a')) (hb:QE X b (tE p b')) (hm:behindInMarks op b = false):QE X (.Compare a [op] [b] pos) (tE p (.cmp o a' b')) :=
 (Q72 ho ha hb hm).weak fun σ H Q h=>Qw0 hs h
theorem Qo7 {op:CmpOp} {r:R2} {o:COp} (ho:QOp X (compareOp op) r) (hs:Oc2 r (opC o)) (ha:QE X a (tE p a')) (hb:QE X b (tE p b')) (hm:behindInMarks op b = false):QT X (.Compare a [op] [b] pos) (tT p (.cmp o a' b')) :=
 (Qkb ho ha hb hm).weak fun σ H Q h=>Qw0 hs (Qo6 h)
noncomputable def vOf:T → V
 | .non=>.non | .bl b=>.bl b | .int i=>.int i | .str x=>.str x | _=>.non
theorem Rdb.vOf {H:Hp} {G:Addr → Prop} {v:V} {t:T} (h:Rdb H G v t) (e:Qkl t = true):v = vOf t:=by
 cases t with
 | non=>exact h.non
 | bl b=>exact h.bl
 | int i=>exact h.int
 | str x=>exact h.str
 | tup ts=>cases e
 | lst ts=>cases e
 | dct ks ts=>cases e
 | clo ks ts=>cases e
 | dtt ks ts=>cases e
theorem Qo8 {t u:T} {k:Bool} (e:eqO t u = some k) (h1:Qkl t = true) (h2:Qkl u = true):Q3m (vOf t) (vOf u) = true ∧ decide (vOf t = vOf u) = k:=by
 cases t <;> first | (cases h1; done) | skip
 all_goals (cases u <;> first | (cases h2; done) | skip)
 all_goals (first | (cases e; done) | skip)
 all_goals (have e':=Option.some.inj e; subst e'; refine ⟨rfl,?_⟩; simp [vOf])
theorem Qo9 {t u:T} {k:Bool} (e:eqO t u = some k):(Qkl t = true ∧ Qkl u = true) ∨ (Qk 50 t = true ∧ Qk 50 u = true ∧ ((∃ ts us,t = .tup ts ∧ u = .tup us) ∨ ∃ ts us,t = .lst ts ∧ u = .lst us) ∧ k = eqT t u) ∨ (Qzp t u = true ∧ k = false):=by
 cases t <;> cases u <;> first | (cases e; done) | exact .inl ⟨rfl,rfl⟩ | exact .inr (.inr ⟨rfl,(Option.some.inj e).symm⟩) | skip
 ·rename_i ts us
  have e:(if Qk 50 (.tup ts) = true ∧ Qk 50 (.tup us) = true then some (eqT (.tup ts) (.tup us)) else none) = some k:=e
  by_cases z:Qk 50 (.tup ts) = true ∧ Qk 50 (.tup us) = true
  ·rw [if_pos z] at e
   exact .inr (.inl ⟨z.1,z.2,.inl ⟨_,_,rfl,rfl⟩,(Option.some.inj e).symm⟩)
  ·rw [if_neg z] at e; cases e
 ·rename_i ts us
  have e:(if Qk 50 (.lst ts) = true ∧ Qk 50 (.lst us) = true then some (eqT (.lst ts) (.lst us)) else none) = some k:=e
  by_cases z:Qk 50 (.lst ts) = true ∧ Qk 50 (.lst us) = true
  ·rw [if_pos z] at e
   exact .inr (.inl ⟨z.1,z.2,.inr ⟨_,_,rfl,rfl⟩,(Option.some.inj e).symm⟩)
  ·rw [if_neg z] at e; cases e
noncomputable def Q9d:R2:=fun x y H Q=>rEq x y H Q ∨ (Qzo false x y H Q ∨ Qzq false x y H Q)
noncomputable def Q9e:R2:=fun x y H Q=>rNe x y H Q ∨ (Qzo true x y H Q ∨ Qzq true x y H Q)
theorem Q19 (hu:X.A.units + 64 < cLine):QOp X (compareOp .Eq) Q9d:=⟨Q8b.h.or ((Q8o hu).h.or (Q8q hu).h)⟩
theorem Q2a (hu:X.A.units + 64 < cLine):QOp X (compareOp .NotEq) Q9e:=⟨Q8c.h.or ((Q8p hu).h.or (Q8r hu).h)⟩
theorem Qw1:Oc2 Q9d (opC .eq):=by
 intro H G x y t u k Q hx hy e q
 have e:eqO t u = some k:=e
 rcases Qo9 e with ⟨h1,h2⟩ | ⟨h1,h2,h3,rfl⟩ | ⟨h1,rfl⟩
 ·obtain ⟨z1,z2⟩:=Qo8 e h1 h2
  rw [hx.vOf h1,hy.vOf h2]
  exact .inl ⟨z1,by rw [z2]; exact q⟩
 ·exact .inr (.inl ⟨t,u,hx.is,hy.is,h1,h2,h3,q⟩)
 ·exact .inr (.inr ⟨t,u,hx.is,hy.is,h1,q⟩)
theorem Qw2:Oc2 Q9e (opC .ne):=by
 intro H G x y t u k Q hx hy e q
 have e:(eqO t u).map (!·) = some k:=e
 cases e0:eqO t u with
 | none=>rw [e0] at e; cases e
 | some k0 =>
  rw [e0] at e
  cases e
  rcases Qo9 e0 with ⟨h1,h2⟩ | ⟨h1,h2,h3,rfl⟩ | ⟨h1,rfl⟩
  ·obtain ⟨z1,z2⟩:=Qo8 e0 h1 h2
   rw [hx.vOf h1,hy.vOf h2]
   exact .inl ⟨z1,by rw [z2]; exact q⟩
  ·exact .inr (.inl ⟨t,u,hx.is,hy.is,h1,h2,h3,q⟩)
  ·exact .inr (.inr ⟨t,u,hx.is,hy.is,h1,q⟩)
theorem Qks {f:Int → Int → Bool} {t u:T} {k:Bool} (e:Qts f t u = some k):∃ i j,t = .int i ∧ u = .int j ∧ f i j = k:=by
 unfold Qts at e
 cases h1:asI t with
 | none=>rw [h1] at e; cases e
 | some i =>
  cases h2:asI u with
  | none=>rw [h1,h2] at e; cases e
  | some j=>rw [h1,h2] at e; exact ⟨i,j,Qee h1,Qee h2,Option.some.inj e⟩
theorem Qw3:Oc2 (rI0 fun i j=>.bl (decide (i < j))) (opC .lt):=by
 intro H G x y t u k Q hx hy e q
 obtain ⟨i,j,rfl,rfl,rfl⟩:=Qks e
 obtain rfl:=hx.int
 obtain rfl:=hy.int
 exact ⟨_,_,rfl,rfl,q⟩
theorem Q5b:Oc2 (rI0 fun i j=>.bl (decide (j < i))) (opC .gt):=by
 intro H G x y t u k Q hx hy e q
 obtain ⟨i,j,rfl,rfl,rfl⟩:=Qks e
 obtain rfl:=hx.int
 obtain rfl:=hy.int
 exact ⟨_,_,rfl,rfl,q⟩
theorem Q5c:Oc2 (rI0 fun i j=>.bl (decide (j ≤ i))) (opC .ge):=by
 intro H G x y t u k Q hx hy e q
 obtain ⟨i,j,rfl,rfl,rfl⟩:=Qks e
 obtain rfl:=hx.int
 obtain rfl:=hy.int
 exact ⟨_,_,rfl,rfl,q⟩
theorem Qz4 {H:Hp} {v:V} {t:T} (h:Is H v t):decide (v = .non) = Qjb t:=by
 cases t with
 | non=>unfold Is at h; subst h; rfl
 | bl b=>unfold Is at h; subst h; rfl
 | int i=>unfold Is at h; subst h; rfl
 | str x=>unfold Is at h; subst h; rfl
 | tup ts=>obtain ⟨a,vs,rfl,_⟩:=h.tup_inv; rfl
 | lst ts=>obtain ⟨a,vs,rfl,_⟩:=h.lst_inv; rfl
 | dct ks ts=>unfold Is at h; obtain ⟨a,vs,rfl,_⟩:=h; rfl
 | clo ks ts=>unfold Is at h; obtain ⟨a,vs,l,rfl,_⟩:=h; rfl
 | dtt ks ts=>unfold Is at h; obtain ⟨_,a,vs,rfl,_⟩:=h; rfl
theorem Qw4:Oc2 Q1u (opC .isnn):=by
 intro H G x y t u k Q hx hy e q
 cases u <;> first | (cases e; done) | skip
 have e:some (!Qjb t) = some k:=e
 cases e
 exact ⟨hy.non,by rw [Qz4 hx.is]; exact q⟩
theorem Qw5 {n:String} (h:Qkm n = true):n ∈ ["int","bool","tuple","list","dict","str"]:=by
 unfold Qkm at h
 simp only [Bool.or_eq_true,beq_iff_eq] at h
 simp only [List.mem_cons,List.not_mem_nil,or_false]
 rcases h with ((((h | h) | h) | h) | h) | h <;> subst h <;> simp
theorem Q9f {n:String} {tn:Expr} (hm:X.mg "isinstance" = none) (hv:bootBuiltins "isinstance" = some (.builtin "isinstance")) (ha:QE X a (tE p a')) (ht:QE X tn (tC (.ty n))) (hg:Gl X "isinstance") (h1:Qr a = true) (h2:Qr tn = true):QE X (.Call (.Name "isinstance" p1) [a,tn] [] pos) (tE p (.isI a' n)) :=
 (Qhw Q4e hm hv (Qo ha (Qo ht Qat h2) h1) hg (by decide) (by decide) h1 (by rw [Qa1 h2]; rfl)).weak fun σ H Q ⟨G,ρ,F,h⟩=>by
  unfold evE at h
  refine ⟨G,ρ,F,h.bind.imp fun r ρ1 h1 v H1 G1 F1 r1=>?_⟩
  cases e:cont ρ1 r with
  | none=>rw [e] at h1; exact False.elim h1
  | some t =>
   rw [e] at h1
   by_cases z:(Qkm n && !Qck t) = true
   ·simp only [if_pos z] at h1
    rw [Bool.and_eq_true,Bool.not_eq_true'] at z
    exact ⟨v,n,t,rfl,(r1.rdb F1 e).is,z.2,Qw5 z.1,h1 _ H1 G1 F1 pvB⟩
   ·simp only [if_neg z] at h1
    exact False.elim h1
inductive Rdbs (H:Hp) (G:Addr → Prop):List V → List T → Prop where
 | nil:Rdbs H G [] []
 | cons {v t vs ts}:Rdb H G v t → Rdbs H G vs ts → Rdbs H G (v :: vs) (t :: ts)
theorem PVRs.rdbs {B:Bs} {H0 H:Hp} {G:Addr → Prop} {σ:St} {ρ:En} {vs:List V} {rs:List PV} (h:PVRs H0 H G σ ρ vs rs) (F:FI B H G σ ρ):∀ {ts:List T},Qad ρ rs = some ts → Rdbs H G vs ts:=by
 induction h with
 | nil=>intro ts e; cases e; exact .nil
 | cons a _ ih =>
  intro ts e
  rename_i v r vs rs _
  unfold Qad at e
  cases h1:cont ρ r with
  | none=>rw [h1] at e; cases e
  | some t =>
   cases h2:Qad ρ rs with
   | none=>rw [h1,h2] at e; cases e
   | some us =>
    rw [h1,h2] at e
    cases e
    exact .cons (a.rdb F h1) (ih h2)
noncomputable def Ob (r:List V → Hp → VK → Prop) (b:Bi):Prop:=∀ (B:Bs) (H:Hp) (G:Addr → Prop) (σ:St) (ρ:En) (vs:List V) (ts:List T) (w:PV) (Q:VK),FI B H G σ ρ → Rdbs H G vs ts → Qhz b ts = some w → (∀ v H1 G1,FI B H1 G1 σ ρ → PVR B.H H1 G1 σ ρ v w → Q v H1) → r vs H Q
theorem Q2b {r:List V → Hp → VK → Prop} {b:Bi} (hs:Ob r b) {σ:St} {H:Hp} {Q:VK} (h:tE p (.bi b es') σ H Q):tCB r (tA p es') σ H Q:=by
 obtain ⟨G,ρ,F,h⟩:=h
 unfold evE at h
 refine ⟨G,ρ,F,h.bind.imp fun rs ρ1 h1 vs H1 G1 F1 r1=>?_⟩
 cases e:Qad ρ1 rs with
 | none=>rw [e] at h1; exact False.elim h1
 | some ts =>
  rw [e] at h1
  obtain ⟨w,ew,k⟩:=Qnj h1
  exact hs _ H1 G1 σ ρ1 vs ts w Q F1 (r1.rdbs F1 e) ew fun v H2 G2 F2 r2=>k v H2 G2 F2 r2
theorem Rdbs.one {H:Hp} {G:Addr → Prop} {vs:List V} {t:T} (h:Rdbs H G vs [t]):∃ v,vs = [v] ∧ Rdb H G v t:=by
 cases h with
 | cons a b=>cases b; exact ⟨_,rfl,a⟩
theorem Rdbs.two {H:Hp} {G:Addr → Prop} {vs:List V} {t u:T} (h:Rdbs H G vs [t,u]):∃ v w,vs = [v,w] ∧ Rdb H G v t ∧ Rdb H G w u:=by
 cases h with
 | cons a b =>
  cases b with
  | cons c d=>cases d; exact ⟨_,_,rfl,a,c⟩
theorem Qf5:∀ {ts:List T} {is:List Int},Qcb ts = some is → ts = is.map T.int
 | [],is,e=>by cases e; rfl
 | .int i :: ts,is,e=>by
  unfold Qcb at e
  cases h:Qcb ts with
  | none=>rw [h] at e; cases e
  | some js=>rw [h] at e; cases e; rw [Qf5 h]; rfl
 | .non :: _,_,e=>by cases e
 | .bl _ :: _,_,e=>by cases e
 | .str _ :: _,_,e=>by cases e
 | .tup _ :: _,_,e=>by cases e
 | .lst _ :: _,_,e=>by cases e
 | .dct _ _ :: _,_,e=>by cases e
 | .clo _ _ :: _,_,e=>by cases e
 | .dtt _ _ :: _,_,e=>by cases e
theorem Qkt {D:Hp}:∀ {ts:List T} {bs:List Bool} {vs:List V},Qhd ts = some bs → IsL D vs ts → vs.all Qj8 = true ∧ vs.all Qjo = bs.all id ∧ vs.any Qjo = bs.any id
 | [],bs,vs,e,r=>by cases e; rw [r.nil_inv]; exact ⟨rfl,rfl,rfl⟩
 | t :: ts,bs,vs,e,r=>by
  obtain ⟨v,w,rfl,a,q⟩:=r.cons_inv
  unfold Qhd at e
  cases h1:Q8z t with
  | none=>rw [h1] at e; cases e
  | some b =>
   cases h2:Qhd ts with
   | none=>rw [h1,h2] at e; cases e
   | some cs =>
    rw [h1,h2] at e
    cases e
    obtain ⟨q1,q2,q3⟩:=Qkt h2 q
    have hv:Qj8 v = true ∧ Qjo v = b:=by
     cases t <;> first | (cases h1; done) | skip
     ·unfold Is at a; subst a; cases h1; exact ⟨rfl,rfl⟩
     ·obtain rfl:=a.int_inv; cases h1
      refine ⟨rfl,?_⟩
      rename_i i
      show (i != 0) = decide (i ≠ 0)
      by_cases z:i = 0 <;> simp [z]
    rw [List.all_cons,List.all_cons,List.any_cons,List.all_cons,List.any_cons,q1,q2,q3,hv.1,hv.2]
    exact ⟨rfl,rfl,rfl⟩
theorem Qcr (K:PySem.W.Frag):Ob (Q31 K) .len:=by
 intro B H G σ ρ vs ts w Q F r e q
 match ts,e,r with
 | [.lst a],e,r =>
  cases e
  obtain ⟨v,rfl,h⟩:=r.one
  obtain ⟨l,ws,rfl,z,el,rl⟩:=h.lst
  exact ⟨l,ws,rfl,.inl (SqL.of el),by rw [rl.length]; exact q _ H G F pvI⟩
 | [.tup a],e,r =>
  cases e
  obtain ⟨v,rfl,h⟩:=r.one
  obtain ⟨l,ws,rfl,el,rl⟩:=h.tup.tup_inv
  exact ⟨l,ws,rfl,.inr (SqT.of (Q3 el).2),by rw [rl.length]; exact q _ H G F pvI⟩
theorem Q5d:Ob Q8f .abs:=by
 intro B H G σ ρ vs ts w Q F r e q
 match ts,e,r with
 | [.int i],e,r =>
  cases e
  obtain ⟨v,rfl,h⟩:=r.one
  obtain rfl:=h.int
  exact ⟨i,rfl,q _ H G F pvI⟩
theorem Qhf (K:PySem.W.Frag):Ob (Q32 K) .all:=by
 intro B H G σ ρ vs ts w Q F r e q
 match ts,e,r with
 | [.lst a],e,r =>
  obtain ⟨v,rfl,h⟩:=r.one
  obtain ⟨l,ws,rfl,z,el,rl⟩:=h.lst
  have e:(Qhd a).map (fun bs=>PV.fz (.bl (bs.all id))) = some w:=e
  cases h1:Qhd a with
  | none=>rw [h1] at e; cases e
  | some bs =>
   rw [h1] at e
   cases e
   obtain ⟨q1,q2,q3⟩:=Qkt h1 rl
   exact ⟨l,ws,rfl,SqL.of el,q1,by rw [q2]; exact q _ H G F pvB⟩
theorem Q5e (K:PySem.W.Frag):Ob (Q33 K) .any:=by
 intro B H G σ ρ vs ts w Q F r e q
 match ts,e,r with
 | [.lst a],e,r =>
  obtain ⟨v,rfl,h⟩:=r.one
  obtain ⟨l,ws,rfl,z,el,rl⟩:=h.lst
  have e:(Qhd a).map (fun bs=>PV.fz (.bl (bs.any id))) = some w:=e
  cases h1:Qhd a with
  | none=>rw [h1] at e; cases e
  | some bs =>
   rw [h1] at e
   cases e
   obtain ⟨q1,q2,q3⟩:=Qkt h1 rl
   exact ⟨l,ws,rfl,SqL.of el,q1,by rw [q3]; exact q _ H G F pvB⟩
theorem Qnk:∀ (xs:List Int) (m:Int),m ≤ Qgx m xs ∧ (∀ a ∈ xs,a ≤ Qgx m xs) ∧ (Qgx m xs = m ∨ Qgx m xs ∈ xs)
 | [],m=>⟨Int.le_refl _,fun _ h=>(nomatch h),.inl rfl⟩
 | x :: xs,m=>by
  unfold Qgx
  obtain ⟨h1,h2,h3⟩:=Qnk xs (if m < x then x else m)
  have k1:m ≤ (if m < x then x else m):=by split <;> omega
  have k2:x ≤ (if m < x then x else m):=by split <;> omega
  refine ⟨by omega,fun a ha=>?_,?_⟩
  ·rcases List.mem_cons.mp ha with rfl | ha
   ·omega
   ·exact h2 a ha
  ·rcases h3 with h3 | h3
   ·rw [h3]
    split
    ·exact .inr List.mem_cons_self
    ·exact .inl rfl
   ·exact .inr (List.mem_cons_of_mem _ h3)
theorem Qjw:∀ (xs:List Int) (m:Int),Qfd m xs ≤ m ∧ (∀ a ∈ xs,Qfd m xs ≤ a) ∧ (Qfd m xs = m ∨ Qfd m xs ∈ xs)
 | [],m=>⟨Int.le_refl _,fun _ h=>(nomatch h),.inl rfl⟩
 | x :: xs,m=>by
  unfold Qfd
  obtain ⟨h1,h2,h3⟩:=Qjw xs (if x < m then x else m)
  have k1:(if x < m then x else m) ≤ m:=by split <;> omega
  have k2:(if x < m then x else m) ≤ x:=by split <;> omega
  refine ⟨by omega,fun a ha=>?_,?_⟩
  ·rcases List.mem_cons.mp ha with rfl | ha
   ·omega
   ·exact h2 a ha
  ·rcases h3 with h3 | h3
   ·rw [h3]
    split
    ·exact .inr List.mem_cons_self
    ·exact .inl rfl
   ·exact .inr (List.mem_cons_of_mem _ h3)
noncomputable def Q2c (K:PySem.W.Frag):List V → Hp → VK → Prop:=fun xs H Q=>Q1v xs H Q ∨ Qvq K xs H Q
noncomputable def Q2d (K:PySem.W.Frag):List V → Hp → VK → Prop:=fun xs H Q=>Q1w xs H Q ∨ Qvr K xs H Q
theorem Qqp (K:PySem.W.Frag) (hK:X.K = K) (hc:X.calm = true):QCl X (.builtin "max") (Q2c K):=⟨(Q4h hc).h.or (Q4f K hK hc).h⟩
theorem Q5f (K:PySem.W.Frag) (hK:X.K = K) (hc:X.calm = true):QCl X (.builtin "min") (Q2d K):=⟨(Q4i hc).h.or (Q4g K hK hc).h⟩
theorem Qqq (K:PySem.W.Frag):Ob (Q2c K) .max:=by
 intro B H G σ ρ vs ts w Q F r e q
 match ts,e,r with
 | [.int i,.int j],e,r =>
  cases e
  obtain ⟨v,u,rfl,h1,h2⟩:=r.two
  obtain rfl:=h1.int
  obtain rfl:=h2.int
  exact .inl ⟨i,j,rfl,q _ H G F pvI⟩
 | [.lst a],e,r =>
  obtain ⟨v,rfl,h⟩:=r.one
  obtain ⟨l,ws,rfl,z,el,rl⟩:=h.lst
  have e:(match Qcb a with | some (x :: xs)=>some (PV.fz (.int (Qgx x xs))) | _=>none) = some w:=e
  cases h1:Qcb a with
  | none=>rw [h1] at e; cases e
  | some is =>
   rw [h1] at e
   cases is with
   | nil=>cases e
   | cons i is =>
    cases e
    rw [Qf5 h1] at rl
    rw [rl.ints_inv] at el
    obtain ⟨k1,k2,k3⟩:=Qnk is i
    refine .inr ⟨l,i :: is,rfl,SqL.of el,by simp,fun M hM hle=>?_⟩
    have e:M = Qgx i is:=by
     have a1:=hle (Qgx i is) (k3.elim (fun k3=>by rw [k3]; exact List.mem_cons_self) fun k3=>List.mem_cons_of_mem _ k3)
     have a2:M ≤ Qgx i is:=by
      rcases List.mem_cons.mp hM with rfl | hM
      ·exact k1
      ·exact k2 M hM
     omega
    rw [e]
    exact q _ H G F pvI
theorem Q5g (K:PySem.W.Frag):Ob (Q2d K) .min:=by
 intro B H G σ ρ vs ts w Q F r e q
 match ts,e,r with
 | [.int i,.int j],e,r =>
  cases e
  obtain ⟨v,u,rfl,h1,h2⟩:=r.two
  obtain rfl:=h1.int
  obtain rfl:=h2.int
  exact .inl ⟨i,j,rfl,q _ H G F pvI⟩
 | [.lst a],e,r =>
  obtain ⟨v,rfl,h⟩:=r.one
  obtain ⟨l,ws,rfl,z,el,rl⟩:=h.lst
  have e:(match Qcb a with | some (x :: xs)=>some (PV.fz (.int (Qfd x xs))) | _=>none) = some w:=e
  cases h1:Qcb a with
  | none=>rw [h1] at e; cases e
  | some is =>
   rw [h1] at e
   cases is with
   | nil=>cases e
   | cons i is =>
    cases e
    rw [Qf5 h1] at rl
    rw [rl.ints_inv] at el
    obtain ⟨k1,k2,k3⟩:=Qjw is i
    refine .inr ⟨l,i :: is,rfl,SqL.of el,by simp,fun M hM hle=>?_⟩
    have e:M = Qfd i is:=by
     have a1:=hle (Qfd i is) (k3.elim (fun k3=>by rw [k3]; exact List.mem_cons_self) fun k3=>List.mem_cons_of_mem _ k3)
     have a2:Qfd i is ≤ M:=by
      rcases List.mem_cons.mp hM with rfl | hM
      ·exact k1
      ·exact k2 M hM
     omega
    rw [e]
    exact q _ H G F pvI
theorem Q5h:Ob Q8h .dvm:=by
 intro B H G σ ρ vs ts w Q F r e q
 match ts,e,r with
 | [.int i,.int j],e,r =>
  have e:(if 0 < j ∧ j.natAbs < 2 ^ 64 then some (PV.fz (.tup [.int (i / j),.int (i % j)])) else none) = some w:=e
  by_cases z:0 < j ∧ j.natAbs < 2 ^ 64
  ·rw [if_pos z] at e; cases e
   obtain ⟨v,u,rfl,h1,h2⟩:=r.two
   obtain rfl:=h1.int
   obtain rfl:=h2.int
   refine ⟨i,j,rfl,⟨z.1,by omega⟩,fun l hl=>q _ _ G (F.grow (Same.upd hl)) ?_⟩
   exact Qgm (F.prv.mono (Same.upd hl)) Qi (.cons Is.int (.one Is.int)) (by show 2 ≤ 100000; decide)
  ·rw [if_neg z] at e; cases e
theorem Qqr:Ob Q1x .int:=by
 intro B H G σ ρ vs ts w Q F r e q
 match ts,e,r with
 | [.int i],e,r =>
  cases e
  obtain ⟨v,rfl,h⟩:=r.one
  obtain rfl:=h.int
  exact .inl ⟨i,rfl,q _ H G F pvI⟩
 | [.bl b],e,r =>
  cases e
  obtain ⟨v,rfl,h⟩:=r.one
  obtain rfl:=h.bl
  exact .inr ⟨b,rfl,q _ H G F pvI⟩
theorem Qz5 (K:PySem.W.Frag):Ob (Qnd K) .list:=by
 intro B H G σ ρ vs ts w Q F r e q
 match ts,e,r with
 | [.lst a],e,r =>
  cases e
  obtain ⟨v,rfl,h⟩:=r.one
  obtain ⟨l,ws,rfl,z,el,rl⟩:=h.lst
  refine ⟨l,ws,rfl,.inl (SqL.of el),fun l2 hl=>?_⟩
  obtain ⟨F2,r2⟩:=Qgn F hl (Same.upd hl) Qi rl z
  exact q _ _ _ F2 r2
 | [.tup a],e,r =>
  cases e
  obtain ⟨v,rfl,h⟩:=r.one
  have z:=h.tup.tup_len
  obtain ⟨l,ws,rfl,el,rl⟩:=h.tup.tup_inv
  refine ⟨l,ws,rfl,.inr (SqT.of (Q3 el).2),fun l2 hl=>?_⟩
  obtain ⟨F2,r2⟩:=Qgn F hl (Same.upd hl) Qi rl z
  exact q _ _ _ F2 r2
theorem Qes (K:PySem.W.Frag):Ob (Qqd K) .tup:=by
 intro B H G σ ρ vs ts w Q F r e q
 match ts,e,r with
 | [.lst a],e,r =>
  cases e
  obtain ⟨v,rfl,h⟩:=r.one
  obtain ⟨l,ws,rfl,z,el,rl⟩:=h.lst
  exact ⟨l,ws,rfl,.inl ⟨SqL.of el,fun l2 hl=>q _ _ G (F.grow (Same.upd hl)) (Qgm (F.prv.mono (Same.upd hl)) Qi (rl.mono (Qa8 (Same.upd hl))) z)⟩⟩
 | [.tup a],e,r =>
  cases e
  obtain ⟨v,rfl,h⟩:=r.one
  have h0:=h.tup
  obtain ⟨l,ws,rfl,el,rl⟩:=h.tup.tup_inv
  exact ⟨l,ws,rfl,.inr ⟨SqT.of (Q3 el).2,q _ H G F h0⟩⟩
theorem Qh2:∀ {es:List Expr} {env:Env} {pos:Pos},es.all Qr = true → (backTo pos (starEach es env)).any (·.1) = false
 | [],_,_,_=>rfl
 | e :: es,env,pos,h=>by
  rw [List.all_cons,Bool.and_eq_true] at h
  rw [Qa1 h.1]
  have q:=Qh2 (env:=env) (pos:=pos) h.2
  unfold backTo at q ⊢
  rw [List.map_cons,List.any_cons,q]
  rfl
theorem s_bi {id:String} {r:List V → Hp → VK → Prop} {b:Bi} (hc:QCl X (.builtin id) r) (hs:Ob r b) (hm:X.mg x = none) (hv:bootBuiltins x = some (.builtin id)) (ha:QA X (e :: es) (tA p es')) (hg:Gl X x) (hn:x ≠ "__name__") (hdb:(x == ("__debug__" : Str)) = false) (h1:Qr e = true) (h2:es.all Qr = true) :
  QE X (.Call (.Name x p1) (e :: es) [] pos) (tE p (.bi b es')):=(Qhw hc hm hv ha hg hn hdb h1 (Qh2 h2)).weak fun σ H Q h=>Q2b hs h
theorem Q9g {T:String} {r:List V → Hp → VK → Prop} {b:Bi} (hc:QCl X (.type T) r) (hs:Ob r b) (hm:X.mg x = none) (hv:bootBuiltins x = some (.type T)) (ha:QA X (e :: es) (tA p es')) (hg:Gl X x) (hn:x ≠ "__name__") (hdb:(x == ("__debug__" : Str)) = false) (h1:Qr e = true) (h2:es.all Qr = true) :
  QE X (.Call (.Name x p1) (e :: es) [] pos) (tE p (.bi b es')):=(Q1t hc hm hv ha hg hn hdb h1 (Qh2 h2)).weak fun σ H Q h=>Q2b hs h
theorem IsL.atI {D:Hp} {vs:List V} {ts:List T} {i:Int} {t:T} (r:IsL D vs ts) (h:atI ts i = some t):∃ v,L2.atI vs i = some v ∧ Is D v t:=by
 unfold L2.atI at h ⊢
 rw [r.length]
 cases e:ixN ts.length i with
 | none=>rw [e] at h; cases h
 | some j =>
  rw [e] at h
  exact r.getT h
theorem s_ix (K:PySem.W.Frag) (hK:X.K = K) (ha:QE X a (tE p a')) (hb:QE X b (tE p b')) (hs:Qjr b):QE X (.Subscript a b pos) (tE p (.ix a' b')) :=
 (Q37 (Q4d K hK) ha hb hs).weak fun σ H Q ⟨G,ρ,F,h⟩=>by
  unfold evE at h
  refine tE2 F h fun ra rb ρ2 x y H2 G2 F2 r1 r2 h2=>?_
  obtain ⟨t,u,c1,c2,h3⟩:=Qwv h2
  have hx:=r1.rdb F2 c1
  have hy:=r2.rdb F2 c2
  cases e:Qzs t u with
  | none=>rw [e] at h3; exact False.elim h3
  | some w =>
   rw [e] at h3
   cases t <;> first | (cases e; done) | skip
   all_goals (cases u <;> first | (cases e; done) | skip)
   ·obtain rfl:=hy.int
    obtain ⟨l,ws,rfl,el,rl⟩:=hx.tup.tup_inv
    obtain ⟨v,ev,iv⟩:=rl.atI e
    exact .inr (.inl ⟨l,ws,_,v,rfl,rfl,SqT.of (Q3 el).2,ev,h3 v H2 G2 F2 iv⟩)
   ·obtain rfl:=hy.int
    obtain ⟨l,ws,rfl,z,el,rl⟩:=hx.lst
    obtain ⟨v,ev,iv⟩:=rl.atI e
    exact .inl ⟨l,ws,_,v,rfl,rfl,SqL.of el,ev,h3 v H2 G2 F2 iv⟩
noncomputable def tO (p:Pr) (es:Es):TO:=fun σ H Q=>∃ G ρ,FI (Qan H G σ ρ) H G σ ρ ∧ Fin p (Qan H G σ ρ) σ (evA p.cf es ρ) fun rs ρ1=>∃ i,Qni rs = some i ∧ ∀ H1 G1,FI (Qan H G σ ρ) H1 G1 σ ρ1 → Q i H1
theorem QO.weak {X:Cx} {e:Option Expr} {t t':TO} (h:QO X e t) (q:∀ σ H Q,t' σ H Q → t σ H Q):QO X e t':=⟨fun pins s σ H Q I z=>h.h pins s σ H Q I (q _ _ _ z)⟩
theorem Qz6 {r:PV} {i:Option Int} (h:Qni [r] = some i):∃ j,r = .fz (.int j) ∧ i = some j:=by
 cases r with
 | fz t=>cases t <;> first | (cases h; done) | exact ⟨_,rfl,(Option.some.inj h).symm⟩
 | ow t=>cases h
 | sl i=>cases h
theorem Qr5 (ha:QE X a (tE p a')):QO X (some a) (tO p (.cons a' .nil)):=(Qqe ha).weak fun σ H Q ⟨G,ρ,F,h⟩=>by
 unfold evA at h
 refine ⟨G,ρ,F,h.bind.imp fun r ρ1 h1 v H1 G1 F1 r1=>?_⟩
 have h1:=h1.bind
 unfold evA at h1
 obtain ⟨i,e,k⟩:=h1
 obtain ⟨j,rfl,rfl⟩:=Qz6 e
 obtain rfl:=r1.is.int_inv
 exact ⟨j,rfl,k H1 G1 F1⟩
theorem Q9h (K:PySem.W.Frag) (hK:X.K = K) {lo hi:Option Expr} {lo' hi':Es} (ha:QE X a (tE p a')) (hl:QO X lo (tO p lo')) (hh:QO X hi (tO p hi')):QE X (.Subscript a (.Slice lo hi none p2) pos) (tE p (.slc a' lo' hi')) :=
 (Q77 (Q8d K hK) ha hl hh).weak fun σ H Q ⟨G,ρ,F,h⟩=>by
  unfold evE at h
  refine ⟨G,ρ,F,h.bind.imp fun ra ρ1 h1 v H1 G1 F1 r1=>?_⟩
  refine ⟨G1,ρ1,F1.self,h1.bind.rebase F1 fun rl ρ2 h2=>?_⟩
  cases el:Qni rl with
  | none=>rw [el] at h2; exact False.elim h2
  | some l =>
   rw [el] at h2
   refine ⟨l,rfl,fun H2 G2 F2=>⟨G2,ρ2,F2.self,h2.bind.rebase (F1.trans F2) fun rh ρ3 h3=>?_⟩⟩
   cases eh:Qni rh with
   | none=>rw [eh] at h3; exact False.elim h3
   | some u =>
    rw [eh] at h3
    refine ⟨u,rfl,fun H3 G3 F3=>?_⟩
    have F12:=F1.trans F2
    have F4:=F12.trans F3
    cases ec:cont ρ3 ra with
    | none=>rw [ec] at h3; exact False.elim h3
    | some t =>
     rw [ec] at h3
     obtain ⟨w,ew,k⟩:=Qnj h3
     have hx:=((r1.step F1 F2).step F12 F3).rdb F4 ec
     cases t <;> first | (cases ew; done) | skip
     ·cases ew
      exact Qv6 F4.prv hx.tup fun y H5 s5 i5=>k y H5 G3 (F4.grow s5) i5
     ·cases ew
      rename_i ts
      obtain ⟨c,ws,rfl,z,ec,rl⟩:=hx.lst
      refine .inl ⟨c,ws,rfl,SqL.of ec,fun q hq=>?_⟩
      obtain ⟨F5,r5⟩:=Qgn F4 hq (Same.upd hq) Qi (rl.cut l u) (by have:=Qop ts l u; omega)
      exact k _ _ _ F5 r5
end
theorem Qff (i:Nat):Qa [] i = .un:=rfl
theorem Qb (s:Slot) (ρ:En):Qa (s :: ρ) 0 = s:=rfl
theorem Qe (s:Slot) (ρ:En) (i:Nat):Qa (s :: ρ) (i + 1) = Qa ρ i:=by unfold Qa; rw [List.getElem?_cons_succ]
theorem Qbi {ρ:En} {i j:Nat} {s:Slot}:Qa (ρ.set j s) i = if i = j ∧ j < ρ.length then s else Qa ρ i:=by
 unfold Qa
 by_cases h:i = j ∧ j < ρ.length
 ·rw [if_pos h]
  obtain ⟨rfl,hj⟩:=h
  rw [List.getElem?_set_self hj]
 ·rw [if_neg h]
  by_cases e:i = j
  ·subst e
   have hl:ρ.length ≤ i:=by
    rcases Nat.lt_or_ge i ρ.length with z | z
    ·exact absurd ⟨rfl,z⟩ h
    ·exact z
   rw [List.set_eq_of_length_le hl]
  ·rw [List.getElem?_set_ne (fun z=>e z.symm)]
theorem Qiv {ρ:En} {i:Nat} (h:Qa ρ i ≠ .un):i < ρ.length:=by
 rcases Nat.lt_or_ge i ρ.length with z | z
 ·exact z
 ·exact absurd (by unfold Qa; rw [List.getElem?_eq_none_iff.mpr z]) h
theorem Qbj (rs:List PV) (fin:List T) (i:Nat) (s:Slot):Qz rs fin i s = s ∨ ∃ k t,Qh rs i = some k ∧ fin[k]? = some t ∧ Qz rs fin i s = s.put t:=by
 unfold Qz
 cases h1:Qh rs i with
 | none=>exact .inl rfl
 | some k =>
  cases h2:fin[k]? with
  | none=>exact .inl (by simp only [h2])
  | some t=>exact .inr ⟨k,t,rfl,h2,by simp only [h2]⟩
theorem Qfu (rs:List PV) (fin:List T):∀ (ρ:En) (n i:Nat),Qa (Qm rs fin n ρ) i = Qz rs fin (n + i) (Qa ρ i)
 | [],n,i=>by
  unfold Qm
  rw [Qff]
  rcases Qbj rs fin (n + i) .un with h | ⟨k,t,_,_,h⟩
  ·exact h.symm
  ·rw [h]; rfl
 | s :: ρ,n,0=>by unfold Qm; rfl
 | s :: ρ,n,i + 1=>by
  unfold Qm
  rw [Qe,Qe,Qfu rs fin ρ (n + 1) i,show n + 1 + i = n + (i + 1) by omega]
theorem Qcm (ρ:En) (rs:List PV) (fin:List T) (i:Nat):Qa (Qax ρ rs fin) i = Qz rs fin i (Qa ρ i):=by
 unfold Qax
 rw [Qfu,Nat.zero_add]
theorem Qh3 (rs:List PV) (fin:List T):∀ (ρ:En) (n:Nat),(Qm rs fin n ρ).length = ρ.length
 | [],_=>rfl
 | s :: ρ,n=>by unfold Qm; rw [List.length_cons,List.length_cons,Qh3 rs fin ρ (n + 1)]
theorem Qh4 (ρ:En) (i:Nat):Qak ρ (.sl i) = match Qa ρ i with
 | .ow t=>some (.ml t)
 | .ml t=>some (.ml t)
 | .ro t=>some (.ro t)
 | _=>none:=rfl
theorem PVRs.len {H0 H:Hp} {G:Addr → Prop} {σ:St} {ρ:En} {vs:List V} {rs:List PV} (h:PVRs H0 H G σ ρ vs rs):vs.length = rs.length:=by
 induction h with
 | nil=>rfl
 | cons _ _ ih=>rw [List.length_cons,List.length_cons,ih]
theorem PVRs.get {H0 H:Hp} {G:Addr → Prop} {σ:St} {ρ:En} {vs:List V} {rs:List PV} (h:PVRs H0 H G σ ρ vs rs):∀ {i:Nat} {v:V} {r:PV},vs[i]? = some v → rs[i]? = some r → PVR H0 H G σ ρ v r:=by
 induction h with
 | nil=>intro i v r e; simp at e
 | cons a _ ih =>
  intro i v r e1 e2
  cases i with
  | zero=>simp at e1 e2; subst e1; subst e2; exact a
  | succ i=>rw [List.getElem?_cons_succ] at e1 e2; exact ih e1 e2
theorem Qfg {ρ:En}:∀ {rs:List PV} {as:List Arg},Qx ρ rs = some as → as.length = rs.length ∧ ∀ (i:Nat) (a:Arg),as[i]? = some a → ∃ r,rs[i]? = some r ∧ Qak ρ r = some a
 | [],as,e=>by cases e; exact ⟨rfl,fun i a h=>by simp at h⟩
 | r :: rs,as,e=>by
  unfold Qx at e
  cases h1:Qak ρ r with
  | none=>rw [h1] at e; cases e
  | some a0 =>
   cases h2:Qx ρ rs with
   | none=>rw [h1,h2] at e; cases e
   | some as0 =>
    rw [h1,h2] at e
    cases e
    obtain ⟨q1,q2⟩:=Qfg h2
    refine ⟨by rw [List.length_cons,List.length_cons,q1],fun i a h=>?_⟩
    cases i with
    | zero=>simp at h; subst h; exact ⟨r,rfl,h1⟩
    | succ i=>rw [List.getElem?_cons_succ] at h ⊢; exact q2 i a h
theorem Qku:∀ {rs:List PV},Qw rs = true → ∀ (i j k:Nat),rs[i]? = some (.sl k) → rs[j]? = some (.sl k) → i = j
 | [],_,i,j,k,e,_=>by simp at e
 | r :: rs,h,i,j,k,e1,e2=>by
  have tl:Qw rs = true:=by
   cases r with
   | sl p=>unfold Qw at h; rw [Bool.and_eq_true] at h; exact h.2
   | fz t=>exact h
   | ow t=>exact h
  have hd:∀ (m:Nat),r = PV.sl k → rs[m]? = some (PV.sl k) → False:=fun m er em=>by
   subst er
   unfold Qw at h
   rw [Bool.and_eq_true] at h
   have q:=List.all_eq_true.mp h.1 _ (List.mem_of_getElem? em)
   simp at q
  cases i with
  | zero =>
   cases j with
   | zero=>rfl
   | succ j=>simp at e1; rw [List.getElem?_cons_succ] at e2; exact (hd j e1 e2).elim
  | succ i =>
   cases j with
   | zero=>simp at e2; rw [List.getElem?_cons_succ] at e1; exact (hd i e2 e1).elim
   | succ j =>
    rw [List.getElem?_cons_succ] at e1 e2
    rw [Qku tl i j k e1 e2]
theorem Qdr:∀ {rs:List PV} {i k:Nat},Qh rs i = some k → rs[k]? = some (.sl i)
 | [],i,k,e=>by cases e
 | .sl j :: rs,i,k,e=>by
  unfold Qh at e
  by_cases h:j = i
  ·rw [if_pos h] at e; cases e; rw [h]; rfl
  ·rw [if_neg h] at e
   cases h2:Qh rs i with
   | none=>rw [h2] at e; cases e
   | some m=>rw [h2] at e; cases e; rw [List.getElem?_cons_succ]; exact Qdr h2
 | .fz t :: rs,i,k,e=>by
  unfold Qh at e
  cases h2:Qh rs i with
  | none=>rw [h2] at e; cases e
  | some m=>rw [h2] at e; cases e; rw [List.getElem?_cons_succ]; exact Qdr h2
 | .ow t :: rs,i,k,e=>by
  unfold Qh at e
  cases h2:Qh rs i with
  | none=>rw [h2] at e; cases e
  | some m=>rw [h2] at e; cases e; rw [List.getElem?_cons_succ]; exact Qdr h2
theorem Qh5:∀ {rs:List PV} {i k:Nat},Qh rs i = none → rs[k]? ≠ some (.sl i)
 | [],i,k,_,e=>by simp at e
 | r :: rs,i,k,h,e=>by
  have tl:Qh rs i = none:=by
   cases r with
   | sl j =>
    unfold Qh at h
    by_cases z:j = i
    ·rw [if_pos z] at h; cases h
    ·rw [if_neg z] at h; simpa using h
   | fz t=>unfold Qh at h; simpa using h
   | ow t=>unfold Qh at h; simpa using h
  cases k with
  | zero =>
   simp at e
   subst e
   unfold Qh at h
   rw [if_pos rfl] at h
   cases h
  | succ k=>rw [List.getElem?_cons_succ] at e; exact Qh5 tl e
theorem Qmj:∀ {vs:List V} {rs:List PV} {i:Nat} {t:T} {b:Addr},vs[i]? = some (.ref b) → rs[i]? = some (.ow t) → Qkq vs rs b
 | [],_,_,_,_,e,_=>by simp at e
 | _ :: _,[],_,_,_,_,e=>by simp at e
 | v :: vs,r :: rs,0,t,b,e1,e2=>by
  simp at e1 e2
  subst e1; subst e2
  exact .inl rfl
 | v :: vs,r :: rs,i + 1,t,b,e1,e2=>by
  rw [List.getElem?_cons_succ] at e1 e2
  have q:=Qmj e1 e2
  cases r with
  | fz t=>exact q
  | sl j=>exact q
  | ow t=>exact .inr q
noncomputable def ArgR (H:Hp) (G:Addr → Prop) (v:V):Arg → Prop
 | .fz t=>Is (dls H G) v t
 | .ml t=>∃ a,v = .ref a ∧ G a ∧ OwnAt H G a t
 | .ro t=>∃ a,v = .ref a ∧ G a ∧ OwnAt H G a t
noncomputable def Arg.prv:Arg → Bool
 | .fz _=>false
 | _=>true
structure ArgsR (H:Hp) (G:Addr → Prop) (vs:List V) (as:List Arg):Prop where
 len:vs.length = as.length
 get:∀ (i:Nat) (v:V) (a:Arg),vs[i]? = some v → as[i]? = some a → ArgR H G v a
 apart:∀ (i j:Nat) (b:Addr) (x y:Arg),as[i]? = some x → as[j]? = some y → x.prv = true → y.prv = true → vs[i]? = some (.ref b) → vs[j]? = some (.ref b) → i = j
noncomputable def Qr6 (vs:List V) (as:List Arg) (b:Addr):Prop:=∃ (i:Nat) (t:T),as[i]? = some (.ml t) ∧ vs[i]? = some (.ref b)
structure CallP (H:Hp) (G:Addr → Prop) (vs:List V) (as:List Arg) (H':Hp) (G':Addr → Prop) (fin:List T):Prop where
 prv:Pen H' G'
 chg:∀ b o,¬ Qr6 vs as b → H b = some o → H' b = some o
 keep:∀ b o,H b = some o → ∃ o',H' b = some o'
 gg:∀ b,G b → G' b
 gn:∀ b,G' b → G b ∨ H b = none
 fin:∀ (i:Nat) (t:T) (a:Addr),as[i]? = some (.ml t) → vs[i]? = some (.ref a) → ∃ t',fin[i]? = some t' ∧ OwnAt H' G' a t'
noncomputable def Q9i (H H':Hp) (G':Addr → Prop) (v:V):PV → Prop
 | .fz t=>Is (dls H' G') v t
 | .ow t=>∃ a,v = .ref a ∧ H a = none ∧ G' a ∧ OwnAt H' G' a t
 | .sl _=>False
noncomputable def Q9j (mg:Str → Option Value) (H:Hp) (G:Addr → Prop) (vs:List V) (as:List Arg) (o:FR) (Q:VK) (E:XK):Prop:=match o with
 | .ok r fin=>∀ v H' G',CallP H G vs as H' G' fin → Q9i H H' G' v r → Q v H'
 | .xn x fin=>∀ cls dx H' G',CallP H G vs as H' G' fin → Qzu mg H' x cls dx → E cls dx H'
 | .no=>False
noncomputable def spF (cf:CF) (mg:Str → Option Value) (f:Nat):Sp:=fun vs H Q E=>∃ G as,ArgsR H G vs as ∧ Pen H G ∧ Q9j mg H G vs as (cf f as) Q E
section
variable {p:Pr} {B:Bs} {H H1 H2:Hp} {G G1 G2:Addr → Prop} {σ:St} {ρ:En} {vs:List V} {rs:List PV} {as:List Arg} {fin:List T}
theorem Qmk {r:PV} {a:Arg} (e:Qak ρ r = some a) (h:a.prv = true):∃ i t,r = .sl i ∧ (Qa ρ i).prv = some t:=by
 cases r with
 | fz t=>cases e; cases h
 | ow t=>cases e; cases h
 | sl i =>
  rw [Qh4] at e
  cases hs:Qa ρ i with
  | un=>rw [hs] at e; cases e
  | pin _=>rw [hs] at e; cases e
  | fx _=>rw [hs] at e; cases e
  | fz t=>rw [hs] at e; cases e
  | ow t=>exact ⟨i,t,rfl,by rw [hs]; rfl⟩
  | ml t=>exact ⟨i,t,rfl,by rw [hs]; rfl⟩
  | ro t=>exact ⟨i,t,rfl,by rw [hs]; rfl⟩
theorem Qw6 {r:PV} {t:T} (e:Qak ρ r = some (.ml t)):∃ i,r = .sl i ∧ (Qa ρ i = .ow t ∨ Qa ρ i = .ml t):=by
 cases r with
 | fz t=>cases e
 | ow t=>cases e
 | sl i =>
  rw [Qh4] at e
  cases hs:Qa ρ i with
  | un=>rw [hs] at e; cases e
  | pin _=>rw [hs] at e; cases e
  | fx _=>rw [hs] at e; cases e
  | fz t=>rw [hs] at e; cases e
  | ow t=>rw [hs] at e; cases e; exact ⟨i,rfl,.inl hs⟩
  | ml t=>rw [hs] at e; cases e; exact ⟨i,rfl,.inr hs⟩
  | ro t=>rw [hs] at e; cases e
theorem Qz7 (F:FI B H G σ ρ) (r:PVRs B.H H G σ ρ vs rs) (ea:Qx ρ rs = some as) (hb:Qw rs = true):∃ G',FI B H G' σ ρ ∧ ArgsR H G' vs as:=by
 have F':=F.lessG (Qkq vs rs) fun b z=>r.tmp z
 obtain ⟨l1,g1⟩:=Qfg ea
 refine ⟨_,F',by rw [l1]; exact r.len,fun i v a ev e=>?_,fun i j b x y ex ey px py vx vy=>?_⟩
 ·obtain ⟨q,eq,ar⟩:=g1 i a e
  have pv:=r.get ev eq
  cases q with
  | fz t=>cases ar; exact Is.mono (Qc4 fun b h=>h.1) pv.is
  | ow t =>
   cases ar
   obtain ⟨c,rfl,_,_,_,ob,ec,ql⟩:=pv
   exact ql.is (by rw [Qbc fun z=>z.2 (Qmj ev eq)]; exact ec) (Qc4 fun b h=>h.1)
  | sl k =>
   have pv:σ[k]? = some (some v):=pv
   rw [Qh4] at ar
   have sk:=F'.slot k
   cases hs:Qa ρ k with
   | un=>rw [hs] at ar; cases ar
   | pin _=>rw [hs] at ar; cases ar
   | fx _=>rw [hs] at ar; cases ar
   | fz t=>rw [hs] at ar; cases ar
   | ow t=>rw [hs] at ar sk; cases ar; obtain ⟨c,h1,h2,h3⟩:=sk; rw [pv] at h1; cases h1; exact ⟨c,rfl,h2,h3⟩
   | ml t=>rw [hs] at ar sk; cases ar; obtain ⟨c,h1,h2,h3⟩:=sk; rw [pv] at h1; cases h1; exact ⟨c,rfl,h2,h3⟩
   | ro t=>rw [hs] at ar sk; cases ar; obtain ⟨c,h1,h2,h3⟩:=sk; rw [pv] at h1; cases h1; exact ⟨c,rfl,h2,h3⟩
 ·obtain ⟨q1,e1,a1⟩:=g1 i x ex
  obtain ⟨q2,e2,a2⟩:=g1 j y ey
  obtain ⟨k1,t1,rfl,s1⟩:=Qmk a1 px
  obtain ⟨k2,t2,rfl,s2⟩:=Qmk a2 py
  have p1:σ[k1]? = some (some (.ref b)):=r.get vx e1
  have p2:σ[k2]? = some (some (.ref b)):=r.get vy e2
  have ek:=F.apart k1 k2 b ⟨⟨t1,s1⟩,p1⟩ ⟨⟨t2,s2⟩,p2⟩
  subst ek
  exact Qku hb i j k1 e1 e2
theorem Qnl {s:Slot} {t u:T} (h:(s.put t).prv = some u):∃ w,s.prv = some w:=by
 cases s <;> first | exact ⟨_,rfl⟩ | cases h
theorem Qkv {i:Nat} {u:T} (h:(Qa (Qax ρ rs fin) i).prv = some u):∃ w,(Qa ρ i).prv = some w:=by
 rw [Qcm] at h
 rcases Qbj rs fin i (Qa ρ i) with e | ⟨k,t,_,_,e⟩
 ·rw [e] at h; exact ⟨u,h⟩
 ·rw [e] at h; exact Qnl h
theorem Qz8 {i:Nat} {u:T} (h:Qa (Qax ρ rs fin) i = .ow u):∃ w,Qa ρ i = .ow w:=by
 rw [Qcm] at h
 rcases Qbj rs fin i (Qa ρ i) with e | ⟨k,t,_,_,e⟩
 ·rw [e] at h; exact ⟨u,h⟩
 ·rw [e] at h
  cases hs:Qa ρ i <;> rw [hs] at h <;> first | exact ⟨_,rfl⟩ | cases h
theorem Qr7 {i:Nat} {u:T} (h:Qa (Qax ρ rs fin) i = .ml u):∃ w,Qa ρ i = .ml w:=by
 rw [Qcm] at h
 rcases Qbj rs fin i (Qa ρ i) with e | ⟨k,t,_,_,e⟩
 ·rw [e] at h; exact ⟨u,h⟩
 ·rw [e] at h
  cases hs:Qa ρ i <;> rw [hs] at h <;> first | exact ⟨_,rfl⟩ | cases h
theorem Qz9 {i:Nat} {u:T} (h:Qa (Qax ρ rs fin) i = .ro u):∃ w,Qa ρ i = .ro w:=by
 rw [Qcm] at h
 rcases Qbj rs fin i (Qa ρ i) with e | ⟨k,t,_,_,e⟩
 ·rw [e] at h; exact ⟨u,h⟩
 ·rw [e] at h
  cases hs:Qa ρ i <;> rw [hs] at h <;> first | exact ⟨_,rfl⟩ | cases h
theorem Q0a {i:Nat} {u:T} (h:Qa (Qax ρ rs fin) i = .fx u):∃ w,Qa ρ i = .fx w:=by
 rw [Qcm] at h
 rcases Qbj rs fin i (Qa ρ i) with e | ⟨k,t,_,_,e⟩
 ·rw [e] at h; exact ⟨u,h⟩
 ·rw [e] at h
  cases hs:Qa ρ i <;> rw [hs] at h <;> first | exact ⟨_,rfl⟩ | cases h
theorem FI.called (F:FI B H G σ ρ) (A:ArgsR H G vs as) (hv:∀ (k i:Nat) (v:V),rs[k]? = some (.sl i) → vs[k]? = some v → σ[i]? = some (some v)) (hl:vs.length = rs.length) (ea:Qx ρ rs = some as) (hb:Qw rs = true) (C:CallP H G vs as H1 G1 fin):FI B H1 G1 σ (Qax ρ rs fin):=by
 have ml:∀ b,Qr6 vs as b → ∃ (k i:Nat) (t:T),rs[k]? = some (.sl i) ∧ as[k]? = some (.ml t) ∧ vs[k]? = some (.ref b) ∧ (Qa ρ i = .ow t ∨ Qa ρ i = .ml t) ∧ σ[i]? = some (some (.ref b)):=fun b h=>by
  obtain ⟨k,t,e1,e2⟩:=h
  obtain ⟨q,eq,ar⟩:=(Qfg ea).2 k _ e1
  obtain ⟨i,rfl,hs⟩:=Qw6 ar
  exact ⟨k,i,t,eq,e1,e2,hs,hv k i _ eq e2⟩
 have mp:∀ b,Qr6 vs as b → OwA σ ρ b ∨ MlA σ ρ b:=fun b h=>by
  obtain ⟨k,i,t,_,_,_,hs | hs,e⟩:=ml b h
  ·exact .inl ⟨i,t,hs,e⟩
  ·exact .inr ⟨i,t,hs,e⟩
 have sm:Same (dls H G) (dls H1 G1):=fun b o e=>by
  obtain ⟨n,e⟩:=Q3 e
  have e1:=C.chg b o (fun z=>n ((mp b z).elim F.ownG F.mlG)) e
  rw [Qbc fun z=>?_]
  ·exact e1
  ·rcases C.gn b z with z | z
   ·exact n z
   ·rw [z] at e; cases e
 -- a slot's list that is not lent
 have stay:∀ i a t,(Qa ρ i).prv = some t → σ[i]? = some (some (.ref a)) → OwnAt H G a t → ((∀ t,Qa ρ i ≠ .ow t) ∧ (∀ t,Qa ρ i ≠ .ml t) ∨ Qh rs i = none) → OwnAt H1 G1 a t:=fun i a t e s o h=>by
  refine o.mono sm fun u eu=>C.chg a u (fun z=>?_) eu
  obtain ⟨k,j,t',e1,_,_,hs,e2⟩:=ml a z
  have ej:j = i:=F.apart j i a ⟨⟨t',by rcases hs with hs | hs <;> rw [hs] <;> rfl⟩,e2⟩ ⟨⟨t,e⟩,s⟩
  subst ej
  rcases h with ⟨h1,h2⟩ | h
  ·rcases hs with hs | hs
   ·exact h1 _ hs
   ·exact h2 _ hs
  ·exact Qh5 h e1
 -- one that is lent
 have lent:∀ i a t k,(Qa ρ i = .ow t ∨ Qa ρ i = .ml t) → σ[i]? = some (some (.ref a)) → Qh rs i = some k → ∃ t',fin[k]? = some t' ∧ OwnAt H1 G1 a t':=fun i a t k hs s hk=>by
  have e1:=Qdr hk
  have hk':k < vs.length:=by rw [hl]; exact (List.getElem?_eq_some_iff.mp e1).1
  have e2:=hv k i _ e1 (List.getElem?_eq_getElem hk')
  rw [s] at e2
  have e3:vs[k]? = some (.ref a):=by rw [List.getElem?_eq_getElem hk']; rw [← Option.some.inj (Option.some.inj e2)]
  have hk2:k < as.length:=by rw [← A.len]; exact hk'
  obtain ⟨q,eq,ar⟩:=(Qfg ea).2 k _ (List.getElem?_eq_getElem hk2)
  rw [e1] at eq
  cases eq
  have e4:as[k]? = some (.ml t):=by
   rw [List.getElem?_eq_getElem hk2,← ar]
   rw [Qh4]
   rcases hs with hs | hs <;> rw [hs]
  exact C.fin k t a e4 e3
 exact {
  len:=by unfold Qax; rw [Qh3]; exact F.len
  slot:=fun i=>by
   have q:=F.slot i
   have bc:=Qbj rs fin i (Qa ρ i)
   rw [Qcm]
   cases hs:Qa ρ i with
   | un =>
    rw [hs] at bc
    rcases bc with e | ⟨k,t,_,_,e⟩ <;> rw [e] <;> trivial
   | pin a =>
    rw [hs] at q bc
    rcases bc with e | ⟨k,t,_,_,e⟩ <;> rw [e] <;> exact q
   | fz t =>
    rw [hs] at q bc
    obtain ⟨v,e1,e2⟩:=q
    rcases bc with e | ⟨k,t,_,_,e⟩ <;> rw [e] <;> exact ⟨v,e1,e2.mono sm⟩
   | fx t =>
    rw [hs] at q bc
    obtain ⟨v,o,e1,e3,e2⟩:=q
    rcases bc with e | ⟨k,t,_,_,e⟩ <;> rw [e] <;> exact ⟨v,o,e1,sm _ _ e3,e2.mono sm⟩
   | ro t =>
    rw [hs] at q bc
    obtain ⟨a,e1,g,o⟩:=q
    have o':=stay i a t (by rw [hs]; rfl) e1 o (.inl ⟨fun t z=>(by rw [hs] at z; cases z),fun t z=>(by rw [hs] at z; cases z)⟩)
    rcases bc with e | ⟨k,t,_,_,e⟩ <;> rw [e] <;> exact ⟨a,e1,C.gg a g,o'⟩
   | ow t =>
    rw [hs] at q bc
    obtain ⟨a,e1,g,o⟩:=q
    cases hp:Qh rs i with
    | none =>
     have o':=stay i a t (by rw [hs]; rfl) e1 o (.inr hp)
     rcases bc with e | ⟨k,t',h,_,e⟩
     ·rw [e]; exact ⟨a,e1,C.gg a g,o'⟩
     ·rw [hp] at h; cases h
    | some k =>
     obtain ⟨t',ef,o'⟩:=lent i a t k (.inl hs) e1 hp
     have e:Qz rs fin i (.ow t) = .ow t':=by unfold Qz; rw [hp]; simp only [ef]; rfl
     rw [e]
     exact ⟨a,e1,C.gg a g,o'⟩
   | ml t =>
    rw [hs] at q bc
    obtain ⟨a,e1,g,o⟩:=q
    cases hp:Qh rs i with
    | none =>
     have o':=stay i a t (by rw [hs]; rfl) e1 o (.inr hp)
     rcases bc with e | ⟨k,t',h,_,e⟩
     ·rw [e]; exact ⟨a,e1,C.gg a g,o'⟩
     ·rw [hp] at h; cases h
    | some k =>
     obtain ⟨t',ef,o'⟩:=lent i a t k (.inr hs) e1 hp
     have e:Qz rs fin i (.ml t) = .ml t':=by unfold Qz; rw [hp]; simp only [ef]; rfl
     rw [e]
     exact ⟨a,e1,C.gg a g,o'⟩
  apart:=fun i j a h1 h2=>F.apart i j a ⟨let ⟨u,e⟩:=h1.1; Qkv e,h1.2⟩ ⟨let ⟨u,e⟩:=h2.1; Qkv e,h2.2⟩
  prv:=C.prv
  chg:=fun b o h1 h2 e=>C.chg b o (fun z=>by
   rcases mp b z with z | z
   ·rcases F.newO b z with z | z
    ·rw [e] at z; cases z
    ·exact h1 z
   ·exact h2 (F.newM b z)) (F.chg b o h1 h2 e)
  keep:=fun b o e=>by
   obtain ⟨o1,e1⟩:=F.keep b o e
   exact C.keep b o1 e1
  newO:=fun a h=>by
   obtain ⟨i,t,e,s⟩:=h
   obtain ⟨w,e⟩:=Qz8 e
   exact F.newO a ⟨i,w,e,s⟩
  newM:=fun a h=>by
   obtain ⟨i,t,e,s⟩:=h
   obtain ⟨w,e⟩:=Qr7 e
   exact F.newM a ⟨i,w,e,s⟩
  fix:=fun i a h=>by
   obtain ⟨⟨t,e⟩,s⟩:=h
   refine F.fix i a ⟨?_,s⟩
   rcases e with e | e | e
   ·obtain ⟨w,e⟩:=Qr7 e; exact ⟨w,.inl e⟩
   ·obtain ⟨w,e⟩:=Qz9 e; exact ⟨w,.inr (.inl e)⟩
   ·obtain ⟨w,e⟩:=Q0a e; exact ⟨w,.inr (.inr e)⟩
  gg:=fun b h=>C.gg b (F.gg b h)
  gn:=fun b h=>by
   rcases C.gn b h with z | z
   ·exact F.gn b z
   ·exact .inr (F.free z)
  bp:=F.bp }
end
section
variable {X:Cx} {p:Pr} {x:Str} {e:Expr} {es:List Expr} {es':Es} {f k:Nat} {ps:List Str} {pos p1:Pos}
theorem Q0b {σ:St} {H:Hp} {Q:VK} (h:tE p (.call f es') σ H Q):Qv9 (spF p.cf p.mg f) p.R (tA p es') σ H Q:=by
 obtain ⟨G,ρ,F,h⟩:=h
 unfold evE at h
 refine ⟨G,ρ,F,h.bind.imp fun rs ρ1 h1 vs H1 G1 F1 r1=>?_⟩
 unfold Qjc at h1
 by_cases hb:Qw rs = true
 ·rw [if_pos hb] at h1
  cases ea:Qx ρ1 rs with
  | none=>rw [ea] at h1; exact False.elim h1
  | some as =>
   rw [ea] at h1
   replace h1:Fin p (Qan H G σ ρ) σ (match p.cf f as with | .ok r fin=>.ok r (Qax ρ1 rs fin) | .xn x fin=>.xn x (Qax ρ1 rs fin) | .no=>.no) _:=h1
   obtain ⟨G',F',A⟩:=Qz7 (B:=Qan H G σ ρ) F1 r1 ea hb
   have hv:∀ (k i:Nat) (v:V),rs[k]? = some (.sl i) → vs[k]? = some v → σ[i]? = some (some v):=fun k i v e1 e2=>r1.get e2 e1
   refine ⟨G',as,A,F'.prv,?_⟩
   cases ec:p.cf f as with
   | no=>rw [ec] at h1; exact False.elim h1
   | xn z fin =>
    rw [ec] at h1
    exact fun cls dx H' G2 C xr=>h1 cls dx H' G2 (F'.called A hv r1.len ea hb C) xr
   | ok r fin =>
    rw [ec] at h1
    refine fun v H' G2 C rr=>h1 v H' G2 (F'.called A hv r1.len ea hb C) ?_
    cases r with
    | sl i=>exact False.elim rr
    | fz t=>exact rr
    | ow t =>
     obtain ⟨a,rfl,n,g,o⟩:=rr
     refine ⟨a,rfl,F'.free n,g,fun i hp=>?_,o⟩
     obtain ⟨w,e⟩:=Qkv hp.1.choose_spec
     obtain ⟨_,t,ob,ea,_⟩:=PrvAt.at F' ⟨⟨w,e⟩,hp.2⟩
     rw [n] at ea
     cases ea
 ·rw [if_neg hb] at h1
  exact False.elim h1
theorem Q5i (h:Qv8 X.prog X.w X.K X.mg X.base x ps k (spF p.cf p.mg f)) (pz:Qed X p.R) (hr:Room k X.A) (ha:QA X (e :: es) (tA p es')) (hg:Gl X x) (hdb:(x == ("__debug__" : Str)) = false) (h1:Qr e = true) (h2:es.all Qr = true) :
  QE X (.Call (.Name x p1) (e :: es) [] pos) (tE p (.call f es')):=(Q8l h pz hr ha hg hdb (Qa1 h1) (Qh2 h2)).weak fun σ H Q h=>Q0b h
end
section
variable {B:Bs} {H H1:Hp} {G G1:Addr → Prop} {σ:St} {ρ ρ':En} {i:Nat} {v:V} {t:T}
theorem Qkw {w:Option V} (h:i < σ.length):(σ.set i w)[i]? = some w:=by rw [List.getElem?_set_self h]
theorem Qf6 {j:Nat} {w:Option V} (h:j ≠ i):(σ.set i w)[j]? = σ[j]?:=by rw [List.getElem?_set_ne (fun z=>h z.symm)]
theorem FI.lay (F:FI B H G σ ρ) (hi:i < ρ.length) {s:Slot} {w:Option V} (hs:Qkp H G (σ.set i w) i s) (hp:∀ a,(∃ t,s.prv = some t) → w = some (.ref a) → ∀ j,j ≠ i → ¬ PrvAt σ ρ j a)
  (ho:∀ t a,s = .ow t → w = some (.ref a) → B.H a = none ∨ B.O a) (hm:∀ t,s ≠ .ml t) (hr:∀ t,s ≠ .ro t) (hx:∀ t,s ≠ .fx t:=by intro _ z; cases z):FI B H G (σ.set i w) (ρ.set i s):=by
 have hl:i < σ.length:=by rw [F.len]; exact hi
 have sa:∀ j,Qa (ρ.set i s) j = if j = i then s else Qa ρ j:=fun j=>by
  rw [Qbi]
  by_cases e:j = i
  ·rw [if_pos ⟨e,hi⟩,if_pos e]
  ·rw [if_neg (fun z=>e z.1),if_neg e]
 have old:∀ j a,PrvAt (σ.set i w) (ρ.set i s) j a → j ≠ i → PrvAt σ ρ j a:=fun j a h n=>by
  obtain ⟨⟨u,e⟩,q⟩:=h
  rw [sa,if_neg n] at e
  rw [Qf6 n] at q
  exact ⟨⟨u,e⟩,q⟩
 have here:∀ a,PrvAt (σ.set i w) (ρ.set i s) i a → (∃ t,s.prv = some t) ∧ w = some (.ref a):=fun a h=>by
  obtain ⟨⟨u,e⟩,q⟩:=h
  rw [sa,if_pos rfl] at e
  rw [Qkw hl] at q
  exact ⟨⟨u,e⟩,Option.some.inj q⟩
 exact {
  len:=by rw [List.length_set,List.length_set]; exact F.len
  slot:=fun j=>by
   rw [sa]
   by_cases e:j = i
   ·rw [if_pos e,e]; exact hs
   ·rw [if_neg e]
    have q:=F.slot j
    cases hh:Qa ρ j with
    | un=>trivial
    | pin a=>rw [hh] at q; show (σ.set i _)[j]? = _; rw [Qf6 e]; exact q
    | fz t=>rw [hh] at q; obtain ⟨v,a,b⟩:=q; exact ⟨v,by rw [Qf6 e]; exact a,b⟩
    | fx t=>rw [hh] at q; obtain ⟨v,o,a,b⟩:=q; exact ⟨v,o,by rw [Qf6 e]; exact a,b⟩
    | ow t=>rw [hh] at q; obtain ⟨v,a,b⟩:=q; exact ⟨v,by rw [Qf6 e]; exact a,b⟩
    | ml t=>rw [hh] at q; obtain ⟨v,a,b⟩:=q; exact ⟨v,by rw [Qf6 e]; exact a,b⟩
    | ro t=>rw [hh] at q; obtain ⟨v,a,b⟩:=q; exact ⟨v,by rw [Qf6 e]; exact a,b⟩
  apart:=fun j k a h1 h2=>by
   by_cases e1:j = i
   ·by_cases e2:k = i
    ·rw [e1,e2]
    ·rw [e1] at h1
     exact (hp a (here a h1).1 (here a h1).2 k e2 (old k a h2 e2)).elim
   ·by_cases e2:k = i
    ·rw [e2] at h2
     exact (hp a (here a h2).1 (here a h2).2 j e1 (old j a h1 e1)).elim
    ·exact F.apart j k a (old j a h1 e1) (old k a h2 e2)
  prv:=F.prv
  chg:=F.chg
  keep:=F.keep
  newO:=fun a h=>by
   obtain ⟨j,u,e,q⟩:=h
   rw [sa] at e
   by_cases z:j = i
   ·rw [if_pos z] at e
    rw [z,Qkw hl] at q
    exact ho u a e (Option.some.inj q)
   ·rw [if_neg z] at e
    rw [Qf6 z] at q
    exact F.newO a ⟨j,u,e,q⟩
  newM:=fun a h=>by
   obtain ⟨j,u,e,q⟩:=h
   rw [sa] at e
   by_cases z:j = i
   ·rw [if_pos z] at e; exact (hm u e).elim
   ·rw [if_neg z] at e
    rw [Qf6 z] at q
    exact F.newM a ⟨j,u,e,q⟩
  fix:=fun j a h=>by
   obtain ⟨⟨u,e⟩,q⟩:=h
   rw [sa] at e
   by_cases z:j = i
   ·rw [if_pos z] at e
    rcases e with e | e | e
    ·exact (hm u e).elim
    ·exact (hr u e).elim
    ·exact (hx u e).elim
   ·rw [if_neg z] at e
    rw [Qf6 z] at q
    exact F.fix j a ⟨⟨u,e⟩,q⟩
  gg:=F.gg
  gn:=F.gn
  bp:=F.bp }
theorem FI.setFz (F:FI B H G σ ρ) (hi:i < ρ.length) (hv:Is (dls H G) v t):FI B H G (σ.set i (some v)) (ρ.set i (.fz t)) :=
 F.lay hi ⟨v,Qkw (by rw [F.len]; exact hi),hv⟩ (fun a h=>by obtain ⟨u,e⟩:=h; cases e) (fun _ _ e=>by cases e) (fun _ e=>by cases e) (fun _ e=>by cases e)
theorem Qiw {s:Slot} (h:Qb3 i s ρ = some ρ'):i < ρ.length ∧ ρ' = ρ.set i s:=by
 unfold Qb3 at h
 by_cases z:i < ρ.length
 ·rw [if_pos z] at h
  cases hs:Qa ρ i <;> rw [hs] at h <;> first | (cases h; done) | exact ⟨z,(Option.some.inj h).symm⟩
 ·rw [if_neg z] at h; cases h
theorem FI.setS (F:FI B H G σ ρ) (h:L2.Qb3 i (.fz t) ρ = some ρ') (hv:Is (dls H G) v t):FI B H G (σ.set i (some v)) ρ':=by
 obtain ⟨h1,rfl⟩:=Qiw h
 exact F.setFz h1 hv
theorem FI.setOw {H0:Hp} (F:FI B H G σ ρ) (hb:B.H = H0) (h:L2.Qb3 i (.ow t) ρ = some ρ') (hv:Q86 H0 H G σ ρ v t):FI B H G (σ.set i (some v)) ρ':=by
 obtain ⟨h1,rfl⟩:=Qiw h
 obtain ⟨a,rfl,n,g,np,o⟩:=hv
 refine F.lay h1 ⟨a,Qkw (by rw [F.len]; exact h1),g,o⟩ (fun b _ e j _=>?_) (fun _ b _ e=>?_) (fun _ e=>by cases e) (fun _ e=>by cases e)
 ·cases e; exact np j
 ·cases e; exact .inl (by rw [hb]; exact n)
theorem FI.changeO (F:FI B H G σ ρ) {t0 u0:T} {ob:HO} {s':Slot} (hs:(Qa ρ i = .ow t0 ∧ s' = .ow u0) ∨ (Qa ρ i = .ml t0 ∧ s' = .ml u0)) {a:Addr} (e:σ[i]? = some (some (.ref a))) (il:OwnO (dls H G) u0 ob) :
  FI B (upd H a ob) G σ (ρ.set i s') ∧ Same (dls H G) (dls (upd H a ob) G):=by
 have hpv:(Qa ρ i).prv = some t0:=by rcases hs with ⟨h,_⟩ | ⟨h,_⟩ <;> rw [h] <;> rfl
 have hi:i < ρ.length:=Qiv (by rcases hs with ⟨h,_⟩ | ⟨h,_⟩ <;> rw [h] <;> intro z <;> cases z)
 obtain ⟨a',e',g,o',ea,_⟩:=F.prvAt hpv
 rw [e] at e'
 cases e'
 have sa:∀ j,Qa (ρ.set i s') j = if j = i then s' else Qa ρ j:=fun j=>by
  rw [Qbi]
  by_cases e:j = i
  ·rw [if_pos ⟨e,hi⟩,if_pos e]
  ·rw [if_neg (fun z=>e z.1),if_neg e]
 have sm:Same (dls H G) (dls (upd H a ob) G):=fun b o eb=>by
  obtain ⟨n,eb⟩:=Q3 eb
  rw [Qbc n,Qv (fun (z:b = a)=>n (by rw [z]; exact g))]
  exact eb
 have pv':∀ j b,PrvAt σ (ρ.set i s') j b → PrvAt σ ρ j b:=fun j b h=>by
  obtain ⟨⟨u,e1⟩,q⟩:=h
  rw [sa] at e1
  by_cases hj:j = i
  ·rw [hj] at q ⊢; exact ⟨⟨_,hpv⟩,q⟩
  ·rw [if_neg hj] at e1; exact ⟨⟨u,e1⟩,q⟩
 have own:OwnAt (upd H a ob) G a u0:=⟨ob,Qi,il.mono sm⟩
 refine ⟨{
  len:=by rw [List.length_set]; exact F.len
  slot:=fun j=>by
   rw [sa]
   by_cases hj:j = i
   ·rw [if_pos hj,hj]
    rcases hs with ⟨_,h⟩ | ⟨_,h⟩ <;> rw [h] <;> exact ⟨a,e,g,own⟩
   ·rw [if_neg hj]
    refine Qhe (F.slot j) sm fun b o hb1 hb2 eb=>?_
    have nb:b ≠ a:=fun z=>hj (F.apart j i a ⟨hb1,z ▸ hb2⟩ ⟨⟨_,hpv⟩,e⟩)
    exact ⟨by rw [Qv nb]; exact eb,(PrvAt.at F ⟨hb1,hb2⟩).1⟩
  apart:=fun j k b h1 h2=>F.apart j k b (pv' j b h1) (pv' k b h2)
  prv:=fun b hb=>by
   by_cases h:b = a
   ·exact ⟨ob,by rw [h,Qi],il.pen⟩
   ·rw [Qv h]; exact F.prv b hb
  chg:=fun b o h1 h2 eb=>by
   have nb:b ≠ a:=fun z=>by
    rcases hs with ⟨h,_⟩ | ⟨h,_⟩
    ·rcases F.newO a ⟨i,_,h,e⟩ with y | y
     ·rw [z,y] at eb; cases eb
     ·exact h1 (z ▸ y)
    ·exact h2 (z ▸ F.newM a ⟨i,_,h,e⟩)
   rw [Qv nb]
   exact F.chg b o h1 h2 eb
  keep:=fun b o eb=>by
   by_cases h:b = a
   ·exact ⟨_,by rw [h,Qi]⟩
   ·rw [Qv h]; exact F.keep b o eb
  newO:=fun b h=>by
   obtain ⟨j,u,e1,q⟩:=h
   rw [sa] at e1
   by_cases hj:j = i
   ·rw [if_pos hj] at e1
    rcases hs with ⟨h,h2⟩ | ⟨h,h2⟩
    ·exact F.newO b ⟨i,_,h,hj ▸ q⟩
    ·rw [h2] at e1; cases e1
   ·rw [if_neg hj] at e1; exact F.newO b ⟨j,u,e1,q⟩
  newM:=fun b h=>by
   obtain ⟨j,u,e1,q⟩:=h
   rw [sa] at e1
   by_cases hj:j = i
   ·rw [if_pos hj] at e1
    rcases hs with ⟨h,h2⟩ | ⟨h,h2⟩
    ·rw [h2] at e1; cases e1
    ·exact F.newM b ⟨i,_,h,hj ▸ q⟩
   ·rw [if_neg hj] at e1; exact F.newM b ⟨j,u,e1,q⟩
  fix:=fun j b h=>by
   obtain ⟨⟨u,e1⟩,q⟩:=h
   rw [sa] at e1
   by_cases hj:j = i
   ·rw [if_pos hj] at e1
    rcases hs with ⟨h,h2⟩ | ⟨h,h2⟩
    ·rw [h2] at e1; rcases e1 with e1 | e1 | e1 <;> cases e1
    ·exact F.fix j b ⟨⟨_,.inl (by rw [hj]; exact h)⟩,q⟩
   ·rw [if_neg hj] at e1; exact F.fix j b ⟨⟨u,e1⟩,q⟩
  gg:=F.gg
  gn:=F.gn
  bp:=F.bp },sm⟩
theorem FI.change (F:FI B H G σ ρ) {ts us:List T} {ws:List V} {s':Slot} (hs:(Qa ρ i = .ow (.lst ts) ∧ s' = .ow (.lst us)) ∨ (Qa ρ i = .ml (.lst ts) ∧ s' = .ml (.lst us))) {a:Addr} (e:σ[i]? = some (some (.ref a))) (il:IsL (dls H G) ws us) (z:us.length ≤ 100000) :
  FI B (upd H a (.lst ws)) G σ (ρ.set i s') ∧ Same (dls H G) (dls (upd H a (.lst ws)) G):=F.changeO hs e ⟨z,il⟩
end
theorem QG.weak {X:Cx} {e:Expr} {t t':TG} (h:QG X e t) (q:∀ v σ H Q,t' v σ H Q → t v σ H Q):QG X e t':=⟨fun pins s σ H v u Q I r z=>h.h pins s σ H v u Q I r (q _ _ _ _ z)⟩
theorem QI.weak {X:Cx} {tg e:Expr} {t t':TI} (h:QI X tg e t) (q:∀ σ H R,t' σ H R → t σ H R):QI X tg e t':=⟨fun pins s σ H R I z=>h.h pins s σ H R I (q _ _ _ z)⟩
theorem QC.weak {X:Cx} {e:List Expr} {t t':TT} (h:QC X e t) (q:∀ σ H Q,t' σ H Q → t σ H Q):QC X e t':=⟨fun pins s σ H Q I z=>h.h pins s σ H Q I (q _ _ _ z)⟩
noncomputable def tG (tg:Tg):TG:=fun v σ H Q=>∃ B G ρ t ρ',FI B H G σ ρ ∧ Is (dls H G) v t ∧ Qca tg t ρ = some ρ' ∧ ∀ σ',FI B H G σ' ρ' → (∀ k a,PrvAt σ' ρ' k a → PrvAt σ ρ k a) → Q σ' H
theorem Qpa {i:Nat} {t:T} {σ:St} {ρ ρ':En} {v:V} (h:Qb3 i (.fz t) ρ = some ρ'):∀ k a,PrvAt (σ.set i (some v)) ρ' k a → PrvAt σ ρ k a:=fun k a hk=>by
 obtain ⟨h1,rfl⟩:=Qiw h
 obtain ⟨⟨u,e⟩,q⟩:=hk
 rw [Qbi] at e
 by_cases z:k = i ∧ i < ρ.length
 ·rw [if_pos z] at e; cases e
 ·rw [if_neg z] at e
  have hk:k ≠ i:=fun y=>z ⟨y,h1⟩
  rw [Qf6 hk] at q
  exact ⟨⟨u,e⟩,q⟩
noncomputable def Qw7:List Nat → TGs
 | []=>Q27
 | i :: is=>Qut (Qfz i) (Qw7 is)
section
variable {X:Cx} {e:Expr} {es:List Expr} {pos:Pos}
theorem Q4 {i:Nat} (h:QG X e (Qfz i)):QG X e (tG (.nm i)):=h.weak fun v σ H Q ⟨B,G,ρ,t,ρ',F,hv,hs,q⟩=>q _ (F.setS hs hv) (Qpa hs)
theorem Qr8 {B:Bs} {H:Hp} {G:Addr → Prop} {Q:St → Hp → Prop}:∀ {is:List Nat} {ts:List T} {xs:List V} {σ:St} {ρ ρ':En},FI B H G σ ρ → IsL (dls H G) xs ts → Qcf is ts ρ = some ρ' → (∀ σ',FI B H G σ' ρ' → (∀ k a,PrvAt σ' ρ' k a → PrvAt σ ρ k a) → Q σ' H) → Qw7 is xs σ H Q
 | [],[],xs,σ,ρ,ρ',F,r,e,q=>by
  cases e
  exact ⟨r.nil_inv,q σ F fun _ _ h=>h⟩
 | i :: is,t :: ts,xs,σ,ρ,ρ',F,r,e,q=>by
  obtain ⟨v,w,rfl,a,r⟩:=r.cons_inv
  unfold Qcf at e
  cases h:Qb3 i (.fz t) ρ with
  | none=>rw [h] at e; cases e
  | some ρ1 =>
   rw [h] at e
   exact ⟨v,w,rfl,Qr8 (F.setS h a) r e fun σ' F' o=>q σ' F' fun k b hk=>Qpa h k b (o k b hk)⟩
 | [],_ :: _,_,_,_,_,_,_,e,_=>by cases e
 | _ :: _,[],_,_,_,_,_,_,e,_=>by cases e
theorem Qje:∀ {is:List Nat} {ts:List T} {ρ ρ':En},Qcf is ts ρ = some ρ' → ts.length = is.length
 | [],[],_,_,_=>rfl
 | i :: is,t :: ts,ρ,ρ',e=>by
  unfold Qcf at e
  cases h:Qb3 i (.fz t) ρ with
  | none=>rw [h] at e; cases e
  | some ρ1=>rw [h] at e; rw [List.length_cons,List.length_cons,Qje e]
 | [],_ :: _,_,_,e=>by cases e
 | _ :: _,[],_,_,e=>by cases e
theorem Qw8 {K:PySem.W.Frag} {n:Nat} {is:List Nat} (h:QG X e (Qyp K n (Qw7 is))) (hn:is.length = n):QG X e (tG (.tp is)):=h.weak fun v σ H Q ⟨B,G,ρ,t,ρ',F,hv,hs,q⟩=>by
 cases t <;> first | (cases hs; done) | skip
 have hs:Qcf is _ ρ = some ρ':=hs
 obtain ⟨a,vs,rfl,ea,r⟩:=hv.tup_inv
 exact ⟨a,vs,rfl,SqT.of (Q3 ea).2,by rw [r.length,Qje hs,hn],Qr8 F r hs q⟩
end
structure WkR (J:It) (H0:Hp) (G0:Addr → Prop) (Ok:Hp → Prop) (ts:List T):Prop where
 go:∀ i H,i < ts.length → Ok H → J.go i H
 stop:∀ i H,ts.length ≤ i → Ok H → J.stop i H
 yld:∀ i H x H',i < ts.length → Ok H → J.yld i H x H' → Same H H' ∧ ∃ t,ts[i]? = some t ∧ ∀ G,Pen H G → Same (dls H0 G0) (dls H G) → Is (dls H' G) x t
noncomputable def tW (p:Pr) (w:W):TI:=fun σ H R=>∃ G ρ,FI (Qan H G σ ρ) H G σ ρ ∧ Fin p (Qan H G σ ρ) σ (evW p.cf w ρ) fun its ρ1=>its.2 = none ∧ ∀ J H1 G1 Ok,FI (Qan H G σ ρ) H1 G1 σ ρ1 → WkR J H1 G1 Ok its.1 → (∀ H' G',Same (dls H1 G1) (dls H' G') → Ok H') → R J H1
section
variable {X:Cx} {p:Pr} {e a b tg:Expr} {a' b' e':E} {pos p1:Pos} {K:PySem.W.Frag}
theorem wk_l {H:Hp} {G:Addr → Prop} {l:Addr} {vs:List V} {ts:List T} (r:IsL (dls H G) vs ts):WkR (Itl K l) H G (fun H'=>SqL K H' l vs) ts where
 go:=fun i H' hi ok=>⟨vs,_,ok,List.getElem?_eq_getElem (by rw [r.length]; exact hi)⟩
 stop:=fun i H' hi ok=>⟨vs,ok,by rw [r.length]; exact hi⟩
 yld:=fun i H' x H2 hi ok y=>by
  obtain ⟨rfl,hx⟩:=y
  obtain ⟨t,et,it⟩:=r.get (hx vs ok)
  exact ⟨Same.refl _,t,et,fun G' _ s=>it.mono s⟩
theorem wk_t {H:Hp} {G:Addr → Prop} {l:Addr} {vs:List V} {ts:List T} (r:IsL (dls H G) vs ts):WkR (Itt K l) H G (fun H'=>SqT K H' l vs) ts where
 go:=fun i H' hi ok=>⟨vs,_,ok,List.getElem?_eq_getElem (by rw [r.length]; exact hi)⟩
 stop:=fun i H' hi ok=>⟨vs,ok,by rw [r.length]; exact hi⟩
 yld:=fun i H' x H2 hi ok y=>by
  obtain ⟨rfl,hx⟩:=y
  obtain ⟨t,et,it⟩:=r.get (hx vs ok)
  exact ⟨Same.refl _,t,et,fun G' _ s=>it.mono s⟩
theorem Qbd (lo:Int) (n:Nat):(Qaz lo n).length = n:=by unfold Qaz; rw [List.length_map,List.length_range]
theorem Qtv {lo:Int} {n i:Nat} (hi:i < n):(Qaz lo n)[i]? = some (.int (lo + i)):=by
 unfold Qaz
 rw [List.getElem?_map,List.getElem?_range hi]
 rfl
theorem Q9k {H:Hp} {G:Addr → Prop} {lo:Int} {n:Nat}:WkR (Itr lo n) H G (fun _=>True) (Qaz lo n) where
 go:=fun i H' hi _=>by rw [Qbd] at hi; exact hi
 stop:=fun i H' hi _=>by rw [Qbd] at hi; exact hi
 yld:=fun i H' x H2 hi _ y=>by
  rw [Qbd] at hi
  obtain ⟨rfl,rfl⟩:=y
  exact ⟨Same.refl _,_,Qtv hi,fun _ _ _=>Is.int⟩
theorem Qw9 {r:PV} {ρ:En} {t:T} (h:Qiu r = none) (e:cont ρ r = some t):frz r = some t:=by
 cases r with
 | fz t=>exact e
 | ow t=>exact e
 | sl i=>cases h
theorem Qbe (hK:X.K = K) (ha:QE X e (tE p e')):QI X tg e (tW p (.seq e')):=(Qvx K hK ha).weak fun σ H R ⟨G,ρ,F,h⟩=>by
 unfold evW at h
 refine ⟨G,ρ,F,h.bind.imp fun r ρ1 h1 v H1 G1 F1 r1=>?_⟩
 cases ec:cont ρ1 r with
 | none=>rw [ec] at h1; exact False.elim h1
 | some t =>
  rw [ec] at h1
  cases es:Qft t with
  | none =>
   replace h1:Fin p (Qan H G σ ρ) σ (match Qft t with | some ts=>.ok (ts,Qiu r) ρ1 | none=>.no) _:=h1
   rw [es] at h1
   exact False.elim h1
  | some ts =>
   replace h1:Fin p (Qan H G σ ρ) σ (match Qft t with | some ts=>.ok (ts,Qiu r) ρ1 | none=>.no) _:=h1
   rw [es] at h1
   obtain ⟨hn,k⟩:=h1
   obtain ⟨G',F',hv,_⟩:=PVR.lay (B:=Qan H G σ ρ) r1 F1 (Qw9 hn ec)
   cases t <;> first | (cases es; done) | skip
   ·cases es
    obtain ⟨l,vs,rfl,el,rl⟩:=hv.tup_inv
    exact ⟨l,rfl,.inr ⟨⟨vs,SqT.of (Q3 el).2⟩,k _ H1 G' _ F' (wk_t rl) fun H' G2 s=>SqT.of (Q3 (s _ _ el)).2⟩⟩
   ·cases es
    obtain ⟨l,vs,rfl,el,rl⟩:=hv.lst_inv
    exact ⟨l,rfl,.inl ⟨⟨vs,SqL.of (Q3 el).2⟩,k _ H1 G' _ F' (wk_l rl) fun H' G2 s=>SqL.of (Q3 (s _ _ el)).2⟩⟩
theorem Q0c (hm:X.mg "range" = none) (ha:QE X a (tE p a')) (hg:Gl X "range") (hs:Qr a = true):QI X tg (.Call (.Name "range" p1) [a] [] pos) (tW p (.rng1 a')):=(Q38 hm (Qo ha Qat hs) hg hs).weak fun σ H R ⟨G,ρ,F,h⟩=>by
 unfold evW at h
 refine ⟨G,ρ,F,h.bind.imp fun r ρ1 h1 v H1 G1 F1 r1=>?_⟩
 cases r with
 | ow t=>exact False.elim h1
 | sl i=>exact False.elim h1
 | fz t =>
  cases t <;> first | exact False.elim h1 | skip
  rename_i j
  replace h1:Fin p (Qan H G σ ρ) σ (if j.natAbs ≤ 100000 then .ok (Qaz 0 j.toNat,none) ρ1 else .no) _:=h1
  by_cases z:j.natAbs ≤ 100000
  ·rw [if_pos z] at h1
   obtain rfl:=r1.is.int_inv
   exact ⟨j,rfl,by omega,by omega,h1.2 _ H1 G1 _ F1 Q9k fun _ _ _=>trivial⟩
  ·rw [if_neg z] at h1; exact False.elim h1
theorem Q0d (hm:X.mg "range" = none) (ha:QE X a (tE p a')) (hb:QE X b (tE p b')) (hg:Gl X "range") (hs:Qr a = true) (hs2:Qr b = true):QI X tg (.Call (.Name "range" p1) [a,b] [] pos) (tW p (.rng2 a' b')):=(Q39 hm (Qo ha (Qo hb Qat hs2) hs) hg hs hs2).weak fun σ H R ⟨G,ρ,F,h⟩=>by
 unfold evW at h
 refine tE2 F h fun ra rb ρ2 x y H2 G2 F2 r1 r2 h2=>?_
 cases ra with
 | ow t=>cases rb <;> exact False.elim h2
 | sl i=>cases rb <;> exact False.elim h2
 | fz t =>
  cases rb with
  | ow u=>cases t <;> exact False.elim h2
  | sl i=>cases t <;> exact False.elim h2
  | fz u =>
   cases t <;> first | exact False.elim h2 | skip
   cases u <;> first | exact False.elim h2 | skip
   rename_i i j
   replace h2:Fin p (Qan H G σ ρ) σ (if i.natAbs ≤ 100000 ∧ j.natAbs ≤ 100000 then .ok (Qaz i (j - i).toNat,none) ρ2 else .no) _:=h2
   by_cases z:i.natAbs ≤ 100000 ∧ j.natAbs ≤ 100000
   ·rw [if_pos z] at h2
    obtain rfl:=r1.is.int_inv
    obtain rfl:=r2.is.int_inv
    exact ⟨i,j,rfl,⟨by omega,by omega,by omega,by omega⟩,h2.2 _ H2 G2 _ F2 Q9k fun _ _ _=>trivial⟩
   ·rw [if_neg z] at h2; exact False.elim h2
end
theorem Qc8 (js:List (Option Nat)) (ρ:En) (k:Nat):Qa (Qdq js ρ) k = match js[k]? with
  | some (some j)=>(Qa ρ j).lend
  | _=>.un:=by
 show (match (js.map fun o=>match o with | none=>Slot.un | some j=>(Qa ρ j).lend)[k]? with | some s=>s | none=>Slot.un) = _
 rw [List.getElem?_map]
 cases js[k]? with
 | none=>rfl
 | some o=>cases o <;> rfl
theorem Qh6 (js:List (Option Nat)) (σ:St) (k:Nat):(Qfa js σ)[k]? = match js[k]? with
  | some (some j)=>some ((σ[j]?).join)
  | some none=>some none
  | none=>none:=by
 unfold Qfa
 rw [List.getElem?_map]
 cases js[k]? with
 | none=>rfl
 | some o=>cases o <;> rfl
theorem Qf7 (js:List (Option Nat)) (ρi:En):∀ (ρ:En) (n j:Nat),Qa (Qc5 js ρi n ρ) j = if j < ρ.length then Qg3 js ρi (n + j) (Qa ρ j) else .un
 | [],n,j=>by
  unfold Qc5
  rw [if_neg (by simp),Qff]
 | s :: ρ,n,0=>by unfold Qc5; rw [if_pos (by simp)]; rfl
 | s :: ρ,n,j + 1=>by
  unfold Qc5
  rw [Qe,Qe,Qf7 js ρi ρ (n + 1) j,show n + 1 + j = n + (j + 1) by omega]
  by_cases h:j < ρ.length
  ·rw [if_pos h,if_pos (by rw [List.length_cons]; omega)]
  ·rw [if_neg h,if_neg (by rw [List.length_cons]; omega)]
theorem Qjf (js:List (Option Nat)) (ρi:En):∀ (ρ:En) (n:Nat),(Qc5 js ρi n ρ).length = ρ.length
 | [],_=>rfl
 | s :: ρ,n=>by unfold Qc5; rw [List.length_cons,List.length_cons,Qjf js ρi ρ (n + 1)]
theorem Qc9 (js:List (Option Nat)) (ρi:En) (j:Nat) (s:Slot):Qg3 js ρi j s = s ∨ ∃ k t,js.idxOf? (some j) = some k ∧ Qa ρi k = .ml t ∧ Qg3 js ρi j s = s.put t:=by
 unfold Qg3
 cases h1:js.idxOf? (some j) with
 | none=>exact .inl rfl
 | some k =>
  cases h2:Qa ρi k with
  | ml t=>exact .inr ⟨k,t,rfl,h2,by simp only [h2]⟩
  | un=>exact .inl (by simp only [h2])
  | pin _=>exact .inl (by simp only [h2])
  | fx _=>exact .inl (by simp only [h2])
  | fz t=>exact .inl (by simp only [h2])
  | ow t=>exact .inl (by simp only [h2])
  | ro t=>exact .inl (by simp only [h2])
theorem Qf8 (js:List (Option Nat)) (ρi ρ:En) (j:Nat):Qa (Qkn js ρi ρ) j = Qg3 js ρi j (Qa ρ j):=by
 unfold Qkn
 rw [Qf7,Nat.zero_add]
 by_cases h:j < ρ.length
 ·rw [if_pos h]
 ·rw [if_neg h]
  have e:Qa ρ j = .un:=by
   unfold Qa
   rw [List.getElem?_eq_none_iff.mpr (by omega)]
  rw [e]
  rcases Qc9 js ρi j .un with z | ⟨k,t,_,_,z⟩ <;> rw [z] <;> rfl
theorem Q0e:∀ {js:List (Option Nat)} {j k:Nat},js.idxOf? (some j) = some k → js[k]? = some (some j):=by
 intro js j k h
 have:=List.idxOf?_eq_some_iff.mp h
 obtain ⟨h1,h2,_⟩:=this
 rw [List.getElem?_eq_getElem h1,h2]
theorem Qxa {js:List (Option Nat)} {j k:Nat} (h:js.idxOf? (some j) = none):js[k]? ≠ some (some j):=fun e=>by
 have:=List.idxOf?_eq_none_iff.mp h
 exact this (List.mem_of_getElem? e)
theorem Qkx:∀ {js:List (Option Nat)},Qch js = true → ∀ (i k j:Nat),js[i]? = some (some j) → js[k]? = some (some j) → i = k
 | [],_,i,k,j,e,_=>by simp at e
 | r :: js,h,i,k,j,e1,e2=>by
  have tl:Qch js = true:=by
   cases r with
   | some q=>unfold Qch at h; rw [Bool.and_eq_true] at h; exact h.2
   | none=>exact h
  have hd:∀ (m:Nat),r = some j → js[m]? = some (some j) → False:=fun m er em=>by
   subst er
   unfold Qch at h
   rw [Bool.and_eq_true] at h
   have q:=List.all_eq_true.mp h.1 _ (List.mem_of_getElem? em)
   simp at q
  cases i with
  | zero =>
   cases k with
   | zero=>rfl
   | succ k=>simp at e1; rw [List.getElem?_cons_succ] at e2; exact (hd k e1 e2).elim
  | succ i =>
   cases k with
   | zero=>simp at e2; rw [List.getElem?_cons_succ] at e1; exact (hd i e2 e1).elim
   | succ k =>
    rw [List.getElem?_cons_succ] at e1 e2
    rw [Qkx tl i k j e1 e2]
theorem Qml:∀ {ρ0 ρ:En},Qe1 ρ0 ρ = true → ∀ (i:Nat) (t:T),Qa ρ0 i = .ml t → ∃ t',Qa ρ i = .ml t'
 | [],[],_,i,t,e=>by rw [Qff] at e; cases e
 | [],_ :: _,h,_,_,_=>by cases h
 | s0 :: ρ0,[],h,_,_,_=>by cases s0 <;> cases h
 | s0 :: ρ0,s :: ρ,h,i,t,e=>by
  have tl:Qe1 ρ0 ρ = true:=by
   cases s0 <;> first | exact h | skip
   unfold Qe1 at h
   rw [Bool.and_eq_true] at h
   exact h.2
  cases i with
  | zero =>
   rw [Qb] at e
   subst e
   unfold Qe1 at h
   rw [Bool.and_eq_true] at h
   cases s <;> first | (simp at h; done) | exact ⟨_,rfl⟩
  | succ i =>
   rw [Qe] at e ⊢
   exact Qml tl i t e
section
variable {B:Bs} {H H1 H2:Hp} {G G1 G2:Addr → Prop} {σ σ2:St} {ρ ρi:En} {js:List (Option Nat)}
theorem Qxb {s:Slot} {t:T} (h:s.lend.prv = some t):s.prv = some t:=by cases s <;> exact h
theorem FI.cap (F:FI B H G σ ρ) (hj:Qch js = true):FI (Qan H G (Qfa js σ) (Qdq js ρ)) H G (Qfa js σ) (Qdq js ρ):=by
 have pv:∀ k a,PrvAt (Qfa js σ) (Qdq js ρ) k a → ∃ j,js[k]? = some (some j) ∧ PrvAt σ ρ j a:=fun k a h=>by
  obtain ⟨⟨t,e⟩,q⟩:=h
  rw [Qc8] at e
  rw [Qh6] at q
  cases hk:js[k]? with
  | none=>rw [hk] at e; cases e
  | some o =>
   cases o with
   | none=>rw [hk] at e; cases e
   | some j =>
    rw [hk] at e q
    refine ⟨j,rfl,⟨t,Qxb e⟩,?_⟩
    replace q:some (σ[j]?.join) = some (some (.ref a)):=q
    cases hs:σ[j]? with
    | none=>rw [hs] at q; cases q
    | some w=>rw [hs] at q; exact q
 refine ⟨by unfold Qfa Qdq; rw [List.length_map,List.length_map],fun k=>?_,fun i k a h1 h2=>?_,F.prv,fun _ _ _ _ e=>e,fun _ o e=>⟨o,e⟩,fun _ h=>.inr h,fun _ h=>h,fun _ _ h=>h,fun _ h=>h,fun _ h=>.inl h,fun b h=>let ⟨xs,e,_⟩:=F.prv b h; ⟨_,e⟩⟩
 ·rw [Qc8]
  cases hk:js[k]? with
  | none=>trivial
  | some o =>
   cases o with
   | none=>trivial
   | some j =>
    have q:=F.slot j
    have gt:∀ v,σ[j]? = some (some v) → (Qfa js σ)[k]? = some (some v):=fun v e=>by
     rw [Qh6,hk]
     show some (σ[j]?.join) = _
     rw [e]
     rfl
    show Qkp H G (Qfa js σ) k (Qa ρ j).lend
    cases hs:Qa ρ j with
    | un=>trivial
    | pin a=>trivial
    | fx t=>rw [hs] at q; obtain ⟨v,o,e,_,i⟩:=q; exact ⟨_,gt _ e,i⟩
    | fz t=>rw [hs] at q; obtain ⟨v,e,i⟩:=q; exact ⟨v,gt _ e,i⟩
    | ow t=>rw [hs] at q; obtain ⟨v,e,i⟩:=q; exact ⟨v,gt _ e,i⟩
    | ml t=>rw [hs] at q; obtain ⟨v,e,i⟩:=q; exact ⟨v,gt _ e,i⟩
    | ro t=>rw [hs] at q; obtain ⟨v,e,i⟩:=q; exact ⟨v,gt _ e,i⟩
 ·obtain ⟨j1,e1,p1⟩:=pv i a h1
  obtain ⟨j2,e2,p2⟩:=pv k a h2
  have ej:=F.apart j1 j2 a p1 p2
  subst ej
  exact Qkx hj i k j1 e1 e2
theorem FI.uncap (F:FI B H G σ ρ) (hj:Qch js = true) (I:FI (Qan H G (Qfa js σ) (Qdq js ρ)) H2 G2 σ2 ρi) (hk:Qe1 (Qdq js ρ) ρi = true):FI B H2 G2 σ (Qkn js ρi ρ):=by
 have Fc:=F.cap hj
 have sm:=Fc.same I
 have noO:∀ a,¬ OwA (Qfa js σ) (Qdq js ρ) a:=fun a h=>by
  obtain ⟨k,t,e,_⟩:=h
  rw [Qc8] at e
  cases hk:js[k]? with
  | none=>rw [hk] at e; cases e
  | some o =>
   cases o with
   | none=>rw [hk] at e; cases e
   | some j =>
    rw [hk] at e
    have e:(Qa ρ j).lend = .ow t:=e
    cases hs:Qa ρ j <;> rw [hs] at e <;> cases e
 have isM:∀ a,MlA (Qfa js σ) (Qdq js ρ) a → ∃ (k j:Nat) (t:T),js[k]? = some (some j) ∧ (Qa ρ j = .ow t ∨ Qa ρ j = .ml t) ∧ σ[j]? = some (some (.ref a)):=fun a h=>by
  obtain ⟨k,t,e,q⟩:=h
  rw [Qc8] at e
  rw [Qh6] at q
  cases hk:js[k]? with
  | none=>rw [hk] at e; cases e
  | some o =>
   cases o with
   | none=>rw [hk] at e; cases e
   | some j =>
    rw [hk] at e q
    have e:(Qa ρ j).lend = .ml t:=e
    refine ⟨k,j,t,hk,?_,?_⟩
    ·cases hs:Qa ρ j <;> rw [hs] at e <;> cases e
     ·exact .inl rfl
     ·exact .inr rfl
    ·replace q:some (σ[j]?.join) = some (some (.ref a)):=q
     cases hs:σ[j]? with
     | none=>rw [hs] at q; cases q
     | some w=>rw [hs] at q; exact q
 -- a list of the frame that the block can't change
 have stay:∀ j a t,(Qa ρ j).prv = some t → σ[j]? = some (some (.ref a)) → OwnAt H G a t → ((∀ t,Qa ρ j ≠ .ow t) ∧ (∀ t,Qa ρ j ≠ .ml t) ∨ js.idxOf? (some j) = none) → OwnAt H2 G2 a t:=fun j a t e s o h=>by
  refine o.mono sm fun u eu=>I.chg a u (noO a) (fun z=>?_) eu
  obtain ⟨k,j',t',e1,hs,e2⟩:=isM a z
  have ej:j' = j:=F.apart j' j a ⟨⟨t',by rcases hs with hs | hs <;> rw [hs] <;> rfl⟩,e2⟩ ⟨⟨t,e⟩,s⟩
  subst ej
  rcases h with ⟨h1,h2⟩ | h
  ·rcases hs with hs | hs
   ·exact h1 _ hs
   ·exact h2 _ hs
  ·exact Qxa h e1
 -- one that it may
 have lent:∀ j a t k,(Qa ρ j = .ow t ∨ Qa ρ j = .ml t) → σ[j]? = some (some (.ref a)) → js.idxOf? (some j) = some k → ∃ t',Qa ρi k = .ml t' ∧ OwnAt H2 G2 a t':=fun j a t k hs s hx=>by
  have e1:=Q0e hx
  have e0:Qa (Qdq js ρ) k = .ml t:=by
   rw [Qc8,e1]
   show (Qa ρ j).lend = _
   rcases hs with hs | hs <;> rw [hs] <;> rfl
  obtain ⟨t',e2⟩:=Qml hk k t e0
  have q:=I.slot k
  rw [e2] at q
  obtain ⟨a',q1,_,q3⟩:=q
  obtain ⟨_,q4⟩:=I.fix k a' ⟨⟨t',.inl e2⟩,q1⟩
  rw [Qh6,e1] at q4
  replace q4:some (σ[j]?.join) = some (some (.ref a')):=q4
  rw [s] at q4
  have q5:a = a':=by
   have:=Option.some.inj q4
   have:=Option.some.inj (show some (V.ref a) = some (V.ref a') from this)
   cases this
   rfl
  subst q5
  exact ⟨t',e2,q3⟩
 have kd:∀ j s',Qa (Qkn js ρi ρ) j = s' → (s' = Qa ρ j ∨ ∃ t,s' = (Qa ρ j).put t):=fun j s' h=>by
  rw [Qf8] at h
  rcases Qc9 js ρi j (Qa ρ j) with z | ⟨k,t,_,_,z⟩
  ·rw [z] at h; exact .inl h.symm
  ·rw [z] at h; exact .inr ⟨t,h.symm⟩
 have pv:∀ j a,PrvAt σ (Qkn js ρi ρ) j a → PrvAt σ ρ j a:=fun j a h=>by
  obtain ⟨⟨u,e⟩,q⟩:=h
  refine ⟨?_,q⟩
  rcases kd j _ rfl with z | ⟨t,z⟩
  ·rw [z] at e; exact ⟨u,e⟩
  ·rw [z] at e; exact Qnl e
 exact {
  len:=by unfold Qkn; rw [Qjf]; exact F.len
  slot:=fun j=>by
   have q:=F.slot j
   have bc:=Qc9 js ρi j (Qa ρ j)
   rw [Qf8]
   cases hs:Qa ρ j with
   | un =>
    rw [hs] at bc
    rcases bc with e | ⟨k,t,_,_,e⟩ <;> rw [e] <;> trivial
   | pin a =>
    rw [hs] at q bc
    rcases bc with e | ⟨k,t,_,_,e⟩ <;> rw [e] <;> exact q
   | fz t =>
    rw [hs] at q bc
    obtain ⟨v,e1,e2⟩:=q
    rcases bc with e | ⟨k,t,_,_,e⟩ <;> rw [e] <;> exact ⟨v,e1,e2.mono sm⟩
   | fx t =>
    rw [hs] at q bc
    obtain ⟨v,o,e1,e3,e2⟩:=q
    rcases bc with e | ⟨k,t,_,_,e⟩ <;> rw [e] <;> exact ⟨v,o,e1,sm _ _ e3,e2.mono sm⟩
   | ro t =>
    rw [hs] at q bc
    obtain ⟨a,e1,g,o⟩:=q
    have o':=stay j a t (by rw [hs]; rfl) e1 o (.inl ⟨fun t z=>(by rw [hs] at z; cases z),fun t z=>(by rw [hs] at z; cases z)⟩)
    rcases bc with e | ⟨k,t,_,_,e⟩ <;> rw [e] <;> exact ⟨a,e1,I.gg a g,o'⟩
   | ow t =>
    rw [hs] at q bc
    obtain ⟨a,e1,g,o⟩:=q
    cases hp:js.idxOf? (some j) with
    | none =>
     have o':=stay j a t (by rw [hs]; rfl) e1 o (.inr hp)
     rcases bc with e | ⟨k,t',h,_,e⟩
     ·rw [e]; exact ⟨a,e1,I.gg a g,o'⟩
     ·rw [hp] at h; cases h
    | some k =>
     obtain ⟨t',ef,o'⟩:=lent j a t k (.inl hs) e1 hp
     have e:Qg3 js ρi j (.ow t) = .ow t':=by unfold Qg3; rw [hp]; simp only [ef]; rfl
     rw [e]
     exact ⟨a,e1,I.gg a g,o'⟩
   | ml t =>
    rw [hs] at q bc
    obtain ⟨a,e1,g,o⟩:=q
    cases hp:js.idxOf? (some j) with
    | none =>
     have o':=stay j a t (by rw [hs]; rfl) e1 o (.inr hp)
     rcases bc with e | ⟨k,t',h,_,e⟩
     ·rw [e]; exact ⟨a,e1,I.gg a g,o'⟩
     ·rw [hp] at h; cases h
    | some k =>
     obtain ⟨t',ef,o'⟩:=lent j a t k (.inr hs) e1 hp
     have e:Qg3 js ρi j (.ml t) = .ml t':=by unfold Qg3; rw [hp]; simp only [ef]; rfl
     rw [e]
     exact ⟨a,e1,I.gg a g,o'⟩
  apart:=fun i j a h1 h2=>F.apart i j a (pv i a h1) (pv j a h2)
  prv:=I.prv
  chg:=fun b o h1 h2 e=>I.chg b o (noO b) (fun z=>by
   obtain ⟨k,j,t,_,hs,q⟩:=isM b z
   rcases hs with hs | hs
   ·rcases F.newO b ⟨j,t,hs,q⟩ with y | y
    ·rw [e] at y; cases y
    ·exact h1 y
   ·exact h2 (F.newM b ⟨j,t,hs,q⟩)) (F.chg b o h1 h2 e)
  keep:=fun b o e=>by
   obtain ⟨o1,e1⟩:=F.keep b o e
   exact I.keep b o1 e1
  newO:=fun a h=>by
   obtain ⟨j,t,e,s⟩:=h
   rcases kd j _ e with z | ⟨u,z⟩
   ·exact F.newO a ⟨j,t,z.symm,s⟩
   ·cases hs:Qa ρ j <;> rw [hs] at z <;> cases z
    exact F.newO a ⟨j,_,hs,s⟩
  newM:=fun a h=>by
   obtain ⟨j,t,e,s⟩:=h
   rcases kd j _ e with z | ⟨u,z⟩
   ·exact F.newM a ⟨j,t,z.symm,s⟩
   ·cases hs:Qa ρ j <;> rw [hs] at z <;> cases z
    exact F.newM a ⟨j,_,hs,s⟩
  fix:=fun j a h=>by
   obtain ⟨⟨t,e⟩,s⟩:=h
   refine F.fix j a ⟨?_,s⟩
   rcases e with e | e | e
   ·rcases kd j _ e with z | ⟨u,z⟩
    ·exact ⟨t,.inl z.symm⟩
    ·cases hs:Qa ρ j <;> rw [hs] at z <;> cases z
     exact ⟨_,.inl rfl⟩
   ·rcases kd j _ e with z | ⟨u,z⟩
    ·exact ⟨t,.inr (.inl z.symm)⟩
    ·cases hs:Qa ρ j <;> rw [hs] at z <;> cases z
     exact ⟨_,.inr (.inl rfl)⟩
   ·rcases kd j _ e with z | ⟨u,z⟩
    ·exact ⟨t,.inr (.inr z.symm)⟩
    ·cases hs:Qa ρ j <;> rw [hs] at z <;> cases z
     exact ⟨_,.inr (.inr rfl)⟩
  gg:=fun b h=>I.gg b (F.gg b h)
  gn:=fun b h=>by
   rcases I.gn b h with z | z
   ·exact F.gn b z
   ·exact .inr (F.free z)
  bp:=F.bp }
end
noncomputable def tCs (p:Pr) (cs:Es):TT:=fun σ H Q=>∃ G ρ,FI (Qan H G σ ρ) H G σ ρ ∧ Fin p (Qan H G σ ρ) σ (evC p.cf cs ρ) fun b ρ1=>∀ H1 G1,FI (Qan H G σ ρ) H1 G1 σ ρ1 → Q b H1
section
variable {X:Cx} {p:Pr} {a:Expr} {a':E}
theorem Qbu:QC X [] (tCs p .nil):=q_c0.weak fun σ H Q ⟨G,ρ,F,h⟩=>by unfold evC at h; exact h H G F
end
noncomputable abbrev Pr.calm (p:Pr):Pr:={ p with R:=fun _ _ _ _=>False }
theorem Qr9 {α β:Type} {o:Out α} {k:α → En → Out β} {b:β} {ρ:En} (h:o.bind k = .ok b ρ):∃ a ρ1,o = .ok a ρ1 ∧ k a ρ1 = .ok b ρ:=by
 cases o with
 | ok a ρ1=>exact ⟨a,ρ1,rfl,h⟩
 | xn x ρ1=>cases h
 | no=>cases h
theorem FI.under {B:Bs} {H:Hp} {G:Addr → Prop} {σ:St} {ρ:En} (F:FI B H G σ ρ) {l:Addr} {ys:List V} (g:G l) (np:∀ k,¬ PrvAt σ ρ k l) (hb:B.H l = none):FI B (upd H l (.lst ys)) G σ ρ ∧ Same (dls H G) (dls (upd H l (.lst ys)) G):=by
 have sm:Same (dls H G) (dls (upd H l (.lst ys)) G):=fun b o eb=>by
  obtain ⟨n,eb⟩:=Q3 eb
  rw [Qbc n,Qv (fun (z:b = l)=>n (by rw [z]; exact g))]
  exact eb
 refine ⟨{ F with
  slot:=fun j=>Qhe (F.slot j) sm fun b o hb1 hb2 eb=>?_
  prv:=fun b hb=>?_
  chg:=fun b o h1 h2 eb=>?_
  keep:=fun b o eb=>?_ },sm⟩
 ·have nb:b ≠ l:=fun z=>np j ⟨hb1,z ▸ hb2⟩
  exact ⟨by rw [Qv nb]; exact eb,(PrvAt.at F ⟨hb1,hb2⟩).1⟩
 ·by_cases h:b = l
  ·exact ⟨.lst ys,by rw [h,Qi],rfl⟩
  ·rw [Qv h]; exact F.prv b hb
 ·have nb:b ≠ l:=fun z=>by rw [z,hb] at eb; cases eb
  rw [Qv nb]
  exact F.chg b o h1 h2 eb
 ·by_cases h:b = l
  ·exact ⟨_,by rw [h,Qi]⟩
  ·rw [Qv h]; exact F.keep b o eb
theorem Q0f {p:Pr} {js:List (Option Nat)} {w:W} {tg:Tg} {cs:Es} {e':E} {σ:St} {H:Hp} {Q:VK} (h:tE p (.comp w js tg cs e') σ H Q):Qvg (tW p w) js (tG tg) (tCs p.calm cs) (tE p.calm e') σ H Q:=by
  obtain ⟨G,ρ,F,h⟩:=h
  unfold evE at h
  refine ⟨G,ρ,F,h.bind.imp fun its ρ1 h1=>?_⟩
  obtain ⟨ts,lk⟩:=its
  cases lk with
  | some _=>exact False.elim h1
  | none =>
   refine ⟨rfl,fun J H1 G1 Ok F1 wk stab l hl=>?_⟩
   replace wk:WkR J H1 G1 Ok ts:=wk
   replace h1:Fin p (Qan H G σ ρ) σ (match Qe0 tg (evC p.cf cs) (evE p.cf e') ts [] (Qdq js ρ1) with
    | .ok us ρi=>if Qe1 (Qdq js ρ1) ρi = true ∧ Qch js = true then Out.ok (PV.ow (.lst us)) (Qkn js ρi ρ1) else .no
    | _=>.no) _:=h1
   cases ec:Qe0 tg (evC p.cf cs) (evE p.cf e') ts [] (Qdq js ρ1) with
   | no=>rw [ec] at h1; exact False.elim h1
   | xn x ρx=>rw [ec] at h1; exact False.elim h1
   | ok tsF ρF =>
    rw [ec] at h1
    by_cases hz:Qe1 (Qdq js ρ1) ρF = true ∧ Qch js = true
    ·simp only [if_pos hz] at h1
     obtain ⟨hkept,hap⟩:=hz
     have Fc:=F1.cap hap
     refine ⟨fun i m ys σ2 H2=>i + m = ts.length ∧ ∃ G2 ρi acc,FI (Qan H1 G1 (Qfa js σ) (Qdq js ρ1)) H2 G2 σ2 ρi ∧ G2 l ∧ (∀ k,¬ PrvAt σ2 ρi k l) ∧ H2 l = some (.lst ys) ∧ IsL (dls H2 G2) ys acc ∧ acc.length ≤ 100000 ∧
      Qe0 tg (evC p.cf cs) (evE p.cf e') (ts.drop i) acc ρi = .ok tsF ρF,⟨ts.length,Nat.zero_add _,_,_,[],Fc.addG hl (Same.upd hl) Qi rfl,.inr rfl,fun k hk=>?_,Qi,.nil,Nat.zero_le _,ec⟩,?_⟩
     ·obtain ⟨_,t,ob,ea,_⟩:=PrvAt.at Fc hk
      rw [hl] at ea
      cases ea
     rintro i m ys σ2 H2 ⟨him,G2,ρi,acc,I2,gl,np,el,il,zl,cl⟩
     have ok2:Ok H2:=stab H2 G2 (Fc.same I2)
     by_cases hlt:i < ts.length
     ·refine .inr ⟨wk.go i H2 hlt ok2,fun x H3 y=>?_⟩
      obtain ⟨s3,t,et,ix⟩:=wk.yld i H2 x H3 hlt ok2 y
      have I3:=I2.grow s3
      have ix3:=ix G2 I2.prv (Fc.same I2)
      rw [List.drop_eq_getElem_cons hlt] at cl
      have et':ts[i] = t:=by rw [List.getElem?_eq_getElem hlt] at et; exact Option.some.inj et
      rw [et'] at cl
      unfold Qe0 at cl
      cases est:Qca tg t ρi with
      | none=>rw [est] at cl; cases cl
      | some ρ4 =>
       rw [est] at cl
       replace cl:(evC p.cf cs ρ4).bind _ = .ok tsF ρF:=cl
       obtain ⟨b,ρ5,eb,cl⟩:=Qr9 cl
       refine ⟨_,G2,ρi,t,ρ4,I3,ix3,est,fun σ4 I4 old=>?_⟩
       have np4:∀ k,¬ PrvAt σ4 ρ4 k l:=fun k hk=>np k (old k l hk)
       refine ⟨G2,ρ4,I4.self,?_⟩
       rw [show p.calm.cf = p.cf from rfl,eb]
       intro H5 G5 I5
       have np5:=I4.nobody I5 (s3 _ _ el) np4
       have I5':=I4.trans I5
       have el5:H5 l = some (.lst ys):=I5.chg l _ (fun z=>by obtain ⟨j,z⟩:=OwA.prv z; exact np4 j z) (fun z=>by obtain ⟨j,z⟩:=MlA.prv z; exact np4 j z) (s3 _ _ el)
       have il5:IsL (dls H5 G5) ys acc:=(il.mono (Qa8 s3)).mono (I4.same I5)
       cases b with
       | false =>
        simp only [Bool.false_eq_true,if_false] at cl ⊢
        exact ⟨m - 1,by omega,by omega,G5,ρ5,acc,I5',I5.gg l gl,np5,el5,il5,zl,cl⟩
       | true =>
        simp only [if_true] at cl ⊢
        obtain ⟨r,ρ6,er,cl⟩:=Qr9 cl
        refine ⟨G5,ρ5,I5'.self,?_⟩
        rw [show p.calm.cf = p.cf from rfl,er]
        intro v H6 G6 I6 r6
        cases ef:frz r with
        | none=>rw [ef] at cl; cases cl
        | some t6 =>
         rw [ef] at cl
         replace cl:(if acc.length < 100000 then Qe0 tg (evC p.cf cs) (evE p.cf e') (ts.drop (i + 1)) (acc ++ [t6]) ρ6 else .no) = .ok tsF ρF:=cl
         by_cases za:acc.length < 100000
         ·rw [if_pos za] at cl
          have np6:=I5'.nobody I6 el5 np5
          have el6:H6 l = some (.lst ys):=I6.chg l _ (fun z=>by obtain ⟨j,z⟩:=OwA.prv z; exact np5 j z) (fun z=>by obtain ⟨j,z⟩:=MlA.prv z; exact np5 j z) el5
          have il6:IsL (dls H6 G6) ys acc:=il5.mono (I5'.same I6)
          obtain ⟨G7,I7,i7,s7⟩:=PVR.lay (B:=Qan H5 G5 σ4 ρ5) r6 I6 ef
          have g7:G7 l:=I7.gg l (I5.gg l gl)
          have I7':=I5'.trans I7
          have hb:(Qan H1 G1 (Qfa js σ) (Qdq js ρ1)).H l = none:=hl
          obtain ⟨I8,s8⟩:=I7'.under (ys:=ys ++ [v]) g7 np6 hb
          have zy:=il6.length
          refine ⟨el6,by rw [zy,sizeLine_eq]; omega,m - 1,by omega,by omega,G7,ρ6,acc ++ [t6],I8,g7,np6,Qi,((il6.mono (Qc4 s7)).append (.one i7)).mono s8,by rw [List.length_append,List.length_singleton]; omega,cl⟩
         ·rw [if_neg za] at cl; cases cl
     ·have e0:ts.drop i = []:=List.drop_of_length_le (by omega)
      rw [e0] at cl
      cases cl
      refine .inl ⟨wk.stop i H2 (by omega) ok2,h1 _ H2 G2 (F1.uncap hap I2 hkept) ?_⟩
      refine ⟨l,rfl,F1.free hl,gl,fun k hk=>?_,.lst ys,el,zl,il⟩
      obtain ⟨⟨u,eu⟩,q⟩:=hk
      rw [Qf8] at eu
      have:∃ u,(Qa ρ1 k).prv = some u:=by
       rcases Qc9 js ρF k (Qa ρ1 k) with z | ⟨_,t,_,_,z⟩
       ·rw [z] at eu; exact ⟨u,eu⟩
       ·rw [z] at eu; exact Qnl eu
      obtain ⟨_,t,ob,ea,_⟩:=PrvAt.at F1 ⟨this,q⟩
      rw [hl] at ea
      cases ea
    ·simp only [if_neg hz] at h1
     exact False.elim h1
theorem Q5j {X:Cx} {p:Pr} {tgE elt iter:Expr} {ifs:List Expr} {scope:Scope} {pos:Pos} {N:List Str} {js:List (Option Nat)} {w:W} {tg:Tg} {cs:Es} {e':E} (hcalm:X.calm = true)
  (hi:QI X tgE iter (tW p w)) (hg:∀ s H fp,QG (Qa4 X scope N s H fp) tgE (tG tg)) (hc:∀ s H fp,QC (Qa4 X scope N s H fp) ifs (tCs p.calm cs)) (he:∀ s H fp,QE (Qa4 X scope N s H fp) elt (tE p.calm e'))
  (hk:scope.kind = .function) (h1:scOk X scope = true) (h2:Ql9 X scope N js = true) (hs:∀ x,foldedSetIterable iter X.env x = pure x):QE X (.ListComp elt [⟨tgE,iter,ifs,0⟩] scope pos) (tE p (.comp w js tg cs e')) :=
 (Q4a N js hcalm hi hg hc he hk h1 h2 hs).weak fun σ H Q h=>Q0f h
theorem QS.weak {X:Cx} {e:Stmt} {t t':TS} (h:QS X e t) (q:∀ D σ H,t' D σ H → t D σ H):QS X e t':=⟨fun pins s σ H D I z=>h.h pins s σ H D I (q _ _ _ z)⟩
theorem QB.weak {X:Cx} {e:List Stmt} {t t':TS} (h:QB X e t) (q:∀ D σ H,t' D σ H → t D σ H):QB X e t':=⟨fun pins s σ H D I z=>h.h pins s σ H D I (q _ _ _ z)⟩
noncomputable def SFin (p:Pr) (B:Bs) (H:Hp) (G:Addr → Prop) (D:Ends):SO → Prop
 | .nx ρ1=>∀ σ1 H1 G1,FI B H1 G1 σ1 ρ1 → Same (dls H G) (dls H1 G1) → D.nx σ1 H1
 | .bk ρ1=>∀ σ1 H1 G1,FI B H1 G1 σ1 ρ1 → Same (dls H G) (dls H1 G1) → D.bk σ1 H1
 | .ct ρ1=>∀ σ1 H1 G1,FI B H1 G1 σ1 ρ1 → Same (dls H G) (dls H1 G1) → D.ct σ1 H1
 | .rt r ρ1=>∀ v σ1 H1 G1,FI B H1 G1 σ1 ρ1 → PVR B.H H1 G1 σ1 ρ1 v r → D.rt v H1
 | .xn x ρ1=>∀ cls dx σ1 H1 G1,FI B H1 G1 σ1 ρ1 → Qzu p.mg H1 x cls dx → p.R cls dx σ1 H1
 | .no=>False
noncomputable def tS (p:Pr) (s:S):TS:=fun D σ H=>∃ B G ρ,FI B H G σ ρ ∧ (∀ a,¬ B.O a) ∧ SFin p B H G D (exS p.cf s ρ)
section
variable {p:Pr} {B:Bs} {H H1:Hp} {G G1:Addr → Prop} {D:Ends} {σ:St} {ρ ρ1:En} {α:Type}
theorem SFin.late {o:SO} (h:SFin p B H G D o) (s:Same (dls H G) (dls H1 G1)):SFin p B H1 G1 D o:=by
 cases o with
 | nx ρ1=>exact fun σ1 H2 G2 F q=>h σ1 H2 G2 F (s.trans q)
 | bk ρ1=>exact fun σ1 H2 G2 F q=>h σ1 H2 G2 F (s.trans q)
 | ct ρ1=>exact fun σ1 H2 G2 F q=>h σ1 H2 G2 F (s.trans q)
 | rt r ρ1=>exact h
 | xn x ρ1=>exact h
 | no=>exact h
theorem Qf9 {o:Out α} {k:α → En → SO} (h:SFin p B H G D (ofO o k)):Fin p B σ o fun a ρ1=>SFin p B H G D (k a ρ1):=by
 cases o with
 | ok a ρ1=>exact h
 | xn x ρ1=>exact fun cls dx H1 G1 F xr=>h cls dx σ H1 G1 F xr
 | no=>exact h
theorem Qga {o:Option α} {k:α → SO} (h:SFin p B H G D (Qah o k)):∃ a,o = some a ∧ SFin p B H G D (k a):=by
 cases o with
 | none=>exact False.elim h
 | some a=>exact ⟨a,rfl,h⟩
theorem PVR.base {H2:Hp} {G2:Addr → Prop} {ρ2:En} {v:V} {r:PV} (h:PVR H1 H2 G2 σ ρ2 v r) (F:FI B H1 G1 σ ρ1):PVR B.H H2 G2 σ ρ2 v r:=by
 cases r with
 | fz t=>exact h
 | sl i=>exact h
 | ow t =>
  obtain ⟨a,rfl,n,g⟩:=h
  exact ⟨a,rfl,F.free n,g⟩
theorem Qg4 {e:E} {Q:VK} {K:PV → En → SO} (F:FI B H G σ ρ) (h:SFin p B H G D (ofO (evE p.cf e ρ) K)) (q:∀ r ρ2 v H2 G2,SFin p B H2 G2 D (K r ρ2) → FI B H2 G2 σ ρ2 → FI (Qan H G σ ρ) H2 G2 σ ρ2 → PVR B.H H2 G2 σ ρ2 v r → Same (dls H G) (dls H2 G2) → Q v H2):tE p e σ H Q :=
 Qo2 F (Qf9 h) fun r ρ2 v H2 G2 k F2 F2' r2=>q r ρ2 v H2 G2 (k.late (F.same F2')) F2 F2' (r2.base F) (F.same F2')
theorem Qxc {e:E} {Q:Bool → Hp → Prop} {K:Bool → En → SO} (F:FI B H G σ ρ) (h:SFin p B H G D (ofO (Qaj (evE p.cf e ρ)) K)) (q:∀ b ρ2 H2 G2,SFin p B H2 G2 D (K b ρ2) → FI B H2 G2 σ ρ2 → Same (dls H G) (dls H2 G2) → Q b H2):tT p e σ H Q :=
 Qwt F (Qf9 h) fun b ρ2 H2 G2 k F2 F2'=>q b ρ2 H2 G2 (k.late (F.same F2')) F2 (F.same F2')
end
section
variable {X:Cx} {p:Pr} {e a b:Expr} {e' a' b' c':E} {st:Stmt} {sts:List Stmt} {s s1 s2:S} {pos p1 p2:Pos} {x:Str}
theorem Qcc:QB X [] (tS p .nil):=Qqf.weak fun D σ H ⟨B,G,ρ,F,hO,h⟩=>h σ H G F (Same.refl _)
theorem Q5k {D:Ends} {σ:St} {H:Hp} (h:tS p (.seq s1 s2) D σ H):Qur (tS p s1) (tS p s2) D σ H:=by
 obtain ⟨B,G,ρ,F,hO,h⟩:=h
 refine ⟨B,G,ρ,F,hO,?_⟩
 unfold exS at h
 cases e:exS p.cf s1 ρ with
 | nx ρ1=>rw [e] at h; exact fun σ1 H1 G1 F1 q=>⟨B,G1,ρ1,F1,hO,SFin.late (p:=p) (D:=D) h q⟩
 | bk ρ1=>rw [e] at h; exact h
 | ct ρ1=>rw [e] at h; exact h
 | rt r ρ1=>rw [e] at h; exact h
 | xn x ρ1=>rw [e] at h; exact h
 | no=>rw [e] at h; exact h
theorem Qt (h1:QS X st (tS p s1)) (h2:QB X sts (tS p s2)):QB X (st :: sts) (tS p (.seq s1 s2)):=(Qdp h1 h2).weak fun D σ H h=>Q5k h
theorem Qy (h1:QS X st (tS p s1)):QB X [st] (tS p s1):=Qha h1
theorem Q5l (he:QE X e (tE p e')) (hs:swapsWith e none pos.line X.env = pure false):QS X (.Expr e pos) (tS p (.expr e')):=(Qhb he hs).weak fun D σ H ⟨B,G,ρ,F,hO,h⟩=>by
 unfold exS at h
 exact Qg4 F h fun r ρ2 v H2 G2 k F2 _ _ sm=>k σ H2 G2 F2 (Same.refl _)
theorem Qap (he:QE X e (tE p e')):QS X (.Return (some e) pos) (tS p (.ret e')):=(Qkc he).weak fun D σ H ⟨B,G,ρ,F,hO,h⟩=>by
 unfold exS at h
 exact Qg4 F h fun r ρ2 v H2 G2 k F2 _ pv _=>k v σ H2 G2 F2 pv
theorem Qet {c:Expr} {bs cs:List Stmt} (hc:QT X c (tT p c')) (ha:QB X bs (tS p s1)) (hb:QB X cs (tS p s2)):QS X (.If c bs cs pos) (tS p (.ite c' s1 s2)):=(Qv1 hc ha hb).weak fun D σ H ⟨B,G,ρ,F,hO,h⟩=>by
 unfold exS at h
 refine Qxc F h fun k ρ2 H2 G2 h2 F2 sm=>?_
 cases k with
 | true=>exact ⟨B,G2,ρ2,F2,hO,h2⟩
 | false=>exact ⟨B,G2,ρ2,F2,hO,h2⟩
theorem Q0g {B:Bs} {H:Hp} {G:Addr → Prop} {D:Ends} {σ:St} {ρ:En} {i:Nat} {r:PV} {v:V} (F:FI B H G σ ρ) (pv:PVR B.H H G σ ρ v r) (h:SFin p B H G D (Qlq i r ρ)):D.nx (σ.set i (some v)) H:=by
 cases r with
 | sl j=>exact False.elim h
 | fz t =>
  obtain ⟨ρ',e,k⟩:=Qga h
  exact k _ H G (F.setS e pv.is) (Same.refl _)
 | ow t =>
  obtain ⟨ρ',e,k⟩:=Qga h
  exact k _ H G (F.setOw rfl e pv) (Same.refl _)
theorem Qjg {i:Nat} (h:QS X st (Qm2 (tE p e') (Qfz i))):QS X st (tS p (.set i e')):=h.weak fun D σ H ⟨B,G,ρ,F,hO,h⟩=>by
 unfold exS at h
 exact Qg4 F h fun r ρ2 v H2 G2 k F2 _ pv _=>Q0g F2 pv k
theorem Qde {i:Nat} (h:QS X st (Qm2 (tE p e') (Qfz i))):QS X st (tS p (.setF i e')):=h.weak fun D σ H ⟨B,G,ρ,F,hO,h⟩=>by
 unfold exS at h
 refine Qg4 F h fun r ρ2 v H2 G2 k F2 _ pv _=>?_
 cases ef:frz r with
 | none=>rw [ef] at k; exact False.elim k
 | some t =>
  rw [ef] at k
  obtain ⟨ρ',e,k⟩:=Qga k
  obtain ⟨G3,F3,i3,s3⟩:=PVR.lay pv F2 ef
  exact k _ H2 G3 (F3.setS e i3) (Qc4 s3)
theorem Q2e {is:List Nat} (h:QS X st (Qm2 (tE p e') (tG (.tp is)))):QS X st (tS p (.unp is e')):=h.weak fun D σ H ⟨B,G,ρ,F,hO,h⟩=>by
 unfold exS at h
 refine Qg4 F h fun r ρ2 v H2 G2 k F2 _ pv _=>?_
 cases r with
 | ow t=>exact False.elim k
 | sl i=>exact False.elim k
 | fz t =>
  cases t <;> first | exact False.elim k | skip
  obtain ⟨ρ',e,k⟩:=Qga k
  exact ⟨B,G2,ρ2,_,ρ',F2,pv.is,e,fun σ' F' _=>k σ' H2 G2 F' (Same.refl _)⟩
end
section
variable {X:Cx} {p:Pr} {e a b:Expr} {e' a' b' c':E} {st:Stmt} {sts:List Stmt} {s s1 s2:S} {pos p1 p2:Pos} {x:Str} {K:PySem.W.Frag}
theorem FI.mutAt {B:Bs} {H:Hp} {G:Addr → Prop} {σ:St} {ρ:En} {i:Nat} (F:FI B H G σ ρ) (h:(Qa ρ i).mut = true):∃ a vs,σ[i]? = some (some (.ref a)) ∧ H a = some (.lst vs):=by
 have:∃ t,(Qa ρ i).prv = some (.lst t):=by
  cases hs:Qa ρ i <;> rw [hs] at h <;> first | (cases h; done) | skip
  all_goals (rename_i t; cases t <;> first | exact ⟨_,rfl⟩ | cases h)
 obtain ⟨t,e⟩:=this
 obtain ⟨a,s,_,o⟩:=F.prvAt e
 obtain ⟨vs,_,ea,_⟩:=o.lst_inv
 exact ⟨a,vs,s,ea⟩
theorem IsL.set {D:Hp} {v:V} {t:T} (hv:Is D v t):∀ {vs:List V} {ts:List T} (n:Nat),IsL D vs ts → IsL D (vs.set n v) (ts.set n t)
 | vs,[],n,r=>by rw [r.nil_inv]; exact .nil
 | vs,u :: us,0,r=>by
  obtain ⟨w,ws,rfl,a,q⟩:=r.cons_inv
  exact .cons hv q
 | vs,u :: us,n + 1,r=>by
  obtain ⟨w,ws,rfl,a,q⟩:=r.cons_inv
  exact .cons a (IsL.set hv n q)
theorem Qsa {i:Nat} (h:QS X st (Qof (tBM K "list" Qjs (Qg8 i) (Qey (tE p e') Qlm)))):QS X st (tS p (.app i e')):=h.weak fun D σ H ⟨B,G,ρ,F,hO,h⟩=>by
 unfold exS at h
 by_cases hm:(Qa ρ i).mut = true
 ·simp only [if_pos hm] at h
  obtain ⟨a,vs0,sa,ea⟩:=F.mutAt hm
  refine ⟨_,sa,.inl ⟨rfl,_,SqL.of ea⟩,?_⟩
  refine Qg4 F h fun r ρ2 v H2 G2 k F2 _ pv _=>?_
  cases ef:frz r with
  | none=>rw [ef] at k; exact False.elim k
  | some t =>
   rw [ef] at k
   obtain ⟨G3,F3,i3,s3⟩:=PVR.lay pv F2 ef
   have sl:=F3.slot i
   replace k:SFin p B H2 G2 D (match Qa ρ2 i with
    | .ow (.lst ts)=>if ts.length < 100000 then .nx (ρ2.set i (.ow (.lst (ts ++ [t])))) else .no
    | .ml (.lst ts)=>if ts.length < 100000 then .nx (ρ2.set i (.ml (.lst (ts ++ [t])))) else .no
    | _=>.no):=k
   have fin:∀ ts s',(Qa ρ2 i = .ow (.lst ts) ∧ s' = Slot.ow (.lst (ts ++ [t]))) ∨ (Qa ρ2 i = .ml (.lst ts) ∧ s' = Slot.ml (.lst (ts ++ [t]))) → SFin p B H2 G2 D (if ts.length < 100000 then .nx (ρ2.set i s') else .no) → Qjs (.ref a) [v] H2 fun _ H1=>D.nx σ H1:=fun ts s' hs k=>by
    have hp:(Qa ρ2 i).prv = some (.lst ts):=by rcases hs with ⟨h,_⟩ | ⟨h,_⟩ <;> rw [h] <;> rfl
    obtain ⟨a',sa',g,o1⟩:=F3.prvAt hp
    obtain ⟨vs,z,el,il⟩:=o1.lst_inv
    rw [sa] at sa'
    cases sa'
    by_cases zt:ts.length < 100000
    ·rw [if_pos zt] at k
     have lz:=il.length
     obtain ⟨F4,s4⟩:=F3.change hs sa (il.append (.one i3)) (by rw [List.length_append,List.length_singleton]; omega)
     exact ⟨a,vs,v,rfl,rfl,el,by rw [lz,sizeLine_eq]; omega,k σ _ G3 F4 ((Qc4 s3).trans s4)⟩
    ·rw [if_neg zt] at k; exact False.elim k
   cases hs:Qa ρ2 i with
   | un=>rw [hs] at k; exact False.elim k
   | pin _=>rw [hs] at k; exact False.elim k
   | fx _=>rw [hs] at k; exact False.elim k
   | fz t=>rw [hs] at k; exact False.elim k
   | ro t=>rw [hs] at k; exact False.elim k
   | ow u =>
    rw [hs] at k sl
    cases u <;> first | exact False.elim k | skip
    exact fin _ _ (.inl ⟨hs,rfl⟩) k
   | ml u =>
    rw [hs] at k sl
    cases u <;> first | exact False.elim k | skip
    exact fin _ _ (.inr ⟨hs,rfl⟩) k
 ·simp only [if_neg hm] at h
  exact False.elim h
theorem Q9l {i:Nat} (h:QS X st (Qof (tBM K "list" (Qf2 K) (Qg8 i) (Qey (tE p e') Qlm)))):QS X st (tS p (.ext i e')):=h.weak fun D σ H ⟨B,G,ρ,F,hO,h⟩=>by
 unfold exS at h
 by_cases hm:(Qa ρ i).mut = true
 ·simp only [if_pos hm] at h
  obtain ⟨a,vs0,sa,ea⟩:=F.mutAt hm
  refine ⟨_,sa,.inl ⟨rfl,_,SqL.of ea⟩,?_⟩
  refine Qg4 F h fun r ρ2 v H2 G2 k F2 _ pv _=>?_
  cases r with
  | ow t=>exact False.elim k
  | sl j=>exact False.elim k
  | fz t =>
   cases t <;> first | exact False.elim k | skip
   rename_i us
   have iv:=pv.is
   obtain ⟨b,ws,rfl,eb,rb⟩:=iv.tup_inv
   replace k:SFin p B H2 G2 D (match Qa ρ2 i with
    | .ow (.lst ts)=>if ts.length + us.length ≤ 100000 then .nx (ρ2.set i (.ow (.lst (ts ++ us)))) else .no
    | .ml (.lst ts)=>if ts.length + us.length ≤ 100000 then .nx (ρ2.set i (.ml (.lst (ts ++ us)))) else .no
    | _=>.no):=k
   have fin:∀ ts s',(Qa ρ2 i = .ow (.lst ts) ∧ s' = Slot.ow (.lst (ts ++ us))) ∨ (Qa ρ2 i = .ml (.lst ts) ∧ s' = Slot.ml (.lst (ts ++ us))) → SFin p B H2 G2 D (if ts.length + us.length ≤ 100000 then .nx (ρ2.set i s') else .no) → Qf2 K (.ref a) [.ref b] H2 fun _ H1=>D.nx σ H1:=fun ts s' hs k=>by
    have hp:(Qa ρ2 i).prv = some (.lst ts):=by rcases hs with ⟨h,_⟩ | ⟨h,_⟩ <;> rw [h] <;> rfl
    obtain ⟨a',sa',g,o1⟩:=F2.prvAt hp
    obtain ⟨vs,z,el,il⟩:=o1.lst_inv
    rw [sa] at sa'
    cases sa'
    by_cases zt:ts.length + us.length ≤ 100000
    ·rw [if_pos zt] at k
     have lz:=il.length
     have lb:=rb.length
     obtain ⟨F4,s4⟩:=F2.change hs sa (il.append rb) (by rw [List.length_append]; exact zt)
     exact ⟨a,b,vs,ws,rfl,rfl,el,SqT.of (Q3 eb).2,Qbh (by rw [lz,lb]; exact zt),k σ _ G2 F4 s4⟩
    ·rw [if_neg zt] at k; exact False.elim k
   cases hs:Qa ρ2 i with
   | un=>rw [hs] at k; exact False.elim k
   | pin _=>rw [hs] at k; exact False.elim k
   | fx _=>rw [hs] at k; exact False.elim k
   | fz t=>rw [hs] at k; exact False.elim k
   | ro t=>rw [hs] at k; exact False.elim k
   | ow u =>
    rw [hs] at k
    cases u <;> first | exact False.elim k | skip
    exact fin _ _ (.inl ⟨hs,rfl⟩) k
   | ml u =>
    rw [hs] at k
    cases u <;> first | exact False.elim k | skip
    exact fin _ _ (.inr ⟨hs,rfl⟩) k
 ·simp only [if_neg hm] at h
  exact False.elim h
theorem Qtw:QMt X "list.extend" Qm7:=⟨Qs8⟩
theorem Q5m {i:Nat} (h:QS X st (Qof (tBM K "list" Qm7 (Qg8 i) (Qey (tE p e') Qlm)))):QS X st (tS p (.extL i e')):=h.weak fun D σ H ⟨B,G,ρ,F,hO,h⟩=>by
 unfold exS at h
 by_cases hm:(Qa ρ i).mut = true
 ·simp only [if_pos hm] at h
  obtain ⟨a,vs0,sa,ea⟩:=F.mutAt hm
  refine ⟨_,sa,.inl ⟨rfl,_,SqL.of ea⟩,?_⟩
  refine Qg4 F h fun r ρ2 v H2 G2 k F2 _ pv _=>?_
  cases r with
  | fz t=>exact False.elim k
  | sl j=>exact False.elim k
  | ow t =>
   cases t <;> first | exact False.elim k | skip
   rename_i us
   obtain ⟨b,rfl,_,_,_,o0⟩:=pv
   obtain ⟨ws,_,eb,rb⟩:=o0.lst_inv
   replace k:SFin p B H2 G2 D (match Qa ρ2 i with
    | .ow (.lst ts)=>if ts.length + us.length ≤ 100000 then .nx (ρ2.set i (.ow (.lst (ts ++ us)))) else .no
    | _=>.no):=k
   cases hs:Qa ρ2 i with
   | un=>rw [hs] at k; exact False.elim k
   | pin _=>rw [hs] at k; exact False.elim k
   | fx _=>rw [hs] at k; exact False.elim k
   | fz t=>rw [hs] at k; exact False.elim k
   | ro t=>rw [hs] at k; exact False.elim k
   | ml t=>rw [hs] at k; exact False.elim k
   | ow u =>
    rw [hs] at k
    cases u <;> first | exact False.elim k | skip
    rename_i ts
    have hp:(Qa ρ2 i).prv = some (.lst ts):=by rw [hs]; rfl
    obtain ⟨a',sa',g,o1⟩:=F2.prvAt hp
    obtain ⟨vs,z,el,il⟩:=o1.lst_inv
    rw [sa] at sa'
    cases sa'
    replace k:SFin p B H2 G2 D (if ts.length + us.length ≤ 100000 then .nx (ρ2.set i (.ow (.lst (ts ++ us)))) else .no):=k
    by_cases zt:ts.length + us.length ≤ 100000
    ·rw [if_pos zt] at k
     have lz:=il.length
     have lb:=rb.length
     obtain ⟨F4,s4⟩:=F2.change (.inl ⟨hs,rfl⟩) sa (il.append rb) (by rw [List.length_append]; exact zt)
     exact ⟨a,b,vs,ws,rfl,rfl,el,eb,Qbh (by rw [lz,lb]; exact zt),k σ _ G2 F4 s4⟩
    ·rw [if_neg zt] at k; exact False.elim k
 ·simp only [if_neg hm] at h
  exact False.elim h
theorem Q2f {i:Nat} (h:QS X st (Qm2 (tE p e') (Q29 (Qg8 i) (tE p a') Qrs))):QS X st (tS p (.put i a' e')):=h.weak fun D σ H ⟨B,G,ρ,F,hO,h⟩=>by
 unfold exS at h
 refine Qg4 F h fun r ρ2 v H2 G2 k F2 _ pv _=>?_
 cases ef:frz r with
 | none=>rw [ef] at k; exact False.elim k
 | some t =>
  rw [ef] at k
  obtain ⟨G3,F3,i3,s3⟩:=PVR.lay pv F2 ef
  by_cases hm:(Qa ρ2 i).mut = true
  ·simp only [if_pos hm] at k
   obtain ⟨a,vs0,sa,ea⟩:=F3.mutAt hm
   refine ⟨_,sa,?_⟩
   refine Qg4 F3 (SFin.late k (Qc4 s3)) fun rk ρ4 w H4 G4 k4 F4 F4' pk sm=>?_
   have i4:=i3.mono sm
   cases rk with
   | ow t=>exact False.elim k4
   | sl j=>exact False.elim k4
   | fz u =>
    cases u <;> first | exact False.elim k4 | skip
    rename_i j
    obtain rfl:=pk.is.int_inv
    replace k4:SFin p B H4 G4 D (match Qa ρ4 i with
     | .ow (.lst ts)=>Qah (ixN ts.length j) fun n=>.nx (ρ4.set i (.ow (.lst (ts.set n t))))
     | .ml (.lst ts)=>Qah (ixN ts.length j) fun n=>.nx (ρ4.set i (.ml (.lst (ts.set n t))))
     | _=>.no):=k4
    have fin:∀ ts (s':Nat → Slot),(∀ n,(Qa ρ4 i = .ow (.lst ts) ∧ s' n = Slot.ow (.lst (ts.set n t))) ∨ (Qa ρ4 i = .ml (.lst ts) ∧ s' n = Slot.ml (.lst (ts.set n t)))) → SFin p B H4 G4 D (Qah (ixN ts.length j) fun n=>.nx (ρ4.set i (s' n))) → Qrs (.ref a) (.int j) v H4 fun H1=>D.nx σ H1:=fun ts s' hs k=>by
     have hp:(Qa ρ4 i).prv = some (.lst ts):=by rcases hs 0 with ⟨h,_⟩ | ⟨h,_⟩ <;> rw [h] <;> rfl
     obtain ⟨a',sa',g,o1⟩:=F4.prvAt hp
     obtain ⟨vs,z,el,il⟩:=o1.lst_inv
     rw [sa] at sa'
     cases sa'
     obtain ⟨n,en,k⟩:=Qga k
     have lz:=il.length
     obtain ⟨F5,s5⟩:=F4.change (hs n) sa (il.set i4 n) (by rw [List.length_set]; exact z)
     exact ⟨a,vs,j,n,rfl,rfl,el,by rw [lz]; exact en,k σ _ G4 F5 s5⟩
    cases hs:Qa ρ4 i with
    | un=>rw [hs] at k4; exact False.elim k4
    | pin _=>rw [hs] at k4; exact False.elim k4
    | fx _=>rw [hs] at k4; exact False.elim k4
    | fz t=>rw [hs] at k4; exact False.elim k4
    | ro t=>rw [hs] at k4; exact False.elim k4
    | ow u =>
     rw [hs] at k4
     cases u <;> first | exact False.elim k4 | skip
     exact fin _ _ (fun n=>.inl ⟨hs,rfl⟩) k4
    | ml u =>
     rw [hs] at k4
     cases u <;> first | exact False.elim k4 | skip
     exact fin _ _ (fun n=>.inr ⟨hs,rfl⟩) k4
  ·simp only [if_neg hm] at k
   exact False.elim k
theorem Qmm {p:Pr} {B:Bs} {H:Hp} {G:Addr → Prop} {D:Ends} {o:SO} (h:SFin p B H G D (Qko o)):SFin p.calm B H G D o:=by
 cases o with
 | xn x ρ1=>exact False.elim h
 | nx ρ1=>exact h
 | bk ρ1=>exact h
 | ct ρ1=>exact h
 | rt r ρ1=>exact h
 | no=>exact h
theorem s_whl {c:Expr} {body:List Stmt} (hc:QT X.nox c (tT p.calm c')) (hb:QB X.nox body (tS p.calm s)):QS X (.While c body [] pos) (tS p (.whl c' s)) :=
 (Q4q (Qzk PassesOwn.never hc hb)).weak fun D σ H ⟨B,G,ρ,F,hO,h⟩=>by
  unfold exS at h
  have h:=Qmm h
  refine ⟨fun m σ2 H2=>∃ G2 ρ2,FI B H2 G2 σ2 ρ2 ∧ SFin p.calm B H2 G2 D (Qo0 (fun ρ=>Qaj (evE p.cf c' ρ)) (exS p.cf s) m ρ2),⟨1000000,G,ρ,F,h⟩,?_⟩
  rintro m σ2 H2 ⟨G2,ρ2,F2,h2⟩
  cases m with
  | zero=>exact False.elim h2
  | succ m =>
   unfold Qo0 at h2
   refine Qxc (p:=p.calm) F2 h2 fun k ρ3 H3 G3 h3 F3 sm=>?_
   cases k with
   | false=>exact h3 σ2 H3 G3 F3 (Same.refl _)
   | true =>
    refine ⟨fun σ' H'=>∃ G' ρ',FI B H' G' σ' ρ' ∧ SFin p.calm B H' G' D (Qo0 (fun ρ=>Qaj (evE p.cf c' ρ)) (exS p.cf s) m ρ'),fun σ' H' q=>⟨m,Nat.lt_succ_self m,q⟩,B,G3,ρ3,F3,hO,?_⟩
    replace h3:SFin p.calm B H3 G3 D (match exS p.cf s ρ3 with
     | .nx ρ2=>Qo0 (fun ρ=>Qaj (evE p.cf c' ρ)) (exS p.cf s) m ρ2
     | .ct ρ2=>Qo0 (fun ρ=>Qaj (evE p.cf c' ρ)) (exS p.cf s) m ρ2
     | .bk ρ2=>.nx ρ2
     | o=>o):=h3
    show SFin p.calm B H3 G3 _ (exS p.cf s ρ3)
    cases eb:exS p.cf s ρ3 with
    | nx ρ4=>rw [eb] at h3; exact fun σ4 H4 G4 F4 s4=>⟨G4,ρ4,F4,SFin.late h3 s4⟩
    | ct ρ4=>rw [eb] at h3; exact fun σ4 H4 G4 F4 s4=>⟨G4,ρ4,F4,SFin.late h3 s4⟩
    | bk ρ4=>rw [eb] at h3; exact h3
    | rt r ρ4=>rw [eb] at h3; exact h3
    | xn x ρ4=>rw [eb] at h3; exact h3
    | no=>rw [eb] at h3; exact h3
theorem Qxd {w:W} {tg:Tg} {D:Ends} {σ:St} {H:Hp} {B:Bs} {G:Addr → Prop} {ρ:En} (F:FI B H G σ ρ) (hO:∀ a,¬ B.O a) (h:SFin p B H G D (ofO (evW p.cf w ρ) fun its ρ1=>match its.2 with
  | some _=>.no
  | none=>Qbb tg (exS p.cf s) its.1 ρ1)):Quy (tW p w) (tG tg) (tS p s) D σ H:=by
 refine ⟨G,ρ,F.self,(Qf9 (σ:=σ) h).rebase F fun its ρ1 h1=>?_⟩
 obtain ⟨ts,lk⟩:=its
 cases lk with
 | some _=>exact False.elim h1
 | none =>
  refine ⟨rfl,fun J H1 G1 Ok F1 wk stab=>?_⟩
  replace wk:WkR J H1 G1 Ok ts:=wk
  have F1':=F.trans F1
  have s1:=F.same F1
  refine ⟨fun i m σ2 H2=>i + m = ts.length ∧ ∃ G2 ρ2,FI B H2 G2 σ2 ρ2 ∧ Same (dls H1 G1) (dls H2 G2) ∧ SFin p B H2 G2 D (Qbb tg (exS p.cf s) (ts.drop i) ρ2),⟨ts.length,Nat.zero_add _,G1,ρ1,F1',Same.refl _,SFin.late h1 s1⟩,?_⟩
  rintro i m σ2 H2 ⟨him,G2,ρ2,F2,s2,h2⟩
  have ok2:=stab H2 G2 s2
  by_cases hlt:i < ts.length
  ·refine .inr ⟨wk.go i H2 hlt ok2,fun σ' H'=>∃ G' ρ',FI B H' G' σ' ρ' ∧ Same (dls H1 G1) (dls H' G') ∧ SFin p B H' G' D (Qbb tg (exS p.cf s) (ts.drop (i + 1)) ρ'),fun σ' H' q=>⟨m - 1,by omega,by omega,q⟩,fun x H3 y=>?_⟩
   obtain ⟨s3,t,et,ix⟩:=wk.yld i H2 x H3 hlt ok2 y
   have F3:=F2.grow s3
   have ix3:=ix G2 F2.prv s2
   rw [List.drop_eq_getElem_cons hlt] at h2
   have et':ts[i] = t:=by rw [List.getElem?_eq_getElem hlt] at et; exact Option.some.inj et
   rw [et'] at h2
   unfold Qbb at h2
   cases est:Qca tg t ρ2 with
   | none=>rw [est] at h2; exact False.elim h2
   | some ρ4 =>
    rw [est] at h2
    refine ⟨B,G2,ρ2,t,ρ4,F3,ix3,est,fun σ4 F4 _=>⟨B,G2,ρ4,F4,hO,?_⟩⟩
    replace h2:SFin p B H2 G2 D (match exS p.cf s ρ4 with
     | .nx ρ2=>Qbb tg (exS p.cf s) (ts.drop (i + 1)) ρ2
     | .ct ρ2=>Qbb tg (exS p.cf s) (ts.drop (i + 1)) ρ2
     | .bk ρ2=>.nx ρ2
     | o=>o):=h2
    have s23:Same (dls H2 G2) (dls H3 G2):=Qa8 s3
    have h2:=SFin.late h2 s23
    have s13:=s2.trans s23
    show SFin p B H3 G2 _ (exS p.cf s ρ4)
    cases eb:exS p.cf s ρ4 with
    | nx ρ5=>rw [eb] at h2; exact fun σ5 H5 G5 F5 s5=>⟨G5,ρ5,F5,s13.trans s5,SFin.late h2 s5⟩
    | ct ρ5=>rw [eb] at h2; exact fun σ5 H5 G5 F5 s5=>⟨G5,ρ5,F5,s13.trans s5,SFin.late h2 s5⟩
    | bk ρ5=>rw [eb] at h2; exact h2
    | rt r ρ5=>rw [eb] at h2; exact h2
    | xn x ρ5=>rw [eb] at h2; exact h2
    | no=>rw [eb] at h2; exact h2
  ·have e0:ts.drop i = []:=List.drop_of_length_le (by omega)
   rw [e0] at h2
   exact .inl ⟨wk.stop i H2 (by omega) ok2,h2 σ2 H2 G2 F2 (Same.refl _)⟩
theorem Q9m {iter tgE:Expr} {body:List Stmt} {w:W} {tg:Tg} (hc:X.calm = true) (hi:QI X.nox tgE iter (tW p.calm w)) (hg:QG X.nox tgE (tG tg)) (hb:QB X.nox body (tS p.calm s)) (hs:∀ x,foldedSetIterable iter X.env x = pure x):QS X (.For tgE iter body [] pos) (tS p (.for_ w tg s)) :=
 (Q4q (Qru PassesOwn.never hc hi hg hb hs)).weak fun D σ H ⟨B,G,ρ,F,hO,h⟩=>by
  unfold exS at h
  exact Qxd (p:=p.calm) F hO (Qmm h)
theorem Q5n {iter tgE:Expr} {body:List Stmt} {w:W} {tg:Tg} (hp:PassesOwn (model X.prog X.w) X.A X.env X.xe) (hc:X.calm = true) (hi:QI X tgE iter (tW p w)) (hg:QG X tgE (tG tg)) (hb:QB X body (tS p s)) (hs:∀ x,foldedSetIterable iter X.env x = pure x):QS X (.For tgE iter body [] pos) (tS p (.forX w tg s)) :=
 (Qru hp hc hi hg hb hs).weak fun D σ H ⟨B,G,ρ,F,hO,h⟩=>by
  unfold exS at h
  exact Qxd F hO h
theorem Q9n {i j:Nat} (h:QS X st (Qm2 (Qg8 j) (Qfz i))):QS X st (tS p (.mov i j)):=h.weak fun D σ H ⟨B,G,ρ,F,hO,h⟩=>by
 unfold exS at h
 cases hs:Qa ρ j with
 | ow t =>
  rw [hs] at h
  by_cases hi:i ≠ j ∧ i < ρ.length
  ·simp only [if_pos hi] at h
   have q:=F.slot j
   rw [hs] at q
   obtain ⟨a,ha,ga,oa⟩:=q
   have hj:j < σ.length:=by
    rcases Nat.lt_or_ge j σ.length with z | z
    ·exact z
    ·rw [List.getElem?_eq_none z] at ha; cases ha
   have e1:σ.set j (some (.ref a)) = σ:=by
    rw [List.getElem?_eq_getElem hj] at ha
    rw [← Option.some.inj ha,List.set_getElem_self]
   have F1:FI B H G σ (ρ.set j .un):=by
    have:=F.lay (i:=j) (s:=.un) (w:=some (.ref a)) (by rw [← F.len]; exact hj) trivial (fun _ z=>by obtain ⟨_,z⟩:=z; cases z) (fun _ _ z=>by cases z) (fun _ z=>by cases z) (fun _ z=>by cases z)
    rw [e1] at this
    exact this
   have hi':i < (ρ.set j .un).length:=by rw [List.length_set]; exact hi.2
   have F2:FI B H G (σ.set i (some (.ref a))) ((ρ.set j .un).set i (.ow t)):=by
    refine F1.lay hi' (s:=.ow t) ⟨a,by rw [List.getElem?_set_self (by rw [F.len]; exact hi.2)],ga,oa⟩ (fun b _ e k hk pk=>?_) (fun _ b _ e=>?_) (fun _ z=>by cases z) (fun _ z=>by cases z)
    ·cases e
     obtain ⟨⟨u,e⟩,pk⟩:=pk
     rw [Qbi] at e
     by_cases z:k = j ∧ j < ρ.length
     ·rw [if_pos z] at e; cases e
     ·rw [if_neg z] at e
      have:=F.apart k j a ⟨⟨u,e⟩,pk⟩ ⟨⟨t,by rw [hs]; rfl⟩,ha⟩
      exact z ⟨this,by rw [← F.len]; exact hj⟩
    ·cases e
     exact F.newO a ⟨j,t,hs,ha⟩
   exact ⟨.ref a,ha,h _ H G F2 (Same.refl _)⟩
  ·simp only [if_neg hi] at h
   exact False.elim h
 | _=>rw [hs] at h; exact False.elim h
end
theorem FI.lock {B:Bs} {H:Hp} {G:Addr → Prop} {σ:St} {ρ:En} {i:Nat} {l:Addr} {t:T} (F:FI B H G σ ρ) (hs:Qa ρ i = .ow t) (sl:σ[i]? = some (some (.ref l))):FI ⟨B.H,B.G,B.O,B.M,fun j a=>(j ≠ i ∧ B.P j a) ∨ (j = i ∧ a = l)⟩ H G σ (ρ.set i (.ro t)):=by
 have at1:∀ j,(j = i ∧ Qa (ρ.set i (.ro t)) j = .ro t) ∨ (Qa (ρ.set i (.ro t)) j = Qa ρ j ∧ (j = i → False)):=fun j=>by
  rw [Qbi]
  by_cases e:j = i
  ·subst e
   have hl:j < ρ.length:=by
    rcases Nat.lt_or_ge j ρ.length with h | h
    ·exact h
    ·unfold Qa at hs; rw [List.getElem?_eq_none h] at hs; cases hs
   exact .inl ⟨rfl,by rw [if_pos ⟨rfl,hl⟩]⟩
  ·exact .inr ⟨by rw [if_neg (fun h=>e h.1)],e⟩
 have old:∀ j a,PrvAt σ (ρ.set i (.ro t)) j a → PrvAt σ ρ j a:=fun j a h=>by
  obtain ⟨⟨u,e⟩,q⟩:=h
  rcases at1 j with ⟨rfl,ej⟩ | ⟨ej,_⟩
  ·exact ⟨⟨t,by rw [hs]; rfl⟩,q⟩
  ·rw [ej] at e; exact ⟨⟨u,e⟩,q⟩
 refine ⟨by rw [List.length_set]; exact F.len,fun j=>?_,fun j k a h1 h2=>F.apart j k a (old j a h1) (old k a h2),F.prv,F.chg,F.keep,fun a h=>?_,fun a h=>?_,fun j a h=>?_,F.gg,F.gn,F.bp⟩
 ·rcases at1 j with ⟨rfl,ej⟩ | ⟨ej,_⟩
  ·rw [ej]
   have q:=F.slot j
   rw [hs] at q
   exact q
  ·rw [ej]; exact F.slot j
 ·obtain ⟨j,u,e,q⟩:=h
  rcases at1 j with ⟨rfl,ej⟩ | ⟨ej,_⟩
  ·rw [ej] at e; cases e
  ·rw [ej] at e; exact F.newO a ⟨j,u,e,q⟩
 ·obtain ⟨j,u,e,q⟩:=h
  rcases at1 j with ⟨rfl,ej⟩ | ⟨ej,_⟩
  ·rw [ej] at e; cases e
  ·rw [ej] at e; exact F.newM a ⟨j,u,e,q⟩
 ·obtain ⟨⟨u,e⟩,q⟩:=h
  rcases at1 j with ⟨rfl,ej⟩ | ⟨ej,ne⟩
  ·rw [sl] at q; cases q; exact .inr ⟨rfl,rfl⟩
  ·rw [ej] at e; exact .inl ⟨ne,F.fix j a ⟨⟨u,e⟩,q⟩⟩
theorem FI.unlock {B:Bs} {H:Hp} {G:Addr → Prop} {σ:St} {ρ:En} {i:Nat} {l:Addr} {t:T} (F:FI ⟨B.H,B.G,B.O,B.M,fun j a=>(j ≠ i ∧ B.P j a) ∨ (j = i ∧ a = l)⟩ H G σ ρ) (hs:Qa ρ i = .ro t) (hb:B.H l = none ∨ B.O l):FI B H G σ (ρ.set i (.ow t)):=by
 have at1:∀ j,(j = i ∧ Qa (ρ.set i (.ow t)) j = .ow t) ∨ (Qa (ρ.set i (.ow t)) j = Qa ρ j ∧ (j = i → False)):=fun j=>by
  rw [Qbi]
  by_cases e:j = i
  ·subst e
   have hl:j < ρ.length:=by
    rcases Nat.lt_or_ge j ρ.length with h | h
    ·exact h
    ·unfold Qa at hs; rw [List.getElem?_eq_none h] at hs; cases hs
   exact .inl ⟨rfl,by rw [if_pos ⟨rfl,hl⟩]⟩
  ·exact .inr ⟨by rw [if_neg (fun h=>e h.1)],e⟩
 have old:∀ j a,PrvAt σ (ρ.set i (.ow t)) j a → PrvAt σ ρ j a:=fun j a h=>by
  obtain ⟨⟨u,e⟩,q⟩:=h
  rcases at1 j with ⟨rfl,ej⟩ | ⟨ej,_⟩
  ·exact ⟨⟨t,by rw [hs]; rfl⟩,q⟩
  ·rw [ej] at e; exact ⟨⟨u,e⟩,q⟩
 refine ⟨by rw [List.length_set]; exact F.len,fun j=>?_,fun j k a h1 h2=>F.apart j k a (old j a h1) (old k a h2),F.prv,F.chg,F.keep,fun a h=>?_,fun a h=>?_,fun j a h=>?_,F.gg,F.gn,F.bp⟩
 ·rcases at1 j with ⟨rfl,ej⟩ | ⟨ej,_⟩
  ·rw [ej]
   have q:=F.slot j
   rw [hs] at q
   exact q
  ·rw [ej]; exact F.slot j
 ·obtain ⟨j,u,e,q⟩:=h
  rcases at1 j with ⟨rfl,ej⟩ | ⟨ej,_⟩
  ·rcases F.fix j a ⟨⟨t,.inr (.inl hs)⟩,q⟩ with ⟨n,_⟩ | ⟨_,rfl⟩
   ·exact (n rfl).elim
   ·exact hb
  ·rw [ej] at e; exact F.newO a ⟨j,u,e,q⟩
 ·obtain ⟨j,u,e,q⟩:=h
  rcases at1 j with ⟨rfl,ej⟩ | ⟨ej,_⟩
  ·rw [ej] at e; cases e
  ·rw [ej] at e; exact F.newM a ⟨j,u,e,q⟩
 ·obtain ⟨⟨u,e⟩,q⟩:=h
  rcases at1 j with ⟨rfl,ej⟩ | ⟨ej,ne⟩
  ·rw [ej] at e; rcases e with e | e | e <;> cases e
  ·rw [ej] at e
   rcases F.fix j a ⟨⟨u,e⟩,q⟩ with ⟨_,h⟩ | ⟨h,_⟩
   ·exact h
   ·exact (ne h).elim
section
variable {X:Cx} {p:Pr} {s:S} {pos:Pos} {K:PySem.W.Frag}
theorem Q5o {i:Nat} {iter tgE:Expr} {body:List Stmt} {tg:Tg} (hc:X.calm = true) (hi:QI X.nox tgE iter (Qte K (Qg8 i))) (hg:QG X.nox tgE (tG tg)) (hb:QB X.nox body (tS p.calm s)) (hs:∀ x,foldedSetIterable iter X.env x = pure x):QS X (.For tgE iter body [] pos) (tS p (.forS i tg s)) :=
 (Q4q (Qru PassesOwn.never hc hi hg hb hs)).weak fun D σ H ⟨B,G,ρ,F,hO,h⟩=>by
  unfold exS at h
  cases hs:Qa ρ i with
  | un=>rw [hs] at h; exact False.elim h
  | pin _=>rw [hs] at h; exact False.elim h
  | fx _=>rw [hs] at h; exact False.elim h
  | fz t=>rw [hs] at h; exact False.elim h
  | ml t=>rw [hs] at h; exact False.elim h
  | ro t=>rw [hs] at h; exact False.elim h
  | ow t =>
   rw [hs] at h
   cases t <;> first | exact False.elim h | skip
   rename_i ts
   have q:=F.slot i
   rw [hs] at q
   obtain ⟨l,sl,gl,o0⟩:=q
   obtain ⟨vs,z,el,il⟩:=o0.lst_inv
   have hbase:B.H l = none ∨ B.O l:=F.newO l ⟨i,_,hs,sl⟩
   have F1:=F.lock hs sl
   refine ⟨_,sl,l,rfl,.inl ⟨⟨vs,SqL.of el⟩,?_⟩⟩
   replace h:SFin p B H G D (unl i (Qgy i tg (exS p.cf s) 100001 0 (ρ.set i (.ro (.lst ts))))):=h
   refine ⟨fun n m σ2 H2=>∃ G2 ρ2,FI ⟨B.H,B.G,B.O,B.M,fun j a=>(j ≠ i ∧ B.P j a) ∨ (j = i ∧ a = l)⟩ H2 G2 σ2 ρ2 ∧ Same (dls H G) (dls H2 G2) ∧ SFin p B H2 G2 D (unl i (Qgy i tg (exS p.cf s) m n ρ2)),⟨100001,G,_,F1,Same.refl _,h⟩,?_⟩
   rintro n m σ2 H2 ⟨G2,ρ2,F2,s2,h2⟩
   have nxt:∀ {ρ5:En} {H4:Hp} {G4:Addr → Prop},SFin p B H4 G4 D (unl i (.nx ρ5)) → ∀ σ5 H5 G5,FI ⟨B.H,B.G,B.O,B.M,fun j a=>(j ≠ i ∧ B.P j a) ∨ (j = i ∧ a = l)⟩ H5 G5 σ5 ρ5 → Same (dls H4 G4) (dls H5 G5) → D.nx σ5 H5:=fun {ρ5 H4 G4} k σ5 H5 G5 F5 s5=>by
    replace k:SFin p B H4 G4 D (Qah (unE i ρ5) .nx):=k
    unfold unE at k
    cases e5:Qa ρ5 i with
    | ro t=>rw [e5] at k; exact k σ5 H5 G5 (F5.unlock e5 hbase) s5
    | un=>rw [e5] at k; exact False.elim k
    | pin _=>rw [e5] at k; exact False.elim k
    | fx _=>rw [e5] at k; exact False.elim k
    | fz t=>rw [e5] at k; exact False.elim k
    | ml t=>rw [e5] at k; exact False.elim k
    | ow t=>rw [e5] at k; exact False.elim k
   cases m with
   | zero=>exact False.elim h2
   | succ m =>
    unfold Qgy at h2
    cases hs2:Qa ρ2 i with
    | un=>rw [hs2] at h2; exact False.elim h2
    | pin _=>rw [hs2] at h2; exact False.elim h2
    | fx _=>rw [hs2] at h2; exact False.elim h2
    | fz t=>rw [hs2] at h2; exact False.elim h2
    | ml t=>rw [hs2] at h2; exact False.elim h2
    | ow t=>rw [hs2] at h2; exact False.elim h2
    | ro t =>
     rw [hs2] at h2
     cases t <;> first | exact False.elim h2 | skip
     rename_i us
     have q2:=F2.slot i
     rw [hs2] at q2
     obtain ⟨l2,sl2,gl2,o2⟩:=q2
     obtain ⟨vs2,z2,el2,il2⟩:=o2.lst_inv
     have hl2:l2 = l:=by
      rcases F2.fix i l2 ⟨⟨_,.inr (.inl hs2)⟩,sl2⟩ with ⟨n,_⟩ | ⟨_,h⟩
      ·exact (n rfl).elim
      ·exact h
     subst hl2
     have hlen:=il2.length
     replace h2:SFin p B H2 G2 D (unl i (match us[n]? with
      | none=>.nx ρ2
      | some x=>match Qca tg x ρ2 with
       | none=>.no
       | some ρ1=>match exS p.cf s ρ1 with
        | .nx ρ2=>Qgy i tg (exS p.cf s) m (n + 1) ρ2
        | .ct ρ2=>Qgy i tg (exS p.cf s) m (n + 1) ρ2
        | .bk ρ2=>.nx ρ2
        | o=>o)):=h2
     cases ex:us[n]? with
     | none =>
      rw [ex] at h2
      refine .inl ⟨⟨vs2,SqL.of el2,?_⟩,nxt h2 σ2 H2 G2 F2 (Same.refl _)⟩
      rw [hlen]
      exact List.getElem?_eq_none_iff.mp ex
     | some x =>
      rw [ex] at h2
      have hn:n < us.length:=(List.getElem?_eq_some_iff.mp ex).1
      have hn2:n < vs2.length:=by rw [hlen]; exact hn
      refine .inr ⟨⟨vs2,vs2[n],SqL.of el2,List.getElem?_eq_getElem hn2⟩,fun σ' H'=>∃ G' ρ',FI ⟨B.H,B.G,B.O,B.M,fun j a=>(j ≠ i ∧ B.P j a) ∨ (j = i ∧ a = l2)⟩ H' G' σ' ρ' ∧ Same (dls H G) (dls H' G') ∧ SFin p B H' G' D (unl i (Qgy i tg (exS p.cf s) m (n + 1) ρ')),fun σ' H' q=>⟨m,Nat.lt_succ_self m,q⟩,fun xv H3 y=>?_⟩
      obtain ⟨rfl,hx⟩:=y
      obtain ⟨t,et,it⟩:=il2.get (hx vs2 (SqL.of el2))
      rw [ex] at et
      cases et
      replace h2:SFin p B H3 G2 D (unl i (match Qca tg x ρ2 with
       | none=>.no
       | some ρ1=>match exS p.cf s ρ1 with
        | .nx ρ2=>Qgy i tg (exS p.cf s) m (n + 1) ρ2
        | .ct ρ2=>Qgy i tg (exS p.cf s) m (n + 1) ρ2
        | .bk ρ2=>.nx ρ2
        | o=>o)):=h2
      cases est:Qca tg x ρ2 with
      | none=>rw [est] at h2; exact False.elim h2
      | some ρ4 =>
       rw [est] at h2
       replace h2:SFin p B H3 G2 D (unl i (match exS p.cf s ρ4 with
        | .nx ρ2=>Qgy i tg (exS p.cf s) m (n + 1) ρ2
        | .ct ρ2=>Qgy i tg (exS p.cf s) m (n + 1) ρ2
        | .bk ρ2=>.nx ρ2
        | o=>o)):=h2
       refine ⟨⟨B.H,B.G,B.O,B.M,fun j a=>(j ≠ i ∧ B.P j a) ∨ (j = i ∧ a = l2)⟩,G2,ρ2,x,ρ4,F2,it,est,fun σ4 F4 _=>⟨_,G2,ρ4,F4,hO,?_⟩⟩
       show SFin p.calm _ H3 G2 _ (exS p.cf s ρ4)
       cases eb:exS p.cf s ρ4 with
       | nx ρ5=>rw [eb] at h2; exact fun σ5 H5 G5 F5 s5=>⟨G5,ρ5,F5,s2.trans s5,SFin.late h2 s5⟩
       | ct ρ5=>rw [eb] at h2; exact fun σ5 H5 G5 F5 s5=>⟨G5,ρ5,F5,s2.trans s5,SFin.late h2 s5⟩
       | bk ρ5=>rw [eb] at h2; exact nxt h2
       | rt r ρ5 =>
        rw [eb] at h2
        cases r with
        | ow t=>exact False.elim h2
        | sl j=>exact False.elim h2
        | fz t =>
         intro v σ1 H1 G1 F5 pv
         replace h2:SFin p B H3 G2 D (Qah (unE i ρ5) (.rt (.fz t))):=h2
         unfold unE at h2
         cases e5:Qa ρ5 i with
         | ro t=>rw [e5] at h2; exact h2 v σ1 H1 G1 (F5.unlock e5 hbase) pv
         | un=>rw [e5] at h2; exact False.elim h2
         | pin _=>rw [e5] at h2; exact False.elim h2
         | fx _=>rw [e5] at h2; exact False.elim h2
         | fz t=>rw [e5] at h2; exact False.elim h2
         | ml t=>rw [e5] at h2; exact False.elim h2
         | ow t=>rw [e5] at h2; exact False.elim h2
       | xn x ρ5=>rw [eb] at h2; exact False.elim h2
       | no=>rw [eb] at h2; exact False.elim h2
end
noncomputable def Qqs:Arg → Slot
 | .fz t=>.fz t
 | .ml t=>.ml t
 | .ro t=>.ro t
theorem Qmn (fn:Fn) (as:List Arg):Qer fn as = as.map Qqs ++ List.replicate (fn.sz - fn.ps) .un:=by
 unfold Qer
 congr 1
theorem Qcs (fn:Fn) (as:List Arg) (i:Nat):Qa (Qer fn as) i = match as[i]? with
  | some a=>Qqs a
  | none=>.un:=by
 rw [Qmn]
 unfold Qa
 rcases Nat.lt_or_ge i as.length with h | h
 ·rw [List.getElem?_append_left (by rw [List.length_map]; exact h),List.getElem?_map,List.getElem?_eq_getElem h]
  rfl
 ·rw [List.getElem?_append_right (by rw [List.length_map]; exact h),List.getElem?_eq_none_iff.mpr h,List.getElem?_replicate]
  split <;> rename_i e
  ·split at e
   ·cases e; rfl
   ·cases e
  ·rfl
theorem Qmo {N:List Str} {vs:List V} {i:Nat} {v:V} (h:vs[i]? = some v):(Qa3 N vs)[i]? = some (some v):=by
 unfold Qa3
 have hi:i < vs.length:=(List.getElem?_eq_some_iff.mp h).1
 rw [List.getElem?_append_left (by rw [List.length_map]; exact hi),List.getElem?_map,h]
 rfl
theorem Qmp {N:List Str} {vs:List V} {i:Nat} {v:V} (h:(Qa3 N vs)[i]? = some (some v)):vs[i]? = some v:=by
 unfold Qa3 at h
 rcases Nat.lt_or_ge i vs.length with hi | hi
 ·rw [List.getElem?_append_left (by rw [List.length_map]; exact hi),List.getElem?_map] at h
  cases e:vs[i]? with
  | none=>rw [e] at h; cases h
  | some w=>rw [e] at h; cases h; rfl
 ·rw [List.getElem?_append_right (by rw [List.length_map]; exact hi),List.getElem?_replicate] at h
  split at h <;> cases h
noncomputable abbrev Qxe (H:Hp) (G:Addr → Prop) (vs:List V) (as:List Arg):Bs:=⟨H,G,fun _=>False,Qr6 vs as,fun i a=>(∃ x,as[i]? = some x ∧ x.prv = true) ∧ vs[i]? = some (.ref a)⟩
section
variable {H H1:Hp} {G G1:Addr → Prop} {vs:List V} {as:List Arg} {fn:Fn} {N:List Str} {σ1:St} {ρ1:En} {fin:List T} {mg:Str → Option Value}
theorem Qqt {x:Arg} {t:T} (h:(Qqs x).prv = some t):x.prv = true:=by
 cases x <;> first | rfl | cases h
theorem Qxf (A:ArgsR H G vs as) (pn:Pen H G) (h1:vs.length ≤ N.length) (h2:fn.ps = as.length) (h3:fn.sz = N.length):FI (Qxe H G vs as) H G (Qa3 N vs) (Qer fn as):=by
 have pv:∀ i a,PrvAt (Qa3 N vs) (Qer fn as) i a → (∃ x,as[i]? = some x ∧ x.prv = true) ∧ vs[i]? = some (.ref a):=fun i a h=>by
  obtain ⟨⟨t,e⟩,q⟩:=h
  rw [Qcs] at e
  cases hx:as[i]? with
  | none=>rw [hx] at e; cases e
  | some x=>rw [hx] at e; exact ⟨⟨x,rfl,Qqt e⟩,Qmp q⟩
 refine ⟨?_,fun i=>?_,fun i j a h1 h2=>?_,pn,fun _ _ _ _ e=>e,fun _ o e=>⟨o,e⟩,fun a h=>?_,fun a h=>?_,fun i a h=>?_,fun _ h=>h,fun _ h=>.inl h,fun b h=>let ⟨xs,e,_⟩:=pn b h; ⟨_,e⟩⟩
 ·rw [Qmn]
  unfold Qa3
  have:=A.len
  simp only [List.length_append,List.length_map,List.length_replicate]
  omega
 ·rw [Qcs]
  cases hx:as[i]? with
  | none=>trivial
  | some x =>
   have hi:i < vs.length:=by rw [A.len]; exact (List.getElem?_eq_some_iff.mp hx).1
   have ev:vs[i]? = some vs[i]:=List.getElem?_eq_getElem hi
   have q:=A.get i _ x ev hx
   have s:=Qmo (N:=N) ev
   cases x with
   | fz t=>exact ⟨_,s,q⟩
   | ml t=>obtain ⟨a,e,g,o⟩:=q; rw [e] at s; exact ⟨a,s,g,o⟩
   | ro t=>obtain ⟨a,e,g,o⟩:=q; rw [e] at s; exact ⟨a,s,g,o⟩
 ·obtain ⟨⟨x,ex,px⟩,vx⟩:=pv i a h1
  obtain ⟨⟨y,ey,py⟩,vy⟩:=pv j a h2
  exact A.apart i j a x y ex ey px py vx vy
 ·obtain ⟨i,t,e,q⟩:=h
  rw [Qcs] at e
  cases hx:as[i]? with
  | none=>rw [hx] at e; cases e
  | some x=>rw [hx] at e; cases x <;> cases e
 ·obtain ⟨i,t,e,q⟩:=h
  rw [Qcs] at e
  cases hx:as[i]? with
  | none=>rw [hx] at e; cases e
  | some x =>
   rw [hx] at e
   cases x <;> cases e
   exact ⟨i,_,hx,Qmp q⟩
 ·obtain ⟨⟨t,e⟩,q⟩:=h
  refine pv i a ⟨⟨t,?_⟩,q⟩
  rcases e with e | e | e
  ·rw [e]; rfl
  ·rw [e]; rfl
  ·rw [Qcs] at e
   cases hx:as[i]? with
   | none=>rw [hx] at e; cases e
   | some x=>rw [hx] at e; cases x <;> cases e
theorem Qgo:∀ {as:List Arg} {ρ:En} {fin:List T},Qu as ρ = some fin → ∀ (i:Nat) (t:T),as[i]? = some (.ml t) → ∃ t',Qa ρ i = .ml t' ∧ fin[i]? = some t'
 | [],_,_,_,i,t,h=>by simp at h
 | .ml u :: as,[],fin,e,_,_,_=>by cases e
 | .fz u :: as,[],fin,e,_,_,_=>by cases e
 | .ro u :: as,[],fin,e,_,_,_=>by cases e
 | .ml u :: as,s :: ρ,fin,e,i,t,h=>by
  cases s <;> first | (cases e; done) | skip
  rename_i w
  replace e:(Qu as ρ).map (w :: ·) = some fin:=e
  cases e2:Qu as ρ with
  | none=>rw [e2] at e; cases e
  | some f2 =>
   rw [e2] at e
   cases e
   cases i with
   | zero=>exact ⟨w,rfl,rfl⟩
   | succ i=>rw [List.getElem?_cons_succ] at h ⊢; rw [Qe]; exact Qgo e2 i t h
 | .fz u :: as,s :: ρ,fin,e,i,t,h=>by
  replace e:(Qu as ρ).map (T.non :: ·) = some fin:=e
  cases e2:Qu as ρ with
  | none=>rw [e2] at e; cases e
  | some f2 =>
   rw [e2] at e
   cases e
   cases i with
   | zero=>simp at h
   | succ i=>rw [List.getElem?_cons_succ] at h ⊢; rw [Qe]; exact Qgo e2 i t h
 | .ro u :: as,s :: ρ,fin,e,i,t,h=>by
  replace e:(Qu as ρ).map (T.non :: ·) = some fin:=e
  cases e2:Qu as ρ with
  | none=>rw [e2] at e; cases e
  | some f2 =>
   rw [e2] at e
   cases e
   cases i with
   | zero=>simp at h
   | succ i=>rw [List.getElem?_cons_succ] at h ⊢; rw [Qe]; exact Qgo e2 i t h
theorem Qky (F:FI (Qxe H G vs as) H1 G1 σ1 ρ1) (e:Qu as ρ1 = some fin):CallP H G vs as H1 G1 fin where
 prv:=F.prv
 chg:=fun b o h e=>F.chg b o (fun z=>z) h e
 keep:=F.keep
 gg:=F.gg
 gn:=F.gn
 fin:=fun i t a h1 h2=>by
  obtain ⟨t',e1,e2⟩:=Qgo e i t h1
  have q:=F.slot i
  rw [e1] at q
  obtain ⟨a',q1,_,q3⟩:=q
  have q4:=(F.fix i a' ⟨⟨t',.inl e1⟩,q1⟩).2
  rw [h2] at q4
  cases q4
  exact ⟨t',e2,q3⟩
theorem Q0h {v:V} {r r':PV} (F:FI (Qxe H G vs as) H1 G1 σ1 ρ1) (pv:PVR H H1 G1 σ1 ρ1 v r) (e:Qar ρ1 r = some r'):Q9i H H1 G1 v r':=by
 cases r with
 | fz t=>cases e; exact pv
 | ow t =>
  cases e
  obtain ⟨a,rfl,n,g,_,o⟩:=pv
  exact ⟨a,rfl,n,g,o⟩
 | sl i =>
  have e:(match Qa ρ1 i with | .ow t=>some (PV.ow t) | _=>none) = some r':=e
  have q:=F.slot i
  cases hs:Qa ρ1 i with
  | un=>rw [hs] at e; cases e
  | pin _=>rw [hs] at e; cases e
  | fx _=>rw [hs] at e; cases e
  | fz t=>rw [hs] at e; cases e
  | ml t=>rw [hs] at e; cases e
  | ro t=>rw [hs] at e; cases e
  | ow t =>
   rw [hs] at e q
   cases e
   obtain ⟨a,q1,g,o⟩:=q
   have pv:σ1[i]? = some (some v):=pv
   rw [q1] at pv
   cases pv
   refine ⟨a,rfl,?_,g,o⟩
   rcases F.newO a ⟨i,t,hs,q1⟩ with z | z
   ·exact z
   ·exact z.elim
theorem Q5p {cf:CF} {Q:VK} {E:XK} (A:ArgsR H G vs as) (pn:Pen H G) (h1:vs.length ≤ N.length) (h3:fn.sz = N.length) (h:Q9j mg H G vs as (Qb6 cf fn as) Q E):tS ⟨cf,fun cls dx _ H=>E cls dx H,mg⟩ fn.body { nx:=fun _ H'=>Q .non H',rt:=Q } (Qa3 N vs) H:=by
 unfold Qb6 at h
 by_cases h2:as.length = fn.ps
 ·rw [if_pos h2] at h
  refine ⟨_,G,_,Qxf A pn h1 h2.symm h3,fun _ z=>z,?_⟩
  show SFin _ _ _ _ _ (exS cf fn.body (Qer fn as))
  cases e:exS cf fn.body (Qer fn as) with
  | no=>rw [e] at h; exact False.elim h
  | bk ρ=>rw [e] at h; exact False.elim h
  | ct ρ=>rw [e] at h; exact False.elim h
  | nx ρ =>
   rw [e] at h
   intro σ1 H1 G1 F _
   cases ef:Qu as ρ with
   | none=>simp only [ef] at h; exact False.elim h
   | some fin=>simp only [ef] at h; exact h .non H1 G1 (Qky F ef) (show Is (dls H1 G1) .non .non from Is.non)
  | rt r ρ =>
   rw [e] at h
   intro v σ1 H1 G1 F pv
   cases er:Qar ρ r with
   | none=>simp only [er] at h; exact False.elim h
   | some r' =>
    cases ef:Qu as ρ with
    | none=>simp only [er,ef] at h; exact False.elim h
    | some fin=>simp only [er,ef] at h; exact h v H1 G1 (Qky F ef) (Q0h F pv er)
  | xn x ρ =>
   rw [e] at h
   intro cls dx σ1 H1 G1 F xr
   cases ef:Qu as ρ with
   | none=>simp only [ef] at h; exact False.elim h
   | some fin=>simp only [ef] at h; exact h cls dx H1 G1 (Qky F ef) xr
 ·rw [if_neg h2] at h
  exact False.elim h
end
theorem Q8 {X:Cx}:Qed X (fun _ _ _ _=>False):=fun pins σ H s e s' I h=>by
 obtain ⟨a,cls,dx,H',_,_,_,_,_,_,z⟩:=h
 exact z.elim
structure Df where
 x:Str
 st:Stmt
 N:List Str
 ps:List Str
 fn:Fn
 fc:Str → Bool:=fun _=>true
 f1:Str → Bool:=fc
noncomputable abbrev Qh7 (ds:List Df):Nat → Option Fn:=fun f=>match ds[f]? with
 | some d=>some d.fn
 | none=>none
structure DfOk (K:PySem.W.Frag) (mg:Str → Option Value) (d:Df):Prop where
 dfn:Dfn K mg d.x d.st
 sc:FnScope d.N d.ps (Qd d.st)
 bd:Qab d.x d.st d.ps
 ps:d.fn.ps = d.ps.length
 sz:d.fn.sz = d.N.length
noncomputable def Qqu (P:Program) (w:World) (K:PySem.W.Frag) (mg:Str → Option Value) (base:Heap) (ds:List Df) (cf:CF) (n:Nat):Prop:=∀ (f:Nat) (d:Df),ds[f]? = some d → Qv8 P w K mg base d.x d.ps n (spF cf mg f)
noncomputable def Qay (P:Program) (w:World) (K:PySem.W.Frag) (mg:Str → Option Value) (base:Heap) (ds:List Df) (d:Df):Prop :=
 ∀ (cf:CF) (n:Nat) (R:XR) (f:Addr) (cdv:Value) (A:Around) (outer:List Env) (s:Shared) (H:Hp) (E:XK),Qqu P w K mg base ds cf n → 1 ≤ n → Qqh K mg d.x cdv → Qed (Qeo d.fc (CXE P w) P w K mg base d.N d.x (Qd d.st) f cdv A outer s H E) R →
  Room n (A.deeper (envOfC d.x (Qd d.st) s.heap.objs.size f cdv)) → QB (Qeo d.fc (CXE P w) P w K mg base d.N d.x (Qd d.st) f cdv A outer s H E) (Q0 d.st) (tS ⟨cf,R,mg⟩ d.fn.body)
section
variable {P:Program} {w:World} {K:PySem.W.Frag} {mg:Str → Option Value} {base:Heap} {ds:List Df}
theorem Qsb {cf:CF} {f:Nat} {vs:List V} {H:Hp} {Q:VK} {E:XK} {d:Df} (h:spF (evF (Qh7 ds) 0) mg f vs H Q E):False:=by
 obtain ⟨G,as,_,_,z⟩:=h
 exact z
theorem Qmq (ok:∀ (f:Nat) (d:Df),ds[f]? = some d → DfOk K mg d ∧ Qay P w K mg base ds d):∀ n,Qqu P w K mg base ds (evF (Qh7 ds) n) (n + 1)
 | 0,f,d,e=>by
  obtain ⟨g,fd,F,m⟩:=(ok f d e).1.dfn.ex
  exact ⟨g,fd,F.kp,m,F.binds (ok f d e).1.bd,⟨fun vs H Q E h=>(Qsb (d:=d) (cf:=fun _ _=>.no) h).elim,fun A outer s H args us vs Q E _ _ _ _ h=>(Qsb (d:=d) (cf:=fun _ _=>.no) h).elim⟩⟩
 | n + 1,f,d,e=>by
  obtain ⟨o,b⟩:=ok f d e
  have ih:=Qmq ok n
  have hcf:∀ as,evF (Qh7 ds) (n + 1) f as = Qb6 (evF (Qh7 ds) n) d.fn as:=fun as=>by
   show (match Qh7 ds f with | some fn=>Qb6 (evF (Qh7 ds) n) fn as | none=>.no) = _
   unfold Qh7
   rw [e]
  refine Q4p (g:=d.fc) o.dfn o.sc o.bd (fun vs H Q E h=>?_) (fun X g cdv A outer s H vs Q E _ hcd pz hr h=>?_)
  ·obtain ⟨G,as,a,_,z⟩:=h
   rw [hcf] at z
   unfold Qb6 at z
   by_cases h2:as.length = d.fn.ps
   ·rw [a.len,h2,o.ps]
   ·rw [if_neg h2] at z; exact z.elim
  ·obtain ⟨G,as,a,pn,z⟩:=h
   refine ⟨_,b (evF (Qh7 ds) n) (n + 1) _ g cdv A outer s H E ih (Nat.le_add_left 1 n) hcd pz hr,?_⟩
   rw [hcf] at z
   have hl:as.length = d.fn.ps:=by
    unfold Qb6 at z
    by_cases h2:as.length = d.fn.ps
    ·exact h2
    ·rw [if_neg h2] at z; exact z.elim
   have hN:d.ps.length ≤ d.N.length:=by
    have:=congrArg List.length o.sc.pre
    rw [List.length_take] at this
    omega
   exact Q5p a pn (by rw [a.len,hl,o.ps]; exact hN) o.sz z
end
section
variable {X:Cx} {p:Pr} {e a b c:Expr} {es rest:List Expr} {e' a' b' c':E} {es':Es} {pos p1 p2 p3:Pos} {x:Str} {st:Stmt} {s:S} {K:PySem.W.Frag}
theorem Qf (i:Nat) (hN:X.N[i]? = some x:=by rfl) (hv:Vis X.env.scope x:=by first | exact Or.inl rfl | exact Or.inr (Or.inl rfl) | exact Or.inr (Or.inr rfl)) (hd:(x == ("__debug__" : Str)) = false:=by decide)
  (hcd:(x == ("__classdict__" : Str)) = false:=by decide):QE X (.Name x pos) (tE p (.var i)):=Q87 hN hv hd hcd
theorem Qxg {i:Int} (h:∃ u,X.mg x = some u ∧ RelV (.int i) u) (hg:Gl X x:=by rfl) (hd:(x == ("__debug__" : Str)) = false:=by decide):QE X (.Name x pos) (tE p (.int i)):=Q45 h hg hd
theorem Q9o {t:T} (h:QE X e (tTh t)):QE X e (tE p (.lit t)):=h.weak fun σ H Q ⟨G,ρ,F,h⟩=>by
 unfold evE at h
 exact fun v H' s i=>h v H' G (F.grow s) (Q4o F.prv i)
theorem Qc (ha:QE X e (tE p e')) (hr:QA X es (tA p es')) (hs:Qr e = true:=by rfl):QA X (e :: es) (tA p (.cons e' es')):=Q46 ha hr hs
theorem Qjh (hK:X.K = K) (ha:QE X a (tE p a')) (hb:QE X b (tE p b')):QE X (.BinOp a .Add b pos) (tE p (.bin .add a' b')):=Qh0 (Qrw K hK) (Qzv K) ha hb
theorem Qkz (ha:QE X a (tE p a')) (hb:QE X b (tE p b')):QE X (.BinOp a .Sub b pos) (tE p (.bin .sub a' b')):=Qh0 Q78 Qzw ha hb
theorem Qg5 (ha:QE X a (tE p a')) (hb:QE X b (tE p b')):QE X (.BinOp a .Mult b pos) (tE p (.bin .mul a' b')):=Qh0 Q47 Qzy ha hb
theorem Q9p (ha:QE X a (tE p a')) (hb:QE X b (tE p b')):QE X (.BinOp a .FloorDiv b pos) (tE p (.bin .fdv a' b')):=Qh0 Q48 Qzz ha hb
theorem Qpb (ha:QE X a (tE p a')) (hb:QE X b (tE p b')):QE X (.BinOp a .Mod b pos) (tE p (.bin .mod a' b')):=Qh0 Q49 Qz0 ha hb
theorem Qpc (ha:QE X a (tE p a')) (hb:QE X b (tE p b')):QE X (.BinOp a .Pow b pos) (tE p (.bin .pow a' b')):=Qh0 Q79 Qz1 ha hb
theorem Q2g (ha:QE X a (tE p a')) (hb:QE X b (tE p b')):QE X (.BinOp a .LShift b pos) (tE p (.bin .shl a' b')):=Qh0 Q89 Qz2 ha hb
theorem Q9q (ha:QE X a (tE p a')) (hb:QE X b (tE p b')):QE X (.BinOp a .RShift b pos) (tE p (.bin .shr a' b')):=Qh0 Q9a Qz3 ha hb
theorem Q5q (ha:QE X a (tE p a')) (hb:QE X b (tE p b')):QE X (.BinOp a .BitAnd b pos) (tE p (.bin .band a' b')):=Qh0 Q5a Qww ha hb
theorem Qnm {op:CmpOp} (h1:op ≠ .In) (h2:op ≠ .NotIn):behindInMarks op b = false:=by
 unfold behindInMarks
 cases b <;> try rfl
 cases op <;> simp_all
theorem Q5r (hu:X.A.units + 64 < cLine) (ha:QE X a (tE p a')) (hb:QE X b (tE p b')):QE X (.Compare a [.Eq] [b] pos) (tE p (.cmp .eq a' b')):=Qr4 (Q19 hu) Qw1 ha hb (Qnm (by decide) (by decide))
theorem Q9r (hu:X.A.units + 64 < cLine) (ha:QE X a (tE p a')) (hb:QE X b (tE p b')):QE X (.Compare a [.NotEq] [b] pos) (tE p (.cmp .ne a' b')):=Qr4 (Q2a hu) Qw2 ha hb (Qnm (by decide) (by decide))
theorem Q9s (ha:QE X a (tE p a')) (hb:QE X b (tE p b')):QE X (.Compare a [.Lt] [b] pos) (tE p (.cmp .lt a' b')):=Qr4 Q4b Qw3 ha hb (Qnm (by decide) (by decide))
theorem g_ge (ha:QE X a (tE p a')) (hb:QE X b (tE p b')):QE X (.Compare a [.GtE] [b] pos) (tE p (.cmp .ge a' b')):=Qr4 o_ge Q5c ha hb (Qnm (by decide) (by decide))
theorem Q5s (hu:X.A.units + 64 < cLine) (ha:QE X a (tE p a')) (hb:QE X b (tE p b')):QT X (.Compare a [.Eq] [b] pos) (tT p (.cmp .eq a' b')):=Qo7 (Q19 hu) Qw1 ha hb (Qnm (by decide) (by decide))
theorem Qxh (hu:X.A.units + 64 < cLine) (ha:QE X a (tE p a')) (hb:QE X b (tE p b')):QT X (.Compare a [.NotEq] [b] pos) (tT p (.cmp .ne a' b')):=Qo7 (Q2a hu) Qw2 ha hb (Qnm (by decide) (by decide))
theorem Q5t (ha:QE X a (tE p a')) (hb:QE X b (tE p b')):QT X (.Compare a [.Lt] [b] pos) (tT p (.cmp .lt a' b')):=Qo7 Q4b Qw3 ha hb (Qnm (by decide) (by decide))
theorem Q9t (ha:QE X a (tE p a')) (hb:QE X b (tE p b')):QT X (.Compare a [.Gt] [b] pos) (tT p (.cmp .gt a' b')):=Qo7 o_gt Q5b ha hb (Qnm (by decide) (by decide))
theorem Q5u (ha:QE X a (tE p a')) (hb:QE X b (tE p b')):QT X (.Compare a [.IsNot] [b] pos) (tT p (.cmp .isnn a' b')):=Qo7 Q4c Qw4 ha hb (Qnm (by decide) (by decide))
theorem Qbv (ha:QE X e (tE p e')) (he:∀ whole,isTrue e X.env whole = (do let v ← whole; standAt e.pos; holding [v] (truthy v)):=by intro _; rfl):QT X e (tT p e'):=Q9b ha he
theorem Qfv {n:String} {tn:Expr} (hm:X.mg "isinstance" = none) (hv:bootBuiltins "isinstance" = some (.builtin "isinstance")) (ha:QE X a (tE p a')) (ht:QE X tn (tC (.ty n))) (hg:Gl X "isinstance" := by rfl) (h1:Qr a = true:=by rfl) (h2:Qr tn = true:=by rfl):QE X (.Call (.Name "isinstance" p1) [a,tn] [] pos) (tE p (.isI a' n)):=Q9f hm hv ha ht hg h1 h2
theorem Qct {id:String} {r:List V → Hp → VK → Prop} {b:Bi} (hc:QCl X (.builtin id) r) (hs:Ob r b) (hm:X.mg x = none) (hv:bootBuiltins x = some (.builtin id)) (ha:QA X (e :: es) (tA p es')) (hg:Gl X x:=by rfl) (hn:x ≠ "__name__" := by decide) (hdb:(x == ("__debug__" : Str)) = false:=by decide) (h1:Qr e = true:=by rfl) (h2:es.all Qr = true:=by rfl) :
  QE X (.Call (.Name x p1) (e :: es) [] pos) (tE p (.bi b es')):=s_bi hc hs hm hv ha hg hn hdb h1 h2
theorem Qef {T:String} {r:List V → Hp → VK → Prop} {b:Bi} (hc:QCl X (.type T) r) (hs:Ob r b) (hm:X.mg x = none) (hv:bootBuiltins x = some (.type T)) (ha:QA X (e :: es) (tA p es')) (hg:Gl X x:=by rfl) (hn:x ≠ "__name__" := by decide) (hdb:(x == ("__debug__" : Str)) = false:=by decide) (h1:Qr e = true:=by rfl) (h2:es.all Qr = true:=by rfl) :
  QE X (.Call (.Name x p1) (e :: es) [] pos) (tE p (.bi b es')):=Q9g hc hs hm hv ha hg hn hdb h1 h2
theorem Qlr (hK:X.K = K) (ha:QE X a (tE p a')) (hb:QE X b (tE p b')) (hs:Qjr b:=by exact fun _ _=>rfl):QE X (.Subscript a b pos) (tE p (.ix a' b')):=s_ix K hK ha hb hs
theorem Q9u (hK:X.K = K) {lo hi:Option Expr} {lo' hi':Es} (ha:QE X a (tE p a')) (hl:QO X lo (tO p lo')) (hh:QO X hi (tO p hi')):QE X (.Subscript a (.Slice lo hi none p2) pos) (tE p (.slc a' lo' hi')):=Q9h K hK ha hl hh
theorem Q7 {f k:Nat} {ps:List Str} (h:Qv8 X.prog X.w X.K X.mg X.base x ps k (spF p.cf p.mg f)) (pz:Qed X p.R) (hr:Room k X.A) (ha:QA X (e :: es) (tA p es')) (hg:Gl X x:=by rfl) (hdb:(x == ("__debug__" : Str)) = false:=by decide) (h1:Qr e = true:=by rfl) (h2:es.all Qr = true:=by rfl) :
  QE X (.Call (.Name x p1) (e :: es) [] pos) (tE p (.call f es')):=Q5i h pz hr ha hg hdb h1 h2
theorem Qbw {tgE elt iter:Expr} {ifs:List Expr} {scope:Scope} (N:List Str) (js:List (Option Nat)) {w:W} {tg:Tg} {cs:Es} (hcalm:X.calm = true)
  (hi:QI X tgE iter (tW p w)) (hg:∀ s H fp,QG (Qa4 X scope N s H fp) tgE (tG tg)) (hc:∀ s H fp,QC (Qa4 X scope N s H fp) ifs (tCs p.calm cs)) (he:∀ s H fp,QE (Qa4 X scope N s H fp) elt (tE p.calm e'))
  (hk:scope.kind = .function:=by rfl) (h1:scOk X scope = true:=by rfl) (h2:Ql9 X scope N js = true:=by rfl) (hs:∀ x,foldedSetIterable iter X.env x = pure x:=by intro _; rfl):QE X (.ListComp elt [⟨tgE,iter,ifs,0⟩] scope pos) (tE p (.comp w js tg cs e')):=Q5j hcalm hi hg hc he hk h1 h2 hs
variable {tg:Expr}
theorem Qgb (hm:X.mg "range" = none) (ha:QE X a (tE p a')) (hg:Gl X "range" := by rfl) (hs:Qr a = true:=by rfl):QI X tg (.Call (.Name "range" p1) [a] [] pos) (tW p (.rng1 a')):=Q0c hm ha hg hs
theorem Q5v (hm:X.mg "range" = none) (ha:QE X a (tE p a')) (hb:QE X b (tE p b')) (hg:Gl X "range" := by rfl) (hs:Qr a = true:=by rfl) (hs2:Qr b = true:=by rfl):QI X tg (.Call (.Name "range" p1) [a,b] [] pos) (tW p (.rng2 a' b')):=Q0d hm ha hb hg hs hs2
theorem Qqv (he:QE X e (tE p e')) (hs:swapsWith e none pos.line X.env = pure false:=by rfl):QS X (.Expr e pos) (tS p (.expr e')):=Q5l he hs
theorem Qg6 {iter tgE:Expr} {body:List Stmt} {w:W} {tg:Tg} (hc:X.calm = true) (hi:QI X.nox tgE iter (tW p.calm w)) (hg:QG X.nox tgE (tG tg)) (hb:QB X.nox body (tS p.calm s)) (hs:∀ x,foldedSetIterable iter X.env x = pure x:=by intro _; rfl):QS X (.For tgE iter body [] pos) (tS p (.for_ w tg s)):=Q9m hc hi hg hb hs
theorem Q5w {iter tgE:Expr} {body:List Stmt} {w:W} {tg:Tg} (hp:PassesOwn (model X.prog X.w) X.A X.env X.xe) (hc:X.calm = true) (hi:QI X tgE iter (tW p w)) (hg:QG X tgE (tG tg)) (hb:QB X body (tS p s)) (hs:∀ x,foldedSetIterable iter X.env x = pure x:=by intro _; rfl):QS X (.For tgE iter body [] pos) (tS p (.forX w tg s)):=Q5n hp hc hi hg hb hs
theorem Q5x {iter tgE:Expr} {body:List Stmt} {i:Nat} {tg:Tg} (hc:X.calm = true) (hi:QI X.nox tgE iter (Qte K (Qg8 i))) (hg:QG X.nox tgE (tG tg)) (hb:QB X.nox body (tS p.calm s)) (hs:∀ x,foldedSetIterable iter X.env x = pure x:=by intro _; rfl):QS X (.For tgE iter body [] pos) (tS p (.forS i tg s)):=Q5o hc hi hg hb hs
theorem Q9v {lo hi:Expr} {lo' hi':E} (hm:X.mg "range" = none) (hv:bootBuiltins "range" = some (.type "range")) (ha:QE X a (tE p a')) (hl:QE X lo (tE p lo')) (hh:QE X hi (tE p hi')) (hg:Gl X "range" := by rfl) (h1:Qr lo = true:=by rfl) (h2:Qr hi = true:=by rfl) :
  QT X (.Compare a [.NotIn] [.Call (.Name "range" p1) [lo,hi] [] p2] pos) (tT p (.inR true a' lo' hi')) :=
 (Qkb Qv2 ha (Q1t Qv3 hm hv (Qo hl (Qo hh Qat h2) h1) hg (by decide) (by decide) h1 (by rw [Qa1 h2]; rfl)) rfl).weak fun σ H Q h=>by
  obtain ⟨G,ρ,F,h⟩:=Qo6 h
  unfold evE at h
  refine ⟨G,ρ,F,h.bind.imp fun ra ρ1 h1 v H1 G1 F1 r1=>?_⟩
  refine Qo2 F1 h1.bind fun rl ρ2 vl H2 G2 h2 F2 F2' r2=>?_
  refine Qo2 F2 h2.bind fun rh ρ3 vh H3 G3 h3 F3 F3' r3=>?_
  have r1':=(r1.step F1 F2').step F2 F3'
  have r2':=r2.step F2 F3'
  cases ra with
  | ow t=>exact False.elim h3
  | sl i=>exact False.elim h3
  | fz ta =>
   cases rl with
   | ow t=>cases ta <;> exact False.elim h3
   | sl i=>cases ta <;> exact False.elim h3
   | fz tl =>
    cases rh with
    | ow t=>cases ta <;> cases tl <;> exact False.elim h3
    | sl i=>cases ta <;> cases tl <;> exact False.elim h3
    | fz th =>
     cases ta <;> first | exact False.elim h3 | skip
     cases tl <;> first | exact False.elim h3 | skip
     cases th <;> first | exact False.elim h3 | skip
     rename_i i l u
     obtain rfl:=r1'.is.int_inv
     obtain rfl:=r2'.is.int_inv
     obtain rfl:=r3.is.int_inv
     refine ⟨l,u,rfl,fun q hq=>⟨i,q,l,u,rfl,rfl,Qi,?_⟩⟩
     exact h3 _ _ G3 (F3.grow (Same.upd hq)) pvB
end
end L2
set_option maxHeartbeats 2000000
namespace L2
open PySem PySem.Spec PyProof.Rows PySem.W PySem.Calls
variable {X:Cx} {p:Pr} {st:Stmt}
end L2
namespace L2
open PySem PySem.Spec PyProof.Rows PySem.W PySem.Calls
theorem Qmr {f:Slot → Slot} (hf:f .un = .un) (ρ:En) (j:Nat):Qa (ρ.map f) j = f (Qa ρ j):=by
 unfold Qa
 rw [List.getElem?_map]
 cases ρ[j]? with
 | none=>exact hf.symm
 | some s=>rfl
theorem Qhg {ρ ρ1:En} (h:ρ1.length = ρ.length) (j:Nat):Qa (List.zipWith lkB ρ ρ1) j = lkB (Qa ρ j) (Qa ρ1 j):=by
 unfold Qa
 by_cases hj:j < ρ.length
 ·have h1:j < ρ1.length:=by omega
  rw [List.getElem?_eq_getElem hj,List.getElem?_eq_getElem h1,List.getElem?_eq_getElem (by rw [List.length_zipWith]; omega),List.getElem_zipWith]
 ·have h0:(List.zipWith lkB ρ ρ1)[j]? = none:=List.getElem?_eq_none (by rw [List.length_zipWith]; omega)
  have h1:ρ[j]? = none:=List.getElem?_eq_none (by omega)
  have h2:ρ1[j]? = none:=List.getElem?_eq_none (by omega)
  rw [h0,h1,h2]
  rfl
section
variable {X:Cx} {p:Pr} {st:Stmt} {B:Bs} {H H1:Hp} {G G1:Addr → Prop} {σ σ1:St} {ρ ρ1:En} {i:Nat} {ts:List T}
theorem Qpd {f:Slot → Bool} (hf:f .un = true) (h:ρ.all f = true) (j:Nat):f (Qa ρ j) = true:=by
 unfold Qa
 cases e:ρ[j]? with
 | none=>exact hf
 | some s=>exact List.all_eq_true.mp h s (List.mem_of_getElem? e)
noncomputable abbrev lkE (i:Nat) (ts:List T) (ρ:En):En:=(ρ.set i (.fz (.lst ts))).map lkS
theorem Qnn (hi:i < ρ.length) (j:Nat):Qa (lkE i ts ρ) j = if j = i then .fx (.lst ts) else lkS (Qa ρ j):=by
 rw [Qmr rfl,Qbi]
 by_cases e:j = i
 ·rw [if_pos ⟨e,hi⟩,if_pos e]; rfl
 ·rw [if_neg (fun z=>e z.1),if_neg e]
theorem FI.look (F:FI B H G σ ρ) (hO:∀ a,¬ B.O a) (hs:Qa ρ i = .ow (.lst ts)) (hk:(ρ.set i .un).all Qo1 = true) :
  ∃ a G',σ[i]? = some (some (.ref a)) ∧ G a ∧ B.H a = none ∧ (∀ b,G' b ↔ G b ∧ b ≠ a) ∧ FI ⟨B.H,B.G,B.O,B.M,PnA σ (lkE i ts ρ)⟩ H G' σ (lkE i ts ρ):=by
 have hi:i < ρ.length:=Qiv (by rw [hs]; intro z; cases z)
 have q:=F.slot i
 rw [hs] at q
 obtain ⟨a,e,g,ob,ea,il⟩:=q
 have hb:B.H a = none:=by
  rcases F.newO a ⟨i,_,hs,e⟩ with z | z
  ·exact z
  ·exact (hO a z).elim
 have ok:∀ j,j ≠ i → Qo1 (Qa ρ j) = true:=fun j hj=>by
  have:=Qpd rfl hk j
  rwa [Qbi,if_neg (fun z=>hj z.1)] at this
 have sub:Same (dls H G) (dls H fun b=>G b ∧ b ≠ a):=Qc4 fun b h=>h.1
 refine ⟨a,fun b=>G b ∧ b ≠ a,e,g,hb,fun b=>Iff.rfl,?_⟩
 have npv:∀ j c,¬ PrvAt σ (lkE i ts ρ) j c:=fun j c h=>by
  obtain ⟨⟨u,h⟩,_⟩:=h
  rw [Qnn hi] at h
  by_cases z:j = i
  ·rw [if_pos z] at h; cases h
  ·rw [if_neg z] at h
   have k:=ok j z
   cases hs2:Qa ρ j <;> rw [hs2] at h k <;> first | (cases h; done) | (cases k; done) | skip
   rename_i t
   have h:(if Qqo t = true then Slot.fx t else Slot.fz t).prv = some u:=h
   by_cases r:Qqo t = true
   ·rw [if_pos r] at h; cases h
   ·rw [if_neg r] at h; cases h
 exact {
  len:=by rw [List.length_map,List.length_set]; exact F.len
  slot:=fun j=>by
   rw [Qnn hi]
   by_cases z:j = i
   ·rw [if_pos z,z]
    refine ⟨a,ob,e,by rw [Qbc fun y=>y.2 rfl]; exact ea,il.is (by rw [Qbc fun y=>y.2 rfl]; exact ea) sub⟩
   ·rw [if_neg z]
    have q:=F.slot j
    have k:=ok j z
    cases hs2:Qa ρ j <;> rw [hs2] at q k <;> first | (cases k; done) | trivial | exact q | skip
    rename_i t
    obtain ⟨v,ev,iv⟩:=q
    have iv:=iv.mono sub
    by_cases r:Qqo t = true
    ·show Qkp _ _ _ _ (if Qqo t = true then _ else _)
     rw [if_pos r]
     cases t <;> first | (cases r; done) | skip
     ·obtain ⟨c,vs,rfl,hc,_⟩:=iv.tup_inv; exact ⟨c,_,ev,hc,iv⟩
     ·obtain ⟨c,vs,rfl,hc,_⟩:=iv.lst_inv; exact ⟨c,_,ev,hc,iv⟩
    ·show Qkp _ _ _ _ (if Qqo t = true then _ else _)
     rw [if_neg r]
     exact ⟨v,ev,iv⟩
  apart:=fun j k c h _=>(npv j c h).elim
  prv:=fun b h=>F.prv b h.1
  chg:=F.chg
  keep:=F.keep
  newO:=fun c h=>let ⟨j,h⟩:=OwA.prv h; (npv j c h).elim
  newM:=fun c h=>let ⟨j,h⟩:=MlA.prv h; (npv j c h).elim
  fix:=fun _ _ h=>h
  gg:=fun b h=>⟨F.gg b h,fun z=>by obtain ⟨o,e⟩:=F.bp b h; rw [z,hb] at e; cases e⟩
  gn:=fun b h=>F.gn b h.1
  bp:=F.bp }
theorem Qms (s0 s1:Slot):(∃ t,s1 = .fx t ∧ lkB s0 s1 = s0) ∨ (∃ t,s1 = .fz t ∧ flaT t = true ∧ lkB s0 s1 = .fz t) ∨ (∃ a,s1 = .pin a ∧ lkB s0 s1 = .pin a) ∨ lkB s0 s1 = .un:=by
 cases s1 with
 | fx t=>exact .inl ⟨t,rfl,rfl⟩
 | fz t =>
  by_cases h:flaT t = true
  ·exact .inr (.inl ⟨t,rfl,h,if_pos h⟩)
  ·exact .inr (.inr (.inr (if_neg h)))
 | pin a=>exact .inr (.inr (.inl ⟨a,rfl,rfl⟩))
 | un=>exact .inr (.inr (.inr rfl))
 | ow t=>exact .inr (.inr (.inr rfl))
 | ml t=>exact .inr (.inr (.inr rfl))
 | ro t=>exact .inr (.inr (.inr rfl))
theorem Q0i {D D1:Hp} {v:V} {t:T} (h:flaT t = true) (r:Is D v t):Is D1 v t:=by
 cases t <;> first | (cases h; done) | (unfold Is at r ⊢; exact r)
theorem FI.unlook {a:Addr} {G':Addr → Prop} (F:FI B H G σ ρ) (hO:∀ a,¬ B.O a) (hs:Qa ρ i = .ow (.lst ts)) (hk:(ρ.set i .un).all Qo1 = true) (ea:σ[i]? = some (some (.ref a))) (ga:G a) (hb:B.H a = none) (hG:∀ b,G' b ↔ G b ∧ b ≠ a)
  (F1:FI ⟨B.H,B.G,B.O,B.M,PnA σ (lkE i ts ρ)⟩ H1 G1 σ1 ρ1) (s1:Same (dls H G') (dls H1 G1)) (hx:Qzt (Qa ρ1 i) = true) (hl:ρ1.length = ρ.length) :
  FI B H1 (fun b=>G1 b ∨ b = a) σ1 (List.zipWith lkB ρ ρ1) ∧ Same (dls H G) (dls H1 fun b=>G1 b ∨ b = a):=by
 have hi:i < ρ.length:=Qiv (by rw [hs]; intro z; cases z)
 have ok:∀ j,j ≠ i → Qo1 (Qa ρ j) = true:=fun j hj=>by
  have:=Qpd rfl hk j
  rwa [Qbi,if_neg (fun z=>hj z.1)] at this
 obtain ⟨ob,eo,il⟩:∃ ob,H a = some ob ∧ OwnO (dls H G) (.lst ts) ob:=by
  have q:=F.slot i
  rw [hs] at q
  obtain ⟨c,e,_,ob,eo,il⟩:=q
  rw [ea] at e
  cases e
  exact ⟨ob,eo,il⟩
 have a0:dls H G' a = some ob:=by rw [Qbc fun z=>((hG a).mp z).2 rfl]; exact eo
 obtain ⟨na,a1⟩:=Q3 (s1 _ _ a0)
 have sm:Same (dls H G) (dls H1 fun b=>G1 b ∨ b = a):=fun b o e=>by
  obtain ⟨nb,e⟩:=Q3 e
  have nba:b ≠ a:=fun z=>nb (z ▸ ga)
  have e2:dls H G' b = some o:=by rw [Qbc fun z=>nb ((hG b).mp z).1]; exact e
  obtain ⟨n1,e3⟩:=Q3 (s1 _ _ e2)
  rw [Qbc fun z=>z.elim n1 nba]
  exact e3
 have fx1:∀ j t,Qa ρ1 j = .fx t → ∃ c,σ1[j]? = some (some (.ref c)) ∧ σ[j]? = some (some (.ref c)):=fun j t e=>by
  have q:=F1.slot j
  rw [e] at q
  obtain ⟨c,o,ec,_,_⟩:=q
  have:=F1.fix j c ⟨⟨t,.inr (.inr e)⟩,ec⟩
  exact ⟨c,ec,this.2⟩
 have fx0:∀ j t,Qa ρ1 j = .fx t → j ≠ i → ∃ u,Qa ρ j = .fz u:=fun j t e hj=>by
  obtain ⟨c,ec,_⟩:=fx1 j t e
  obtain ⟨⟨u,z⟩,_⟩:=F1.fix j c ⟨⟨t,.inr (.inr e)⟩,ec⟩
  rw [Qnn hi,if_neg hj] at z
  have k:=ok j hj
  cases hs2:Qa ρ j with
  | fz u=>exact ⟨u,rfl⟩
  | un=>rw [hs2] at z; rcases z with z | z | z <;> cases z
  | ow t=>rw [hs2] at k; cases k
  | ml t=>rw [hs2] at k; cases k
  | ro t=>rw [hs2] at k; cases k
  | pin a=>rw [hs2] at z; rcases z with z | z | z <;> cases z
  | fx t=>rw [hs2] at k; cases k
 have ei:Qa (List.zipWith lkB ρ ρ1) i = .ow (.lst ts):=by
  rw [Qhg hl,hs]
  cases h:Qa ρ1 i <;> rw [h] at hx <;> first | (cases hx; done) | rfl
 have ai:σ1[i]? = some (some (.ref a)):=by
  cases h:Qa ρ1 i <;> rw [h] at hx <;> first | (cases hx; done) | skip
  obtain ⟨c,ec,ec0⟩:=fx1 i _ h
  rw [ea] at ec0
  cases ec0
  exact ec
 have kinds:∀ j,j ≠ i → Qa (List.zipWith lkB ρ ρ1) j = .un ∨ (∃ t,Qa (List.zipWith lkB ρ ρ1) j = .fz t) ∨ ∃ c,Qa (List.zipWith lkB ρ ρ1) j = .pin c:=fun j hj=>by
  rw [Qhg hl]
  rcases Qms (Qa ρ j) (Qa ρ1 j) with ⟨t,e1,e2⟩ | ⟨t,e1,f,e2⟩ | ⟨c,e1,e2⟩ | e2
  ·obtain ⟨u,e3⟩:=fx0 j t e1 hj
   rw [e2,e3]
   exact .inr (.inl ⟨u,rfl⟩)
  ·rw [e2]; exact .inr (.inl ⟨t,rfl⟩)
  ·rw [e2]; exact .inr (.inr ⟨c,rfl⟩)
  ·rw [e2]; exact .inl rfl
 have only:∀ j c,PrvAt σ1 (List.zipWith lkB ρ ρ1) j c → j = i ∧ c = a:=fun j c h=>by
  obtain ⟨⟨u,h⟩,q⟩:=h
  by_cases hj:j = i
  ·subst hj; rw [ai] at q; cases q; exact ⟨rfl,rfl⟩
  ·rcases kinds j hj with z | ⟨t,z⟩ | ⟨c,z⟩ <;> rw [z] at h <;> cases h
 refine ⟨?_,sm⟩
 exact {
  len:=by rw [List.length_zipWith,F1.len]; omega
  slot:=fun j=>by
   by_cases hj:j = i
   ·subst hj
    rw [ei]
    exact ⟨a,ai,.inr rfl,ob,a1,il.mono sm⟩
   ·rw [Qhg hl]
    rcases Qms (Qa ρ j) (Qa ρ1 j) with ⟨t,e1,e2⟩ | ⟨t,e1,f,e2⟩ | ⟨c,e1,e2⟩ | e2
    ·obtain ⟨u,e3⟩:=fx0 j t e1 hj
     obtain ⟨c,ec,ec0⟩:=fx1 j t e1
     rw [e2,e3]
     have q:=F.slot j
     rw [e3] at q
     obtain ⟨v,ev,iv⟩:=q
     rw [ec0] at ev
     cases ev
     exact ⟨_,ec,iv.mono sm⟩
    ·rw [e2]
     have q:=F1.slot j
     rw [e1] at q
     obtain ⟨v,ev,iv⟩:=q
     exact ⟨v,ev,Q0i f iv⟩
    ·rw [e2]
     have q:=F1.slot j
     rw [e1] at q
     exact q
    ·rw [e2]; trivial
  apart:=fun j k c h1 h2=>by rw [(only j c h1).1,(only k c h2).1]
  prv:=fun b h=>by
   rcases h with h | h
   ·exact F1.prv b h
   ·rw [h]; exact ⟨ob,a1,il.pen⟩
  chg:=F1.chg
  keep:=F1.keep
  newO:=fun c h=>by
   obtain ⟨j,h⟩:=OwA.prv h
   rw [(only j c h).2]
   exact .inl hb
  newM:=fun c h=>by
   obtain ⟨j,t,e,q⟩:=h
   by_cases hj:j = i
   ·subst hj; rw [ei] at e; cases e
   ·rcases kinds j hj with z | ⟨t,z⟩ | ⟨c,z⟩ <;> rw [z] at e <;> cases e
  fix:=fun j c h=>by
   obtain ⟨⟨t,e⟩,q⟩:=h
   by_cases hj:j = i
   ·subst hj; rw [ei] at e; rcases e with e | e | e <;> cases e
   ·rcases kinds j hj with z | ⟨t,z⟩ | ⟨c,z⟩ <;> rw [z] at e <;> rcases e with e | e | e <;> cases e
  gg:=fun b h=>.inl (F1.gg b h)
  gn:=fun b h=>by
   rcases h with h | h
   ·exact F1.gn b h
   ·rw [h]; exact .inr hb
  bp:=F1.bp }
theorem Q5y {s:S} (h:QS X st (tS p s)):QS X st (tS p (.look i s)):=h.weak fun D σ H ⟨B,G,ρ,F,hO,h⟩=>by
 unfold exS at h
 cases hs:Qa ρ i with
 | un=>rw [hs] at h; exact False.elim h
 | fz t=>rw [hs] at h; exact False.elim h
 | ml t=>rw [hs] at h; exact False.elim h
 | ro t=>rw [hs] at h; exact False.elim h
 | pin t=>rw [hs] at h; exact False.elim h
 | fx t=>rw [hs] at h; exact False.elim h
 | ow t =>
  rw [hs] at h
  cases t <;> first | exact False.elim h | skip
  rename_i ts
  replace h:SFin p B H G D (if (ρ.set i .un).all Qo1 = true then lkO i ρ (exS p.cf s (lkE i ts ρ)) else .no):=h
  by_cases hk:(ρ.set i .un).all Qo1 = true
  ·rw [if_pos hk] at h
   obtain ⟨a,G',ea,ga,hb,hG,F0⟩:=F.look hO hs hk
   refine ⟨_,G',_,F0,hO,?_⟩
   cases e:exS p.cf s (lkE i ts ρ) with
   | nx ρ1 =>
    rw [e] at h
    replace h:SFin p B H G D (if Qzt (Qa ρ1 i) = true ∧ ρ1.length = ρ.length then .nx (List.zipWith lkB ρ ρ1) else .no):=h
    by_cases c:Qzt (Qa ρ1 i) = true ∧ ρ1.length = ρ.length
    ·rw [if_pos c] at h
     intro σ1 H1 G1 F1 s1
     obtain ⟨F2,s2⟩:=F.unlook hO hs hk ea ga hb hG F1 s1 c.1 c.2
     exact h σ1 H1 _ F2 s2
    ·rw [if_neg c] at h; exact False.elim h
   | rt r ρ1 =>
    rw [e] at h
    cases r with
    | ow t=>exact False.elim h
    | sl j=>exact False.elim h
    | fz t =>
     cases t <;> first | exact False.elim h | skip
     rename_i b
     replace h:SFin p B H G D (.rt (.fz (.bl b)) (ρ1.map fun _=>.un)):=h
     intro v σ1 H1 G1 F1 pv
     have un:∀ j,Qa (ρ1.map fun _=>Slot.un) j = .un:=fun j=>by rw [Qmr rfl]
     refine h v σ1 H1 G1 ?_ pv
     exact {
      len:=by rw [List.length_map]; exact F1.len
      slot:=fun j=>by rw [un]; trivial
      apart:=fun j k c h1 _=>by obtain ⟨⟨u,z⟩,_⟩:=h1; rw [un] at z; cases z
      prv:=F1.prv
      chg:=F1.chg
      keep:=F1.keep
      newO:=fun c z=>by obtain ⟨j,t,e,_⟩:=z; rw [un] at e; cases e
      newM:=fun c z=>by obtain ⟨j,t,e,_⟩:=z; rw [un] at e; cases e
      fix:=fun j c z=>by obtain ⟨⟨t,e⟩,_⟩:=z; rw [un] at e; rcases e with e | e | e <;> cases e
      gg:=F1.gg
      gn:=F1.gn
      bp:=F1.bp }
   | bk ρ1=>rw [e] at h; exact False.elim h
   | ct ρ1=>rw [e] at h; exact False.elim h
   | xn x ρ1=>rw [e] at h; exact False.elim h
   | no=>rw [e] at h; exact False.elim h
  ·rw [if_neg hk] at h; exact False.elim h
end
section
variable {X:Cx} {p:Pr} {e a b:Expr} {e' a' b':E} {pos p1 p2 pos':Pos} {x:Str}
end
section
variable {P:Program} {w:World} {H:Hp}
end
section
variable {X:Cx} {p:Pr} {a b:Expr} {a' b':E} {pos:Pos}
end
section
variable {X:Cx} {k v:Expr} {tk tv:TE} {pos:Pos}
end
section
variable {X:Cx} {p:Pr} {a b:Expr} {a' b':E} {pos:Pos}
end
section
variable {prog:Program} {w:World} {A:Around} {E:Value → Shared → Prop} {s:Shared}
end
section
variable {X:Cx}
end
end L2
namespace L2
open PySem PySem.Spec PyProof.Rows PySem.W
section
variable {prog:Program} {w:World} {A:Around} {E:Value → Shared → Prop} {s:Shared} {it d:Addr} {i ep:Nat} {es:Array DictEntry}
end
section
variable {X:Cx}
end
section
variable {prog:Program} {w:World} {A:Around} {E:Value → Shared → Prop} {h:Heap} {g:Array GenState} {d:Drawn} {t:Nat} {os:OsState} {a:Addr} {its:Array Value} {n:Nat}
end
section
variable {prog:Program} {w:World} {A:Around} {E:Value → Shared → Prop} {s:Shared}
end
section
variable {X:Cx}
end
section
variable {prog:Program} {w:World} {A:Around} {E:Value → Shared → Prop} {s:Shared} {l:Addr} {xs:Array (Int × Tok)}
theorem Qqw {Q:Value → Shared → Prop} (hh:A.handled = none) (hl:s.heap.IsTuple l (intItems xs)) (hne:0 < xs.size)
  (h:∀ v h' tk,(intItems xs)[argBest (fun i j=>decide (numAt xs i > numAt xs j)) (xs.size - 1)]? = some v → (∀ b o,s.heap.get? b = some o → h'.get? b = some o) → Q v { s with heap:=h',toks:=tk }) :
  wpAny (model prog w) A (call (.builtin "max") [.ref l]) Q E s:=by
 have hlt:l < s.heap.objs.size:=by obtain ⟨_,e,_⟩:=hl; exact Heap.lt_size e
 have hl2:(s.heap.push { cls:=.type "tuple_iterator",data:=.fields #[.ref l,.int 0 0] }).IsTuple l (intItems xs):=by
  obtain ⟨o,e,r⟩:=hl
  exact ⟨o,Heap.get?_push_of_some _ e,r⟩
 refine call_max_walk (wpAny_pyIter_tuple hl ?_)
 refine ⟨_,_,_,_,_,_,_,rfl,Walks.tuple (A:=A.in1) hh s.heap.objs.size l (Nat.ne_of_lt hlt) (intItems xs),⟨⟨_,Heap.get?_push_size _ rfl,rfl,rfl⟩,hl2⟩,fun b hb=>?_,by simpa [intItems] using hne,CmpOf.ints_gt (numAt xs) (fun _ _=>intItems_at),fun v h' tk hP hk=>?_⟩
 ·show b < (s.heap.push _).objs.size
  rw [Heap.size_push]
  rcases List.mem_cons.mp hb with rfl | hb
  ·exact Nat.lt_succ_self _
  ·rcases List.mem_cons.mp hb with rfl | hb
   ·exact Nat.lt_succ_of_lt hlt
   ·cases hb
 ·refine h v h' tk (by simpa [intItems] using hP) fun b o e=>?_
  refine hk b o (fun hm=>?_) (Heap.get?_push_of_some _ e)
  rcases List.mem_cons.mp hm with e1 | hm
  ·exact absurd (e1 ▸ Heap.lt_size e) (Nat.lt_irrefl _)
  ·cases hm
end
section
variable {X:Cx}
noncomputable def Q2h (K:PySem.W.Frag):List V → Hp → VK → Prop:=fun xs H Q=>∃ (p:Addr) (ns:List Int),xs = [.ref p] ∧ SqT K H p (ns.map V.int) ∧ ns ≠ [] ∧ ∀ M,M ∈ ns → (∀ a ∈ ns,a ≤ M) → Q (.int M) H
theorem call_maxT (K:PySem.W.Frag) (hK:X.K = K) (hc:X.calm = true):CallR X (.builtin "max") (Q2h K):=by
 subst hK
 intro pins s σ H xs us Q I r h
 obtain ⟨p,ns,rfl,hq,hne,q⟩:=h
 obtain ⟨u,rfl,rx⟩:=Qfs r
 cases rx
 obtain ⟨its,r',pl,hz⟩:=I.tuple hq
 have hi:IntsAre its ns:=Qe9 r'
 obtain ⟨xs,e⟩:=hi.allInts.items
 have hns:ns = xs.toList.map (·.1):=by rw [← hi.numsOf,← nums_intItems,← e]
 have hsz:0 < xs.size:=by
  have h3:0 < ns.length:=List.length_pos_iff.mpr hne
  rw [hns,List.length_map,Array.length_toList] at h3; exact h3
 have hl:s.heap.IsTuple p its.toArray:=pl
 rw [e] at hl
 refine Qqw (I.ok.hd hc) hl hsz fun v h' tk hv hk=>?_
 obtain ⟨t,rfl⟩:=intItems_at hv
 obtain ⟨h1,h2⟩:=argBest_gt (numAt xs) (xs.size - 1)
 refine ⟨.int _,H,I.kept hk,⟨t,rfl⟩,q _ ?_ fun a ha=>?_⟩
 ·rw [hns,numAt_eq]; exact getD_mem (by rw [List.length_map,Array.length_toList]; omega)
 ·rw [hns] at ha
  obtain ⟨j,hj,rfl⟩:=mem_getD ha
  rw [List.length_map,Array.length_toList] at hj
  rw [← numAt_eq]; exact h2 j (by omega)
theorem ob_maxT (K:PySem.W.Frag):Ob (Q2h K) .maxT:=by
 intro B H G σ ρ vs ts w Q F r e q
 match ts,e,r with
 | [.tup a],e,r =>
  obtain ⟨v,rfl,h⟩:=r.one
  replace e:(match Qcb a with | some (x :: xs)=>some (PV.fz (.int (Qgx x xs))) | _=>none) = some w:=e
  cases ei:Qcb a with
  | none=>rw [ei] at e; cases e
  | some is =>
   cases is with
   | nil=>rw [ei] at e; cases e
   | cons x xs =>
    rw [ei] at e
    cases e
    have ea:=Qf5 ei
    have it:=h.tup
    rw [ea] at it
    obtain ⟨p,vs,rfl,hp,il⟩:=it.tup_inv
    have ev:=IsL.ints_inv il
    subst ev
    obtain ⟨k1,k2,k3⟩:=Qnk xs x
    refine ⟨p,x :: xs,rfl,.inl (.inl (Q3 hp).2),by simp,fun M hM hle=>?_⟩
    have:M = Qgx x xs:=by
     have a1:Qgx x xs ≤ M:=hle _ (by
      rcases k3 with k3 | k3
      ·rw [k3]; exact List.mem_cons_self
      ·exact List.mem_cons_of_mem _ k3)
     have a2:M ≤ Qgx x xs:=by
      rcases List.mem_cons.mp hM with z | z
      ·rw [z]; exact k1
      ·exact k2 _ z
     omega
    subst this
    exact q _ _ _ F pvI
end
section
variable {prog:Program} {w:World} {A:Around} {E:Value → Shared → Prop} {s:Shared} {l:Addr} {xs:Array (Int × Tok)}
theorem Qqx {Q:Value → Shared → Prop} (hh:A.handled = none) (hl:s.heap.IsTuple l (intItems xs)) (hne:0 < xs.size)
  (h:∀ v h' tk,(intItems xs)[argBest (fun i j=>decide (numAt xs i < numAt xs j)) (xs.size - 1)]? = some v → (∀ b o,s.heap.get? b = some o → h'.get? b = some o) → Q v { s with heap:=h',toks:=tk }) :
  wpAny (model prog w) A (call (.builtin "min") [.ref l]) Q E s:=by
 have hlt:l < s.heap.objs.size:=by obtain ⟨_,e,_⟩:=hl; exact Heap.lt_size e
 have hl2:(s.heap.push { cls:=.type "tuple_iterator",data:=.fields #[.ref l,.int 0 0] }).IsTuple l (intItems xs):=by
  obtain ⟨o,e,r⟩:=hl
  exact ⟨o,Heap.get?_push_of_some _ e,r⟩
 refine call_min_walk (wpAny_pyIter_tuple hl ?_)
 refine ⟨_,_,_,_,_,_,_,rfl,Walks.tuple (A:=A.in1) hh s.heap.objs.size l (Nat.ne_of_lt hlt) (intItems xs),⟨⟨_,Heap.get?_push_size _ rfl,rfl,rfl⟩,hl2⟩,fun b hb=>?_,by simpa [intItems] using hne,CmpOf.ints_lt (numAt xs) (fun _ _=>intItems_at),fun v h' tk hP hk=>?_⟩
 ·show b < (s.heap.push _).objs.size
  rw [Heap.size_push]
  rcases List.mem_cons.mp hb with rfl | hb
  ·exact Nat.lt_succ_self _
  ·rcases List.mem_cons.mp hb with rfl | hb
   ·exact Nat.lt_succ_of_lt hlt
   ·cases hb
 ·refine h v h' tk (by simpa [intItems] using hP) fun b o e=>?_
  refine hk b o (fun hm=>?_) (Heap.get?_push_of_some _ e)
  rcases List.mem_cons.mp hm with e1 | hm
  ·exact absurd (e1 ▸ Heap.lt_size e) (Nat.lt_irrefl _)
  ·cases hm
end
section
variable {X:Cx}
noncomputable def Qxi (K:PySem.W.Frag):List V → Hp → VK → Prop:=fun xs H Q=>∃ (p:Addr) (ns:List Int),xs = [.ref p] ∧ SqT K H p (ns.map V.int) ∧ ns ≠ [] ∧ ∀ M,M ∈ ns → (∀ a ∈ ns,M ≤ a) → Q (.int M) H
theorem Qtx (K:PySem.W.Frag) (hK:X.K = K) (hc:X.calm = true):CallR X (.builtin "min") (Qxi K):=by
 subst hK
 intro pins s σ H xs us Q I r h
 obtain ⟨p,ns,rfl,hq,hne,q⟩:=h
 obtain ⟨u,rfl,rx⟩:=Qfs r
 cases rx
 obtain ⟨its,r',pl,hz⟩:=I.tuple hq
 have hi:IntsAre its ns:=Qe9 r'
 obtain ⟨xs,e⟩:=hi.allInts.items
 have hns:ns = xs.toList.map (·.1):=by rw [← hi.numsOf,← nums_intItems,← e]
 have hsz:0 < xs.size:=by
  have h3:0 < ns.length:=List.length_pos_iff.mpr hne
  rw [hns,List.length_map,Array.length_toList] at h3; exact h3
 have hl:s.heap.IsTuple p its.toArray:=pl
 rw [e] at hl
 refine Qqx (I.ok.hd hc) hl hsz fun v h' tk hv hk=>?_
 obtain ⟨t,rfl⟩:=intItems_at hv
 obtain ⟨h1,h2⟩:=argBest_lt (numAt xs) (xs.size - 1)
 refine ⟨.int _,H,I.kept hk,⟨t,rfl⟩,q _ ?_ fun a ha=>?_⟩
 ·rw [hns,numAt_eq]; exact getD_mem (by rw [List.length_map,Array.length_toList]; omega)
 ·rw [hns] at ha
  obtain ⟨j,hj,rfl⟩:=mem_getD ha
  rw [List.length_map,Array.length_toList] at hj
  rw [← numAt_eq]; exact h2 j (by omega)
theorem Q5z (K:PySem.W.Frag) (hK:X.K = K) (hc:X.calm = true):QCl X (.builtin "min") (Qxi K):=⟨Qtx K hK hc⟩
theorem Q0j (K:PySem.W.Frag):Ob (Qxi K) .minT:=by
 intro B H G σ ρ vs ts w Q F r e q
 match ts,e,r with
 | [.tup a],e,r =>
  obtain ⟨v,rfl,h⟩:=r.one
  replace e:(match Qcb a with | some (x :: xs)=>some (PV.fz (.int (Qfd x xs))) | _=>none) = some w:=e
  cases ei:Qcb a with
  | none=>rw [ei] at e; cases e
  | some is =>
   cases is with
   | nil=>rw [ei] at e; cases e
   | cons x xs =>
    rw [ei] at e
    cases e
    have ea:=Qf5 ei
    have it:=h.tup
    rw [ea] at it
    obtain ⟨p,vs,rfl,hp,il⟩:=it.tup_inv
    have ev:=IsL.ints_inv il
    subst ev
    obtain ⟨k1,k2,k3⟩:=Qjw xs x
    refine ⟨p,x :: xs,rfl,.inl (.inl (Q3 hp).2),by simp,fun M hM hle=>?_⟩
    have:M = Qfd x xs:=by
     have a1:M ≤ Qfd x xs:=hle _ (by
      rcases k3 with k3 | k3
      ·rw [k3]; exact List.mem_cons_self
      ·exact List.mem_cons_of_mem _ k3)
     have a2:Qfd x xs ≤ M:=by
      rcases List.mem_cons.mp hM with z | z
      ·rw [z]; exact k1
      ·exact k2 _ z
     omega
    subst this
    exact q _ _ _ F pvI
end
end L2
namespace L2
open PySem PySem.Spec PyProof.Rows PySem.W PySem.Calls
section
variable {prog:Program} {w:World} {A:Around} {E:Value → Shared → Prop} {s:Shared}
end
inductive TupsI (h:Heap):List Value → List (List Int) → Prop
 | nil:TupsI h [] []
 | cons {a:Addr} {its:List Value} {k:List Int} {vs:List Value} {ks:List (List Int)} (ht:h.IsTuple a its.toArray) (hi:IntsAre its k) (t:TupsI h vs ks):TupsI h (.ref a :: vs) (k :: ks)
section
variable {prog:Program} {w:World} {A:Around} {E:Value → Shared → Prop} {s:Shared}
end
section
variable {prog:Program} {w:World} {A:Around} {E:Value → Shared → Prop} {s:Shared}
end
inductive TupsV (K:PySem.W.Frag) (H:Hp):List V → List (List Int) → Prop
 | nil:TupsV K H [] []
 | cons {b:Addr} {k:List Int} {ys:List V} {ks:List (List Int)} (hq:SqT K H b (k.map V.int)) (t:TupsV K H ys ks):TupsV K H (.ref b :: ys) (k :: ks)
section
variable {X:Cx}
end
end L2
namespace L2
open PySem PySem.Spec PyProof.Rows PySem.W PySem.Calls
section
variable {prog:Program} {w:World} {A:Around} {E:Value → Shared → Prop} {s:Shared}
noncomputable def elt (vs:List Value) (ks:List (List Int)) (j:Nat):Int × Value:=(Qr1 (Qkk ks j),vs.getD j Value.none)
structure MOk (ks:List (List Int)) (led:Bool) (r:SetTable × Array Nat):Prop where
 fits:r.1.fits r.2.size = true
 plain:r.1.plain = true
 gave:r.1.gaveWay = false
 led:r.1.led = led
 size:r.2.size ≤ 1000
 lt:∀ x ∈ r.2,x < ks.length
end
section
variable {prog:Program} {w:World} {A:Around} {R:Result → Shared → Prop} {I:Addr} {fp wr:List Addr} {G:Array GenState → Array GenState → Prop} {n:Nat} {P:Nat → Value → Prop} {St:Nat → Shared → Prop}
end
section
variable {prog:Program} {w:World} {A:Around} {E:Value → Shared → Prop} {s:Shared}
end
end L2
namespace L2
open PySem PySem.Spec PyProof.Rows PySem.W PySem.Calls
section
variable {prog:Program} {w:World} {A:Around} {E:Value → Shared → Prop} {s:Shared}
end
section
variable {X:Cx}
end
section
variable {H H1:Hp} {b:Addr} {o:HO}
end
section
variable {X:Cx}
end
section
variable {X:Cx} {p:Pr} {e a b:Expr} {e' a' k':E} {st:Stmt} {pos p1 apos:Pos} {x:Str} {K:PySem.W.Frag}
end
end L2
namespace L2
open PySem PySem.Spec PyProof.Rows PySem.W
section
variable {X:Cx} {tg l e:Expr} {tl:TE}
end
section
variable {X:Cx} {p:Pr} {tg e:Expr} {e':E}
end
section
variable {B:Bs} {H H1:Hp} {G G1:Addr → Prop} {σ σ1:St} {ρ ρ1:En} {b:Addr} {o:HO}
noncomputable def Q0k (H:Hp) (G:Addr → Prop) (r:Addr) (is:List Int):Prop:=¬ G r ∧ H r = some (.lst (is.map V.int)) ∧ is.length ≤ 1000
noncomputable def Q50 (H:Hp) (G:Addr → Prop) (q:Addr × List Addr) (M:List (List Int)):Prop:=¬ G q.1 ∧ H q.1 = some (.lst (q.2.map V.ref)) ∧ Paired (Q0k H G) q.2 M ∧ M.length ≤ 1000
noncomputable abbrev Q0l (ps:List (Addr × List Addr)):List Addr:=ps.map (·.1) ++ ps.flatMap (·.2)
structure Tree (H:Hp) (G:Addr → Prop) (lf:Addr) (ps:List (Addr × List Addr)) (Ms:List (List (List Int))):Prop where
 own:G lf
 top:H lf = some (.lst (ps.map fun q=>V.ref q.1))
 tabs:Paired (Q50 H G) ps Ms
 nd:(Q0l ps).Nodup
theorem Qxj (s:Same (dls H G) (dls H1 G1)) (g:¬ G b) (e:H b = some o):¬ G1 b ∧ H1 b = some o:=Q3 (s b o (by rw [Qbc g]; exact e))
structure Lv (B:Bs) (iF iR:Nat) (H:Hp) (G:Addr → Prop) (σ:St) (ρ:En) (lf lr:Addr) (ps:List (Addr × List Addr)) (Ms:List (List (List Int))) (rs:List Addr) (R:List (List Int)):Prop where
 F:FI B H G σ ρ
 sF:Qa ρ iF = .ow (.lst (Ms.map Qdj))
 eF:σ[iF]? = some (some (.ref lf))
 sR:Qa ρ iR = .ow (.lst (R.map Qmh))
 eR:σ[iR]? = some (some (.ref lr))
 tr:Tree H G lf ps Ms
 hr:H lr = some (.lst (rs.map V.ref))
 rows:Paired (Q0k H G) rs R
 nd:(rs ++ Q0l ps).Nodup
 fr:∀ b ∈ rs ++ Q0l ps,B.H b = none
structure Lf (B:Bs) (iF:Nat) (H:Hp) (G:Addr → Prop) (σ:St) (ρ:En) (lf:Addr) (ps:List (Addr × List Addr)) (Ms:List (List (List Int))):Prop where
 F:FI B H G σ ρ
 sF:Qa ρ iF = .ow (.lst (Ms.map Qdj))
 eF:σ[iF]? = some (some (.ref lf))
 tr:Tree H G lf ps Ms
 fr:∀ b ∈ Q0l ps,B.H b = none
variable {iF iR iH:Nat} {lf lr:Addr} {ps:List (Addr × List Addr)} {Ms:List (List (List Int))} {rs:List Addr} {R:List (List Int)} {is:List Int}
end
theorem argR.mono {H H':Hp} {dx:Option Addr} (s:Same H H'):∀ {arg:List Int},argR H dx arg → argR H' dx arg
 | [],h=>h
 | [_],⟨d,e,q⟩=>⟨d,e,s _ _ q⟩
 | [_,_],⟨d,e,q⟩=>⟨d,e,s _ _ q⟩
 | _ :: _ :: _ :: _,h=>h.elim
noncomputable def Q9w (mg:Str → Option Value) (H:Hp) (a:Addr) (c:Nat) (arg:List Int):Prop:=∃ nm dx,Qas[c]? = some nm ∧ H a = some (Qnf a (.ref (cad mg nm)) dx) ∧ argR H dx arg
noncomputable def Qxk:T → Option V
 | .non=>some .non
 | .bl b=>some (.bl b)
 | .int i=>some (.int i)
 | .str s=>some (.str s)
 | _=>none
noncomputable def Qsc:List T → Option (List V)
 | []=>some []
 | t :: ts=>match Qxk t,Qsc ts with
  | some v,some vs=>some (v :: vs)
  | _,_=>none
noncomputable def NewT (H H2:Hp) (v:V) (t:T):Prop:=Qxk t = some v ∨ ∃ ts vs q,t = .tup ts ∧ ts.length ≤ 1000 ∧ Qsc ts = some vs ∧ v = .ref q ∧ H q = none ∧ H2 q = some (.tup vs)
theorem Qsd {D:Hp} {t:T} {v:V} (h:Qxk t = some v):Is D v t:=by
 cases t <;> first | (cases h; done) | skip
 ·cases h; exact Is.non
 ·cases h; exact Is.bl
 ·cases h; exact Is.int
 ·cases h; exact Is.str
theorem Qpe {D:Hp}:∀ {ts:List T} {vs:List V},Qsc ts = some vs → IsL D vs ts
 | [],vs,h=>by cases h; exact .nil
 | t :: ts,vs,h=>by
  unfold Qsc at h
  split at h
  ·rename_i v ws e1 e2
   cases h
   exact .cons (Qsd e1) (Qpe e2)
  ·cases h
noncomputable def Q51 (mg:Str → Option Value) (i n:Nat) (h:Nat → List Int → Option T):TS:=fun D σ H=>∃ a c arg t,σ.length = n ∧ σ[i]? = some (some (.ref a)) ∧ Q9w mg H a c arg ∧ h c arg = some t ∧ ∀ v H2,Same H H2 → NewT H H2 v t → D.rt v H2
section
variable {X:Cx} {p:Pr} {body suite:List Stmt} {b0:Stmt} {n:Str} {np hpos pos:Pos} {i:Nat} {b:S} {h:Nat → List Int → Option T}
theorem Q0m (ex:Exs X.K p.mg) {D:Ends} {σ:St} {H:Hp} (hi:i < σ.length) (q:tS p (.tryR i b h) D σ H):Q8m i X.K (cad p.mg "NoughtError") (fun R=>tS ⟨p.cf,R,p.mg⟩ b) (Q51 p.mg i σ.length h) D σ H:=by
 obtain ⟨B,G,ρ,F,hO,q⟩:=q
 unfold exS at q
 refine ⟨fun cls dx σ' H'=>∃ x ρ1 G',FI B H' G' σ' ρ1 ∧ Qzu p.mg H' x cls dx ∧ exS p.cf b ρ = .xn x ρ1,⟨B,G,ρ,F,hO,?_⟩,?_⟩
 ·cases e:exS p.cf b ρ with
  | nx ρ1=>rw [e] at q; exact q
  | rt r ρ1=>rw [e] at q; exact q
  | bk ρ1=>rw [e] at q; exact q
  | ct ρ1=>rw [e] at q; exact q
  | no=>rw [e] at q; exact q
  | xn x ρ1=>exact fun cls dx σ1 H1 G1 F1 xr=>⟨x,ρ1,G1,F1,xr,rfl⟩
 ·rintro cls dx σ' H' a ⟨x,ρ1,G',F1,xr,e⟩ ha hl
  rw [e] at q
  obtain ⟨nm,hn,rfl,hd⟩:=xr
  refine ⟨⟨_,rfl,ex.sub x.c hn⟩,?_⟩
  dsimp only at q
  cases ht:h x.c x.arg with
  | none=>rw [ht] at q; exact q.elim
  | some t =>
   rw [ht] at q
   have sa:Same H' (upd H' a (Qnf a (.ref (cad p.mg nm)) dx)):=Same.upd ha
   refine ⟨a,x.c,x.arg,t,by rw [List.length_set,hl],Qkw (by rw [hl]; exact hi),⟨nm,dx,hn,Qi,?_⟩,ht,fun v H2 s2 nw=>?_⟩
   ·exact hd.mono sa
   ·have s3:=sa.trans s2
    have F2:=F1.grow s3
    refine q v σ' H2 G' F2 ?_
    show Is (dls H2 G') v t
    rcases nw with z | ⟨ts,vs,w,rfl,hz,e1,rfl,e2,e3⟩
    ·exact Qsd z
    ·have hw:H' w = none:=by
      cases z:H' w with
      | none=>rfl
      | some o=>rw [sa _ _ z] at e2; cases e2
     have ng:¬ G' w:=fun g=>by
      obtain ⟨_,z,_⟩:=F1.prv w g
      rw [hw] at z
      cases z
     exact .tup (by rw [Qbc ng]; exact e3) (Qpe e1) (by omega)
end
section
variable {X:Cx} {p:Pr} {e:Expr} {es:List Expr} {es':Es} {x nm:Str} {np cpos pos:Pos} {c k:Nat} {D:Ends} {σ:St} {H:Hp}
theorem Qty (hx:Qas[c]? = some nm) (hc:c < 6) (h:tS p (.raise c es') D σ H):tA p es' σ H (fun vs H1=>vs.length ≤ sizeLine ∧ p.R (.ref (cad p.mg nm)) none σ H1):=by
 obtain ⟨B,G,ρ,F,hO,h⟩:=h
 unfold exS at h
 refine Qws F (Qf9 h) fun rs ρ2 vs H2 G2 k F2 _ r2=>?_
 split at k
 ·rw [if_neg (by omega)] at k
  exact False.elim k
 ·rw [if_pos hc] at k
  cases r2 with
  | cons pv r3 =>
   cases r3
   exact ⟨by show 1 ≤ sizeLine; decide,k _ _ σ H2 G2 F2 ⟨nm,hx,rfl,rfl⟩⟩
 ·rw [if_neg (by omega)] at k
  exact False.elim k
 ·exact False.elim k
theorem Qtz (hx:Qas[c]? = some nm) (hc:6 ≤ c ∧ c < 9) (h:tS p (.raise c es') D σ H):tA p es' σ H (fun vs H1=>∃ v,vs = [v] ∧ ∀ d,H1 d = none → p.R (.ref (cad p.mg nm)) (some d) σ (upd H1 d (.xd [("at",v)]))):=by
 obtain ⟨B,G,ρ,F,hO,h⟩:=h
 unfold exS at h
 refine Qws F (Qf9 h) fun rs ρ2 vs H2 G2 k F2 _ r2=>?_
 split at k
 ·rw [if_pos hc] at k
  cases r2 with
  | cons pv r3 =>
   cases r3
   have e:=pv.is
   unfold Is at e
   subst e
   exact ⟨_,rfl,fun d hd=>k _ _ σ _ G2 (F2.grow (Same.upd hd)) ⟨nm,hx,rfl,d,rfl,Qi⟩⟩
 ·rw [if_neg (by omega)] at k
  exact False.elim k
 ·rw [if_neg (by omega)] at k
  exact False.elim k
 ·exact False.elim k
theorem Qxl (c:Nat) (pz:Qed X p.R) (hc:X.calm = true) (ex:Exs X.K p.mg) (hx:Qas[c]? = some x) (h6:c < 6) (ha:QA X (e :: es) (tA p es')) (hm:X.mg x = p.mg x:=by rfl) (hg:Gl X x:=by rfl)
  (hdb:(x == ("__debug__" : Str)) = false:=by decide) (he:starEach (e :: es) X.env = (false,eval e X.env) :: starEach es X.env:=by rfl) (hpl:(backTo cpos (starEach es X.env)).any (·.1) = false:=by rfl) :
  QS X (.Raise (some (.Call (.Name x np) (e :: es) [] cpos)) none pos) (tS p (.raise c es')) :=
 (Qzm pz hc F.excBase_ValueError (ex.rz c h6 hx) (hm.trans (ex.m c x hx)) ha hg hdb he hpl).weak fun D σ H h=>Qty hx h6 h
theorem Qpf (c:Nat) (pz:Qed X p.R) (hc:X.calm = true) (ex:Exs X.K p.mg) (i:Ini X.K (cad p.mg "NoughtError") (cad p.mg x)) (hr:Room k X.A) (hx:Qas[c]? = some x) (h6:6 ≤ c ∧ c < 9) (ha:QA X [e] (tA p es')) (hm:X.mg x = p.mg x:=by rfl) (hg:Gl X x:=by rfl)
  (hdb:(x == ("__debug__" : Str)) = false:=by decide) (he:starEach [e] X.env = [(false,eval e X.env)]:=by rfl) :
  QS X (.Raise (some (.Call (.Name x np) [e] [] cpos)) none pos) (tS p (.raise c es')) :=
 (Qwi pz hc i hr (hm.trans (ex.m c x hx)) ha hg hdb he).weak fun D σ H h=>Qtz hx h6 h
end
section
variable {X:Cx} {p:Pr} {body suite:List Stmt} {b0:Stmt} {n:Str} {np hpos pos:Pos} {i:Nat} {b:S} {h:Nat → List Int → Option T}
theorem Q52 (ex:Exs X.K p.mg) (hb:∀ (pins:List (Addr × Obj)) (R:XR),Qed (Qkf X pins R) R → QB (Qkf X pins R) body (tS ⟨p.cf,R,p.mg⟩ b)) (hs:∀ (pins:List (Addr × Obj)) (e:Addr),QB (Qkg X pins e) (b0 :: suite) (Q51 p.mg i X.N.length h))
  (hN:X.N.Nodup) (hm:X.mg "NoughtError" = p.mg "NoughtError" := by rfl) (hi:X.N[i]? = some n:=by rfl) (hl:X.env.scope.names.lookup n = some .local:=by rfl) (hg:Gl X "NoughtError" := by rfl)
  (hst:∃ env outer L,X.stack = env :: outer ∧ X.env = env ∧ env.frame = some L:=by exact ⟨_,_,_,rfl,rfl,rfl⟩):QS X (.Try body [.ExceptHandler (some (.Name "NoughtError" np)) (some n) (b0 :: suite) hpos] [] [] pos) (tS p (.tryR i b h)) :=
 ⟨fun pins s σ H D I z=>(Q8n hb hs hN ex.nou F.excBase_ValueError.hasBase (hm.trans ex.m0) hi hl hg hst (by decide)).h pins s σ H D I (I.len ▸ Q0m ex (by rw [I.len]; exact (List.getElem?_eq_some_iff.mp hi).1) z)⟩
end
section
variable {X:Cx} {p:Pr} {a b c:Expr} {a' b' c':E} {pos:Pos}
end
section
variable {prog:Program} {w:World} {A:Around} {E:Value → Shared → Prop} {s:Shared}
end
section
variable {X:Cx} {a b:Expr} {rest:List Expr} {ta tb:TE} {pos:Pos}
end
section
variable {cf:CF} {ρ:En}
end
section
variable {X:Cx} {pins:List (Addr × Obj)} {σ:St} {H:Hp} {s:Shared}
end
section
variable {X:Cx} {p:Pr}
end
section
variable {X:Cx} {p:Pr} {x:Str} {i n:Nat} {e:Expr} {es:List Expr} {es':Es} {p1 pos:Pos}
end
structure LamSc (l:LamT):Prop where
 kind:l.scope.kind = .function
 co:l.scope.isCoroutine = false
 gen:l.scope.isGenerator = false
 nd:(l.ps ++ l.caps).Nodup
 par:∀ x ∈ l.ps,l.scope.names.lookup x = some .local
 cap:∀ x ∈ l.caps,l.scope.names.lookup x = some .free
 nocell:∀ y ∈ l.scope.names,y.2 ≠ .cell
 free:∀ y ∈ l.scope.names,y.2 = .free → y.1 ∈ l.caps
 bind:∀ (cl:List (Str × Addr)) (pm cdv ctv:Value) (us:List Value),us.length = l.ps.length → bindArgs (PySem.W.kla_fn "<lambda>" l.qual l.params l.body l.scope cl pm cdv ctv) ⟨us,[]⟩ = pure (l.ps.zip us)
section
variable {P:Program} {w:World} {K:PySem.W.Frag} {mg:Str → Option Value} {base:Heap}
noncomputable abbrev swX (X:Cx) (g:Str → Bool):Cx:={ X with fn:=g }
structure QB0 (X:Cx) (g:Str → Bool) (st:List Stmt) (t:TS):Prop where
 h:∀ (pins:List (Addr × Obj)) (s:Shared) (σ:St) (H:Hp) (D:Ends),Inv X pins σ H s → t D σ H → wpAny (model X.prog X.w) X.A (execs st X.env) (SP (swX X g) pins D) X.xe s
end
section
variable {K:PySem.W.Frag} {tb:Addr} {qn:Str} {mg:Str → Option Value}
structure MakesL (K:PySem.W.Frag) (mg:Str → Option Value) (x:Str) (c tb:Addr):Prop where
 tab:K.lookup tb = none
 of:Qqh K mg x (.ref c)
 hd:∃ o vs file tf flags tg inF text tt,K.lookup c = some o ∧ o.cls = .type "code" ∧ o.data = .fields vs ∧ vs[11]? = some (.ref tb) ∧ vs.getD 11 .none = .ref tb ∧ vs.getD 18 .none = .str file tf ∧ vs.getD 7 .none = .int flags tg ∧ vs.getD 9 .none = .bool inF ∧ vs.getD 10 .none = .int text tt
end
section
variable {X:Cx} {p:Pr} {x:Str} {e:Expr} {es:List Expr} {es':Es} {p1 pos:Pos}
end
noncomputable abbrev uns (n:Nat):En:=List.replicate n .un
theorem Qcz (n i:Nat):Qa (uns n) i = .un:=by
 unfold Qa uns
 rw [List.getElem?_replicate]
 split <;> rename_i e
 ·split at e <;> cases e
  rfl
 ·rfl
noncomputable abbrev bs0 (H:Hp):Bs:=⟨H,fun _=>False,fun _=>False,fun _=>False,fun _ _=>False⟩
theorem Q53 (H:Hp) {σ:St} {n:Nat} (hl:σ.length = n):FI (bs0 H) H (fun _=>False) σ (uns n) where
 len:=by rw [hl,List.length_replicate]
 slot:=fun i=>by rw [Qcz]; trivial
 apart:=fun i j a h _=>by obtain ⟨⟨t,e⟩,_⟩:=h; rw [Qcz] at e; cases e
 prv:=fun b h=>h.elim
 chg:=fun _ _ _ _ e=>e
 keep:=fun _ o e=>⟨o,e⟩
 newO:=fun a h=>by obtain ⟨i,t,e,_⟩:=h; rw [Qcz] at e; cases e
 newM:=fun a h=>by obtain ⟨i,t,e,_⟩:=h; rw [Qcz] at e; cases e
 fix:=fun i a h=>by obtain ⟨⟨t,e⟩,_⟩:=h; rw [Qcz] at e; rcases e with e | e | e <;> cases e
 gg:=fun _ h=>h
 gn:=fun _ h=>.inl h
 bp:=fun _ h=>h.elim
noncomputable def Qk0 (K:PySem.W.Frag):Sp:=fun vs H Q _=>∃ (a:Addr) (ns:List Int) (k:Nat),vs = [.ref a,.int k] ∧ SqL K H a (ns.map V.int) ∧ ∀ i:Int,Q (.int i) H
noncomputable abbrev Qxm (K:PySem.W.Frag) (hi:Int):TI:=Qte K (tOp (Qma K) (Q1p (Qey (Qj5 (Qk0 K) [] E0 (Qey (Qg8 0) (Qey (tC (.int 0)) Qlm))) Qlm)) (tSl (Qvl K) (Qg8 0) (Qrq (tC (.int 1))) (Qrq (tC (.int hi)))))
theorem Qxn {p:Pr} {K:PySem.W.Frag} {σ:St} {H:Hp} {D:Ends} {a:Addr} {ns:List Int} {ic n:Nat} {body:S} {hi:Int} (hσ:σ[0]? = some (some (.ref a))) (hs:SqL K H a (ns.map V.int)) (hns:ns.length ≤ 63) (hl:σ.length = n) (hic:ic < n)
  (hb:∀ m:Int,∃ ρ',exS p.cf body ((uns n).set ic (.fz (.int m))) = .nx ρ' ∧ ρ'.length = n) (hD:∀ σ' H',D.nx σ' H'):Quy (Qxm K hi) (Qfz ic) (tS p body) D σ H:=by
 refine ⟨_,hσ,a,ns,0,rfl,hs,fun c0=>⟨by show 1 ≤ sizeLine; decide,fun l7 n7=>?_⟩⟩
 have hs7:=(Same.upd (o:=.lst [.int c0]) n7).seq hs
 refine ⟨_,hσ,_,rfl,_,rfl,.inl ⟨a,_,rfl,hs7,fun l8 n8=>?_⟩⟩
 have n78:l7 ≠ l8:=Qa2 Qi n8
 have hcl:=Qf1 (ns.map V.int) (some 1) (some hi)
 refine .inr (.inl ⟨l7,l8,_,_,rfl,rfl,by rw [Qv n78,Qi],Qi,?_,fun l9 n9=>?_⟩)
 ·refine Qbh ?_
  rw [List.length_map] at hcl
  show 1 + _ ≤ 100000
  omega
 generalize hH9:upd (upd (upd H l7 (.lst [.int c0])) l8 (.lst (Qf0 (ns.map V.int) (some 1) (some hi)))) l9 (.lst ([.int c0] ++ Qf0 (ns.map V.int) (some 1) (some hi))) = H9
 have e9:H9 l9 = some (.lst ([.int c0] ++ Qf0 (ns.map V.int) (some 1) (some hi))):=by rw [← hH9,Qi]
 have allI:∀ x ∈ [V.int c0] ++ Qf0 (ns.map V.int) (some 1) (some hi),∃ i:Int,x = .int i:=fun x hx=>by
  rcases List.mem_append.mp hx with hx | hx
  ·exact ⟨c0,List.mem_singleton.mp hx⟩
  ·have hx:=List.mem_of_mem_drop (List.mem_of_mem_take hx)
   obtain ⟨n,_,e⟩:=List.mem_map.mp hx
   exact ⟨n,e.symm⟩
 refine ⟨l9,rfl,.inl ⟨⟨_,SqL.of e9⟩,Quz (K:=K) (a:=l9) (xs:=[V.int c0] ++ Qf0 (ns.map V.int) (some 1) (some hi)) (fun i σ H10=>σ.length = n ∧ H10 l9 = some (.lst ([.int c0] ++ Qf0 (ns.map V.int) (some 1) (some hi)))) ⟨hl,e9⟩ (fun i σ H10 _ h=>SqL.of h.2) ?_ ?_⟩⟩
 ·rintro i x σ2 H2 hx ⟨hl2,e2⟩
  obtain ⟨m,rfl⟩:=allI x (List.mem_of_getElem? hx)
  obtain ⟨ρ',eb,lb⟩:=hb m
  have F0:=(Q53 H2 hl2).setFz (i:=ic) (v:=.int m) (t:=.int m) (by rw [List.length_replicate]; exact hic) Is.int
  refine ⟨bs0 H2,fun _=>False,_,F0,fun _ z=>z,?_⟩
  rw [eb]
  exact fun σ1 H1 G1 F1 _=>⟨by rw [F1.len,lb],F1.chg l9 _ (fun z=>z) (fun z=>z) e2⟩
 ·rintro σ2 H2 _
  exact hD σ2 H2
noncomputable def Qqy (K:PySem.W.Frag):Sp:=fun vs H Q _=>∃ (a:Addr) (ns:List Int),vs = [.ref a] ∧ SqL K H a (ns.map V.int) ∧ ns.length ≤ 63 ∧ ∀ H',Q (.bl true) H'
noncomputable def Qh8:Slot → Bool
 | .ml _=>false
 | _=>true
theorem Qse:∀ {ρ:En},ρ.all Qh8 = true → ∀ k t,Qa ρ k ≠ .ml t
 | [],_,k,t,e=>by rw [Qff] at e; cases e
 | s :: ρ,h,0,t,e=>by
  rw [Qb] at e
  subst e
  simp [Qh8] at h
 | s :: ρ,h,k + 1,t,e=>by
  rw [List.all_cons,Bool.and_eq_true] at h
  rw [Qe] at e
  exact Qse h.2 k t e
theorem Qk1 {js:List (Option Nat)} {ρi:En} (h:ρi.all Qh8 = true):∀ (ρ:En) (n:Nat),Qc5 js ρi n ρ = ρ
 | [],_=>rfl
 | s :: ρ,n=>by
  unfold Qc5
  rw [Qk1 h ρ (n + 1)]
  rcases Qc9 js ρi n s with e | ⟨k,t,_,e,_⟩
  ·rw [e]
  ·exact absurd e (Qse h k t)
theorem Q0n {js:List (Option Nat)} {ρi ρ:En} (h:ρi.all Qh8 = true):Qkn js ρi ρ = ρ:=Qk1 h ρ 0
theorem Qpg:∀ {ρ0 ρ:En},ρ0.all Qh8 = true → ρ0.length = ρ.length → Qe1 ρ0 ρ = true
 | [],[],_,_=>rfl
 | [],_ :: _,_,h=>by cases h
 | _ :: _,[],_,h=>by cases h
 | s0 :: ρ0,s :: ρ,h,hl=>by
  rw [List.all_cons,Bool.and_eq_true] at h
  have q:=Qpg (ρ0:=ρ0) (ρ:=ρ) h.2 (by simpa using hl)
  cases s0 <;> first | exact q | (simp [Qh8] at h)
noncomputable def Qda:Slot → Bool
 | .un=>true
 | .fz _=>true
 | _=>false
theorem Qxo {s:Slot} {rest:En} {x:T} (h:Qda s = true):Qca (.nm 0) x (s :: rest) = some (.fz x :: rest):=by
 cases s <;> first | rfl | cases h
theorem Qk2 {c:En → Out Bool} {el:En → Out PV} {rest:En} {g:T → Bool} {f:T → T}:∀ {xs acc:List T} {s0:Slot},Qda s0 = true → (∀ x ∈ xs,c (.fz x :: rest) = .ok (g x) (.fz x :: rest)) → (∀ x ∈ xs,g x = true → ∃ r,el (.fz x :: rest) = .ok r (.fz x :: rest) ∧ frz r = some (f x)) → acc.length + xs.length ≤ 100000 →
  ∃ s,Qe0 (.nm 0) c el xs acc (s0 :: rest) = .ok (acc ++ (xs.filter g).map f) (s :: rest) ∧ Qda s = true
 | [],acc,s0,h0,hc,he,hz=>⟨s0,by unfold Qe0; simp,h0⟩
 | x :: xs,acc,s0,h0,hc,he,hz=>by
  rw [List.length_cons] at hz
  have ih:=fun acc' (hz':acc'.length + xs.length ≤ 100000)=>Qk2 (c:=c) (el:=el) (rest:=rest) (g:=g) (f:=f) (xs:=xs) (acc:=acc') (s0:=.fz x) rfl (fun y hy=>hc y (List.mem_cons_of_mem _ hy)) (fun y hy=>he y (List.mem_cons_of_mem _ hy)) hz'
  unfold Qe0
  rw [Qxo h0]
  simp only [hc x List.mem_cons_self,Out.bind]
  cases hg:g x with
  | false =>
   obtain ⟨s,e,o⟩:=ih acc (by omega)
   refine ⟨s,?_,o⟩
   simp only [Bool.false_eq_true,if_false,e,List.filter_cons,hg]
  | true =>
   obtain ⟨r,er,fr⟩:=he x List.mem_cons_self hg
   simp only [if_true,er,fr]
   have za:acc.length < 100000:=by omega
   rw [if_pos za]
   obtain ⟨s,e,o⟩:=ih (acc ++ [f x]) (by rw [List.length_append,List.length_singleton]; omega)
   refine ⟨s,?_,o⟩
   simp only [e,List.filter_cons,hg,if_true,List.map_cons,List.append_assoc,List.singleton_append]
theorem Q0o {cf:CF} {w:W} {js:List (Option Nat)} {cs:Es} {e:E} {ρ rest:En} {xs:List T} {g:T → Bool} {f:T → T} (hw:evW cf w ρ = .ok (xs,none) ρ) (hcap:Qdq js ρ = .un :: rest) (hml:rest.all Qh8 = true) (hap:Qch js = true)
  (hc:∀ x ∈ xs,evC cf cs (.fz x :: rest) = .ok (g x) (.fz x :: rest)) (he:∀ x ∈ xs,g x = true → ∃ r,evE cf e (.fz x :: rest) = .ok r (.fz x :: rest) ∧ frz r = some (f x)) (hz:xs.length ≤ 100000) :
  evE cf (.comp w js (.nm 0) cs e) ρ = .ok (.ow (.lst ((xs.filter g).map f))) ρ:=by
 obtain ⟨s,e1,o⟩:=Qk2 (c:=evC cf cs) (el:=evE cf e) (rest:=rest) (g:=g) (f:=f) (xs:=xs) (acc:=[]) (s0:=.un) rfl hc he (by simpa using hz)
 have hs:(s :: rest).all Qh8 = true:=by
  rw [List.all_cons,hml]
  cases s <;> first | rfl | cases o
 unfold evE
 rw [hw]
 simp only [Out.bind,hcap,e1]
 rw [if_pos ⟨Qpg (by rw [List.all_cons,hml]; rfl) rfl,hap⟩,Q0n hs]
 rfl
theorem Qa5 {cf:CF} {w:W} {js:List (Option Nat)} {e:E} {ρ rest:En} {xs:List T} {f:T → T} (hw:evW cf w ρ = .ok (xs,none) ρ) (hcap:Qdq js ρ = .un :: rest) (hml:rest.all Qh8 = true) (hap:Qch js = true)
  (he:∀ x ∈ xs,∃ r,evE cf e (.fz x :: rest) = .ok r (.fz x :: rest) ∧ frz r = some (f x)) (hz:xs.length ≤ 100000) :
  evE cf (.comp w js (.nm 0) .nil e) ρ = .ok (.ow (.lst (xs.map f))) ρ:=by
 rw [Q0o (g:=fun _=>true) (f:=f) hw hcap hml hap (fun x _=>by unfold evC; rfl) (fun x hx _=>he x hx) hz,List.filter_eq_self.mpr (fun _ _=>rfl)]
theorem Qgc {tg:Tg} {b:En → SO} (J:Nat → En → Prop):∀ {xs:List T} {n:Nat} {ρ:En},J n ρ → (∀ (i:Nat) x ρ,xs[i]? = some x → J (n + i) ρ → ∃ ρ1 ρ2,Qca tg x ρ = some ρ1 ∧ (b ρ1 = .nx ρ2 ∨ b ρ1 = .ct ρ2) ∧ J (n + i + 1) ρ2) → ∃ ρ',Qbb tg b xs ρ = .nx ρ' ∧ J (n + xs.length) ρ'
 | [],n,ρ,h,_=>⟨ρ,rfl,h⟩
 | x :: xs,n,ρ,h,hs=>by
  obtain ⟨ρ1,ρ2,e1,e2,j⟩:=hs 0 x ρ rfl h
  obtain ⟨ρ',e3,j3⟩:=Qgc (tg:=tg) (b:=b) J (xs:=xs) (n:=n + 1) (ρ:=ρ2) (by simpa using j) fun i y ρ hy hj=>by
   have:=hs (i + 1) y ρ (by rw [List.getElem?_cons_succ]; exact hy) (by rw [show n + (i + 1) = n + 1 + i by omega]; exact hj)
   rw [show n + (i + 1) + 1 = n + 1 + i + 1 by omega] at this
   exact this
  refine ⟨ρ',?_,by rw [List.length_cons,show n + (xs.length + 1) = n + 1 + xs.length by omega]; exact j3⟩
  unfold Qbb
  rw [e1]
  rcases e2 with e2 | e2 <;> simp only [e2] <;> exact e3
noncomputable def Q54 (Q:Df → Prop):List Df → Prop
 | []=>True
 | d :: ds=>Q d ∧ Q54 Q ds
theorem Qxp {Q:Df → Prop}:∀ {ds:List Df},Q54 Q ds → ∀ (f:Nat) (d:Df),ds[f]? = some d → Q d
 | [],_,f,d,e=>by simp at e
 | c :: ds,h,0,d,e=>by simp at e; subst e; exact h.1
 | c :: ds,h,f + 1,d,e=>by rw [List.getElem?_cons_succ] at e; exact Qxp h.2 f d e
variable {cf:CF} {ρ ρ1 ρ2:En} {α β:Type}
theorem Q5 {a:α} {k:α → En → Out β}:(Out.ok a ρ).bind k = k a ρ:=rfl
theorem Q9x {x:Xn} {k:α → En → Out β}:(Out.xn x ρ:Out α).bind k = .xn x ρ:=rfl
noncomputable def Qac (i:Nat) (ρ:En):Slot → Out PV
 | .fz t=>.ok (.fz t) ρ
 | .un=>.no
 | .pin _=>.no
 | .fx t=>.ok (.fz t) ρ
 | _=>.ok (.sl i) ρ
theorem Qq {i:Nat}:evE cf (.var i) ρ = Qac i ρ (Qa ρ i):=by rw [evE]; cases Qa ρ i <;> rfl
theorem Qbg {i:Int}:evE cf (.int i) ρ = .ok (.fz (.int i)) ρ:=by rw [evE]
theorem Qk3 {i:Bool}:evE cf (.bl i) ρ = .ok (.fz (.bl i)) ρ:=by rw [evE]
theorem Qmu:evE cf .non ρ = .ok (.fz .non) ρ:=by rw [evE]
theorem Qji {i:Str}:evE cf (.str i) ρ = .ok (.fz (.str i)) ρ:=by rw [evE]
noncomputable def Qno (rs:List PV) (ρ:En):Out PV:=match Qcq rs with
 | some ts=>if ts.length ≤ 100000 then .ok (.fz (.tup ts)) ρ else .no
 | none=>.no
noncomputable def Qh9 (rs:List PV) (ρ:En):Out PV:=match Qcq rs with
 | some ts=>if ts.length ≤ 100000 then .ok (.ow (.lst ts)) ρ else .no
 | none=>.no
theorem Qg7 {es:Es}:evE cf (.tup es) ρ = (evA cf es ρ).bind Qno:=by rw [evE]; rfl
theorem Qe2 {es:Es}:evE cf (.lst es) ρ = (evA cf es ρ).bind Qh9:=by rw [evE]; rfl
noncomputable def Qdm (o:BOp) (ρ:En):Option T → Option T → Out PV
 | some x,some y=>.opt (opB o x y) ρ
 | _,_=>.no
noncomputable def Qdn (o:BOp) (ra rb:PV) (ρ:En):Out PV:=Qdm o ρ (cont ρ ra) (cont ρ rb)
noncomputable def Qdo (cf:CF) (o:BOp) (b:E) (ra:PV) (ρ:En):Out PV:=(evE cf b ρ).bind (Qdn o ra)
theorem Qd2 {o:BOp} {a b:E}:evE cf (.bin o a b) ρ = (evE cf a ρ).bind (Qdo cf o b):=by rw [evE]; rfl
noncomputable def Q55:PV → En → Out PV
 | .fz (.int i),ρ=>.ok (.fz (.int (-i))) ρ
 | _,_=>.no
theorem Q2i {a:E}:evE cf (.neg a) ρ = (evE cf a ρ).bind Q55:=by rw [evE]; congr 1; funext r ρ1; cases r with
 | fz t=>cases t <;> rfl
 | ow t=>rfl
 | sl i=>rfl
noncomputable def yBl:PV → En → Out Bool
 | .fz (.bl b),ρ=>.ok b ρ
 | _,_=>.no
theorem Q1 {o:Out PV}:Qaj o = o.bind yBl:=by unfold Qaj; congr 1; funext r ρ1; cases r with
 | fz t=>cases t <;> rfl
 | ow t=>rfl
 | sl i=>rfl
noncomputable def Qec (b:Bool) (ρ:En):Out PV:=.ok (.fz (.bl (!b))) ρ
theorem Qcd {a:E}:evE cf (.not a) ρ = (Qaj (evE cf a ρ)).bind Qec:=by rw [evE]; rfl
noncomputable def yB (b:Bool) (ρ:En):Out PV:=.ok (.fz (.bl b)) ρ
noncomputable def Q56 (cf:CF) (b:E):Bool → En → Out PV
 | true,ρ=>(Qaj (evE cf b ρ)).bind yB
 | false,ρ=>.ok (.fz (.bl false)) ρ
noncomputable def yOr (cf:CF) (b:E):Bool → En → Out PV
 | false,ρ=>(Qaj (evE cf b ρ)).bind yB
 | true,ρ=>.ok (.fz (.bl true)) ρ
theorem Q2j {a b:E}:evE cf (.and a b) ρ = (Qaj (evE cf a ρ)).bind (Q56 cf b):=by rw [evE]; congr 1; funext c ρ1; cases c <;> rfl
theorem Qhh {a b:E}:evE cf (.or a b) ρ = (Qaj (evE cf a ρ)).bind (yOr cf b):=by rw [evE]; congr 1; funext c ρ1; cases c <;> rfl
noncomputable def Qbl (ρ:En):Option Bool → Out PV
 | some k=>.ok (.fz (.bl k)) ρ
 | none=>.no
noncomputable def Qbm (o:COp) (ρ:En):Option T → Option T → Out PV
 | some x,some y=>Qbl ρ (opC o x y)
 | _,_=>.no
noncomputable def Qbn (o:COp) (ra rb:PV) (ρ:En):Out PV:=Qbm o ρ (cont ρ ra) (cont ρ rb)
noncomputable def Qbo (cf:CF) (o:COp) (b:E) (ra:PV) (ρ:En):Out PV:=(evE cf b ρ).bind (Qbn o ra)
theorem Qby {o:COp} {a b:E}:evE cf (.cmp o a b) ρ = (evE cf a ρ).bind (Qbo cf o b):=by
 rw [evE]
 rfl
noncomputable def Qd3 (n:String) (ρ:En):Option T → Out PV
 | some t=>if Qkm n && !Qck t then .ok (.fz (.bl (Qka (tyT t) n))) ρ else .no
 | none=>.no
noncomputable def Qhi (n:String) (ra:PV) (ρ:En):Out PV:=Qd3 n ρ (cont ρ ra)
theorem Qeg {a:E} {n:String}:evE cf (.isI a n) ρ = (evE cf a ρ).bind (Qhi n):=by
 rw [evE]
 rfl
theorem Qae {f:Nat} {es:Es}:evE cf (.call f es) ρ = (evA cf es ρ).bind (Qjc cf f):=by rw [evE]
theorem Q9y {t:T}:evE cf (.lit t) ρ = .ok (.fz t) ρ:=by rw [evE]
noncomputable def Qbp (b:Bi) (ρ:En):Option (List T) → Out PV
 | some ts=>.opt (Qhz b ts) ρ
 | none=>.no
noncomputable def yBi (b:Bi) (rs:List PV) (ρ:En):Out PV:=Qbp b ρ (Qad ρ rs)
theorem Qbx {b:Bi} {es:Es}:evE cf (.bi b es) ρ = (evA cf es ρ).bind (yBi b):=by
 rw [evE]
 rfl
noncomputable def Qt0 (ρ:En):Option T → Out PV
 | some t=>.ok (.fz t) ρ
 | none=>.no
noncomputable def Qt1 (ρ:En):Option T → Option T → Out PV
 | some x,some y=>Qt0 ρ (Qzs x y)
 | _,_=>.no
noncomputable def Qt2 (ra rb:PV) (ρ:En):Out PV:=Qt1 ρ (cont ρ ra) (cont ρ rb)
noncomputable def Qt3 (cf:CF) (b:E) (ra:PV) (ρ:En):Out PV:=(evE cf b ρ).bind (Qt2 ra)
theorem Qxq {a b:E}:evE cf (.ix a b) ρ = (evE cf a ρ).bind (Qt3 cf b):=by
 rw [evE]
 rfl
noncomputable def Q9z (ρ:En):PV → Option (List Int) → Out PV
 | .fz (.int j),some is=>.ok (.fz (.int (is.count j:Nat))) ρ
 | _,_=>.no
noncomputable def Q90 (ts:List T) (rb:PV) (ρ:En):Out PV:=Q9z ρ rb (Qcb ts)
noncomputable def yCnt1 (cf:CF) (b:E):PV → En → Out PV
 | .fz (.tup ts),ρ=>(evE cf b ρ).bind (Q90 ts)
 | _,_=>.no
noncomputable def Q91 (l h:Option Int) (ρ:En):Option T → Out PV
 | some x=>.opt (Q40 x l h) ρ
 | none=>.no
noncomputable def Q2k (ra:PV) (l:Option Int) (ρ:En):Option (Option Int) → Out PV
 | none=>.no
 | some h=>Q91 l h ρ (cont ρ ra)
noncomputable def Q92 (ra:PV) (l:Option Int) (rh:List PV) (ρ:En):Out PV:=Q2k ra l ρ (Qni rh)
noncomputable def Q2l (cf:CF) (hi:Es) (ra:PV) (ρ:En):Option (Option Int) → Out PV
 | none=>.no
 | some l=>(evA cf hi ρ).bind (Q92 ra l)
noncomputable def Q93 (cf:CF) (hi:Es) (ra:PV) (rl:List PV) (ρ:En):Out PV:=Q2l cf hi ra ρ (Qni rl)
noncomputable def Q94 (cf:CF) (lo hi:Es) (ra:PV) (ρ:En):Out PV:=(evA cf lo ρ).bind (Q93 cf hi ra)
theorem Q95 {a:E} {lo hi:Es}:evE cf (.slc a lo hi) ρ = (evE cf a ρ).bind (Q94 cf lo hi):=by
 rw [evE]
 rfl
theorem Qs:evA cf .nil ρ = .ok [] ρ:=by rw [evA]
noncomputable def yC2 (r:PV) (rs:List PV) (ρ:En):Out (List PV):=.ok (r :: rs) ρ
noncomputable def yC1 (cf:CF) (es:Es) (r:PV) (ρ:En):Out (List PV):=(evA cf es ρ).bind (yC2 r)
theorem Ql {e:E} {es:Es}:evA cf (.cons e es) ρ = (evE cf e ρ).bind (yC1 cf es):=by rw [evA]; rfl
noncomputable def Qk4 (r:PV) (ρ:En):Option (List T) → Out (List T × Option Nat)
 | some ts=>.ok (ts,Qiu r) ρ
 | none=>.no
noncomputable def Qk5 (r:PV) (ρ:En):Option T → Out (List T × Option Nat)
 | some t=>Qk4 r ρ (Qft t)
 | none=>.no
noncomputable def Qqz (r:PV) (ρ:En):Out (List T × Option Nat):=Qk5 r ρ (cont ρ r)
theorem Qmv {e:E}:evW cf (.seq e) ρ = (evE cf e ρ).bind Qqz:=by
 rw [evW]
 rfl
noncomputable def Qk6:PV → En → Out (List T × Option Nat)
 | .fz (.int j),ρ=>if j.natAbs ≤ 100000 then .ok (Qaz 0 j.toNat,none) ρ else .no
 | _,_=>.no
theorem Qfh {a:E}:evW cf (.rng1 a) ρ = (evE cf a ρ).bind Qk6:=by
 rw [evW]
 congr 1; funext r ρ1
 cases r with
 | fz t=>cases t <;> rfl
 | ow t=>rfl
 | sl i=>rfl
noncomputable def Q9 (rs:List PV) (ρ:En):FR → Out PV
 | .ok r fin=>.ok r (Qax ρ rs fin)
 | .xn x fin=>.xn x (Qax ρ rs fin)
 | .no=>.no
noncomputable def Qaa (cf:CF) (f:Nat) (rs:List PV) (ρ:En):Option (List Arg) → Out PV
 | some as=>Q9 rs ρ (cf f as)
 | none=>.no
theorem Q0p {f:Nat} {rs:List PV} (h:Qw rs = true):Qjc cf f rs ρ = Qaa cf f rs ρ (Qx ρ rs):=by
 unfold Qjc
 rw [if_pos h]
 cases Qx ρ rs with
 | none=>rfl
 | some as =>
  show (match cf f as with | .ok r fin=>Out.ok r (Qax ρ rs fin) | .xn x fin=>.xn x (Qax ρ rs fin) | .no=>.no) = Q9 rs ρ (cf f as)
  cases cf f as <;> rfl
theorem Qao {a:α} {k:α → En → SO}:ofO (.ok a ρ) k = k a ρ:=rfl
theorem Qb1 {k:En → SO}:(SO.nx ρ).seq k = k ρ:=rfl
theorem Qph {r:PV} {k:En → SO}:(SO.rt r ρ).seq k = .rt r ρ:=rfl
theorem Qce:exS cf .nil ρ = .nx ρ:=by rw [exS]
theorem Qaf {a b:S}:exS cf (.seq a b) ρ = (exS cf a ρ).seq (exS cf b):=by rw [exS]
noncomputable def Qpi (_:PV) (ρ:En):SO:=.nx ρ
theorem Qk7 {e:E}:exS cf (.expr e) ρ = ofO (evE cf e ρ) Qpi:=by rw [exS]; rfl
theorem Qk8 {i:Nat} {e:E}:exS cf (.set i e) ρ = ofO (evE cf e ρ) (Qlq i):=by rw [exS]
noncomputable def Qdf (i:Nat) (ρ:En):Option T → SO
 | some t=>Qah (Qb3 i (.fz t) ρ) .nx
 | none=>.no
noncomputable def Qfw (i:Nat) (r:PV) (ρ:En):SO:=Qdf i ρ (frz r)
theorem Qd4 {i:Nat} {e:E}:exS cf (.setF i e) ρ = ofO (evE cf e ρ) (Qfw i):=by
 rw [exS]
 rfl
noncomputable def Q57 (is:List Nat):PV → En → SO
 | .fz (.tup ts),ρ=>Qah (Qcf is ts ρ) .nx
 | _,_=>.no
theorem Q2m {is:List Nat} {e:E}:exS cf (.unp is e) ρ = ofO (evE cf e ρ) (Q57 is):=by
 rw [exS]
 congr 1; funext r ρ1
 cases r with
 | fz t=>cases t <;> rfl
 | ow t=>rfl
 | sl i=>rfl
noncomputable def Qk9 (i:Nat) (ρ:En) (t:T):Slot → SO
 | .ow (.lst ts)=>if ts.length < 100000 then .nx (ρ.set i (.ow (.lst (ts ++ [t])))) else .no
 | .ml (.lst ts)=>if ts.length < 100000 then .nx (ρ.set i (.ml (.lst (ts ++ [t])))) else .no
 | _=>.no
noncomputable def Qla (i:Nat) (ρ:En):Option T → SO
 | none=>.no
 | some t=>Qk9 i ρ t (Qa ρ i)
noncomputable def Qpj (i:Nat) (r:PV) (ρ:En):SO:=Qla i ρ (frz r)
theorem Q96 {i:Nat} {e:E} (h:(Qa ρ i).mut = true):exS cf (.app i e) ρ = ofO (evE cf e ρ) (Qpj i):=by
 rw [exS,if_pos h]
 rfl
noncomputable def Q2n (i:Nat) (ρ:En) (us:List T):Slot → SO
 | .ow (.lst ts)=>if ts.length + us.length ≤ 100000 then .nx (ρ.set i (.ow (.lst (ts ++ us)))) else .no
 | .ml (.lst ts)=>if ts.length + us.length ≤ 100000 then .nx (ρ.set i (.ml (.lst (ts ++ us)))) else .no
 | _=>.no
noncomputable def Q58 (i:Nat):PV → En → SO
 | .fz (.tup us),ρ=>Q2n i ρ us (Qa ρ i)
 | _,_=>.no
theorem Q97 {i:Nat} {e:E} (h:(Qa ρ i).mut = true):exS cf (.ext i e) ρ = ofO (evE cf e ρ) (Q58 i):=by
 rw [exS,if_pos h]
 congr 1; funext r ρ1
 cases r with
 | fz t=>cases t <;> rfl
 | ow t=>rfl
 | sl i=>rfl
noncomputable def Qxr (i:Nat) (t:T) (j:Int) (ρ:En):Slot → SO
 | .ow (.lst ts)=>Qah (ixN ts.length j) fun n=>.nx (ρ.set i (.ow (.lst (ts.set n t))))
 | .ml (.lst ts)=>Qah (ixN ts.length j) fun n=>.nx (ρ.set i (.ml (.lst (ts.set n t))))
 | _=>.no
noncomputable def Qsf (i:Nat) (t:T):PV → En → SO
 | .fz (.int j),ρ=>Qxr i t j ρ (Qa ρ i)
 | _,_=>.no
noncomputable def Qxs (cf:CF) (i:Nat) (k:E) (ρ:En):Option T → SO
 | none=>.no
 | some t=>if (Qa ρ i).mut = true then ofO (evE cf k ρ) (Qsf i t) else .no
noncomputable def Q0q (cf:CF) (i:Nat) (k:E) (r:PV) (ρ:En):SO:=Qxs cf i k ρ (frz r)
theorem Q2o {i:Nat} {k e:E}:exS cf (.put i k e) ρ = ofO (evE cf e ρ) (Q0q cf i k):=by
 rw [exS]
 congr 1; funext r ρ1
 unfold Q0q
 cases frz r with
 | none=>rfl
 | some t =>
  show _ = (if (Qa ρ1 i).mut = true then ofO (evE cf k ρ1) (Qsf i t) else .no)
  by_cases h:(Qa ρ1 i).mut = true
  ·simp only [if_pos h]
   congr 1; funext rk ρ2
   cases rk with
   | fz u=>cases u <;> rfl
   | ow u=>rfl
   | sl j=>rfl
  ·simp only [if_neg h]
theorem Qix {i:Nat} {e:E}:exS cf (.app i e) ρ = if (Qa ρ i).mut = true then ofO (evE cf e ρ) (Qpj i) else .no:=by
 by_cases h:(Qa ρ i).mut = true
 ·rw [if_pos h,Q96 h]
 ·rw [if_neg h,exS,if_neg h]
theorem Q59 {i:Nat} {e:E}:exS cf (.ext i e) ρ = if (Qa ρ i).mut = true then ofO (evE cf e ρ) (Q58 i) else .no:=by
 by_cases h:(Qa ρ i).mut = true
 ·rw [if_pos h,Q97 h]
 ·rw [if_neg h,exS,if_neg h]
theorem Q2 {f:Nat} {rs:List PV}:Qjc cf f rs ρ = if Qw rs = true then Qaa cf f rs ρ (Qx ρ rs) else .no:=by
 by_cases h:Qw rs = true
 ·rw [if_pos h,Q0p h]
 ·rw [if_neg h]; unfold Qjc; rw [if_neg h]
noncomputable def Qdg (r:PV) (ρ:En):SO:=.rt r ρ
theorem Qbf {e:E}:exS cf (.ret e) ρ = ofO (evE cf e ρ) Qdg:=by rw [exS]; rfl
noncomputable def yIf (cf:CF) (a b:S):Bool → En → SO
 | true,ρ=>exS cf a ρ
 | false,ρ=>exS cf b ρ
theorem Qa0 {c:E} {a b:S}:exS cf (.ite c a b) ρ = ofO (Qaj (evE cf c ρ)) (yIf cf a b):=by rw [exS]; congr 1; funext k ρ1; cases k <;> rfl
noncomputable def Qia (cf:CF) (tg:Tg) (b:S):List T × Option Nat → En → SO
 | (ts,none),ρ=>Qbb tg (exS cf b) ts ρ
 | (_,some _),_=>.no
theorem Qgd {w:W} {tg:Tg} {b:S}:exS cf (.for_ w tg b) ρ = Qko (ofO (evW cf w ρ) (Qia cf tg b)):=by
 rw [exS]
 congr 2; funext its ρ1
 obtain ⟨ts,lk⟩:=its
 cases lk <;> rfl
theorem Q98 {i j:Nat} {t:T} (h:Qa ρ j = .ow t) (hi:i ≠ j ∧ i < ρ.length):exS cf (.mov i j) ρ = .nx ((ρ.set j .un).set i (.ow t)):=by
 rw [exS,h]
 exact if_pos hi
theorem Qxt {w:W} {tg:Tg} {b:S}:exS cf (.forX w tg b) ρ = ofO (evW cf w ρ) (Qia cf tg b):=by
 rw [exS]
 congr 1; funext its ρ1
 obtain ⟨ts,lk⟩:=its
 cases lk <;> rfl
noncomputable def Qau (r:PV):Option (List T) → FR
 | some fin=>.ok r fin
 | none=>.no
noncomputable def Qa9 (o:Option (List T)):Option PV → FR
 | some r=>Qau r o
 | none=>.no
noncomputable def Qcn (as:List Arg):SO → FR
 | .nx ρ=>Qau (.fz .non) (Qu as ρ)
 | .rt r ρ=>Qa9 (Qu as ρ) (Qar ρ r)
 | .xn x ρ=>match Qu as ρ with
  | some fin=>.xn x fin
  | none=>.no
 | _=>.no
theorem Qbq {fn:Fn} {as:List Arg} (h:as.length = fn.ps):Qb6 cf fn as = Qcn as (exS cf fn.body (Qer fn as)):=by
 unfold Qb6
 rw [if_pos h]
 cases exS cf fn.body (Qer fn as) with
 | nx ρ=>show (match Qu as ρ with | some fin=>FR.ok (.fz .non) fin | none=>.no) = Qau _ (Qu as ρ); cases Qu as ρ <;> rfl
 | rt r ρ =>
  show (match Qar ρ r,Qu as ρ with | some r,some fin=>FR.ok r fin | _,_=>.no) = Qa9 (Qu as ρ) (Qar ρ r)
  cases Qar ρ r <;> cases Qu as ρ <;> rfl
 | xn x ρ=>rfl
 | bk ρ=>rfl
 | ct ρ=>rfl
 | no=>rfl
section
variable {b:Bool} {i:Int} {x:Str} {ts:List T}
theorem Qbr:Qkm "tuple" = true:=rfl
theorem Qsg:Qkm "list" = true:=rfl
theorem Qag:Qka (tyT (.tup ts)) "tuple" = true:=rfl
theorem Qjj:Qka (tyT (.lst ts)) "list" = true:=rfl
end
theorem Qq0 {as:List Arg} {ρ:En}:Qcn as (.nx ρ) = Qau (.fz .non) (Qu as ρ):=rfl
theorem Qaq {as:List Arg} {ρ:En} {r:PV}:Qcn as (.rt r ρ) = Qa9 (Qu as ρ) (Qar ρ r):=rfl
theorem Qds {ρ:En}:Qko (.nx ρ) = .nx ρ:=rfl
theorem Q0r {ρ:En} {r:PV}:Qko (.rt r ρ) = .rt r ρ:=rfl
theorem Qd5 {α:Type} (g:α → Bool):∀ (xs:List α),Qhd (xs.map fun x=>T.bl (g x)) = some (xs.map g)
 | []=>rfl
 | x :: xs=>by
  rw [List.map_cons,List.map_cons]
  unfold Qhd
  rw [Qd5 g xs]
  rfl
theorem Q99 {a:T} {l:List T}:atI (a :: l) 0 = some a:=by
 have:atI (a :: l) ((0:Nat):Int) = some a:=Qhs rfl
 exact this
theorem at_1 {a b:T} {l:List T}:atI (a :: b :: l) 1 = some b:=by
 have:atI (a :: b :: l) ((1:Nat):Int) = some b:=Qhs rfl
 exact this
theorem Q2p {n:Nat}:ixN (n + 1) 0 = some 0:=by
 unfold ixN
 rw [if_pos (by omega),if_pos (by omega)]
 rfl
inductive All2 (F:T → T → Prop):List T → List T → Prop where
 | nil:All2 F [] []
 | cons {x y xs ys}:F x y → All2 F xs ys → All2 F (x :: xs) (y :: ys)
inductive Ran (F:T → T → Prop):List T → List T → Prop where
 | nil:Ran F [] []
 | skip {x xs ys}:Ran F xs ys → Ran F (x :: xs) ys
 | take {x y xs ys}:F x y → Ran F xs ys → Ran F (x :: xs) (y :: ys)
variable {cf:CF} {P:T → Prop} {F:T → T → Prop} {rest:T → En}
theorem rngI {j:Int} {ρ:En} (h0:0 ≤ j) (h:j ≤ 100000):Qk6 (.fz (.int j)) ρ = .ok (Qaz 0 j.toNat,none) ρ:=by
 show (if j.natAbs ≤ 100000 then _ else _) = _
 rw [if_pos (by omega)]
theorem Qt4 {n:Nat} {ρ:En} (h:n ≤ 100000):Qk6 (.fz (.int (n:Int))) ρ = .ok (Qaz 0 n,none) ρ:=by
 rw [rngI (by omega) (by omega),Int.toNat_natCast]
theorem Qsh {α:Type} {xs:List α}:Qhd (xs.map fun _=>T.bl true) = some (xs.map fun _=>true):=Qd5 (fun _=>true) xs
theorem Qxu {α:Type} {xs:List α}:(xs.map fun _=>true).all id = true:=by rw [List.all_eq_true]; intro b hb; obtain ⟨_,_,rfl⟩:=List.mem_map.mp hb; rfl
theorem rngA {j:Int} {ρ:En} (h:j.natAbs ≤ 100000):Qk6 (.fz (.int j)) ρ = .ok (Qaz 0 j.toNat,none) ρ:=by
 show (if j.natAbs ≤ 100000 then _ else _) = _
 rw [if_pos h]
theorem Qb7 {i j:Int}:eqO (.int i) (.int j) = some (decide (i = j)):=rfl
theorem Q0s {i j:Str}:eqO (.str i) (.str j) = some (decide (i = j)):=rfl
theorem Qd6 {a:Addr} {n i:Nat}:Qa (.pin a :: uns n) i = .un ∨ (i = 0 ∧ Qa (.pin a :: uns n) i = .pin a):=by
 cases i with
 | zero=>exact .inr ⟨rfl,rfl⟩
 | succ i=>left; rw [Qe]; exact Qcz n i
theorem Q6a (H:Hp) {σ:St} {n:Nat} {a:Addr} (hl:σ.length = n + 1) (h0:σ[0]? = some (some (.ref a))):FI (bs0 H) H (fun _=>False) σ (.pin a :: uns n) where
 len:=by rw [hl,List.length_cons,List.length_replicate]
 slot:=fun i=>by
  rcases Qd6 (a:=a) (n:=n) (i:=i) with e | ⟨rfl,e⟩
  ·rw [e]; trivial
  ·rw [e]; exact h0
 apart:=fun i j b h _=>by
  obtain ⟨⟨t,e⟩,_⟩:=h
  rcases Qd6 (a:=a) (n:=n) (i:=i) with z | ⟨_,z⟩ <;> rw [z] at e <;> cases e
 prv:=fun b h=>h.elim
 chg:=fun _ _ _ _ e=>e
 keep:=fun _ o e=>⟨o,e⟩
 newO:=fun b h=>by
  obtain ⟨i,t,e,_⟩:=h
  rcases Qd6 (a:=a) (n:=n) (i:=i) with z | ⟨_,z⟩ <;> rw [z] at e <;> cases e
 newM:=fun b h=>by
  obtain ⟨i,t,e,_⟩:=h
  rcases Qd6 (a:=a) (n:=n) (i:=i) with z | ⟨_,z⟩ <;> rw [z] at e <;> cases e
 fix:=fun i b h=>by
  obtain ⟨⟨t,e⟩,_⟩:=h
  rcases Qd6 (a:=a) (n:=n) (i:=i) with z | ⟨_,z⟩ <;> rw [z] at e <;> rcases e with e | e | e <;> cases e
 gg:=fun _ h=>h
 gn:=fun _ h=>.inl h
 bp:=fun _ h=>h.elim
noncomputable abbrev Q2q (p:Pr) (K:PySem.W.Frag) (pre:S) (ic:Nat) (hi:Int) (body:S):TS:=Qur (tS p pre) (Qur (Quy (Qxm K hi) (Qfz ic) (tS p body)) (Qym (tC (.bl true))))
theorem Q0t {p:Pr} {K:PySem.W.Frag} {H:Hp} {vs:List V} {Q:VK} {E:XK} {N:List Str} {pre:S} {ic:Nat} {hi:Int} {body:S} (h:Qqy K vs H Q E) (hN:1 ≤ N.length) (hic:ic < N.length)
  (hc:∀ a:Addr,∃ ρ',exS p.cf pre (.pin a :: uns (N.length - 1)) = .nx (.pin a :: ρ') ∧ ρ'.length = N.length - 1)
  (hb:∀ m:Int,∃ ρ',exS p.cf body ((uns N.length).set ic (.fz (.int m))) = .nx ρ' ∧ ρ'.length = N.length):Q2q p K pre ic hi body { nx:=fun _ H'=>Q .non H',rt:=Q } (Qa3 N vs) H:=by
 obtain ⟨a,ns,rfl,hs,hns,q⟩:=h
 have hl:(Qa3 N [.ref a]).length = N.length:=by unfold Qa3; simp only [List.length_append,List.length_map,List.length_replicate,List.length_cons,List.length_nil]; omega
 obtain ⟨ρ',e,hρ⟩:=hc a
 refine ⟨bs0 H,fun _=>False,_,Q6a H (n:=N.length - 1) (by rw [hl]; omega) (Qmo rfl),fun _ z=>z,?_⟩
 rw [e]
 intro σ1 H1 G1 F1 _
 have h0:σ1[0]? = some (some (.ref a)):=F1.slot 0
 have hl1:σ1.length = N.length:=by rw [F1.len,List.length_cons,hρ]; omega
 have s1:Same H H1:=fun b o eb=>F1.chg b o (fun z=>z) (fun z=>z) eb
 exact Qxn h0 (s1.seq hs) hns hl1 hic hb fun σ' H'=>q H'
end L2
namespace L2
variable {i j:Int} {a b:List T} {x y:T} {lo hi:Option Int} {c:Bool}
theorem uo1:opB .add (.int i) (.int j) = some (.fz (.int (i + j))):=rfl
theorem uo2:opB .add (.tup a) (.tup b) = if a.length + b.length ≤ 100000 then some (.fz (.tup (a ++ b))) else none:=rfl
theorem uo4:opB .sub (.int i) (.int j) = some (.fz (.int (i - j))):=rfl
theorem uo5:opB .mul (.int i) (.int j) = if Qcl i j = true then some (.fz (.int (i * j))) else none:=rfl
theorem uo7:opB .fdv (.int i) (.int j) = if 0 < j ∧ j.natAbs < 2 ^ 64 then some (.fz (.int (i / j))) else if j ≠ 0 ∧ j.natAbs < 2 ^ 250 then some (.fz (.int (i.fdiv j))) else none:=rfl
theorem uo8:opB .mod (.int i) (.int j) = if 0 < j then some (.fz (.int (i % j))) else if j < 0 then some (.fz (.int (i.fmod j))) else none:=rfl
theorem uo9:opB .pow (.int i) (.int j) = if 0 ≤ j ∧ j.natAbs ≤ 1000000 ∧ i.natAbs < 2 ^ 64 then some (.fz (.int (i ^ j.toNat))) else none:=rfl
theorem uc1:opC .eq x y = eqO x y:=rfl
theorem uc2:opC .ne x y = (eqO x y).map (!·):=rfl
theorem uc3:opC .lt (.int i) (.int j) = some (decide (i < j)):=rfl
theorem uc5:opC .gt (.int i) (.int j) = some (decide (j < i)):=rfl
theorem uc6:opC .ge (.int i) (.int j) = some (decide (j ≤ i)):=rfl
theorem uc8:opC .isnn x .non = some (!Qjb x):=rfl
theorem ui1:Qzs (.lst a) (.int i) = atI a i:=rfl
theorem ui3:Q40 (.lst a) lo hi = some (.ow (.lst (Qke a lo hi))):=rfl
theorem ub1:Qhz .len [.lst a] = some (.fz (.int a.length)):=rfl
theorem ub2:Qhz .len [.tup a] = some (.fz (.int a.length)):=rfl
theorem ub3:Qhz .all [.lst a] = (Qhd a).map fun bs=>.fz (.bl (bs.all id)):=rfl
theorem ub6:Qhz .max [.int i,.int j] = some (.fz (.int (if j > i then j else i))):=rfl
theorem ub7:Qhz .dvm [.int i,.int j] = if 0 < j ∧ j.natAbs < 2 ^ 64 then some (.fz (.tup [.int (i / j),.int (i % j)])) else none:=rfl
theorem ub8:Qhz .int [.bl c] = some (.fz (.int (if c then 1 else 0))):=rfl
theorem ub9:Qhz .tup [.lst a] = some (.fz (.tup a)):=rfl
section
variable {cf:CF} {ρ:En}
end
section
variable {cf:CF} {ρ ρ1 ρ2:En}
theorem intL_mp:∀ (xs:List Int),Qcb (xs.map T.int) = some xs
 | []=>rfl
 | x :: xs=>by
  show (match Qcb (xs.map T.int) with | some is=>some (x :: is) | none=>none) = _
  rw [intL_mp xs]
end
section
variable {fA f0:En → SO} {fc:En → Out Bool} {fV f1 f2:En → Out PV} {iF iR iH iW iS iT iN:Nat} {Ms:List (List (List Int))} {R M:List (List Int)} {is:List Int} {ρ ρ1 ρ2 ρ3:En}
end
noncomputable def Qsi (K:PySem.W.Frag):Bool:=match K.getLast? with
 | some (_,o)=>(match o.data with
  | .fields a=>a.size != 2
  | _=>true)
 | none=>true
theorem Qaac {K:PySem.W.Frag} (h:Qsi K = true) (a:PySem.Addr) (q:PySem.Str):¬ Qum K a q:=fun ⟨b,t,e⟩=>by
 unfold Qsi at h
 rw [e] at h
 cases h
section
variable {cf:CF} {ρ ρ1 ρ2:En}
end
section
variable {cf:CF} {ρ:En} {x:Xn} {α β:Type}
theorem Q0u {k:α → En → SO}:ofO (Out.xn x ρ:Out α) k = .xn x ρ:=rfl
theorem q_xn {k:En → SO}:(SO.xn x ρ).seq k = .xn x ρ:=rfl
noncomputable def yRev:PV → En → Out PV
 | .fz (.tup ts),ρ=>.ok (.fz (.tup ts.reverse)) ρ
 | _,_=>.no
noncomputable def yXn (x:Xn):Option (List T) → FR
 | some fin=>.xn x fin
 | none=>.no
theorem Qnp {as:List Arg}:Qcn as (.xn x ρ) = yXn x (Qu as ρ):=by
 show (match Qu as ρ with | some fin=>FR.xn x fin | none=>.no) = _
 cases Qu as ρ <;> rfl
theorem Qib {fin:List T}:yXn x (some fin) = .xn x fin:=rfl
noncomputable def Qq1 (c:Nat) (rs:List PV) (ρ1:En):SO:=match rs with
 | [.fz (.int i)]=>if 6 ≤ c ∧ c < 9 then .xn ⟨c,[i]⟩ ρ1 else .no
 | [.fz (.str _)]=>if c < 6 then .xn ⟨c,[]⟩ ρ1 else .no
 | [.fz (.int i),.fz (.int j)]=>if c = 9 then .xn ⟨c,[i,j]⟩ ρ1 else .no
 | _=>.no
theorem Qsj {c:Nat} {es:Es}:exS cf (.raise c es) ρ = ofO (evA cf es ρ) (Qq1 c):=by rw [exS]; rfl
noncomputable def Q0v (h:Nat → List Int → Option T):SO → SO
 | .xn x ρ1=>match h x.c x.arg with
  | some t=>.rt (.fz t) ρ1
  | none=>.no
 | o=>o
theorem Qq2 {i:Nat} {b:S} {h:Nat → List Int → Option T}:exS cf (.tryR i b h) ρ = Q0v h (exS cf b ρ):=by
 rw [exS]
 cases exS cf b ρ <;> rfl
theorem Q6b {h:Nat → List Int → Option T} {r:PV}:Q0v h (.rt r ρ) = .rt r ρ:=rfl
end
open PySem in
theorem Q6c {g:Str → Bool} {CX:CXT} {P:Program} {w:World} {K:PySem.W.Frag} {mg:Str → Option Value} {base:Heap} {N:List Str} {qual:Str} {scope:Scope} {f:Addr} {cd:Value} {A:Around} {outer:List Env} {s:Shared} {H:Hp} {E:XK}:PassesOwn (model (Qeo g CX P w K mg base N qual scope f cd A outer s H E).prog (Qeo g CX P w K mg base N qual scope f cd A outer s H E).w) (Qeo g CX P w K mg base N qual scope f cd A outer s H E).A (Qeo g CX P w K mg base N qual scope f cd A outer s H E).env (Qeo g CX P w K mg base N qual scope f cd A outer s H E).xe:=PassesOwn.leaving
end L2
set_option maxHeartbeats 4000000
namespace My
open PySem L2
noncomputable def top (i:Nat):Stmt:=PySem.Challenge.pw_noughtways_k66_all_marks.main.body.getD i (.Pass ⟨0,0,0,0⟩)
theorem Qfy {x:Str} {st:Stmt} {p0:Str} (h:∀ (kV doc pm:Value) (an:Option Addr) (cdv ct:Value) (a0:Value),bindArgs (PySem.W.fnOf x x (Qam st) (Q0 st) (Qd st) .none kV doc pm an cdv ct) ⟨[a0],[]⟩ = pure [(p0,a0)]):Qab x st [p0]:=fun a b c d e f us hl=>match us,hl with | [a0],_=>h a b c d e f a0
theorem Qt5 {x:Str} {st:Stmt} {p0 p1:Str} (h:∀ (kV doc pm:Value) (an:Option Addr) (cdv ct:Value) (a0 a1:Value),bindArgs (PySem.W.fnOf x x (Qam st) (Q0 st) (Qd st) .none kV doc pm an cdv ct) ⟨[a0,a1],[]⟩ = pure [(p0,a0),(p1,a1)]):Qab x st [p0,p1]:=fun a b c d e f us hl=>match us,hl with | [a0,a1],_=>h a b c d e f a0 a1
theorem bdN3 {x:Str} {st:Stmt} {p0 p1 p2:Str} (h:∀ (kV doc pm:Value) (an:Option Addr) (cdv ct:Value) (a0 a1 a2:Value),bindArgs (PySem.W.fnOf x x (Qam st) (Q0 st) (Qd st) .none kV doc pm an cdv ct) ⟨[a0,a1,a2],[]⟩ = pure [(p0,a0),(p1,a1),(p2,a2)]):Qab x st [p0,p1,p2]:=fun a b c d e f us hl=>match us,hl with | [a0,a1,a2],_=>h a b c d e f a0 a1 a2
noncomputable abbrev Qfi:Stmt:=top 15
theorem Qpk:FnScope ["thing"] ["thing"] (Qd Qfi):=⟨rfl,rfl,rfl,by decide +kernel,rfl,by decide +kernel,by decide +kernel⟩
theorem Qpl:Qab "is_whole" Qfi ["thing"]:=Qfy fun _ _ _ _ _ _ _=>rfl
noncomputable abbrev Qic:Stmt:=top 16
theorem Qt6:FnScope ["thing","size"] ["thing","size"] (Qd Qic):=⟨rfl,rfl,rfl,by decide +kernel,rfl,by decide +kernel,by decide +kernel⟩
theorem Qt7:Qab "is_row" Qic ["thing","size"]:=Qt5 fun _ _ _ _ _ _ _ _=>rfl
noncomputable abbrev Qgp:Stmt:=top 17
theorem Qq3:FnScope ["thing"] ["thing"] (Qd Qgp):=⟨rfl,rfl,rfl,by decide +kernel,rfl,by decide +kernel,by decide +kernel⟩
theorem Qq4:Qab "is_grid" Qgp ["thing"]:=Qfy fun _ _ _ _ _ _ _=>rfl
noncomputable abbrev Qdt:Stmt:=top 18
theorem Qeu:FnScope ["grid","numbers","row"] ["grid"] (Qd Qdt):=⟨rfl,rfl,rfl,by decide +kernel,rfl,by decide +kernel,by decide +kernel⟩
theorem Qls:Qab "numbers_of" Qdt ["grid"]:=Qfy fun _ _ _ _ _ _ _=>rfl
noncomputable abbrev Qdu:Stmt:=top 19
theorem Qlt:FnScope ["grid"] ["grid"] (Qd Qdu):=⟨rfl,rfl,rfl,by decide +kernel,rfl,by decide +kernel,by decide +kernel⟩
theorem Qlu:Qab "is_bounded" Qdu ["grid"]:=Qfy fun _ _ _ _ _ _ _=>rfl
noncomputable abbrev Qfj:Stmt:=top 20
theorem Qjk:FnScope ["thing","bounded","at"] ["thing","bounded"] (Qd Qfj):=⟨rfl,rfl,rfl,by decide +kernel,rfl,by decide +kernel,by decide +kernel⟩
theorem Qpm:Qab "wrong_at" Qfj ["thing","bounded"]:=Qt5 fun _ _ _ _ _ _ _ _=>rfl
noncomputable abbrev Qdv:Stmt:=top 21
theorem Qlv:FnScope ["thing"] ["thing"] (Qd Qdv):=⟨rfl,rfl,rfl,by decide +kernel,rfl,by decide +kernel,by decide +kernel⟩
theorem Qlw:Qab "need_table" Qdv ["thing"]:=Qfy fun _ _ _ _ _ _ _=>rfl
noncomputable abbrev Qc6:Stmt:=top 22
theorem Qge:FnScope ["thing","at"] ["thing"] (Qd Qc6):=⟨rfl,rfl,rfl,by decide +kernel,rfl,by decide +kernel,by decide +kernel⟩
theorem Qlb:Qab "need_tables" Qc6 ["thing"]:=Qfy fun _ _ _ _ _ _ _=>rfl
noncomputable abbrev Qbz:Stmt:=top 23
theorem Qd7:FnScope ["thing","at"] ["thing"] (Qd Qbz):=⟨rfl,rfl,rfl,by decide +kernel,rfl,by decide +kernel,by decide +kernel⟩
theorem Qhj:Qab "need_none_below" Qbz ["thing"]:=Qfy fun _ _ _ _ _ _ _=>rfl
noncomputable abbrev Qdw:Stmt:=top 24
theorem Qbt:FnScope ["parts","size","told","place","longer","one"] ["parts","size"] (Qd Qdw):=⟨rfl,rfl,rfl,by decide +kernel,rfl,by decide +kernel,by decide +kernel⟩
theorem Qlx:Qab "all_tuples" Qdw ["parts","size"]:=Qt5 fun _ _ _ _ _ _ _ _=>rfl
noncomputable abbrev Qeh:Stmt:=top 26
theorem Qnq:FnScope ["size"] ["size"] (Qd Qeh):=⟨rfl,rfl,rfl,by decide +kernel,rfl,by decide +kernel,by decide +kernel⟩
theorem Qnr:Qab "all_marks" Qeh ["size"]:=Qfy fun _ _ _ _ _ _ _=>rfl
noncomputable abbrev Qgq:Stmt:=top 27
theorem Qq5:FnScope ["table"] ["table"] (Qd Qgq):=⟨rfl,rfl,rfl,by decide +kernel,rfl,by decide +kernel,by decide +kernel⟩
theorem Qq6:Qab "mark_of" Qgq ["table"]:=Qfy fun _ _ _ _ _ _ _=>rfl
noncomputable abbrev Qd8:Stmt:=top 29
theorem Qpn:FnScope ["_law_script","_law_k"] ["_law_script","_law_k"] (Qd Qd8):=⟨rfl,rfl,rfl,by decide +kernel,rfl,by decide +kernel,by decide +kernel⟩
theorem Qpo:Qab "_law_cell" Qd8 ["_law_script","_law_k"]:=Qt5 fun _ _ _ _ _ _ _ _=>rfl
noncomputable abbrev Qgr:Stmt:=top 30
theorem Qlc:FnScope ["_law_cell_here","_law_left"] ["_law_cell_here"] (Qd Qgr):=⟨rfl,rfl,rfl,by decide +kernel,rfl,by decide +kernel,by decide +kernel⟩
theorem Qq7:Qab "_law_pen" Qgr ["_law_cell_here"]:=Qfy fun _ _ _ _ _ _ _=>rfl
noncomputable abbrev Qfk:Stmt:=top 31
theorem Qdb:FnScope ["_law_pen_here","_law_many","_law_left","_law_found","_law_stir"] ["_law_pen_here","_law_many"] (Qd Qfk):=⟨rfl,rfl,rfl,by decide +kernel,rfl,by decide +kernel,by decide +kernel⟩
theorem Qpp:Qab "_law_draw" Qfk ["_law_pen_here","_law_many"]:=Qt5 fun _ _ _ _ _ _ _ _=>rfl
noncomputable abbrev Qdc:Stmt:=top 32
theorem Qns:FnScope ["_law_thing"] ["_law_thing"] (Qd Qdc):=⟨rfl,rfl,rfl,by decide +kernel,rfl,by decide +kernel,by decide +kernel⟩
theorem Qnt:Qab "_law_whole" Qdc ["_law_thing"]:=Qfy fun _ _ _ _ _ _ _=>rfl
noncomputable abbrev Qgs:Stmt:=top 33
theorem Qld:FnScope ["_law_pen_here","_law_some"] ["_law_pen_here"] (Qd Qgs):=⟨rfl,rfl,rfl,by decide +kernel,rfl,by decide +kernel,by decide +kernel⟩
theorem Qq8:Qab "_law_odd" Qgs ["_law_pen_here"]:=Qfy fun _ _ _ _ _ _ _=>rfl
noncomputable abbrev Qd9:Stmt:=top 34
theorem Qdd:FnScope ["_law_e","_law_marks","_law_words"] ["_law_e"] (Qd Qd9):=⟨rfl,rfl,rfl,by decide +kernel,rfl,by decide +kernel,by decide +kernel⟩
theorem Qpq:Qab "_law_kind" Qd9 ["_law_e"]:=Qfy fun _ _ _ _ _ _ _=>rfl
noncomputable abbrev Qei:Stmt:=top 35
theorem Qba:FnScope ["_law_pen_here","_law_size","_law_way","_law_rows","_law_row","_law_numbers","_law_column","_law_number"] ["_law_pen_here","_law_size","_law_way"] (Qd Qei):=⟨rfl,rfl,rfl,by decide +kernel,rfl,by decide +kernel,by decide +kernel⟩
theorem Qnu:Qab "_law_table" Qei ["_law_pen_here","_law_size","_law_way"]:=bdN3 fun _ _ _ _ _ _ _ _ _=>rfl
noncomputable abbrev Qcg:Stmt:=top 36
theorem Qe3:FnScope ["_law_thing","_law_row"] ["_law_thing"] (Qd Qcg):=⟨rfl,rfl,rfl,by decide +kernel,rfl,by decide +kernel,by decide +kernel⟩
theorem Qiy:Qab "_law_is_square" Qcg ["_law_thing"]:=Qfy fun _ _ _ _ _ _ _=>rfl
noncomputable abbrev Qgt:Stmt:=top 37
theorem Qfl:FnScope ["_law_size","_law_found","_law_number","_law_figures"] ["_law_size"] (Qd Qgt):=⟨rfl,rfl,rfl,by decide +kernel,rfl,by decide +kernel,by decide +kernel⟩
theorem Qq9:Qab "_law_all" Qgt ["_law_size"]:=Qfy fun _ _ _ _ _ _ _=>rfl
noncomputable abbrev Qb8:Stmt:=top 38
theorem Qej:FnScope ["_law_found","_law_due","_law_table_here"] ["_law_found","_law_due"] (Qd Qb8):=⟨rfl,rfl,rfl,by decide +kernel,rfl,by decide +kernel,by decide +kernel⟩
theorem Qid:Qab "_law_tables_are" Qb8 ["_law_found","_law_due"]:=Qt5 fun _ _ _ _ _ _ _ _=>rfl
noncomputable abbrev Qfm:Stmt:=top 39
theorem Qjl:FnScope ["_law_table_here","_law_e"] ["_law_table_here"] (Qd Qfm):=⟨rfl,rfl,rfl,by decide +kernel,rfl,by decide +kernel,by decide +kernel⟩
theorem Qpr:Qab "_law_said" Qfm ["_law_table_here"]:=Qfy fun _ _ _ _ _ _ _=>rfl
noncomputable abbrev Qek:Stmt:=top 40
theorem Qdx:FnScope ["_law_table_here","_law_word","_law_found","_law_due"] ["_law_table_here"] (Qd Qek):=⟨rfl,rfl,rfl,by decide +kernel,rfl,by decide +kernel,by decide +kernel⟩
theorem Qnv:Qab "_law_right" Qek ["_law_table_here"]:=Qfy fun _ _ _ _ _ _ _=>rfl
noncomputable abbrev Qjm:Stmt:=top 41
theorem Qgf:FnScope ["_law_script","_law_size","_law_found","_law_cell_here","_law_pen_here","_law_table_here","_law_plain","_law_thing"] ["_law_script"] (Qd Qjm):=⟨rfl,rfl,rfl,by decide +kernel,rfl,by decide +kernel,by decide +kernel⟩
theorem Q6d:Qab "law" Qjm ["_law_script"]:=Qfy fun _ _ _ _ _ _ _=>rfl
theorem Qly:PySem.bootBuiltins "ValueError" = some (.type "ValueError"):=by decide +kernel
theorem Q6e:PySem.bootBuiltins "abs" = some (.builtin "abs"):=by decide +kernel
theorem Qhk:PySem.bootBuiltins "all" = some (.builtin "all"):=by decide +kernel
theorem Q6f:PySem.bootBuiltins "any" = some (.builtin "any"):=by decide +kernel
theorem Qsk:PySem.bootBuiltins "bool" = some (.type "bool"):=by decide +kernel
theorem Qt8:PySem.bootBuiltins "divmod" = some (.builtin "divmod"):=by decide +kernel
theorem Qle:PySem.bootBuiltins "int" = some (.type "int"):=by decide +kernel
theorem Qj:PySem.bootBuiltins "isinstance" = some (.builtin "isinstance"):=by decide +kernel
theorem Qci:PySem.bootBuiltins "len" = some (.builtin "len"):=by decide +kernel
theorem Qnw:PySem.bootBuiltins "list" = some (.type "list"):=by decide +kernel
theorem Qra:PySem.bootBuiltins "max" = some (.builtin "max"):=by decide +kernel
theorem Qxv:PySem.bootBuiltins "min" = some (.builtin "min"):=by decide +kernel
theorem Qxw:PySem.bootBuiltins "range" = some (.type "range"):=by decide +kernel
theorem Qav:PySem.bootBuiltins "tuple" = some (.type "tuple"):=by decide +kernel
structure Txt (K:PySem.W.Frag) (mg:Str → Option Value):Prop where
 n_ValueError:mg "ValueError" = none
 n_abs:mg "abs" = none
 n_all:mg "all" = none
 n_any:mg "any" = none
 n_bool:mg "bool" = none
 n_divmod:mg "divmod" = none
 n_int:mg "int" = none
 n_isinstance:mg "isinstance" = none
 n_len:mg "len" = none
 n_list:mg "list" = none
 n_max:mg "max" = none
 n_min:mg "min" = none
 n_range:mg "range" = none
 n_tuple:mg "tuple" = none
 m_MOST_ROWS:∃ u,mg "MOST_ROWS" = some u ∧ RelV (.int (4)) u
 m_MOST_TABLES:∃ u,mg "MOST_TABLES" = some u ∧ RelV (.int (4)) u
 ex:Exs K mg
 i_Below:Ini K (cad mg "NoughtError") (cad mg "Below")
 i_NoTables:Ini K (cad mg "NoughtError") (cad mg "NoTables")
 k_kind:Dfn K mg "_law_kind" Qd9
 k_whole:Dfn K mg "_law_whole" Qdc
noncomputable def Qxx:List Str:=["table","way","set","rest","line","row","tables","below","text","great"]
noncomputable def Qiz:Nat → List Int → Option T
 | 7,[i]=>some (.tup [.str "below",.int i])
 | 0,[]=>some (.tup [.str "table",.non])
 | _,_=>none
noncomputable abbrev Qcu:Stmt:=Qrt (top 9) 0
theorem Qlz:FnScope ["self","at"] ["self","at"] (Qd Qcu):=⟨rfl,rfl,rfl,by decide +kernel,rfl,by decide +kernel,by decide +kernel⟩
theorem Ql0:∀ (kV doc pm:Value) (an:Option Addr) (cdv ct:Value) (us:List Value),us.length = 2 → bindArgs (PySem.W.fnOf "__init__" "Below.__init__" (Qam Qcu) (Q0 Qcu) (Qd Qcu) .none kV doc pm an cdv ct) ⟨us,[]⟩ = pure ((["self","at"]:List Str).zip us):=fun _ _ _ _ _ _ us hl=>match us,hl with | [_,_],_=>rfl
noncomputable abbrev Qbs:Stmt:=Qrt (top 8) 0
theorem Qi0:FnScope ["self","at"] ["self","at"] (Qd Qbs):=⟨rfl,rfl,rfl,by decide +kernel,rfl,by decide +kernel,by decide +kernel⟩
theorem Qi1:∀ (kV doc pm:Value) (an:Option Addr) (cdv ct:Value) (us:List Value),us.length = 2 → bindArgs (PySem.W.fnOf "__init__" "NoTables.__init__" (Qam Qbs) (Q0 Qbs) (Qd Qbs) .none kV doc pm an cdv ct) ⟨us,[]⟩ = pure ((["self","at"]:List Str).zip us):=fun _ _ _ _ _ _ us hl=>match us,hl with | [_,_],_=>rfl
noncomputable abbrev Qrb:L2.S:=(.ret (.and (.isI (.var 0) "int") (.not (.isI (.var 0) "bool"))))
noncomputable abbrev Qhl:L2.Df:=⟨"is_whole",Qfi,["thing"],["thing"],⟨1,1,Qrb⟩,fun _=>true,fun _=>true⟩
noncomputable abbrev Qlf:L2.S:=(.seq (.ite (.or (.not (.isI (.var 0) "tuple")) (.cmp .ne (.bi .len (.cons (.var 0) .nil)) (.var 1))) (.ret (.bl false)) .nil)
 (.ret (.bi .all (.cons (.comp (.seq (.var 0)) [none] (.nm 0) .nil (.call 0 (.cons (.var 0) .nil))) .nil))))
noncomputable abbrev Qlg:L2.Df:=⟨"is_row",Qic,["thing","size"],["thing","size"],⟨2,2,Qlf⟩,fun _=>true,fun _=>true⟩
noncomputable abbrev Qi2:L2.S:=(.seq (.ite (.or (.not (.isI (.var 0) "tuple")) (.or (.cmp .lt (.bi .len (.cons (.var 0) .nil)) (.int 1)) (.cmp .gt (.bi .len (.cons (.var 0) .nil)) (.int (4))))) (.ret (.bl false)) .nil)
 (.ret (.bi .all (.cons (.comp (.seq (.var 0)) [none,some 0] (.nm 0) .nil (.call 1 (.cons (.var 0) (.cons (.bi .len (.cons (.var 1) .nil)) .nil)))) .nil))))
noncomputable abbrev Qgu:L2.Df:=⟨"is_grid",Qgp,["thing"],["thing"],⟨1,1,Qi2⟩,fun _=>true,fun _=>true⟩
noncomputable abbrev Qfn:L2.S:=(.seq (.set 1 (.lst .nil))
 (.seq (.for_ (.seq (.var 0)) (.nm 2) (.ext 1 (.var 2)))
 (.ret (.var 1))))
noncomputable abbrev Qdy:L2.Df:=⟨"numbers_of",Qdt,["grid","numbers","row"],["grid"],⟨1,3,Qfn⟩,fun _=>true,fun _=>true⟩
noncomputable abbrev Qnx:L2.S:=(.ret (.bi .all (.cons (.comp (.seq (.call 3 (.cons (.var 0) .nil))) [none] (.nm 0) .nil (.cmp .lt (.bi .abs (.cons (.var 0) .nil)) (.bin .pow (.int 10) (.int 12)))) .nil)))
noncomputable abbrev Qfo:L2.Df:=⟨"is_bounded",Qdu,["grid"],["grid"],⟨1,1,Qnx⟩,fun _=>true,fun _=>true⟩
noncomputable abbrev Qhm:L2.S:=(.seq (.ite (.or (.not (.isI (.var 0) "list")) (.or (.cmp .lt (.bi .len (.cons (.var 0) .nil)) (.int 1)) (.cmp .gt (.bi .len (.cons (.var 0) .nil)) (.int (4))))) (.ret (.neg (.int 1))) .nil)
 (.seq (.for_ (.rng1 (.bi .len (.cons (.var 0) .nil))) (.nm 2) (.seq (.ite (.or (.not (.call 2 (.cons (.ix (.var 0) (.var 2)) .nil))) (.cmp .ne (.bi .len (.cons (.ix (.var 0) (.var 2)) .nil)) (.bi .len (.cons (.ix (.var 0) (.int 0)) .nil)))) (.ret (.var 2)) .nil)
 (.ite (.and (.var 1) (.not (.call 4 (.cons (.ix (.var 0) (.var 2)) .nil)))) (.ret (.var 2)) .nil)))
 (.ret .non)))
noncomputable abbrev Qhn:L2.Df:=⟨"wrong_at",Qfj,["thing","bounded","at"],["thing","bounded"],⟨2,3,Qhm⟩,fun _=>true,fun _=>true⟩
noncomputable abbrev Qcv:L2.S:=(.ite (.not (.call 2 (.cons (.var 0) .nil))) (.raise 0 (.cons (.str "this is no table") .nil)) .nil)
noncomputable abbrev Qfp:L2.Df:=⟨"need_table",Qdv,["thing"],["thing"],⟨1,1,Qcv⟩,fun _=>true,fun _=>true⟩
noncomputable abbrev Qev:L2.S:=(.seq (.setF 1 (.call 5 (.cons (.var 0) (.cons (.bl false) .nil))))
 (.ite (.cmp .isnn (.var 1) .non) (.raise 6 (.cons (.var 1) .nil)) .nil))
noncomputable abbrev Qew:L2.Df:=⟨"need_tables",Qc6,["thing","at"],["thing"],⟨1,2,Qev⟩,fun _=>true,fun _=>true⟩
noncomputable abbrev Qcw:L2.S:=(.seq (.expr (.call 7 (.cons (.var 0) .nil)))
 (.forX (.rng1 (.bi .len (.cons (.var 0) .nil))) (.nm 1) (.ite (.bi .any (.cons (.comp (.seq (.call 3 (.cons (.ix (.var 0) (.var 1)) .nil))) [none] (.nm 0) .nil (.cmp .lt (.var 0) (.int 0))) .nil)) (.raise 7 (.cons (.var 1) .nil)) .nil)))
noncomputable abbrev Qcx:L2.Df:=⟨"need_none_below",Qbz,["thing","at"],["thing"],⟨1,2,Qcw⟩,fun _=>true,fun _=>true⟩
noncomputable abbrev Qfq:L2.S:=(.seq (.set 2 (.lst (.cons (.tup .nil) .nil)))
 (.seq (.for_ (.rng1 (.var 1)) (.nm 3) (.seq (.set 4 (.lst .nil))
 (.seq (.forS 2 (.nm 5) (.extL 4 (.comp (.seq (.var 0)) [none,some 5] (.nm 0) .nil (.bin .add (.var 1) (.tup (.cons (.var 0) .nil))))))
 (.mov 2 4))))
 (.ret (.var 2))))
noncomputable abbrev Qdz:L2.Df:=⟨"all_tuples",Qdw,["parts","size","told","place","longer","one"],["parts","size"],⟨2,6,Qfq⟩,fun _=>true,fun _=>true⟩
noncomputable abbrev Qgg:L2.S:=(.ret (.call 9 (.cons (.call 9 (.cons (.lst (.cons (.int 0) (.cons (.int 1) .nil))) (.cons (.var 0) .nil))) (.cons (.var 0) .nil))))
noncomputable abbrev Qel:L2.Df:=⟨"all_marks",Qeh,["size"],["size"],⟨1,1,Qgg⟩,fun _=>true,fun _=>true⟩
noncomputable abbrev Qc0:L2.S:=(.seq (.expr (.call 6 (.cons (.var 0) .nil)))
 (.seq (.expr (.call 8 (.cons (.lst (.cons (.var 0) .nil)) .nil)))
 (.ret (.bi .tup (.cons (.comp (.seq (.var 0)) [none] (.nm 0) .nil (.bi .tup (.cons (.comp (.seq (.var 0)) [none] (.nm 0) .nil (.bi .int (.cons (.cmp .ne (.var 0) (.int 0)) .nil))) .nil))) .nil)))))
noncomputable abbrev Qi3:L2.Df:=⟨"mark_of",Qgq,["table"],["table"],⟨1,1,Qc0⟩,fun _=>true,fun _=>true⟩
noncomputable abbrev Qi4:L2.S:=(.seq (.setF 1 (.bi .max (.cons (.var 0) (.cons (.bin .sub (.int 0) (.var 0)) .nil))))
 (.ret (.lst (.cons (.var 1) (.cons (.bi .int (.cons (.cmp .ge (.var 1) (.bin .pow (.int 10) (.int 18))) .nil)) .nil)))))
noncomputable abbrev Qi5:L2.Df:=⟨"_law_pen",Qgr,["_law_cell_here","_law_left"],["_law_cell_here"],⟨1,2,Qi4⟩,fun _=>true,fun _=>true⟩
noncomputable abbrev Qea:L2.S:=(.seq (.ite (.cmp .eq (.ix (.var 0) (.int 1)) (.int 1)) (.seq (.unp [2,3] (.bi .dvm (.cons (.ix (.var 0) (.int 0)) (.cons (.var 1) .nil))))
 (.seq (.put 0 (.int 0) (.var 2))
 (.ret (.var 3)))) .nil)
 (.seq (.setF 4 (.bin .mod (.bin .mul (.bin .add (.bin .mod (.ix (.var 0) (.int 0)) (.int 2147483647)) (.int 40503)) (.int 69621)) (.int 2147483629)))
 (.seq (.setF 4 (.bin .mod (.bin .add (.bin .mul (.var 4) (.var 4)) (.int 7817)) (.int 2147483587)))
 (.seq (.put 0 (.int 0) (.bin .mod (.bin .add (.bin .mul (.var 4) (.int 48271)) (.int 11)) (.int 2147483629)))
 (.ret (.bin .mod (.bin .fdv (.ix (.var 0) (.int 0)) (.int 32)) (.var 1)))))))
noncomputable abbrev Qb4:L2.Df:=⟨"_law_draw",Qfk,["_law_pen_here","_law_many","_law_left","_law_found","_law_stir"],["_law_pen_here","_law_many"],⟨2,5,Qea⟩,fun _=>true,fun _=>true⟩
noncomputable abbrev Qps:L2.S:=(.ret (.and (.isI (.var 0) "int") (.not (.isI (.var 0) "bool"))))
noncomputable abbrev Qem:L2.Df:=⟨"_law_whole",Qdc,["_law_thing"],["_law_thing"],⟨1,1,Qps⟩,fun _=>true,fun _=>true⟩
noncomputable abbrev Qi6:L2.S:=(.seq (.setF 1 (.lst (.cons .non (.cons (.bl true) (.cons (.bl false) (.cons (.neg (.int 1)) (.cons (.str "1") (.cons (.str "") (.cons (.tup .nil) (.cons (.lst .nil) (.cons (.tup (.cons (.int 0) .nil)) (.cons (.lst (.cons (.int 0) .nil)) (.cons (.lit (.dct [Sum.inr "a"] [.int 1])) (.cons (.tup (.cons (.tup (.cons (.int 0) .nil)) .nil)) (.cons (.bin .pow (.int 10) (.int 30)) (.cons (.tup (.cons (.tup (.cons (.int 0) (.cons (.int 1) .nil))) .nil)) (.cons (.tup (.cons (.str "ab") .nil)) .nil)))))))))))))))))
 (.ret (.ix (.bin .add (.var 1) (.lst (.cons (.tup (.cons (.tup (.cons (.bl true) .nil)) .nil)) .nil))) (.call 13 (.cons (.var 0) (.cons (.int 16) .nil))))))
noncomputable abbrev Qi7:L2.Df:=⟨"_law_odd",Qgs,["_law_pen_here","_law_some"],["_law_pen_here"],⟨1,2,Qi6⟩,fun _=>true,fun _=>true⟩
noncomputable abbrev Qjn:L2.S:=(.seq (.set 3 (.lst .nil))
 (.seq (.for_ (.rng1 (.var 1)) (.nm 4) (.seq (.set 5 (.lst .nil))
 (.seq (.for_ (.rng1 (.var 1)) (.nm 6) (.seq (.setF 7 (.bi .max (.cons (.int 0) (.cons (.bin .sub (.call 13 (.cons (.var 0) (.cons (.int 5) .nil))) (.int 2)) .nil))))
 (.seq (.ite (.cmp .eq (.var 2) (.int 1)) (.setF 7 (.bin .sub (.call 13 (.cons (.var 0) (.cons (.int 5) .nil))) (.int 2))) .nil)
 (.seq (.ite (.cmp .eq (.var 2) (.int 2)) (.setF 7 (.bin .sub (.call 13 (.cons (.var 0) (.cons (.bin .add (.bin .mul (.int 2) (.bin .pow (.int 10) (.int 11))) (.int 1)) .nil))) (.bin .pow (.int 10) (.int 11)))) .nil)
 (.app 5 (.var 7))))))
 (.app 3 (.bi .tup (.cons (.var 5) .nil))))))
 (.ret (.bi .tup (.cons (.var 3) .nil)))))
noncomputable abbrev Qgh:L2.Df:=⟨"_law_table",Qei,["_law_pen_here","_law_size","_law_way","_law_rows","_law_row","_law_numbers","_law_column","_law_number"],["_law_pen_here","_law_size","_law_way"],⟨3,8,Qjn⟩,fun _=>true,fun _=>true⟩
noncomputable abbrev Qfx:L2.S:=(.seq (.ite (.or (.not (.isI (.var 0) "tuple")) (.inR true (.bi .len (.cons (.var 0) .nil)) (.int 1) (.int 5))) (.ret (.bl false)) .nil)
 (.seq (.for_ (.seq (.var 0)) (.nm 1) (.ite (.or (.not (.isI (.var 1) "tuple")) (.or (.cmp .ne (.bi .len (.cons (.var 1) .nil)) (.bi .len (.cons (.var 0) .nil))) (.not (.bi .all (.cons (.comp (.seq (.var 1)) [none] (.nm 0) .nil (.call 14 (.cons (.var 0) .nil))) .nil))))) (.ret (.bl false)) .nil))
 (.ret (.bl true))))
noncomputable abbrev Qdh:L2.Df:=⟨"_law_is_square",Qcg,["_law_thing","_law_row"],["_law_thing"],⟨1,2,Qfx⟩,fun _=>true,fun _=>true⟩
noncomputable abbrev Qmw:L2.S:=(.seq (.set 1 (.lst .nil))
 (.seq (.for_ (.rng1 (.bin .shl (.int 1) (.bin .mul (.var 0) (.var 0)))) (.nm 2) (.seq (.setF 3 (.comp (.rng1 (.bin .mul (.var 0) (.var 0))) [none,some 2,some 0] (.nm 0) .nil (.bin .band (.bin .shr (.var 1) (.bin .sub (.bin .sub (.bin .mul (.var 2) (.var 2)) (.int 1)) (.var 0))) (.int 1))))
 (.app 1 (.bi .tup (.cons (.comp (.rng1 (.var 0)) [none,some 3,some 0] (.nm 0) .nil (.bi .tup (.cons (.slc (.var 1) (.cons (.bin .mul (.var 0) (.var 2)) .nil) (.cons (.bin .add (.bin .mul (.var 0) (.var 2)) (.var 2)) .nil)) .nil))) .nil)))))
 (.ret (.var 1))))
noncomputable abbrev Qi8:L2.Df:=⟨"_law_all",Qgt,["_law_size","_law_found","_law_number","_law_figures"],["_law_size"],⟨1,4,Qmw⟩,fun _=>true,fun _=>true⟩
noncomputable abbrev Qe4:L2.S:=(.seq (.ite (.or (.not (.isI (.var 0) "list")) (.cmp .ne (.var 0) (.var 1))) (.ret (.bl false)) .nil)
 (.seq (.for_ (.seq (.var 0)) (.nm 2) (.seq (.ite (.or (.not (.isI (.var 2) "tuple")) (.not (.bi .all (.cons (.comp (.seq (.var 2)) [none] (.nm 0) .nil (.isI (.var 0) "tuple")) .nil)))) (.ret (.bl false)) .nil)
 (.ite (.not (.bi .all (.cons (.comp (.seq (.var 2)) [none] (.nm 0) .nil (.bi .all (.cons (.comp (.seq (.var 0)) [none] (.nm 0) .nil (.call 14 (.cons (.var 0) .nil))) .nil))) .nil))) (.ret (.bl false)) .nil)))
 (.ret (.bl true))))
noncomputable abbrev Qb9:L2.Df:=⟨"_law_tables_are",Qb8,["_law_found","_law_due","_law_table_here"],["_law_found","_law_due"],⟨2,3,Qe4⟩,fun _=>true,fun _=>true⟩
noncomputable abbrev Qcj:L2.S:=(.tryR 1 (.ret (.tup (.cons (.str "told") (.cons (.call 11 (.cons (.var 0) .nil)) .nil)))) Qiz)
noncomputable abbrev Qeb:L2.Df:=⟨"_law_said",Qfm,["_law_table_here","_law_e"],["_law_table_here"],⟨1,2,Qcj⟩,fun _=>true,fun _=>true⟩
noncomputable abbrev Qgi:L2.S:=(.seq (.ite (.not (.call 17 (.cons (.var 0) .nil))) (.ret (.cmp .eq (.call 20 (.cons (.var 0) .nil)) (.tup (.cons (.str "table") (.cons .non .nil))))) .nil)
 (.seq (.ite (.cmp .lt (.bi .min (.cons (.comp (.seq (.var 0)) [none] (.nm 0) .nil (.bi .minT (.cons (.var 0) .nil))) .nil)) (.int 0)) (.ret (.cmp .eq (.call 20 (.cons (.var 0) .nil)) (.tup (.cons (.str "below") (.cons (.int 0) .nil))))) .nil)
 (.seq (.unp [1,2] (.call 20 (.cons (.var 0) .nil)))
 (.seq (.setF 3 (.bi .tup (.cons (.comp (.seq (.var 0)) [none] (.nm 0) .nil (.bi .tup (.cons (.comp (.seq (.var 0)) [none] (.nm 0) .nil (.bi .int (.cons (.cmp .ne (.var 0) (.int 0)) .nil))) .nil))) .nil)))
 (.ret (.and (.cmp .eq (.var 1) (.str "told")) (.call 19 (.cons (.lst (.cons (.var 2) .nil)) (.cons (.lst (.cons (.var 3) .nil)) .nil)))))))))
noncomputable abbrev Qgj:L2.Df:=⟨"_law_right",Qek,["_law_table_here","_law_word","_law_found","_law_due"],["_law_table_here"],⟨1,4,Qgi⟩,fun _=>true,fun _=>true⟩
noncomputable abbrev ds:List L2.Df:=[Qhl,Qlg,Qgu,Qdy,Qfo,Qhn,Qfp,Qew,Qcx,Qdz,Qel,Qi3,Qi5,Qb4,Qem,Qi7,Qgh,Qdh,Qi8,Qb9,Qeb,Qgj]
section
variable {P:Program} {w:World} {K:PySem.W.Frag} {mg:Str → Option Value} {base:Heap}
noncomputable def XcAt (mg:Str → Option Value) (H:Hp) (a:Addr) (i:Nat):Prop:=∃ x dx,Qas[i]? = some x ∧ H a = some (Qnf a (.ref (cad mg x)) dx) ∧ ∀ d,dx = some d → ∃ fs,H d = some (.xd fs)
noncomputable def Qny (mg:Str → Option Value):Sp:=fun vs H Q _=>∃ a i x,vs = [.ref a] ∧ XcAt mg H a i ∧ Qxx[i]? = some x ∧ ∀ H',Same H H' → Q (.str x) H'
theorem Qex {H:Hp} {a:Addr} {i:Nat} {y:Str} {Q:VK} (ex:Exs K mg) (j:Nat) (h:XcAt mg H a i) (hy:Qas[j]? = some y) (k:Q (.bl (i == j)) H):Qng K [.ref a,.ref (cad mg y)] H Q:=by
 obtain ⟨x,dx,hx,ha,hd⟩:=h
 exact ⟨a,_,dx,_,_,rfl,ha,hd,ex.xc i hx,.inl ⟨_,rfl⟩,ex.kit i j hx hy,k⟩
theorem Q6g {H:Hp} {a:Addr} {i:Nat} {Q:VK} (ex:Exs K mg) (h:XcAt mg H a i) (k:Q (.bl true) H):Qng K [.ref a,.ty "ValueError"] H Q:=by
 obtain ⟨x,dx,hx,ha,hd⟩:=h
 exact ⟨a,_,dx,_,_,rfl,ha,hd,ex.xc i hx,.inr ⟨_,rfl⟩,ex.val i hx,k⟩
theorem XcAt.mono {H H':Hp} {a:Addr} {i:Nat} (h:XcAt mg H a i) (s:Same H H'):XcAt mg H' a i:=by
 obtain ⟨x,dx,hx,ha,hd⟩:=h
 exact ⟨x,dx,hx,s _ _ ha,fun d e=>let ⟨fs,q⟩:=hd d e; ⟨fs,s _ _ q⟩⟩
noncomputable def Qgv (i:Nat):List Bool:=[i == 0,i == 1,i == 2,i == 3] ++ [i == 4,i == 5,i == 6,i == 7] ++ [i == 8,i == 9]
theorem Qxy:∀ i,i < 10 → (Qgv i).count true = 1 ∧ (Qgv i)[i]? = some true ∧ ∀ m,m < i → (Qgv i)[m]? ≠ some true:=by decide
theorem Qie (d:Dfn K mg "_law_kind" Qd9) (tx:Txt K mg):Q4t P w K mg base "_law_kind" ["_law_e"] 1 (Qny mg):=by
 refine Q4u (k:=0) d Qdd Qpq (fun vs H Q E h=>?_) (fun f cdv A outer s H vs Q E hr h=>?_)
 ·obtain ⟨a,i,x,rfl,_⟩:=h
  rfl
 ·obtain ⟨a,i,x,rfl,xa,hi,q⟩:=h
  refine ⟨_,(Qdp (Qbk (i:=1) Qdd.nd (Qon (Qo (Qhw (Qcp K rfl) tx.n_isinstance Qj (Qo (Qb0 0) (Qo (Qg2 (tx.ex.m 0 _ rfl)) Qat))) (Qo (Qhw (Qcp K rfl) tx.n_isinstance Qj (Qo (Qb0 0) (Qo (Qg2 (tx.ex.m 1 _ rfl)) Qat))) (Qo (Qhw (Qcp K rfl) tx.n_isinstance Qj (Qo (Qb0 0) (Qo (Qg2 (tx.ex.m 2 _ rfl)) Qat))) (Qo (Qhw (Qcp K rfl) tx.n_isinstance Qj (Qo (Qb0 0) (Qo (Qg2 (tx.ex.m 3 _ rfl)) Qat))) Qat))))))
   (Qdp (Qbk (i:=1) Qdd.nd (Qzh (Qrw K rfl) (Qb0 1) (Qon (Qo (Qhw (Qcp K rfl) tx.n_isinstance Qj (Qo (Qb0 0) (Qo (Qg2 (tx.ex.m 4 _ rfl)) Qat))) (Qo (Qhw (Qcp K rfl) tx.n_isinstance Qj (Qo (Qb0 0) (Qo (Qg2 (tx.ex.m 5 _ rfl)) Qat))) (Qo (Qhw (Qcp K rfl) tx.n_isinstance Qj (Qo (Qb0 0) (Qo (Qg2 (tx.ex.m 6 _ rfl)) Qat))) (Qo (Qhw (Qcp K rfl) tx.n_isinstance Qj (Qo (Qb0 0) (Qo (Qg2 (tx.ex.m 7 _ rfl)) Qat))) Qat)))))))
   (Qdp (Qbk (i:=1) Qdd.nd (Qzh (Qrw K rfl) (Qb0 1) (Qon (Qo (Qhw (Qcp K rfl) tx.n_isinstance Qj (Qo (Qb0 0) (Qo (Qg2 (tx.ex.m 8 _ rfl)) Qat))) (Qo (Qhw (Qcp K rfl) tx.n_isinstance Qj (Qo (Qb0 0) (Qo (Qg2 (tx.ex.m 9 _ rfl)) Qat))) Qat)))))
   (Qdp (Qv1 (Q73 (Q1r (Qvv (Qvu (Qhw (Qcp K rfl) tx.n_isinstance Qj (Qo (Qb0 0) (Qo (Qis "ValueError" tx.n_ValueError Qly) Qat))))) (Qvw (Qkb Q8c (Qoo K rfl PySem.F.plainAttrs_list PySem.F.slot_list_count PySem.F.type_list_count (Qwe K rfl) (Qb0 1) (Qo Qzg Qat)) Qmb (Qp4 _))))) (Qha (Qkc Qvt)) Qqf)
   (Qdp (Qbk (i:=2) Qdd.nd (Q76 (Qeq Qg1 (Qeq Qg1 (Qeq Qg1 (Qeq Qg1 (Qeq Qg1 (Qeq Qg1 (Qeq Qg1 (Qeq Qg1 (Qeq Qg1 (Qeq Qg1 Q75))))))))))))
   (Qha (Qkc (Q37 (Q4d K rfl) (Qb0 2) (Qoo K rfl PySem.F.plainAttrs_list PySem.F.slot_list_index PySem.F.type_list_index (Qwf K rfl) (Qb0 1) (Qo Qzg Qat)))))))))),?_⟩
  have hi10:i < 10:=(List.getElem?_eq_some_iff.mp hi).1
  obtain ⟨mc,mi,mn⟩:=Qxy i hi10
  refine ⟨_,rfl,Qex tx.ex 0 xa rfl ⟨_,rfl,Qex tx.ex 1 xa rfl ⟨_,rfl,Qex tx.ex 2 xa rfl ⟨_,rfl,Qex tx.ex 3 xa rfl ⟨by show 4 ≤ sizeLine; decide,fun l1 n1=>?_⟩⟩⟩⟩⟩
  have xa1:=xa.mono (Same.upd (o:=.lst [.bl (i == 0),.bl (i == 1),.bl (i == 2),.bl (i == 3)]) n1)
  refine ⟨_,rfl,_,rfl,Qex tx.ex 4 xa1 rfl ⟨_,rfl,Qex tx.ex 5 xa1 rfl ⟨_,rfl,Qex tx.ex 6 xa1 rfl ⟨_,rfl,Qex tx.ex 7 xa1 rfl ⟨by show 4 ≤ sizeLine; decide,fun l2 n2=>?_⟩⟩⟩⟩⟩
  have n12:l1 ≠ l2:=Qa2 Qi n2
  have S2:=Same.upd (o:=.lst [.bl (i == 4),.bl (i == 5),.bl (i == 6),.bl (i == 7)]) n2
  refine .inr (.inl ⟨l1,l2,_,_,rfl,rfl,by rw [Qv n12,Qi],Qi,by show 4 + 4 ≤ sizeLine; decide,fun l3 n3=>?_⟩)
  have S3:=S2.trans (Same.upd (o:=.lst ([.bl (i == 0),.bl (i == 1),.bl (i == 2),.bl (i == 3)] ++ [.bl (i == 4),.bl (i == 5),.bl (i == 6),.bl (i == 7)])) n3)
  have xa3:=xa1.mono S3
  refine ⟨_,rfl,_,rfl,Qex tx.ex 8 xa3 rfl ⟨_,rfl,Qex tx.ex 9 xa3 rfl ⟨by show 2 ≤ sizeLine; decide,fun l4 n4=>?_⟩⟩⟩
  have n34:l3 ≠ l4:=Qa2 Qi n4
  have S4:=S3.trans (Same.upd (o:=.lst [.bl (i == 8),.bl (i == 9)]) n4)
  refine .inr (.inl ⟨l3,l4,_,_,rfl,rfl,by rw [Qv n34,Qi],Qi,by show 8 + 2 ≤ sizeLine; decide,fun l5 n5=>?_⟩)
  have S5:=S4.trans (Same.upd (o:=.lst ([.bl (i == 0),.bl (i == 1),.bl (i == 2),.bl (i == 3)] ++ [.bl (i == 4),.bl (i == 5),.bl (i == 6),.bl (i == 7)] ++ [.bl (i == 8),.bl (i == 9)])) n5)
  have xa5:=xa1.mono S5
  generalize hH5:upd _ l5 _ = H5 at xa5 S5 ⊢
  have e5:H5 l5 = some (.lst ((Qgv i).map V.bl)):=by rw [← hH5,Qi]; rfl
  have S50:=(Same.upd (o:=.lst [.bl (i == 0),.bl (i == 1),.bl (i == 2),.bl (i == 3)]) n1).trans S5
  refine ⟨_,rfl,Q6g tx.ex xa5 ⟨_,rfl,Q3v ?_⟩⟩
  refine ⟨_,rfl,.inl ⟨rfl,_,SqL.of e5⟩,l5,Qgv i,true,rfl,rfl,e5,rfl,_,rfl,?_⟩
  rw [mc]
  refine Q3v ?_
  intro v6 H6 s6 r6
  obtain ⟨l6,ws,rfl,e6,i6⟩:=r6.lst_inv
  obtain ⟨n6,e6⟩:=Qf3 e6
  refine ⟨_,rfl,_,rfl,.inl ⟨rfl,_,SqL.of (s6 _ _ e5)⟩,l5,Qgv i,true,i,rfl,rfl,s6 _ _ e5,by show 10 ≤ 1000; decide,mi,mn,?_⟩
  have ht:(Qxx.map T.str)[i]? = some (.str x):=by rw [List.getElem?_map,hi]; rfl
  obtain ⟨v,hv,iv⟩:=IsL.getT (ts:=Qxx.map T.str) i6 ht
  have:v = .str x:=by unfold Is at iv; exact iv
  subst this
  exact .inl ⟨l6,_,_,_,rfl,rfl,SqL.of e6,Qhs hv,q H6 (S50.trans s6)⟩
theorem Qaae {H:Hp} {a:Addr} {c:Nat} {arg:List Int} (h:Q9w mg H a c arg):XcAt mg H a c:=by
 obtain ⟨nm,dx,hn,ha,hd⟩:=h
 refine ⟨nm,dx,hn,ha,fun d e=>?_⟩
 match arg,hd with
 | [],hd=>exact nomatch (hd.symm.trans e)
 | [_],⟨_,e',q⟩=>cases e'.symm.trans e; exact ⟨_,q⟩
 | [_,_],⟨_,e',q⟩=>cases e'.symm.trans e; exact ⟨_,q⟩
theorem Qpt {c:Nat} {arg:List Int} {t:T} (e:Qiz c arg = some t):(∃ i,c = 7 ∧ arg = [i] ∧ t = .tup [.str "below",.int i]) ∨ c = 0 ∧ arg = [] ∧ t = .tup [.str "table",.non]:=by
 unfold Qiz at e
 split at e
 ·cases e; exact .inl ⟨_,rfl,rfl,rfl⟩
 ·cases e; exact .inr ⟨rfl,rfl,rfl⟩
 ·cases e
theorem Qsl {H H':Hp} {p:Addr} (s:Same H H') (h:H' p = none):H p = none:=by
 cases e:H p with
 | none=>rfl
 | some o=>rw [s _ _ e] at h; cases h
theorem Qt9 (tx:Txt K mg) {D:Ends} {σ:St} {H:Hp} {v n:Nat} (z:Q51 mg v n Qiz D σ H) :
  Qym (Q1o (Qey (Qj5 (Qny mg) [] E0 (Qey (Qg8 v) Qlm)) (Qey (tIf (Qu1 (tOp rEq (Qj5 (Qny mg) [] E0 (Qey (Qg8 v) Qlm)) (tC (V.str "below")))) (Q11 K "at" (Qg8 v)) (tC V.non)) Qlm))) D σ H:=by
 obtain ⟨a,c,arg,t,hl,hs,xa,e,q⟩:=z
 have xc:=Qaae xa
 rcases Qpt e with ⟨i,rfl,rfl,rfl⟩ | ⟨rfl,rfl,rfl⟩
 ·obtain ⟨nm,dx,hn,ha,d,rfl,hd⟩:=xa
  cases hn
  refine ⟨_,hs,a,7,"below",rfl,xc,rfl,fun H2 s2=>⟨_,hs,a,7,"below",rfl,xc.mono s2,rfl,fun H3 s3=>?_⟩⟩
  have s3:=s2.trans s3
  have rd:∀ (Q':VK),Q' (.int i) H3 → Q10 K "at" (.ref a) H3 Q':=fun Q' k=>⟨a,_,d,_,.int i,rfl,s3 _ _ ha,s3 _ _ hd,rfl,⟨i,rfl⟩,⟨_,tx.i_Below⟩,tx.ex.xc 7 rfl,k⟩
  refine ⟨rfl,_,rfl,iteT ⟨_,hs,rd _ ⟨by show 2 ≤ sizeLine; decide,fun p hp=>?_⟩⟩⟩
  exact q _ _ (s3.trans (Same.upd hp)) (.inr ⟨_,[.str "below",.int i],p,rfl,by show 2 ≤ 1000; decide,rfl,rfl,Qsl s3 hp,Qi⟩)
 ·refine ⟨_,hs,a,0,"table",rfl,xc,rfl,fun H2 s2=>⟨_,hs,a,0,"table",rfl,xc.mono s2,rfl,fun H3 s3=>?_⟩⟩
  have s3:=s2.trans s3
  refine ⟨rfl,_,rfl,Q3v ⟨by show 2 ≤ sizeLine; decide,fun p hp=>?_⟩⟩
  exact q _ _ (s3.trans (Same.upd hp)) (.inr ⟨_,[.str "table",.non],p,rfl,by show 2 ≤ 1000; decide,rfl,rfl,Qsl s3 hp,Qi⟩)
theorem Qrc (tx:Txt K mg):Qay P w K mg base ds Qhl:=fun cf n R f cdv A outer s H E hc h1 co pz hr =>
 (Qy (Qap (Qwy (Qfv tx.n_isinstance Qj (Qf 0) (Qis "int" tx.n_int Qle)) (Qwz (Q18 (Qfv tx.n_isinstance Qj (Qf 0) (Qis "bool" tx.n_bool Qsk)))))))
theorem Qxz (tx:Txt K mg):Qay P w K mg base ds Qlg:=fun cf n R f cdv A outer s H E hc h1 co pz hr =>
 (Qt (Qet (t_w (Qkr (Qdl (Qbv (Qfv tx.n_isinstance Qj (Qf 0) (Qis "tuple" tx.n_tuple Qav)))) (Qh1 (Qxh hr.units (Qct (Qd0 K rfl) (Qcr K) tx.n_len Qci (Qc (Qf 0) Qg)) (Qf 1))))) (Qy (Qap Qgz)) Qcc)
  (Qy (Qap (Qct (Qkd K rfl) (Qhf K) tx.n_all Qhk (Qc (Qbw ["number"] [none] rfl (Qbe rfl (Qf 0)) (fun _ _ _=>(Q4 (Q6 (i:=0) (show List.Nodup (["number"]:List PySem.Str) by decide +kernel)))) (fun _ _ _=>Qbu) (fun _ _ _=>(Q7 (hc 0 Qhl rfl) Q8 hr (Qc (Qf 0) Qg)))) Qg)))))
theorem Qua (tx:Txt K mg):Qay P w K mg base ds Qgu:=fun cf n R f cdv A outer s H E hc h1 co pz hr =>
 (Qt (Qet (t_w (Qkr (Qdl (Qbv (Qfv tx.n_isinstance Qj (Qf 0) (Qis "tuple" tx.n_tuple Qav)))) (Qkr (Q5t (Qct (Qd0 K rfl) (Qcr K) tx.n_len Qci (Qc (Qf 0) Qg)) Qp) (Qh1 (Q9t (Qct (Qd0 K rfl) (Qcr K) tx.n_len Qci (Qc (Qf 0) Qg)) (Qxg tx.m_MOST_ROWS)))))) (Qy (Qap Qgz)) Qcc)
  (Qy (Qap (Qct (Qkd K rfl) (Qhf K) tx.n_all Qhk (Qc (Qbw ["row","thing"] [none,some 0] rfl (Qbe rfl (Qf 0)) (fun _ _ _=>(Q4 (Q6 (i:=0) (show List.Nodup (["row","thing"]:List PySem.Str) by decide +kernel)))) (fun _ _ _=>Qbu) (fun _ _ _=>(Q7 (hc 1 Qlg rfl) Q8 hr (Qc (Qf 0) (Qc (Qct (Qd0 K rfl) (Qcr K) tx.n_len Qci (Qc (Qf 1) Qg)) Qg))))) Qg)))))
theorem Qnz (tx:Txt K mg):Qay P w K mg base ds Qdy:=fun cf n R f cdv A outer s H E hc h1 co pz hr =>
 (Qt (Qjg (Qbk (i:=1) Qeu.nd (Qdk Qg)))
  (Qt (Qg6 rfl (Qbe rfl (Qf 0)) (Q4 (Q6 (i:=2) Qeu.nd)) (Qy (Q9l (Qhb (Qoo K rfl PySem.F.plainAttrs_list PySem.F.slot_list_extend PySem.F.type_list_extend (Qtg K rfl) (Qb0 1) (Qo (Qf 2) Qat))))))
  (Qy (Qap (Qf 1)))))
theorem Qn0 (tx:Txt K mg):Qay P w K mg base ds Qfo:=fun cf n R f cdv A outer s H E hc h1 co pz hr =>
 (Qy (Qap (Qct (Qkd K rfl) (Qhf K) tx.n_all Qhk (Qc (Qbw ["number"] [none] rfl (Qbe rfl (Q7 (hc 3 Qdy rfl) pz hr (Qc (Qf 0) Qg))) (fun _ _ _=>(Q4 (Q6 (i:=0) (show List.Nodup (["number"]:List PySem.Str) by decide +kernel)))) (fun _ _ _=>Qbu) (fun _ _ _=>(Q9s (Qct Q8g Q5d tx.n_abs Q6e (Qc (Qf 0) Qg)) (Qpc Qp Qp)))) Qg))))
theorem Qrd (tx:Txt K mg):Qay P w K mg base ds Qhn:=fun cf n R f cdv A outer s H E hc h1 co pz hr =>
 (Qt (Qet (t_w (Qkr (Qdl (Qbv (Qfv tx.n_isinstance Qj (Qf 0) (Qis "list" tx.n_list Qnw)))) (Qkr (Q5t (Qct (Qd0 K rfl) (Qcr K) tx.n_len Qci (Qc (Qf 0) Qg)) Qp) (Qh1 (Q9t (Qct (Qd0 K rfl) (Qcr K) tx.n_len Qci (Qc (Qf 0) Qg)) (Qxg tx.m_MOST_TABLES)))))) (Qy (Qap (Qwx Qp))) Qcc)
  (Qt (Qg6 rfl (Qgb tx.n_range (Qct (Qd0 K rfl) (Qcr K) tx.n_len Qci (Qc (Qf 0) Qg))) (Q4 (Q6 (i:=2) Qjk.nd)) (Qt (Qet (t_w (Qkr (Qdl (Qbv (Q7 (hc 2 Qgu rfl) Q8 hr (Qc (Qlr rfl (Qf 0) (Qf 2)) Qg)))) (Qh1 (Qxh hr.units (Qct (Qd0 K rfl) (Qcr K) tx.n_len Qci (Qc (Qlr rfl (Qf 0) (Qf 2)) Qg)) (Qct (Qd0 K rfl) (Qcr K) tx.n_len Qci (Qc (Qlr rfl (Qf 0) Qp) Qg)))))) (Qy (Qap (Qf 2))) Qcc)
  (Qy (Qet (t_w (Q9c (Qbv (Qf 1)) (Qh1 (Qdl (Qbv (Q7 (hc 4 Qfo rfl) Q8 hr (Qc (Qlr rfl (Qf 0) (Qf 2)) Qg))))))) (Qy (Qap (Qf 2))) Qcc))))
  (Qy (Qap Qmi))))
theorem Qn1 (tx:Txt K mg):Qay P w K mg base ds Qfp:=fun cf n R f cdv A outer s H E hc h1 co pz hr =>
 (Qy (Qet (Qdl (Qbv (Q7 (hc 2 Qgu rfl) pz hr (Qc (Qf 0) Qg)))) (Qy (Qxl 0 pz rfl tx.ex rfl (by decide) (Qc Qjd Qg))) Qcc))
theorem Ql1 (tx:Txt K mg):Qay P w K mg base ds Qew:=fun cf n R f cdv A outer s H E hc h1 co pz hr =>
 (Qt (Qde (Qbk (i:=1) Qge.nd (Q7 (hc 5 Qhn rfl) pz hr (Qc (Qf 0) (Qc Qgz Qg)))))
  (Qy (Qet (Q5u (Qf 1) Qmi) (Qy (Qpf 6 pz rfl tx.ex tx.i_NoTables hr rfl (by decide) (Qc (Qf 1) Qg))) Qcc)))
theorem Qif (tx:Txt K mg):Qay P w K mg base ds Qcx:=fun cf n R f cdv A outer s H E hc h1 co pz hr =>
 (Qt (Qqv (Q7 (hc 7 Qew rfl) pz hr (Qc (Qf 0) Qg)))
  (Qy (Q5w Q6c rfl (Qgb tx.n_range (Qct (Qd0 K rfl) (Qcr K) tx.n_len Qci (Qc (Qf 0) Qg))) (Q4 (Q6 (i:=1) Qd7.nd)) (Qy (Qet (Qbv (Qct (Q8e K rfl) (Q5e K) tx.n_any Q6f (Qc (Qbw ["number"] [none] rfl (Qbe rfl (Q7 (hc 3 Qdy rfl) pz hr (Qc (Qlr rfl (Qf 0) (Qf 1)) Qg))) (fun _ _ _=>(Q4 (Q6 (i:=0) (show List.Nodup (["number"]:List PySem.Str) by decide +kernel)))) (fun _ _ _=>Qbu) (fun _ _ _=>(Q9s (Qf 0) Qp))) Qg))) (Qy (Qpf 7 pz rfl tx.ex tx.i_Below hr rfl (by decide) (Qc (Qf 1) Qg))) Qcc)))))
theorem Qn2 (tx:Txt K mg):Qay P w K mg base ds Qdz:=fun cf n R f cdv A outer s H E hc h1 co pz hr =>
 (Qt (Qjg (Qbk (i:=2) Qbt.nd (Qdk (Qc (Qc7 Qg) Qg))))
  (Qt (Qg6 rfl (Qgb tx.n_range (Qf 1)) (Q4 (Q6 (i:=3) Qbt.nd)) (Qt (Qjg (Qbk (i:=4) Qbt.nd (Qdk Qg)))
  (Qt (Q5x rfl (Qvx K rfl (Qb0 2)) (Q4 (Q6 (i:=5) Qbt.nd)) (Qy (Q5m (Qhb (Qoo K rfl PySem.F.plainAttrs_list PySem.F.slot_list_extend PySem.F.type_list_extend Qtw (Qb0 4) (Qo (Qbw ["part","one"] [none,some 5] rfl (Qbe rfl (Qf 0)) (fun _ _ _=>(Q4 (Q6 (i:=0) (show List.Nodup (["part","one"]:List PySem.Str) by decide +kernel)))) (fun _ _ _=>Qbu) (fun _ _ _=>(Qjh rfl (Qf 1) (Qc7 (Qc (Qf 0) Qg))))) Qat))))))
  (Qy (Q9n (Qbk (i:=2) Qbt.nd (Qb0 4)))))))
  (Qy (Qap (Qf 2)))))
theorem Qpu (tx:Txt K mg):Qay P w K mg base ds Qel:=fun cf n R f cdv A outer s H E hc h1 co pz hr =>
 (Qy (Qap (Q7 (hc 9 Qdz rfl) pz hr (Qc (Q7 (hc 9 Qdz rfl) pz hr (Qc (Qdk (Qc Qp (Qc Qp Qg))) (Qc (Qf 0) Qg))) (Qc (Qf 0) Qg)))))
theorem Qub (tx:Txt K mg):Qay P w K mg base ds Qi3:=fun cf n R f cdv A outer s H E hc h1 co pz hr =>
 (Qt (Qqv (Q7 (hc 6 Qfp rfl) pz hr (Qc (Qf 0) Qg)))
  (Qt (Qqv (Q7 (hc 8 Qcx rfl) pz hr (Qc (Qdk (Qc (Qf 0) Qg)) Qg)))
  (Qy (Qap (Qef (Qc3 K rfl) (Qes K) tx.n_tuple Qav (Qc (Qbw ["row"] [none] rfl (Qbe rfl (Qf 0)) (fun _ _ _=>(Q4 (Q6 (i:=0) (show List.Nodup (["row"]:List PySem.Str) by decide +kernel)))) (fun _ _ _=>Qbu) (fun _ _ _=>(Qef (Qc3 K rfl) (Qes K) tx.n_tuple Qav (Qc (Qbw ["number"] [none] rfl (Qbe rfl (Qf 0)) (fun _ _ _=>(Q4 (Q6 (i:=0) (show List.Nodup (["number"]:List PySem.Str) by decide +kernel)))) (fun _ _ _=>Qbu) (fun _ _ _=>(Qef Qqg Qqr tx.n_int Qle (Qc (Q9r hr.units (Qf 0) Qp) Qg)))) Qg)))) Qg))))))
theorem Quc (tx:Txt K mg):Qay P w K mg base ds Qi5:=fun cf n R f cdv A outer s H E hc h1 co pz hr =>
 (Qt (Qde (Qbk (i:=1) Qlc.nd (Qct (Qqp K rfl rfl) (Qqq K) tx.n_max Qra (Qc (Qf 0) (Qc (Qkz Qp (Qf 0)) Qg)))))
  (Qy (Qap (Qdk (Qc (Qf 1) (Qc (Qef Qqg Qqr tx.n_int Qle (Qc (g_ge (Qf 1) (Qpc Qp Qp)) Qg)) Qg))))))
theorem Qre (tx:Txt K mg):Qay P w K mg base ds Qb4:=fun cf n R f cdv A outer s H E hc h1 co pz hr =>
 (Qt (Qet (Q5s hr.units (Qlr rfl (Qf 0) Qp) Qp) (Qt (Q2e (Qrv (Qct Q8i Q5h tx.n_divmod Qt8 (Qc (Qlr rfl (Qf 0) Qp) (Qc (Qf 1) Qg))) (Qw8 (is:=[2,3]) (Qvz K rfl rfl (Qjt (Q6 (i:=2) Qdb.nd) (Qjt (Q6 (i:=3) Qdb.nd) Qvy))) rfl)))
  (Qt (Q2f (Qrv (Qf 2) (Qv0 (Qb0 0) Qp)))
  (Qy (Qap (Qf 3))))) Qcc)
  (Qt (Qde (Qbk (i:=4) Qdb.nd (Qpb (Qg5 (Qjh rfl (Qpb (Qlr rfl (Qf 0) Qp) Qp) Qp) Qp) Qp)))
  (Qt (Qde (Qbk (i:=4) Qdb.nd (Qpb (Qjh rfl (Qg5 (Qf 4) (Qf 4)) Qp) Qp)))
  (Qt (Q2f (Qrv (Qpb (Qjh rfl (Qg5 (Qf 4) Qp) Qp) Qp) (Qv0 (Qb0 0) Qp)))
  (Qy (Qap (Qpb (Q9p (Qlr rfl (Qf 0) Qp) Qp) (Qf 1))))))))
theorem Qpv (tx:Txt K mg):Qay P w K mg base ds Qem:=fun cf n R f cdv A outer s H E hc h1 co pz hr =>
 (Qy (Qap (Qwy (Qfv tx.n_isinstance Qj (Qf 0) (Qis "int" tx.n_int Qle)) (Qwz (Q18 (Qfv tx.n_isinstance Qj (Qf 0) (Qis "bool" tx.n_bool Qsk)))))))
theorem Qud (tx:Txt K mg):Qay P w K mg base ds Qi7:=fun cf n R f cdv A outer s H E hc h1 co pz hr =>
 (Qt (Qde (Qbk (i:=1) Qld.nd (Qdk (Qc Qmi (Qc Qgz (Qc Qgz (Qc (Qwx Qp) (Qc Qjd (Qc Qjd (Qc (Qc7 Qg) (Qc (Qdk Qg) (Qc (Qc7 (Qc Qp Qg)) (Qc (Qdk (Qc Qp Qg)) (Qc (Q9o (Qzj Q74)) (Qc (Qc7 (Qc (Qc7 (Qc Qp Qg)) Qg)) (Qc (Qpc Qp Qp) (Qc (Qc7 (Qc (Qc7 (Qc Qp (Qc Qp Qg))) Qg)) (Qc (Qc7 (Qc Qjd Qg)) Qg))))))))))))))))))
  (Qy (Qap (Qlr rfl (Qjh rfl (Qf 1) (Qdk (Qc (Qc7 (Qc (Qc7 (Qc Qgz Qg)) Qg)) Qg))) (Q7 (hc 13 Qb4 rfl) pz hr (Qc (Qf 0) (Qc Qp Qg)))))))
theorem Qpw (tx:Txt K mg):Qay P w K mg base ds Qgh:=fun cf n R f cdv A outer s H E hc h1 co pz hr =>
 (Qt (Qjg (Qbk (i:=3) Qba.nd (Qdk Qg)))
  (Qt (Qg6 rfl (Qgb tx.n_range (Qf 1)) (Q4 (Q6 (i:=4) Qba.nd)) (Qt (Qjg (Qbk (i:=5) Qba.nd (Qdk Qg)))
  (Qt (Qg6 rfl (Qgb tx.n_range (Qf 1)) (Q4 (Q6 (i:=6) Qba.nd)) (Qt (Qde (Qbk (i:=7) Qba.nd (Qct (Qqp K rfl rfl) (Qqq K) tx.n_max Qra (Qc Qp (Qc (Qkz (Q7 (hc 13 Qb4 rfl) Q8 hr (Qc (Qf 0) (Qc Qp Qg))) Qp) Qg)))))
  (Qt (Qet (Q5s hr.units (Qf 2) Qp) (Qy (Qde (Qbk (i:=7) Qba.nd (Qkz (Q7 (hc 13 Qb4 rfl) Q8 hr (Qc (Qf 0) (Qc Qp Qg))) Qp)))) Qcc)
  (Qt (Qet (Q5s hr.units (Qf 2) Qp) (Qy (Qde (Qbk (i:=7) Qba.nd (Qkz (Q7 (hc 13 Qb4 rfl) Q8 hr (Qc (Qf 0) (Qc (Qjh rfl (Qg5 Qp (Qpc Qp Qp)) Qp) Qg))) (Qpc Qp Qp))))) Qcc)
  (Qy (Qsa (Qhb (Qoo K rfl PySem.F.plainAttrs_list PySem.F.slot_list_append PySem.F.type_list_append Qhx (Qb0 5) (Qo (Qf 7) Qat)))))))))
  (Qy (Qsa (Qhb (Qoo K rfl PySem.F.plainAttrs_list PySem.F.slot_list_append PySem.F.type_list_append Qhx (Qb0 3) (Qo (Qef (Qc3 K rfl) (Qes K) tx.n_tuple Qav (Qc (Qf 5) Qg)) Qat))))))))
  (Qy (Qap (Qef (Qc3 K rfl) (Qes K) tx.n_tuple Qav (Qc (Qf 3) Qg))))))
theorem Qjq (tx:Txt K mg):Qay P w K mg base ds Qdh:=fun cf n R f cdv A outer s H E hc h1 co pz hr =>
 (Qt (Qet (t_w (Qkr (Qdl (Qbv (Qfv tx.n_isinstance Qj (Qf 0) (Qis "tuple" tx.n_tuple Qav)))) (Qh1 (Q9v tx.n_range Qxw (Qct (Qd0 K rfl) (Qcr K) tx.n_len Qci (Qc (Qf 0) Qg)) Qp Qp)))) (Qy (Qap Qgz)) Qcc)
  (Qt (Qg6 rfl (Qbe rfl (Qf 0)) (Q4 (Q6 (i:=1) Qe3.nd)) (Qy (Qet (t_w (Qkr (Qdl (Qbv (Qfv tx.n_isinstance Qj (Qf 1) (Qis "tuple" tx.n_tuple Qav)))) (Qkr (Qxh hr.units (Qct (Qd0 K rfl) (Qcr K) tx.n_len Qci (Qc (Qf 1) Qg)) (Qct (Qd0 K rfl) (Qcr K) tx.n_len Qci (Qc (Qf 0) Qg))) (Qh1 (Qdl (Qbv (Qct (Qkd K rfl) (Qhf K) tx.n_all Qhk (Qc (Qbw ["_law_one"] [none] rfl (Qbe rfl (Qf 1)) (fun _ _ _=>(Q4 (Q6 (i:=0) (show List.Nodup (["_law_one"]:List PySem.Str) by decide +kernel)))) (fun _ _ _=>Qbu) (fun _ _ _=>(Q7 (hc 14 Qem rfl) Q8 hr (Qc (Qf 0) Qg)))) Qg)))))))) (Qy (Qap Qgz)) Qcc)))
  (Qy (Qap Qgz))))
theorem Que (tx:Txt K mg):Qay P w K mg base ds Qi8:=fun cf n R f cdv A outer s H E hc h1 co pz hr =>
 (Qt (Qjg (Qbk (i:=1) Qfl.nd (Qdk Qg)))
  (Qt (Qg6 rfl (Qgb tx.n_range (Q2g Qp (Qg5 (Qf 0) (Qf 0)))) (Q4 (Q6 (i:=2) Qfl.nd)) (Qt (Qde (Qbk (i:=3) Qfl.nd (Qbw ["_law_at","_law_number","_law_size"] [none,some 2,some 0] rfl (Qgb tx.n_range (Qg5 (Qf 0) (Qf 0))) (fun _ _ _=>(Q4 (Q6 (i:=0) (show List.Nodup (["_law_at","_law_number","_law_size"]:List PySem.Str) by decide +kernel)))) (fun _ _ _=>Qbu) (fun _ _ _=>(Q5q (Q9q (Qf 1) (Qkz (Qkz (Qg5 (Qf 2) (Qf 2)) Qp) (Qf 0))) Qp)))))
  (Qy (Qsa (Qhb (Qoo K rfl PySem.F.plainAttrs_list PySem.F.slot_list_append PySem.F.type_list_append Qhx (Qb0 1) (Qo (Qef (Qc3 K rfl) (Qes K) tx.n_tuple Qav (Qc (Qbw ["_law_row","_law_figures","_law_size"] [none,some 3,some 0] rfl (Qgb tx.n_range (Qf 0)) (fun _ _ _=>(Q4 (Q6 (i:=0) (show List.Nodup (["_law_row","_law_figures","_law_size"]:List PySem.Str) by decide +kernel)))) (fun _ _ _=>Qbu) (fun _ _ _=>(Qef (Qc3 K rfl) (Qes K) tx.n_tuple Qav (Qc (Q9u rfl (Qf 1) (Qr5 (Qg5 (Qf 0) (Qf 2))) (Qr5 (Qjh rfl (Qg5 (Qf 0) (Qf 2)) (Qf 2)))) Qg)))) Qg)) Qat)))))))
  (Qy (Qap (Qf 1)))))
theorem Qi9 (tx:Txt K mg):Qay P w K mg base ds Qb9:=fun cf n R f cdv A outer s H E hc h1 co pz hr =>
 (Qt (Qet (t_w (Qkr (Qdl (Qbv (Qfv tx.n_isinstance Qj (Qf 0) (Qis "list" tx.n_list Qnw)))) (Qh1 (Qxh hr.units (Qf 0) (Qf 1))))) (Qy (Qap Qgz)) Qcc)
  (Qt (Qg6 rfl (Qbe rfl (Qf 0)) (Q4 (Q6 (i:=2) Qej.nd)) (Qt (Qet (t_w (Qkr (Qdl (Qbv (Qfv tx.n_isinstance Qj (Qf 2) (Qis "tuple" tx.n_tuple Qav)))) (Qh1 (Qdl (Qbv (Qct (Qkd K rfl) (Qhf K) tx.n_all Qhk (Qc (Qbw ["_law_row"] [none] rfl (Qbe rfl (Qf 2)) (fun _ _ _=>(Q4 (Q6 (i:=0) (show List.Nodup (["_law_row"]:List PySem.Str) by decide +kernel)))) (fun _ _ _=>Qbu) (fun _ _ _=>(Qfv tx.n_isinstance Qj (Qf 0) (Qis "tuple" tx.n_tuple Qav)))) Qg))))))) (Qy (Qap Qgz)) Qcc)
  (Qy (Qet (Qdl (Qbv (Qct (Qkd K rfl) (Qhf K) tx.n_all Qhk (Qc (Qbw ["_law_row"] [none] rfl (Qbe rfl (Qf 2)) (fun _ _ _=>(Q4 (Q6 (i:=0) (show List.Nodup (["_law_row"]:List PySem.Str) by decide +kernel)))) (fun _ _ _=>Qbu) (fun _ _ _=>(Qct (Qkd K rfl) (Qhf K) tx.n_all Qhk (Qc (Qbw ["_law_one"] [none] rfl (Qbe rfl (Qf 0)) (fun _ _ _=>(Q4 (Q6 (i:=0) (show List.Nodup (["_law_one"]:List PySem.Str) by decide +kernel)))) (fun _ _ _=>Qbu) (fun _ _ _=>(Q7 (hc 14 Qem rfl) Q8 hr (Qc (Qf 0) Qg)))) Qg)))) Qg)))) (Qy (Qap Qgz)) Qcc))))
  (Qy (Qap Qgz))))
theorem Qrf (tx:Txt K mg):Qay P w K mg base ds Qeb:=fun cf n R f cdv A outer s H E hc h1 co pz hr =>
 (Qy (Q52 (i:=1) tx.ex (fun pins R' pz'=>(Qy (Qap (Qc7 (Qc Qjd (Qc (Q7 (hc 11 Qi3 rfl) pz' hr (Qc (Qf 0) Qg)) Qg)))))) (fun pins e=>QB.weak (Qha (Qkc (Q1s (Qo (Q1z (Qie tx.k_kind tx) ((hr.mono h1).mark _) (Qo (Qb0 1) Qat)) (Qo (q_if (Qkb Q8b (Q1z (Qie tx.k_kind tx) ((hr.mono h1).mark _) (Qo (Qb0 1) Qat)) Qvt (Qp4 _)) (Q4x K rfl (Qb0 1)) Q1q) Qat))))) fun D σ H z=>Qt9 tx z) Qjl.nd))
theorem Qpx (tx:Txt K mg):Qay P w K mg base ds Qgj:=fun cf n R f cdv A outer s H E hc h1 co pz hr =>
 (Qt (Qet (Qdl (Qbv (Q7 (hc 17 Qdh rfl) pz hr (Qc (Qf 0) Qg)))) (Qy (Qap (Q5r hr.units (Q7 (hc 20 Qeb rfl) pz hr (Qc (Qf 0) Qg)) (Qc7 (Qc Qjd (Qc Qmi Qg)))))) Qcc)
  (Qt (Qet (Q5t (Qct (Q5f K rfl rfl) (Q5g K) tx.n_min Qxv (Qc (Qbw ["_law_row"] [none] rfl (Qbe rfl (Qf 0)) (fun _ _ _=>(Q4 (Q6 (i:=0) (show List.Nodup (["_law_row"]:List PySem.Str) by decide +kernel)))) (fun _ _ _=>Qbu) (fun _ _ _=>(Qct (Q5z K rfl rfl) (Q0j K) tx.n_min Qxv (Qc (Qf 0) Qg)))) Qg)) Qp) (Qy (Qap (Q5r hr.units (Q7 (hc 20 Qeb rfl) pz hr (Qc (Qf 0) Qg)) (Qc7 (Qc Qjd (Qc Qp Qg)))))) Qcc)
  (Qt (Q2e (Qrv (Q7 (hc 20 Qeb rfl) pz hr (Qc (Qf 0) Qg)) (Qw8 (is:=[1,2]) (Qvz K rfl rfl (Qjt (Q6 (i:=1) Qdx.nd) (Qjt (Q6 (i:=2) Qdx.nd) Qvy))) rfl)))
  (Qt (Qde (Qbk (i:=3) Qdx.nd (Qef (Qc3 K rfl) (Qes K) tx.n_tuple Qav (Qc (Qbw ["_law_row"] [none] rfl (Qbe rfl (Qf 0)) (fun _ _ _=>(Q4 (Q6 (i:=0) (show List.Nodup (["_law_row"]:List PySem.Str) by decide +kernel)))) (fun _ _ _=>Qbu) (fun _ _ _=>(Qef (Qc3 K rfl) (Qes K) tx.n_tuple Qav (Qc (Qbw ["_law_one"] [none] rfl (Qbe rfl (Qf 0)) (fun _ _ _=>(Q4 (Q6 (i:=0) (show List.Nodup (["_law_one"]:List PySem.Str) by decide +kernel)))) (fun _ _ _=>Qbu) (fun _ _ _=>(Qef Qqg Qqr tx.n_int Qle (Qc (Q9r hr.units (Qf 0) Qp) Qg)))) Qg)))) Qg))))
  (Qy (Qap (Qwy (Q5r hr.units (Qf 1) Qjd) (Qwz (Q7 (hc 19 Qb9 rfl) pz hr (Qc (Qdk (Qc (Qf 2) Qg)) (Qc (Qdk (Qc (Qf 3) Qg)) Qg)))))))))))
theorem Qn3 (d:Dfn K mg "_law_cell" Qd8) (tx:Txt K mg):Has P w K mg base "_law_cell" ["_law_script","_law_k"] 1 (Qk0 K):=by
 refine Q8j (k:=0) d Qpn Qpo (fun vs H Q E h=>?_) (fun f cdv A outer s H vs Q E hr h=>?_)
 ·obtain ⟨a,ns,k,rfl,_⟩:=h
  rfl
 ·obtain ⟨a,ns,k,rfl,hs,q⟩:=h
  refine ⟨_,(Qdp (Qv1 (Qkb Q4b (Qb0 1) (Qhw (Qd0 K rfl) tx.n_len Qci (Qo (Qb0 0) Qat)) (Qp4 _)) (Qha (Qkc (Q37 (Q4d K rfl) (Qb0 0) (Qb0 1)))) Qqf)
   (Qha (Qkc Qmb))),?_⟩
  refine ⟨_,rfl,_,rfl,a,_,rfl,.inl hs,_,_,rfl,rfl,_,rfl,?_⟩
  refine ite2 (fun c=>?_) (fun c=>?_)
  ·have c:(k:Int) < (ns.map V.int).length:=by simpa using c
   have hk:k < ns.length:=by rw [List.length_map] at c; omega
   refine ⟨_,rfl,_,rfl,.inl ⟨a,_,_,_,rfl,rfl,hs,Qhs (v:=V.int ns[k]) ?_,q _⟩⟩
   rw [List.getElem?_map,List.getElem?_eq_getElem hk]
   rfl
  ·exact q _
noncomputable abbrev Q2r:L2.S:=(.for_ (.rng2 (.int 1) (.int 4)) (.nm 1) (.seq (.set 2 (.call 10 (.cons (.var 1) .nil)))
 (.seq (.look 2 (.ite (.not (.call 19 (.cons (.var 2) (.cons (.call 18 (.cons (.var 1) .nil)) .nil)))) (.ret (.bl false)) .nil))
 (.seq (.app 2 .non)
 (.ite (.cmp .ne (.bi .len (.cons (.call 10 (.cons (.var 1) .nil)) .nil)) (.bin .shl (.int 1) (.bin .mul (.var 1) (.var 1)))) (.ret (.bl false)) .nil)))))
noncomputable abbrev Qrg:L2.S:=(.seq (.set 4 (.call 12 (.cons (.var 3) .nil)))
 (.seq (.setF 5 (.call 16 (.cons (.var 4) (.cons (.bin .add (.int 1) (.call 13 (.cons (.var 4) (.cons (.int 4) .nil)))) (.cons (.call 13 (.cons (.var 4) (.cons (.int 3) .nil))) .nil)))))
 (.seq (.setF 6 (.bi .tup (.cons (.comp (.seq (.var 5)) [none] (.nm 0) .nil (.bi .tup (.cons (.comp (.seq (.var 0)) [none] (.nm 0) .nil (.bi .max (.cons (.var 0) (.cons (.bin .sub (.int 0) (.var 0)) .nil)))) .nil))) .nil)))
 (.for_ (.seq (.lst (.cons (.var 5) (.cons (.var 6) (.cons (.call 15 (.cons (.var 4) .nil)) (.cons (.bi .list (.cons (.var 5) .nil)) (.cons (.tup (.cons (.tup (.cons (.int 0) (.cons (.int 0) .nil))) (.cons (.tup (.cons (.int 0) (.cons (.neg (.int 1)) .nil))) .nil))) (.cons .non .nil)))))))) (.nm 7) (.ite (.not (.call 21 (.cons (.var 7) .nil))) (.ret (.bl false)) .nil)))))
theorem Qaaf (tx:Txt K mg) {cf:CF} {f:Addr} {cdv:Value} {A:Around} {outer:List Env} {s:Shared} {H:Hp} {E:XK} (hc:Qqu P w K mg base ds cf 15) (h_cell:Has P w K mg base "_law_cell" ["_law_script","_law_k"] 1 (Qk0 K)) (hr:Room 15 (A.deeper (PyProof.Rows.envOfC "law" (Qd Qjm) s.heap.objs.size f cdv))) :
  QB (Qeo (fun _=>true) CX0 P w K mg base ["_law_script","_law_size","_law_found","_law_cell_here","_law_pen_here","_law_table_here","_law_plain","_law_thing"] "law" (Qd Qjm) f cdv A outer s H E).nox (Q0 Qjm) (Q2q ⟨cf,fun _ _ _ _=>False,mg⟩ K Q2r 3 5 Qrg) :=
 Qdp (Qg6 rfl (Q5v tx.n_range Qp Qp) (Q4 (Q6 (i:=1) Qgf.nd)) (Qt (Qjg (Qbk (i:=2) Qgf.nd (Q7 (hc 10 Qel rfl) Q8 hr (Qc (Qf 1) Qg))))
  (Qt (Q5y (i:=2) (Qet (Qdl (Qbv (Q7 (hc 19 Qb9 rfl) Q8 hr (Qc (Qf 2) (Qc (Q7 (hc 18 Qi8 rfl) Q8 hr (Qc (Qf 1) Qg)) Qg))))) (Qy (Qap Qgz)) Qcc))
  (Qt (Qsa (Qhb (Qoo K rfl PySem.F.plainAttrs_list PySem.F.slot_list_append PySem.F.type_list_append Qhx (Qb0 2) (Qo Qmi Qat))))
  (Qy (Qet (Qxh hr.units (Qct (Qd0 K rfl) (Qcr K) tx.n_len Qci (Qc (Q7 (hc 10 Qel rfl) Q8 hr (Qc (Qf 1) Qg)) Qg)) (Q2g Qp (Qg5 (Qf 1) (Qf 1)))) (Qy (Qap Qgz)) Qcc))))))
  (Qdp (Qru PassesOwn.never rfl (Qvx K rfl (Qzh (Qrw K rfl) (Qon (Qo (q_fn h_cell (hr.mono (by decide)) (Qo (Qb0 0) (Qo Qmb Qat))) Qat)) (Q77 (Q8d K rfl) (Qb0 0) (Qqe Qmb) (Qqe Qmb)))) (Q6 (i:=3) Qgf.nd)
   (Qt (Qjg (Qbk (i:=4) Qgf.nd (Q7 (hc 12 Qi5 rfl) Q8 hr (Qc (Qf 3) Qg))))
  (Qt (Qde (Qbk (i:=5) Qgf.nd (Q7 (hc 16 Qgh rfl) Q8 hr (Qc (Qf 4) (Qc (Qjh rfl Qp (Q7 (hc 13 Qb4 rfl) Q8 hr (Qc (Qf 4) (Qc Qp Qg)))) (Qc (Q7 (hc 13 Qb4 rfl) Q8 hr (Qc (Qf 4) (Qc Qp Qg))) Qg))))))
  (Qt (Qde (Qbk (i:=6) Qgf.nd (Qef (Qc3 K rfl) (Qes K) tx.n_tuple Qav (Qc (Qbw ["_law_row"] [none] rfl (Qbe rfl (Qf 5)) (fun _ _ _=>(Q4 (Q6 (i:=0) (show List.Nodup (["_law_row"]:List PySem.Str) by decide +kernel)))) (fun _ _ _=>Qbu) (fun _ _ _=>(Qef (Qc3 K rfl) (Qes K) tx.n_tuple Qav (Qc (Qbw ["_law_one"] [none] rfl (Qbe rfl (Qf 0)) (fun _ _ _=>(Q4 (Q6 (i:=0) (show List.Nodup (["_law_one"]:List PySem.Str) by decide +kernel)))) (fun _ _ _=>Qbu) (fun _ _ _=>(Qct (Qqp K rfl rfl) (Qqq K) tx.n_max Qra (Qc (Qf 0) (Qc (Qkz Qp (Qf 0)) Qg))))) Qg)))) Qg))))
  (Qy (Qg6 rfl (Qbe rfl (Qdk (Qc (Qf 5) (Qc (Qf 6) (Qc (Q7 (hc 15 Qi7 rfl) Q8 hr (Qc (Qf 4) Qg)) (Qc (Qef (Q4j K rfl) (Qz5 K) tx.n_list Qnw (Qc (Qf 5) Qg)) (Qc (Qc7 (Qc (Qc7 (Qc Qp (Qc Qp Qg))) (Qc (Qc7 (Qc Qp (Qc (Qwx Qp) Qg))) Qg))) (Qc Qmi Qg)))))))) (Q4 (Q6 (i:=7) Qgf.nd)) (Qy (Qet (Qdl (Qbv (Q7 (hc 21 Qgj rfl) Q8 hr (Qc (Qf 7) Qg)))) (Qy (Qap Qgz)) Qcc))))))))
  (Qha (Qkc Qzg)))
end
open PySem L2
noncomputable abbrev cfn (k:Nat):CF:=evF (Qh7 ds) k
noncomputable abbrev Tb:=List (List Int)
noncomputable abbrev Qal (r:List Int):T:=.tup (r.map .int)
noncomputable abbrev Qn (M:Tb):T:=.tup (M.map Qal)
structure Shp (n:Nat) (M:Tb):Prop where
 len:M.length = n
 row:∀ r ∈ M,r.length = n
noncomputable def whole:T → Bool
 | .int _=>true
 | _=>false
noncomputable def nc:T → Bool
 | .clo _ _=>false
 | _=>true
theorem Qrh (k:Nat) (t:T) (h:nc t = true:=by rfl):cfn (k + 1) 0 [.fz t] = .ok (.fz (.bl (whole t))) [.non]:=by cases t <;> first | (cases h; done) | rfl
theorem Qpy (k:Nat) (t:T) (h:nc t = true:=by rfl):cfn (k + 1) 14 [.fz t] = .ok (.fz (.bl (whole t))) [.non]:=by cases t <;> first | (cases h; done) | rfl
noncomputable def gd:Nat → T → Bool
 | _,.clo _ _=>false
 | n + 1,.tup ts=>decide (ts.length ≤ 1000) && ts.all (gd n)
 | n + 1,.lst ts=>decide (ts.length ≤ 1000) && ts.all (gd n)
 | 0,.tup _=>false
 | 0,.lst _=>false
 | _,_=>true
theorem Qmx {n:Nat} {t:T} (h:gd n t = true):nc t = true:=by
 cases t <;> first | rfl | (cases n <;> cases h)
theorem Qgk {n:Nat} {ts:List T} (h:gd (n + 1) (.tup ts) = true):ts.length ≤ 1000 ∧ ∀ x ∈ ts,gd n x = true:=by
 have h:(decide (ts.length ≤ 1000) && ts.all (gd n)) = true:=h
 rw [Bool.and_eq_true,decide_eq_true_eq,List.all_eq_true] at h
 exact h
theorem Qmy {n:Nat} {ts:List T} (h:ts.length ≤ 1000) (h2:∀ x ∈ ts,gd n x = true):gd (n + 1) (.tup ts) = true ∧ gd (n + 1) (.lst ts) = true:=by
 have q:(decide (ts.length ≤ 1000) && ts.all (gd n)) = true:=by rw [Bool.and_eq_true,decide_eq_true_eq,List.all_eq_true]; exact ⟨h,h2⟩
 exact ⟨q,q⟩
noncomputable def Qri:T → Bool
 | .tup _=>true
 | _=>false
noncomputable def Qe5 (n:Nat):T → Bool
 | .tup ts=>decide (ts.length = n) && ts.all whole
 | _=>false
noncomputable def Qe6:T → Bool
 | .tup ts=>decide (1 ≤ ts.length ∧ ts.length ≤ 4) && ts.all (Qe5 ts.length)
 | _=>false
theorem Q6h (k:Nat) (n:Nat) {t:T} (hn:nc t = true) (ht:Qri t = false):cfn (k + 2) 1 [.fz t,.fz (.int n)] = .ok (.fz (.bl false)) [.non,.non]:=by
 cases t <;> first | (cases hn; done) | (cases ht; done) | rfl
theorem Q6i (k:Nat) (n:Nat) {m:Nat} {t:T} (hg:gd (m + 1) t = true):cfn (k + 2) 1 [.fz t,.fz (.int n)] = .ok (.fz (.bl (Qe5 n t))) [.non,.non]:=by
 cases hi:Qri t with
 | false =>
  have e:=Q6h k n (Qmx hg) hi
  cases t <;> first | exact e | (cases hi; done)
 | true =>
  cases t <;> first | (cases hi; done) | skip
  rename_i ts
  obtain ⟨hl,hx⟩:=Qgk hg
  show Qb6 (cfn (k + 1)) ⟨2,2,Qlf⟩ _ = _
  rw [Qbq rfl]
  show Qcn _ (exS _ Qlf [.fz (.tup ts),.fz (.int n)]) = _
  by_cases hn:ts.length = n
  ·have c1:(ts.length:Int) = (n:Int):=by omega
   have hcomp:evE (cfn (k + 1)) (.comp (.seq (.var 0)) [none] (.nm 0) .nil (.call 0 (.cons (.var 0) .nil))) [.fz (.tup ts),.fz (.int n)] = .ok (.ow (.lst (ts.map fun x=>T.bl (whole x)))) [.fz (.tup ts),.fz (.int n)] :=
    Qa5 (rest:=[]) rfl rfl rfl rfl (fun x hx'=>by
     have q:=Qrh k x (Qmx (hx x hx'))
     refine ⟨.fz (.bl (whole x)),?_,rfl⟩
     simp only [Qae,Ql,Qq,Qac,Qb,Q5,yC1,Qs,yC2,Q2,Qw,Qaa,Qx,Qak,Q9,q,Qax,Qm,Qz,L2.Qh,Option.map,if_true]) (by omega)
   have ea:(ts.map whole).all id = ts.all whole:=by rw [List.all_map]; rfl
   have er:Qe5 n (.tup ts) = ts.all whole:=by show (decide (ts.length = n) && _) = _; rw [decide_eq_true hn,Bool.true_and]
   simp only [Qaf,Qa0,Qhh,Qcd,Qeg,Qq,Qac,Qb,Q5,Qhi,Qd3,cont,Qbr,Qck,Bool.not_false,Bool.and_true,Qag,if_true,Q1,yBl,Qec,Bool.not_true,yOr,Qby,Qbx,Ql,yC1,Qs,yC2,yBi,Qbp,Qad,Out.opt,ub2,c1,Qbo,Qe,Qbn,Qbm,Qbl,uc2,Option.map,Qb7,decide_true,yB,Qao,yIf,Qce,Qb1,Qbf,hcomp,ub3,Qd5,ea,Qdg,Qaq,Qa9,Qar,Qau,Qu,er]
  ·have c1:¬ (ts.length:Int) = (n:Int):=by omega
   have er:Qe5 n (.tup ts) = false:=by show (decide (ts.length = n) && _) = _; rw [decide_eq_false hn,Bool.false_and]
   simp only [Qaf,Qa0,Qhh,Qcd,Qeg,Qq,Qac,Qb,Q5,Qhi,Qd3,cont,Qbr,Qck,Bool.not_false,Bool.and_true,Qag,if_true,Q1,yBl,Qec,Bool.not_true,yOr,Qby,Qbx,Ql,yC1,Qs,yC2,yBi,Qbp,Qad,Out.opt,ub2,Qbo,Qe,Qbn,Qbm,Qbl,uc2,Option.map,Qb7,c1,decide_false,yB,Qao,yIf,Qbf,Qk3,Qdg,Qph,Qaq,Qa9,Qar,Qau,Qu,er]
theorem Q0w (k:Nat) {t:T} (hn:nc t = true) (ht:Qri t = false):cfn (k + 3) 2 [.fz t] = .ok (.fz (.bl false)) [.non]:=by
 cases t <;> first | (cases hn; done) | (cases ht; done) | rfl
theorem Qn4 (k:Nat) {m:Nat} {t:T} (hg:gd (m + 2) t = true):cfn (k + 3) 2 [.fz t] = .ok (.fz (.bl (Qe6 t))) [.non]:=by
 cases hi:Qri t with
 | false =>
  have e:=Q0w k (Qmx hg) hi
  cases t <;> first | exact e | (cases hi; done)
 | true =>
  cases t <;> first | (cases hi; done) | skip
  rename_i ts
  obtain ⟨hl,hx⟩:=Qgk hg
  show Qb6 (cfn (k + 2)) ⟨1,1,Qi2⟩ _ = _
  rw [Qbq rfl]
  show Qcn _ (exS _ Qi2 [.fz (.tup ts)]) = _
  have hcomp:evE (cfn (k + 2)) (.comp (.seq (.var 0)) [none,some 0] (.nm 0) .nil (.call 1 (.cons (.var 0) (.cons (.bi .len (.cons (.var 1) .nil)) .nil)))) [.fz (.tup ts)] = .ok (.ow (.lst (ts.map fun x=>T.bl (Qe5 ts.length x)))) [.fz (.tup ts)] :=
   Qa5 (rest:=[.fz (.tup ts)]) rfl rfl rfl rfl (fun x hx'=>by
    have q:=Q6i k ts.length (hx x hx')
    refine ⟨.fz (.bl (Qe5 ts.length x)),?_,rfl⟩
    simp only [Qae,Ql,Qq,Qac,Qb,Q5,yC1,Qbx,Qe,Qs,yC2,yBi,Qbp,Qad,cont,Out.opt,ub2,Q2,Qw,Qaa,Qx,Qak,Q9,q,Qax,Qm,Qz,L2.Qh,Option.map,if_true]) (by omega)
  have ea:(ts.map (Qe5 ts.length)).all id = ts.all (Qe5 ts.length):=by rw [List.all_map]; rfl
  by_cases h1:(ts.length:Int) < 1
  ·have er:Qe6 (.tup ts) = false:=by show (decide (1 ≤ ts.length ∧ ts.length ≤ 4) && _) = _; rw [decide_eq_false (by omega),Bool.false_and]
   simp only [Qaf,Qa0,Qhh,Qcd,Qeg,Qq,Qac,Qb,Q5,Qhi,Qd3,cont,Qbr,Qck,Bool.not_false,Bool.and_true,Qag,if_true,Q1,yBl,Qec,Bool.not_true,yOr,Qby,Qbx,Ql,yC1,Qs,yC2,yBi,Qbp,Qad,Out.opt,ub2,Qbo,Qbg,Qbn,Qbm,Qbl,uc3,h1,decide_true,yB,Qao,yIf,Qbf,Qk3,Qdg,Qph,Qaq,Qa9,Qar,Qau,Qu,Option.map,er]
  ·by_cases h4:(4:Int) < (ts.length:Int)
   ·have er:Qe6 (.tup ts) = false:=by show (decide (1 ≤ ts.length ∧ ts.length ≤ 4) && _) = _; rw [decide_eq_false (by omega),Bool.false_and]
    simp only [Qaf,Qa0,Qhh,Qcd,Qeg,Qq,Qac,Qb,Q5,Qhi,Qd3,cont,Qbr,Qck,Bool.not_false,Bool.and_true,Qag,if_true,Q1,yBl,Qec,Bool.not_true,yOr,Qby,Qbx,Ql,yC1,Qs,yC2,yBi,Qbp,Qad,Out.opt,ub2,Qbo,Qbg,Qbn,Qbm,Qbl,uc3,h1,decide_false,uc5,h4,decide_true,yB,Qao,yIf,Qbf,Qk3,Qdg,Qph,Qaq,Qa9,Qar,Qau,Qu,Option.map,er]
   ·have er:Qe6 (.tup ts) = ts.all (Qe5 ts.length):=by show (decide (1 ≤ ts.length ∧ ts.length ≤ 4) && _) = _; rw [decide_eq_true (by omega),Bool.true_and]
    simp only [Qaf,Qa0,Qhh,Qcd,Qeg,Qq,Qac,Qb,Q5,Qhi,Qd3,cont,Qbr,Qck,Bool.not_false,Bool.and_true,Qag,if_true,Q1,yBl,Qec,Bool.not_true,yOr,Qby,Qbx,Ql,yC1,Qs,yC2,yBi,Qbp,Qad,Out.opt,ub2,Qbo,Qbg,Qbn,Qbm,Qbl,uc3,h1,decide_false,uc5,h4,yB,Qao,yIf,Qce,Qb1,Qbf,hcomp,ub3,Option.map,Qd5,ea,Qdg,Qaq,Qa9,Qar,Qau,Qu,er]
theorem Qx0 {t:T} (h:Qe6 t = true):∃ n M,t = Qn M ∧ Shp n M ∧ 1 ≤ n ∧ n ≤ 4:=by
 cases t <;> first | (cases h; done) | skip
 rename_i ts
 have h:(decide (1 ≤ ts.length ∧ ts.length ≤ 4) && ts.all (Qe5 ts.length)) = true:=h
 rw [Bool.and_eq_true,decide_eq_true_eq,List.all_eq_true] at h
 obtain ⟨⟨h1,h4⟩,hr⟩:=h
 have inS:∀ us:List T,us.all whole = true → ∃ r:List Int,us = r.map T.int:=fun us=>by
  induction us with
  | nil=>exact fun _=>⟨[],rfl⟩
  | cons u us ih =>
   intro hu
   rw [List.all_cons,Bool.and_eq_true] at hu
   obtain ⟨r,rfl⟩:=ih hu.2
   cases u <;> first | (cases hu.1; done) | skip
   exact ⟨_ :: r,rfl⟩
 have rows:∀ (n:Nat) (us:List T),(∀ u ∈ us,Qe5 n u = true) → ∃ M:Tb,us = M.map Qal ∧ ∀ r ∈ M,r.length = n:=fun n us=>by
  induction us with
  | nil=>exact fun _=>⟨[],rfl,fun r z=>by cases z⟩
  | cons u us ih =>
   intro hu
   obtain ⟨M,rfl,hM⟩:=ih fun v z=>hu v (List.mem_cons_of_mem _ z)
   have q:=hu u List.mem_cons_self
   cases u <;> first | (cases q; done) | skip
   rename_i vs
   have q:(decide (vs.length = n) && vs.all whole) = true:=q
   rw [Bool.and_eq_true,decide_eq_true_eq] at q
   obtain ⟨r,rfl⟩:=inS vs q.2
   rw [List.length_map] at q
   exact ⟨r :: M,rfl,fun s z=>by
    rcases List.mem_cons.mp z with rfl | z
    ·exact q.1
    ·exact hM s z⟩
 obtain ⟨M,e,hM⟩:=rows ts.length ts hr
 exact ⟨ts.length,M,by rw [e],⟨by rw [e,List.length_map],hM⟩,h1,h4⟩
theorem Qn5 {n:Nat} {M:Tb} (h:Shp n M) (h4:n ≤ 4):gd 2 (Qn M) = true :=
 (Qmy (by rw [List.length_map,h.len]; omega) fun x hx=>by
  obtain ⟨r,hr,rfl⟩:=List.mem_map.mp hx
  exact (Qmy (by rw [List.length_map,h.row r hr]; omega) fun y hy=>by obtain ⟨i,_,rfl⟩:=List.mem_map.mp hy; rfl).1).1
theorem Qpz {n:Nat} {M:Tb} (h:Shp n M) (h1:1 ≤ n) (h4:n ≤ 4):Qe6 (Qn M) = true:=by
 show (decide (1 ≤ (M.map Qal).length ∧ (M.map Qal).length ≤ 4) && (M.map Qal).all (Qe5 (M.map Qal).length)) = true
 rw [List.length_map,h.len,decide_eq_true ⟨h1,h4⟩,Bool.true_and,List.all_eq_true]
 intro x hx
 obtain ⟨r,hr,rfl⟩:=List.mem_map.mp hx
 show (decide ((r.map T.int).length = n) && (r.map T.int).all whole) = true
 rw [List.length_map,decide_eq_true (h.row r hr),Bool.true_and,List.all_map,List.all_eq_true]
 exact fun _ _=>rfl
theorem Qig (k:Nat) {n:Nat} {M:Tb} (h:Shp n M) (h1:1 ≤ n) (h4:n ≤ 4):cfn (k + 4) 6 [.fz (Qn M)] = .ok (.fz .non) [.non]:=by
 have e1:=Qn4 k (Qn5 h h4)
 rw [Qpz h h1 h4] at e1
 show Qb6 (cfn (k + 3)) ⟨1,1,Qcv⟩ _ = _
 rw [Qbq rfl]
 show Qcn _ (exS _ Qcv [.fz (Qn M)]) = _
 simp only [Qa0,Qcd,Qae,Ql,Qq,Qac,Qb,Q5,yC1,Qs,yC2,Q2,Qw,Qaa,Qx,Qak,Q9,e1,Qax,Qm,Qz,L2.Qh,Option.map,if_true,Q1,yBl,Qec,Bool.not_true,Qao,yIf,Qce,Qq0,Qau,Qu]
theorem Qn6 (k:Nat) {m:Nat} {t:T} (hg:gd (m + 2) t = true) (hb:Qe6 t = false):cfn (k + 4) 6 [.fz t] = .xn ⟨0,[]⟩ [.non]:=by
 have r0:∀ s ρ,Qq1 0 [.fz (.str s)] ρ = .xn ⟨0,[]⟩ ρ:=fun _ _=>rfl
 have e:=Qn4 k hg
 rw [hb] at e
 show Qb6 (cfn (k + 3)) ⟨1,1,Qcv⟩ _ = _
 rw [Qbq rfl]
 show Qcn _ (exS _ Qcv [.fz t]) = _
 simp only [Qa0,Qcd,Qae,Ql,Qq,Qac,Qb,Q5,yC1,Qs,yC2,Q2,Qw,Qaa,Qx,Qak,Q9,e,Qax,Qm,Qz,L2.Qh,Option.map,if_true,Q1,yBl,Qec,Bool.not_false,Qao,yIf,Qsj,Qji,r0,Qnp,Qu,Qib]
theorem n1:((1:Nat):Int) = 1:=rfl
theorem Qmz {cf:CF} {g:Slot}:∀ (rows:Tb) (acc:List Int) (s:Slot),Qda s = true → acc.length + rows.flatten.length ≤ 1000 → ∃ s',Qbb (.nm 2) (exS cf (.ext 1 (.var 2))) (rows.map Qal) [g,.ow (.lst (acc.map .int)),s] = .nx [g,.ow (.lst ((acc ++ rows.flatten).map .int)),s']
 | [],acc,s,_,_=>⟨s,by simp [Qbb]⟩
 | r :: rows,acc,s,hs,hz=>by
  rw [List.flatten_cons,List.length_append] at hz
  obtain ⟨s',e⟩:=Qmz (cf:=cf) (g:=g) rows (acc ++ r) (.fz (Qal r)) rfl (by rw [List.length_append]; omega)
  refine ⟨s',?_⟩
  have e0:Qca (.nm 2) (Qal r) [g,.ow (.lst (acc.map .int)),s] = some [g,.ow (.lst (acc.map .int)),.fz (Qal r)]:=by
   cases s <;> first | rfl | cases hs
  rw [List.map_cons]
  unfold Qbb
  rw [e0]
  have z:acc.length + r.length ≤ 100000:=by omega
  simp only [Q59,Slot.mut,Qe,Qb,Qq,Qac,Qao,Q58,Q2n,List.length_map,z,List.set,if_true]
  rw [← List.map_append,e,List.flatten_cons,List.append_assoc]
theorem Qn7 (k:Nat) (M:Tb) (hz:M.flatten.length ≤ 1000):cfn (k + 1) 3 [.fz (Qn M)] = .ok (.ow (.lst (M.flatten.map .int))) [.non]:=by
 obtain ⟨s',e⟩:=Qmz (cf:=cfn k) (g:=.fz (Qn M)) M [] .un rfl (by simpa using hz)
 rw [List.map_nil,List.nil_append] at e
 show Qb6 (cfn k) ⟨1,3,Qfn⟩ _ = _
 rw [Qbq rfl]
 show Qcn _ (exS _ Qfn [.fz (Qn M),.un,.un]) = _
 simp only [Qaf,Qk8,Qe2,Qs,Q5,Qh9,Qcq,List.length_nil,Nat.reduceLeDiff,if_true,Qao,Qlq,Qah,Qb3,List.length_cons,Nat.reduceAdd,Nat.reduceLT,Qe,Qb,List.set,Qb1,Qgd,Qmv,Qq,Qac,Qqz,Qk5,cont,Qk4,Qft,Qiu,Qia,e,Qds,Qbf,Qdg,Qaq,Qa9,Qar,Qau,Qu,Option.map]
theorem Shp.flat {n:Nat} {M:Tb} (h:Shp n M) (h4:n ≤ 4):M.flatten.length ≤ 1000:=by
 have q:∀ L:Tb,(∀ r ∈ L,r.length ≤ 4) → L.flatten.length ≤ 4 * L.length:=fun L=>by
  induction L with
  | nil=>intro _; exact Nat.le_refl 0
  | cons r L ih =>
   intro hL
   have a:=ih fun s z=>hL s (List.mem_cons_of_mem _ z)
   have b:=hL r List.mem_cons_self
   rw [List.flatten_cons,List.length_append,List.length_cons]
   omega
 have:=q M fun r hr=>by rw [h.row r hr]; exact h4
 rw [h.len] at this
 omega
theorem Qrj (k:Nat) {n:Nat} {M:Tb} (h:Shp n M) (h1:1 ≤ n) (h4:n ≤ 4):cfn (k + 4) 5 [.fz (.lst [Qn M]),.fz (.bl false)] = .ok (.fz .non) [.non,.non]:=by
 have e1:=Qn4 k (Qn5 h h4)
 rw [Qpz h h1 h4] at e1
 have r1:∀ ρ,Qk6 (.fz (.int 1)) ρ = .ok ([T.int 0],none) ρ:=fun ρ=>rngA (by decide)
 have a0:atI [Qn M] 0 = some (Qn M):=rfl
 have el:Qbb (.nm 2) (exS (cfn (k + 3)) (.seq (.ite (.or (.not (.call 2 (.cons (.ix (.var 0) (.var 2)) .nil))) (.cmp .ne (.bi .len (.cons (.ix (.var 0) (.var 2)) .nil)) (.bi .len (.cons (.ix (.var 0) (.int 0)) .nil)))) (.ret (.var 2)) .nil)
   (.ite (.and (.var 1) (.not (.call 4 (.cons (.ix (.var 0) (.var 2)) .nil)))) (.ret (.var 2)) .nil))) [T.int 0] [.fz (.lst [Qn M]),.fz (.bl false),.un] = .nx [.fz (.lst [Qn M]),.fz (.bl false),.fz (.int 0)]:=by
  unfold Qbb
  rw [show Qca (.nm 2) (.int 0) [.fz (.lst [Qn M]),.fz (.bl false),.un] = some [.fz (.lst [Qn M]),.fz (.bl false),.fz (.int 0)] from rfl]
  simp only [Qaf,Qa0,Qhh,Qcd,Qae,Ql,Qxq,Qq,Qac,Qb,Q5,Qt3,Qe,Qt2,Qt1,cont,Qt0,ui1,a0,yC1,Qs,yC2,Q2,Qw,Qaa,Qx,Qak,Q9,e1,Qax,Qm,Qz,L2.Qh,Option.map,if_true,Q1,yBl,Qec,Bool.not_true,yOr,Qby,Qbx,yBi,Qbp,Qad,Out.opt,ub2,Qbo,Qbg,Qbn,Qbm,Qbl,uc2,Qb7,decide_true,yB,Qao,yIf,Qce,Qb1,Q2j,Q56]
  unfold Qbb
  rfl
 show Qb6 (cfn (k + 3)) ⟨2,3,Qhm⟩ _ = _
 rw [Qbq rfl]
 show Qcn _ (exS _ Qhm [.fz (.lst [Qn M]),.fz (.bl false),.un]) = _
 have c1:¬ (1:Int) < 1:=by decide
 have c2:¬ (4:Int) < 1:=by decide
 simp only [Qaf,Qa0,Qhh,Qcd,Qeg,Qq,Qac,Qb,Q5,Qhi,Qd3,cont,Qsg,Qck,Bool.not_false,Bool.and_true,Qjj,if_true,Q1,yBl,Qec,Bool.not_true,yOr,Qby,Qbx,Ql,yC1,Qs,yC2,yBi,Qbp,Qad,Out.opt,ub1,List.length_cons,List.length_nil,Nat.reduceAdd,n1,Qbo,Qbg,Qbn,Qbm,Qbl,uc3,c1,decide_false,uc5,c2,yB,Qao,yIf,Qce,Qb1,Qgd,Qfh,r1,Qia,el,Qds,Qbf,Qmu,Qdg,Qaq,Qa9,Qar,Qau,Qu,Option.map]
noncomputable def Qdi (M:Tb):Bool:=M.flatten.any fun x=>decide (x < 0)
theorem Ql2 (k:Nat) {n:Nat} {M:Tb} (h:Shp n M) (h1:1 ≤ n) (h4:n ≤ 4):cfn (k + 5) 7 [.fz (.lst [Qn M])] = .ok (.fz .non) [.non]:=by
 have e1:=Qrj k h h1 h4
 show Qb6 (cfn (k + 4)) ⟨1,2,Qev⟩ _ = _
 rw [Qbq rfl]
 show Qcn _ (exS _ Qev [.fz (.lst [Qn M]),.un]) = _
 simp only [Qaf,Qd4,Qae,Ql,Qq,Qac,Qb,Q5,yC1,Qk3,Qs,yC2,Q2,Qw,Qaa,Qx,Qak,Q9,e1,Qax,Qm,Qz,L2.Qh,Option.map,if_true,Qao,Qfw,Qdf,frz,Qah,Qb3,List.length_cons,List.length_nil,Nat.reduceAdd,Nat.reduceLT,Qe,List.set,Qb1,Qa0,Qby,Qbo,Qmu,Qbn,Qbm,cont,Qbl,uc8,Qjb,Bool.not_true,Q1,yBl,yIf,Qce,Qq0,Qau,Qu]
noncomputable def nnb (M:Tb):FR:=if Qdi M = true then .xn ⟨7,[0]⟩ [.non] else .ok (.fz .non) [.non]
theorem Qen (k:Nat) {n:Nat} {M:Tb} (h:Shp n M) (h1:1 ≤ n) (h4:n ≤ 4):cfn (k + 6) 8 [.fz (.lst [Qn M])] = nnb M:=by
 have e0:=Ql2 k h h1 h4
 have e1:=Qn7 (k + 4) M (h.flat h4)
 have r1:∀ ρ,Qk6 (.fz (.int 1)) ρ = .ok ([T.int 0],none) ρ:=fun ρ=>rngA (by decide)
 have a0:atI [Qn M] 0 = some (Qn M):=rfl
 have r7:∀ ρ,Qq1 7 [.fz (.int 0)] ρ = .xn ⟨7,[0]⟩ ρ:=fun _=>rfl
 have hw:evW (cfn (k + 5)) (.seq (.call 3 (.cons (.ix (.var 0) (.var 1)) .nil))) [.fz (.lst [Qn M]),.fz (.int 0)] = .ok (M.flatten.map T.int,none) [.fz (.lst [Qn M]),.fz (.int 0)]:=by
  simp only [Qmv,Qae,Ql,Qxq,Qq,Qac,Qb,Q5,Qt3,Qe,Qt2,Qt1,cont,Qt0,ui1,a0,yC1,Qs,yC2,Q2,Qw,Qaa,Qx,Qak,Q9,e1,Qax,Qm,Qz,L2.Qh,Option.map,if_true,Qqz,Qk5,Qk4,Qft,Qiu]
 have hc:evE (cfn (k + 5)) (.comp (.seq (.call 3 (.cons (.ix (.var 0) (.var 1)) .nil))) [none] (.nm 0) .nil (.cmp .lt (.var 0) (.int 0))) [.fz (.lst [Qn M]),.fz (.int 0)] = .ok (.ow (.lst ((M.flatten.map T.int).map fun t=>match t with | .int v=>T.bl (decide (v < 0)) | t=>t))) [.fz (.lst [Qn M]),.fz (.int 0)] :=
  Qa5 (rest:=[]) hw rfl rfl rfl (fun t ht=>by
   obtain ⟨v,_,rfl⟩:=List.mem_map.mp ht
   refine ⟨.fz (.bl (decide (v < 0))),?_,rfl⟩
   simp only [Qby,Qq,Qac,Qb,Q5,Qbo,Qbg,Qbn,Qbm,cont,Qbl,uc3]) (by have:=h.flat h4; rw [List.length_map]; omega)
 rw [List.map_map] at hc
 have ea:((M.flatten.map fun v=>decide (v < 0)).any id) = Qdi M:=by rw [List.any_map]; rfl
 have et:Qhz .any [.lst (M.flatten.map ((fun t=>match t with | .int v=>T.bl (decide (v < 0)) | t=>t) ∘ T.int))] = some (.fz (.bl (Qdi M))):=by
  show (Qhd (M.flatten.map fun v=>T.bl (decide (v < 0)))).map _ = _
  rw [Qd5,← ea]
  rfl
 show Qb6 (cfn (k + 5)) ⟨1,2,Qcw⟩ _ = _
 rw [Qbq rfl]
 show Qcn _ (exS _ Qcw [.fz (.lst [Qn M]),.un]) = _
 unfold nnb
 cases hb:Qdi M with
 | false =>
  rw [hb] at et
  have el:Qbb (.nm 1) (exS (cfn (k + 5)) (.ite (.bi .any (.cons (.comp (.seq (.call 3 (.cons (.ix (.var 0) (.var 1)) .nil))) [none] (.nm 0) .nil (.cmp .lt (.var 0) (.int 0))) .nil)) (.raise 7 (.cons (.var 1) .nil)) .nil)) [T.int 0] [.fz (.lst [Qn M]),.un] = .nx [.fz (.lst [Qn M]),.fz (.int 0)]:=by
   unfold Qbb
   rw [show Qca (.nm 1) (.int 0) [.fz (.lst [Qn M]),.un] = some [.fz (.lst [Qn M]),.fz (.int 0)] from rfl]
   simp only [Qa0,Qbx,Ql,hc,Q5,yC1,Qs,yC2,yBi,Qbp,Qad,cont,Out.opt,et,Q1,yBl,Qao,yIf,Qce]
   unfold Qbb
   rfl
  simp only [Qaf,Qk7,Qae,Ql,Qq,Qac,Qb,Q5,yC1,Qs,yC2,Q2,Qw,Qaa,Qx,Qak,Q9,e0,Qax,Qm,Qz,L2.Qh,Option.map,if_true,Qao,Qpi,Qb1,Qxt,Qfh,Qbx,yBi,Qbp,Qad,cont,Out.opt,ub1,List.length_cons,List.length_nil,Nat.reduceAdd,n1,r1,Qia,el,Qq0,Qau,Qu,Bool.false_eq_true,if_false]
 | true =>
  rw [hb] at et
  have el:Qbb (.nm 1) (exS (cfn (k + 5)) (.ite (.bi .any (.cons (.comp (.seq (.call 3 (.cons (.ix (.var 0) (.var 1)) .nil))) [none] (.nm 0) .nil (.cmp .lt (.var 0) (.int 0))) .nil)) (.raise 7 (.cons (.var 1) .nil)) .nil)) [T.int 0] [.fz (.lst [Qn M]),.un] = .xn ⟨7,[0]⟩ [.fz (.lst [Qn M]),.fz (.int 0)]:=by
   unfold Qbb
   rw [show Qca (.nm 1) (.int 0) [.fz (.lst [Qn M]),.un] = some [.fz (.lst [Qn M]),.fz (.int 0)] from rfl]
   simp only [Qa0,Qbx,Ql,hc,Q5,yC1,Qs,yC2,yBi,Qbp,Qad,cont,Out.opt,et,Q1,yBl,Qao,yIf,Qsj,Qq,Qac,Qe,Qb,r7]
  simp only [Qaf,Qk7,Qae,Ql,Qq,Qac,Qb,Q5,yC1,Qs,yC2,Q2,Qw,Qaa,Qx,Qak,Q9,e0,Qax,Qm,Qz,L2.Qh,Option.map,if_true,Qao,Qpi,Qb1,Qxt,Qfh,Qbx,yBi,Qbp,Qad,cont,Out.opt,ub1,List.length_cons,List.length_nil,Nat.reduceAdd,n1,r1,Qia,el,Qnp,Qu,Qib]
open PySem L2
noncomputable def bit (x:Int):Int:=if (!decide (x = 0)) = true then 1 else 0
noncomputable def Qlh (M:Tb):Tb:=M.map fun r=>r.map bit
noncomputable def iOf:T → List Int
 | .tup ts=>ts.map fun t=>match t with | .int i=>i | _=>0
 | _=>[]
theorem Qgw (r:List Int):iOf (Qal r) = r:=by
 show (r.map T.int).map _ = r
 rw [List.map_map]
 conv=>rhs; rw [← List.map_id r]
 rfl
noncomputable abbrev Qx1:E:=.bi .tup (.cons (.comp (.seq (.var 0)) [none] (.nm 0) .nil (.bi .int (.cons (.cmp .ne (.var 0) (.int 0)) .nil))) .nil)
theorem Q0x {cf:CF} {r:List Int} (hr:r.length ≤ 1000):evE cf Qx1 [.fz (Qal r)] = .ok (.fz (Qal (r.map bit))) [.fz (Qal r)]:=by
 have hc:evE cf (.comp (.seq (.var 0)) [none] (.nm 0) .nil (.bi .int (.cons (.cmp .ne (.var 0) (.int 0)) .nil))) [.fz (Qal r)] = .ok (.ow (.lst ((r.map T.int).map fun t=>match t with | .int v=>T.int (bit v) | t=>t))) [.fz (Qal r)] :=
  Qa5 (rest:=[]) rfl rfl rfl rfl (fun t ht=>by
   obtain ⟨v,_,rfl⟩:=List.mem_map.mp ht
   refine ⟨.fz (.int (bit v)),?_,rfl⟩
   simp only [Qbx,Ql,Qby,Qq,Qac,Qb,Q5,Qbo,Qbg,Qbn,Qbm,cont,Qbl,uc2,Option.map,Qb7,yC1,Qs,yC2,yBi,Qbp,Qad,Out.opt,ub8]
   rfl) (by rw [List.length_map]; omega)
 rw [List.map_map] at hc
 have e:r.map ((fun t=>match t with | .int v=>T.int (bit v) | t=>t) ∘ T.int) = (r.map bit).map T.int:=by rw [List.map_map]; rfl
 rw [e] at hc
 simp only [Qbx,Ql,hc,Q5,yC1,Qs,yC2,yBi,Qbp,Qad,cont,Out.opt,ub9]
noncomputable abbrev Qli:E:=.bi .tup (.cons (.comp (.seq (.var 0)) [none] (.nm 0) .nil Qx1) .nil)
theorem Qp0 {cf:CF} {n:Nat} {M:Tb} (h:Shp n M) (h4:n ≤ 4) {ρ:En}:evE cf Qli (.fz (Qn M) :: ρ) = .ok (.fz (Qn (Qlh M))) (.fz (Qn M) :: ρ):=by
 have hc:evE cf (.comp (.seq (.var 0)) [none] (.nm 0) .nil Qx1) (.fz (Qn M) :: ρ) = .ok (.ow (.lst ((M.map Qal).map fun t=>Qal ((iOf t).map bit)))) (.fz (Qn M) :: ρ) :=
  Qa5 (rest:=[]) rfl rfl rfl rfl (fun t ht=>by
   obtain ⟨r,hr,rfl⟩:=List.mem_map.mp ht
   refine ⟨_,Q0x (by rw [h.row r hr]; omega),?_⟩
   rw [Qgw]
   rfl) (by rw [List.length_map,h.len]; omega)
 have e:((M.map Qal).map fun t=>Qal ((iOf t).map bit)) = (Qlh M).map Qal:=by
  unfold Qlh
  rw [List.map_map,List.map_map]
  exact List.map_congr_left fun r _=>by show Qal ((iOf (Qal r)).map bit) = _; rw [Qgw]; rfl
 rw [e] at hc
 simp only [Qbx,Ql,hc,Q5,yC1,Qs,yC2,yBi,Qbp,Qad,cont,Out.opt,ub9]
theorem Qx2 {n:Nat} {M:Tb} (h:Shp n M):Shp n (Qlh M):=⟨by unfold Qlh; rw [List.length_map,h.len],fun r hr=>by
 obtain ⟨s,hs,rfl⟩:=List.mem_map.mp hr
 rw [List.length_map,h.row s hs]⟩
theorem Quf (k:Nat) {n:Nat} {M:Tb} (h:Shp n M) (h1:1 ≤ n) (h4:n ≤ 4) (hb:Qdi M = false):cfn (k + 7) 11 [.fz (Qn M)] = .ok (.fz (Qn (Qlh M))) [.non]:=by
 have e1:=Qig (k + 2) h h1 h4
 have e2:=Qen k h h1 h4
 unfold nnb at e2
 rw [hb,if_neg Bool.false_ne_true] at e2
 have e3:=Qp0 (cf:=cfn (k + 6)) h h4 (ρ:=[])
 have z1:(1:Nat) ≤ 100000:=by decide
 show Qb6 (cfn (k + 6)) ⟨1,1,Qc0⟩ _ = _
 rw [Qbq rfl]
 show Qcn _ (exS _ Qc0 [.fz (Qn M)]) = _
 have w:exS (cfn (k + 6)) (.ret Qli) [.fz (Qn M)] = .rt (.fz (Qn (Qlh M))) [.fz (Qn M)]:=by
  rw [Qbf,e3]
  rfl
 simp only [Qaf,Qk7,Qae,Ql,Qq,Qac,Qb,Q5,yC1,Qs,yC2,Q2,Qw,Qaa,Qx,Qak,Q9,e1,Qax,Qm,Qz,L2.Qh,Option.map,if_true,Qao,Qpi,Qb1,Qe2,Qh9,Qcq,frz,List.length_cons,List.length_nil,Nat.reduceAdd,z1,e2,w,Qaq,Qa9,Qar,Qau,Qu]
theorem Qug (k:Nat) {n:Nat} {M:Tb} (h:Shp n M) (h1:1 ≤ n) (h4:n ≤ 4) (hb:Qdi M = true):cfn (k + 7) 11 [.fz (Qn M)] = .xn ⟨7,[0]⟩ [.non]:=by
 have e1:=Qig (k + 2) h h1 h4
 have e2:=Qen k h h1 h4
 unfold nnb at e2
 rw [hb,if_pos rfl] at e2
 have z1:(1:Nat) ≤ 100000:=by decide
 show Qb6 (cfn (k + 6)) ⟨1,1,Qc0⟩ _ = _
 rw [Qbq rfl]
 show Qcn _ (exS _ Qc0 [.fz (Qn M)]) = _
 simp only [Qaf,Qk7,Qae,Ql,Qq,Qac,Qb,Q5,yC1,Qs,yC2,Q2,Qw,Qaa,Qx,Qak,Q9,e1,Qax,Qm,Qz,L2.Qh,Option.map,if_true,Qao,Qpi,Qb1,Qe2,Qh9,Qcq,frz,List.length_cons,List.length_nil,Nat.reduceAdd,z1,e2,Q0u,q_xn,Qnp,Qu,Qib]
theorem Quh (k:Nat) {m:Nat} {t:T} (hg:gd (m + 2) t = true) (hb:Qe6 t = false):cfn (k + 7) 11 [.fz t] = .xn ⟨0,[]⟩ [.non]:=by
 have e1:=Qn6 (k + 2) hg hb
 show Qb6 (cfn (k + 6)) ⟨1,1,Qc0⟩ _ = _
 rw [Qbq rfl]
 show Qcn _ (exS _ Qc0 [.fz t]) = _
 simp only [Qaf,Qk7,Qae,Ql,Qq,Qac,Qb,Q5,yC1,Qs,yC2,Q2,Qw,Qaa,Qx,Qak,Q9,e1,Qax,Qm,Qz,L2.Qh,Option.map,if_true,Q0u,q_xn,Qnp,Qu,Qib]
theorem t0' (ρ:En):Q0v Qiz (.xn ⟨0,[]⟩ ρ) = .rt (.fz (.tup [.str "table",.non])) ρ:=rfl
theorem t7' (ρ:En):Q0v Qiz (.xn ⟨7,[0]⟩ ρ) = .rt (.fz (.tup [.str "below",.int 0])) ρ:=rfl
theorem Q6j (k:Nat) {n:Nat} {M:Tb} (h:Shp n M) (h1:1 ≤ n) (h4:n ≤ 4) (hb:Qdi M = false):cfn (k + 8) 20 [.fz (Qn M)] = .ok (.fz (.tup [.str "told",Qn (Qlh M)])) [.non]:=by
 have e1:=Quf k h h1 h4 hb
 have z2:(2:Nat) ≤ 100000:=by decide
 show Qb6 (cfn (k + 7)) ⟨1,2,Qcj⟩ _ = _
 rw [Qbq rfl]
 show Qcn _ (exS _ Qcj [.fz (Qn M),.un]) = _
 rw [Qq2]
 simp only [Qbf,Qg7,Ql,Qji,Q5,yC1,Qae,Qq,Qac,Qb,Qs,yC2,Q2,Qw,Qaa,Qx,Qak,Q9,e1,Qax,Qm,Qz,L2.Qh,Option.map,if_true,Qno,Qcq,frz,List.length_cons,List.length_nil,Nat.reduceAdd,z2,Qao,Qdg,Q6b,Qaq,Qa9,Qar,Qau,Qu]
theorem Q6k (k:Nat) {n:Nat} {M:Tb} (h:Shp n M) (h1:1 ≤ n) (h4:n ≤ 4) (hb:Qdi M = true):cfn (k + 8) 20 [.fz (Qn M)] = .ok (.fz (.tup [.str "below",.int 0])) [.non]:=by
 have e1:=Qug k h h1 h4 hb
 show Qb6 (cfn (k + 7)) ⟨1,2,Qcj⟩ _ = _
 rw [Qbq rfl]
 show Qcn _ (exS _ Qcj [.fz (Qn M),.un]) = _
 rw [Qq2]
 simp only [Qbf,Qg7,Ql,Qji,Q5,yC1,Qae,Qq,Qac,Qb,Qs,yC2,Q2,Qw,Qaa,Qx,Qak,Q9,e1,Qax,Qm,Qz,L2.Qh,Option.map,if_true,Q9x,Q0u,t7',Qaq,Qa9,Qar,Qau,Qu]
theorem Q6l (k:Nat) {m:Nat} {t:T} (hg:gd (m + 2) t = true) (hb:Qe6 t = false):cfn (k + 8) 20 [.fz t] = .ok (.fz (.tup [.str "table",.non])) [.non]:=by
 have e1:=Quh k hg hb
 show Qb6 (cfn (k + 7)) ⟨1,2,Qcj⟩ _ = _
 rw [Qbq rfl]
 show Qcn _ (exS _ Qcj [.fz t,.un]) = _
 rw [Qq2]
 simp only [Qbf,Qg7,Ql,Qji,Q5,yC1,Qae,Qq,Qac,Qb,Qs,yC2,Q2,Qw,Qaa,Qx,Qak,Q9,e1,Qax,Qm,Qz,L2.Qh,Option.map,if_true,Q9x,Q0u,t0',Qaq,Qa9,Qar,Qau,Qu]
open PySem L2
theorem Qn8 {n:Nat} {ts:List T} (h:∀ x ∈ ts,Qk n x = true):ts.all (Qk n) = true:=List.all_eq_true.mpr h
theorem Qn9 (Ms:List Tb):Qk 50 (.lst (Ms.map Qn)) = true:=Qn8 (n:=49) fun x hx=>by
 obtain ⟨M,_,rfl⟩:=List.mem_map.mp hx
 exact Qn8 (n:=48) fun y hy=>by
  obtain ⟨r,_,rfl⟩:=List.mem_map.mp hy
  exact Qn8 (n:=47) fun z hz=>by
   obtain ⟨i,_,rfl⟩:=List.mem_map.mp hz
   rfl
theorem tabs_same (Ms:List Tb):eqO (.lst (Ms.map Qn)) (.lst (Ms.map Qn)) = some true:=by
 show (if _ then _ else _) = _
 rw [if_pos ⟨Qn9 Ms,Qn9 Ms⟩,Qkh 50 _ (Qn9 Ms)]
noncomputable def Fit (M:Tb):Prop:=M.length ≤ 1000 ∧ ∀ r ∈ M,r.length ≤ 1000
noncomputable abbrev Qlj:E:=.bi .all (.cons (.comp (.seq (.var 0)) [none] (.nm 0) .nil (.call 14 (.cons (.var 0) .nil))) .nil)
theorem Qx3 (k:Nat) {r:List Int} (hr:r.length ≤ 1000):evE (cfn (k + 1)) Qlj [.fz (Qal r)] = .ok (.fz (.bl true)) [.fz (Qal r)]:=by
 have hc:evE (cfn (k + 1)) (.comp (.seq (.var 0)) [none] (.nm 0) .nil (.call 14 (.cons (.var 0) .nil))) [.fz (Qal r)] = .ok (.ow (.lst ((r.map T.int).map fun _=>T.bl true))) [.fz (Qal r)] :=
  Qa5 (rest:=[]) rfl rfl rfl rfl (fun x hx=>by
   obtain ⟨i,_,rfl⟩:=List.mem_map.mp hx
   exact ⟨.fz (.bl true),rfl,rfl⟩) (by rw [List.length_map]; omega)
 simp only [Qbx,Ql,hc,Q5,yC1,Qs,yC2,yBi,Qbp,Qad,cont,Out.opt,ub3,Option.map,Qsh,Qxu]
noncomputable abbrev Qjx:S:=.seq (.ite (.or (.not (.isI (.var 2) "tuple")) (.not (.bi .all (.cons (.comp (.seq (.var 2)) [none] (.nm 0) .nil (.isI (.var 0) "tuple")) .nil)))) (.ret (.bl false)) .nil)
 (.ite (.not (.bi .all (.cons (.comp (.seq (.var 2)) [none] (.nm 0) .nil Qlj) .nil))) (.ret (.bl false)) .nil)
theorem Q0y (k:Nat) {M:Tb} (h:Fit M) {a b:Slot}:exS (cfn (k + 1)) Qjx [a,b,.fz (Qn M)] = .nx [a,b,.fz (Qn M)]:=by
 have hc:evE (cfn (k + 1)) (.comp (.seq (.var 2)) [none] (.nm 0) .nil (.isI (.var 0) "tuple")) [a,b,.fz (Qn M)] = .ok (.ow (.lst ((M.map Qal).map fun _=>T.bl true))) [a,b,.fz (Qn M)] :=
  Qa5 (rest:=[]) rfl rfl rfl rfl (fun x hx=>by
   obtain ⟨r,_,rfl⟩:=List.mem_map.mp hx
   exact ⟨.fz (.bl true),rfl,rfl⟩) (by rw [List.length_map]; have:=h.1; omega)
 have hd:evE (cfn (k + 1)) (.comp (.seq (.var 2)) [none] (.nm 0) .nil Qlj) [a,b,.fz (Qn M)] = .ok (.ow (.lst ((M.map Qal).map fun _=>T.bl true))) [a,b,.fz (Qn M)] :=
  Qa5 (rest:=[]) rfl rfl rfl rfl (fun x hx=>by
   obtain ⟨r,hr,rfl⟩:=List.mem_map.mp hx
   exact ⟨.fz (.bl true),Qx3 k (h.2 r hr),rfl⟩) (by rw [List.length_map]; have:=h.1; omega)
 generalize hw:Qlj = W0 at hd
 show exS (cfn (k + 1)) (.seq _ (.ite (.not (.bi .all (.cons (.comp (.seq (.var 2)) [none] (.nm 0) .nil Qlj) .nil))) _ _)) _ = _
 rw [hw]
 simp only [Qaf,Qa0,Qhh,Qcd,Qeg,Qq,Qac,Qe,Qb,Q5,Qhi,Qd3,cont,Qbr,Qck,Bool.not_false,Bool.and_true,Qag,if_true,Q1,yBl,Qec,Bool.not_true,yOr,Qbx,Ql,hc,yC1,Qs,yC2,yBi,Qbp,Qad,Out.opt,ub3,Option.map,Qsh,Qxu,yB,Qao,yIf,Qce,Qb1,hd]
theorem Qsm (k:Nat) {a b:Slot}:∀ (Ms:List Tb) (s:Slot),Qda s = true → (∀ M ∈ Ms,Fit M) → ∃ s',Qbb (.nm 2) (exS (cfn (k + 1)) Qjx) (Ms.map Qn) [a,b,s] = .nx [a,b,s']
 | [],s,_,_=>⟨s,by simp [Qbb]⟩
 | M :: Ms,s,o,h=>by
  obtain ⟨s',e⟩:=Qsm k (a:=a) (b:=b) Ms (.fz (Qn M)) rfl fun N z=>h N (List.mem_cons_of_mem _ z)
  refine ⟨s',?_⟩
  rw [List.map_cons]
  unfold Qbb
  rw [show Qca (.nm 2) (Qn M) [a,b,s] = some [a,b,.fz (Qn M)] by cases s <;> first | rfl | cases o]
  simp only [Q0y k (h M List.mem_cons_self),e]
theorem Qih (k:Nat) {Ms:List Tb} (h:∀ M ∈ Ms,Fit M):cfn (k + 2) 19 [.fz (.lst (Ms.map Qn)),.fz (.lst (Ms.map Qn))] = .ok (.fz (.bl true)) [.non,.non]:=by
 have ne:opC .ne (.lst (Ms.map Qn)) (.lst (Ms.map Qn)) = some false:=by
  show (eqO _ _).map _ = _
  rw [tabs_same]
  rfl
 obtain ⟨s',e⟩:=Qsm k (a:=.fz (.lst (Ms.map Qn))) (b:=.fz (.lst (Ms.map Qn))) Ms .un rfl h
 generalize Ms.map Qn = L at *
 show Qb6 (cfn (k + 1)) ⟨2,3,Qe4⟩ _ = _
 rw [Qbq rfl]
 show Qcn _ (exS _ (.seq (.ite (.or (.not (.isI (.var 0) "list")) (.cmp .ne (.var 0) (.var 1))) (.ret (.bl false)) .nil) (.seq (.for_ (.seq (.var 0)) (.nm 2) Qjx) (.ret (.bl true)))) [.fz (.lst L),.fz (.lst L),.un]) = _
 generalize Qjx = B0 at *
 simp only [Qaf,Qa0,Qhh,Qcd,Qeg,Qq,Qac,Qb,Q5,Qhi,Qd3,cont,Qsg,Qck,Bool.not_false,Bool.and_true,Qjj,if_true,Q1,yBl,Qec,Bool.not_true,yOr,Qby,Qbo,Qe,Qbn,Qbm,Qbl,ne,yB,Qao,yIf,Qce,Qb1,Qgd,Qmv,Qqz,Qk5,Qk4,Qft,Qiu,Qia,e,Qds,Qbf,Qk3,Qdg,Qaq,Qa9,Qar,Qau,Qu,Option.map]
theorem Qaag {cf:CF} {ng:Bool} {a lo hi:E} {ρ ρ1 ρ2 ρ3:En} {i l h:Int} (ea:evE cf a ρ = .ok (.fz (.int i)) ρ1) (el:evE cf lo ρ1 = .ok (.fz (.int l)) ρ2) (eh:evE cf hi ρ2 = .ok (.fz (.int h)) ρ3):evE cf (.inR ng a lo hi) ρ = .ok (.fz (.bl (if ng then !decide (l ≤ i ∧ i < h) else decide (l ≤ i ∧ i < h)))) ρ3:=by
 rw [evE,ea]
 show (evE cf lo ρ1).bind _ = _
 rw [el]
 show (evE cf hi ρ2).bind _ = _
 rw [eh]
 rfl
theorem Qaah (k:Nat) {t:T} (hn:nc t = true) (ht:Qri t = false):cfn (k + 2) 17 [.fz t] = .ok (.fz (.bl false)) [.non]:=by
 cases t <;> first | (cases hn; done) | (cases ht; done) | rfl
noncomputable abbrev Qjy:S:=.ite (.or (.not (.isI (.var 1) "tuple")) (.or (.cmp .ne (.bi .len (.cons (.var 1) .nil)) (.bi .len (.cons (.var 0) .nil))) (.not (.bi .all (.cons (.comp (.seq (.var 1)) [none] (.nm 0) .nil (.call 14 (.cons (.var 0) .nil))) .nil))))) (.ret (.bl false)) .nil
theorem Q0z (k:Nat) {us:List T} {m:Nat} {t:T} (hg:gd (m + 1) t = true):exS (cfn (k + 1)) Qjy [.fz (.tup us),.fz t] = if Qe5 us.length t = true then .nx [.fz (.tup us),.fz t] else .rt (.fz (.bl false)) [.fz (.tup us),.fz t]:=by
 cases hi:Qri t with
 | false =>
  have er:Qe5 us.length t = false:=by cases t <;> first | rfl | cases hi
  have hn:=Qmx hg
  rw [er,if_neg Bool.false_ne_true]
  cases t <;> first | (cases hi; done) | (cases hn; done) | rfl
 | true =>
  cases t <;> first | (cases hi; done) | skip
  rename_i ts
  obtain ⟨hl,hx⟩:=Qgk hg
  by_cases hn:ts.length = us.length
  ·have c1:(ts.length:Int) = (us.length:Int):=by omega
   have hc:evE (cfn (k + 1)) (.comp (.seq (.var 1)) [none] (.nm 0) .nil (.call 14 (.cons (.var 0) .nil))) [.fz (.tup us),.fz (.tup ts)] = .ok (.ow (.lst (ts.map fun x=>T.bl (whole x)))) [.fz (.tup us),.fz (.tup ts)] :=
    Qa5 (rest:=[]) rfl rfl rfl rfl (fun x hx'=>by
     have q:=Qpy k x (Qmx (hx x hx'))
     refine ⟨.fz (.bl (whole x)),?_,rfl⟩
     simp only [Qae,Ql,Qq,Qac,Qb,Q5,yC1,Qs,yC2,Q2,Qw,Qaa,Qx,Qak,Q9,q,Qax,Qm,Qz,L2.Qh,Option.map,if_true]) (by omega)
   have ea:(ts.map whole).all id = ts.all whole:=by rw [List.all_map]; rfl
   have er:Qe5 us.length (.tup ts) = ts.all whole:=by show (decide (ts.length = us.length) && _) = _; rw [decide_eq_true hn,Bool.true_and]
   rw [er]
   cases hw:ts.all whole with
   | true=>simp only [Qa0,Qhh,Qcd,Qeg,Qq,Qac,Qe,Qb,Q5,Qhi,Qd3,cont,Qbr,Qck,Bool.not_false,Bool.and_true,Qag,if_true,Q1,yBl,Qec,Bool.not_true,yOr,Qby,Qbx,Ql,yC1,Qs,yC2,yBi,Qbp,Qad,Out.opt,ub2,c1,Qbo,Qbn,Qbm,Qbl,uc2,Option.map,Qb7,decide_true,hc,ub3,Qd5,ea,hw,yB,Qao,yIf,Qce]
   | false=>simp only [Qa0,Qhh,Qcd,Qeg,Qq,Qac,Qe,Qb,Q5,Qhi,Qd3,cont,Qbr,Qck,Bool.not_false,Bool.and_true,Qag,if_true,Q1,yBl,Qec,Bool.not_true,yOr,Qby,Qbx,Ql,yC1,Qs,yC2,yBi,Qbp,Qad,Out.opt,ub2,c1,Qbo,Qbn,Qbm,Qbl,uc2,Option.map,Qb7,decide_true,hc,ub3,Qd5,ea,hw,yB,Qao,yIf,Qbf,Qk3,Qdg,Bool.false_eq_true,if_false]
  ·have c1:¬ (ts.length:Int) = (us.length:Int):=by omega
   have er:Qe5 us.length (.tup ts) = false:=by show (decide (ts.length = us.length) && _) = _; rw [decide_eq_false hn,Bool.false_and]
   rw [er,if_neg Bool.false_ne_true]
   simp only [Qa0,Qhh,Qcd,Qeg,Qq,Qac,Qe,Qb,Q5,Qhi,Qd3,cont,Qbr,Qck,Bool.not_false,Bool.and_true,Qag,if_true,Q1,yBl,Qec,Bool.not_true,yOr,Qby,Qbx,Ql,yC1,Qs,yC2,yBi,Qbp,Qad,Out.opt,ub2,Qbo,Qbn,Qbm,Qbl,uc2,Option.map,Qb7,c1,decide_false,yB,Qao,yIf,Qbf,Qk3,Qdg]
theorem Qsn (k:Nat) {us:List T} {m:Nat}:∀ (ts:List T) (s:Slot),Qda s = true → (∀ x ∈ ts,gd (m + 1) x = true) → ∃ s',Qbb (.nm 1) (exS (cfn (k + 1)) Qjy) ts [.fz (.tup us),s] = if ts.all (Qe5 us.length) = true then .nx [.fz (.tup us),s'] else .rt (.fz (.bl false)) [.fz (.tup us),s']
 | [],s,_,_=>⟨s,by simp [Qbb]⟩
 | t :: ts,s,o,h=>by
  unfold Qbb
  rw [show Qca (.nm 1) t [.fz (.tup us),s] = some [.fz (.tup us),.fz t] by cases s <;> first | rfl | cases o]
  simp only [Q0z k (us:=us) (h t List.mem_cons_self)]
  rw [List.all_cons]
  cases hr:Qe5 us.length t with
  | true =>
   obtain ⟨s',e⟩:=Qsn k (us:=us) ts (.fz t) rfl fun x z=>h x (List.mem_cons_of_mem _ z)
   exact ⟨s',by simp only [if_true,Bool.true_and]; exact e⟩
  | false=>exact ⟨.fz t,by simp only [Bool.false_eq_true,if_false,Bool.false_and]⟩
theorem Qx4 (k:Nat) {m:Nat} {t:T} (hg:gd (m + 2) t = true):cfn (k + 2) 17 [.fz t] = .ok (.fz (.bl (Qe6 t))) [.non]:=by
 cases hi:Qri t with
 | false =>
  have e:=Qaah k (Qmx hg) hi
  cases t <;> first | exact e | (cases hi; done)
 | true =>
  cases t <;> first | (cases hi; done) | skip
  rename_i ts
  obtain ⟨hl,hx⟩:=Qgk hg
  obtain ⟨s',e⟩:=Qsn k (us:=ts) ts .un rfl hx
  show Qb6 (cfn (k + 1)) ⟨1,2,Qfx⟩ _ = _
  rw [Qbq rfl]
  show Qcn _ (exS _ (.seq (.ite (.or (.not (.isI (.var 0) "tuple")) (.inR true (.bi .len (.cons (.var 0) .nil)) (.int 1) (.int 5))) (.ret (.bl false)) .nil) (.seq (.for_ (.seq (.var 0)) (.nm 1) Qjy) (.ret (.bl true)))) [.fz (.tup ts),.un]) = _
  have ei:evE (cfn (k + 1)) (.inR true (.bi .len (.cons (.var 0) .nil)) (.int 1) (.int 5)) [.fz (.tup ts),.un] = .ok (.fz (.bl (!decide ((1:Int) ≤ (ts.length:Int) ∧ (ts.length:Int) < 5)))) [.fz (.tup ts),.un] :=
   Qaag (ng:=true) (i:=(ts.length:Int)) (l:=1) (h:=5) (ρ1:=[.fz (.tup ts),.un]) (ρ2:=[.fz (.tup ts),.un]) (by simp only [Qbx,Ql,Qq,Qac,Qb,Q5,yC1,Qs,yC2,yBi,Qbp,Qad,cont,Out.opt,ub2]) (by simp only [Qbg]) (by simp only [Qbg])
  generalize Qjy = B0 at e
  by_cases h1:1 ≤ ts.length ∧ ts.length ≤ 4
  ·have er:Qe6 (.tup ts) = ts.all (Qe5 ts.length):=by show (decide (1 ≤ ts.length ∧ ts.length ≤ 4) && _) = _; rw [decide_eq_true h1,Bool.true_and]
   rw [er]
   rw [decide_eq_true (by omega)] at ei
   cases ha:ts.all (Qe5 ts.length) with
   | true =>
    rw [ha,if_pos rfl] at e
    simp only [Qaf,Qa0,Qhh,Qcd,Qeg,Qq,Qac,Qb,Q5,Qhi,Qd3,cont,Qbr,Qck,Bool.not_false,Bool.and_true,Qag,if_true,Q1,yBl,Qec,Bool.not_true,yOr,ei,yB,Qao,yIf,Qce,Qb1,Qgd,Qmv,Qqz,Qk5,Qk4,Qft,Qiu,Qia,e,Qds,Qbf,Qk3,Qdg,Qaq,Qa9,Qar,Qau,Qu,Option.map]
   | false =>
    rw [ha,if_neg Bool.false_ne_true] at e
    simp only [Qaf,Qa0,Qhh,Qcd,Qeg,Qq,Qac,Qb,Q5,Qhi,Qd3,cont,Qbr,Qck,Bool.not_false,Bool.and_true,Qag,if_true,Q1,yBl,Qec,Bool.not_true,yOr,ei,yB,Qao,yIf,Qce,Qb1,Qgd,Qmv,Qqz,Qk5,Qk4,Qft,Qiu,Qia,e,Q0r,Qph,Qaq,Qa9,Qar,Qau,Qu,Option.map]
  ·have er:Qe6 (.tup ts) = false:=by show (decide (1 ≤ ts.length ∧ ts.length ≤ 4) && _) = _; rw [decide_eq_false h1,Bool.false_and]
   rw [er]
   rw [decide_eq_false (by omega)] at ei
   simp only [Qaf,Qa0,Qhh,Qcd,Qeg,Qq,Qac,Qb,Q5,Qhi,Qd3,cont,Qbr,Qck,Bool.not_false,Bool.and_true,Qag,if_true,Q1,yBl,Qec,Bool.not_true,yOr,ei,yB,Qao,yIf,Qbf,Qk3,Qdg,Qph,Qaq,Qa9,Qar,Qau,Qu,Option.map]
open PySem L2
noncomputable def rm (r:List Int):Int:=Qfd (r.headD 0) r.tail
theorem Qx5 {r:List Int} (h:r ≠ []):(∀ a ∈ r,rm r ≤ a) ∧ rm r ∈ r:=by
 cases r with
 | nil=>exact absurd rfl h
 | cons x xs =>
  obtain ⟨h1,h2,h3⟩:=Qjw xs x
  refine ⟨fun a ha=>?_,?_⟩
  ·rcases List.mem_cons.mp ha with rfl | ha
   ·exact h1
   ·exact h2 a ha
  ·rcases h3 with h3 | h3
   ·exact List.mem_cons.mpr (.inl h3)
   ·exact List.mem_cons_of_mem _ h3
theorem intL_mp:∀ (xs:List Int),Qcb (xs.map T.int) = some xs
 | []=>rfl
 | x :: xs=>by
  rw [List.map_cons]
  unfold Qcb
  rw [intL_mp xs]
theorem Q00 {r:List Int} (h:r ≠ []):Qhz .minT [Qal r] = some (.fz (.int (rm r))):=by
 cases r with
 | nil=>exact absurd rfl h
 | cons x xs =>
  show (match Qcb ((x :: xs).map T.int) with | some (x :: xs)=>some (PV.fz (.int (Qfd x xs))) | _=>none) = _
  rw [intL_mp]
  rfl
theorem Q01 {r:List Int} (h:r ≠ []):Qhz .min [.lst (r.map T.int)] = some (.fz (.int (rm r))):=by
 cases r with
 | nil=>exact absurd rfl h
 | cons x xs =>
  show (match Qcb ((x :: xs).map T.int) with | some (x :: xs)=>some (PV.fz (.int (Qfd x xs))) | _=>none) = _
  rw [intL_mp]
  rfl
theorem Qui {n:Nat} {M:Tb} (h:Shp n M) (h1:1 ≤ n):decide (rm (M.map rm) < 0) = Qdi M:=by
 have ne:M.map rm ≠ []:=fun z=>by
  have:=h.len
  rw [List.map_eq_nil_iff.mp z] at this
  rw [← this] at h1
  cases h1
 have nr:∀ r ∈ M,r ≠ []:=fun r hr z=>by
  have:=h.row r hr
  rw [z] at this
  rw [← this] at h1
  cases h1
 obtain ⟨a1,a2⟩:=Qx5 ne
 obtain ⟨r,hr,e⟩:=List.mem_map.mp a2
 cases hb:Qdi M with
 | true =>
  obtain ⟨x,hx,q⟩:=List.any_eq_true.mp hb
  obtain ⟨s,hs,hx⟩:=List.mem_flatten.mp hx
  have b1:=(Qx5 (nr s hs)).1 x hx
  have b2:=a1 (rm s) (List.mem_map.mpr ⟨s,hs,rfl⟩)
  exact decide_eq_true (by have:=of_decide_eq_true q; omega)
 | false =>
  refine decide_eq_false fun z=>?_
  have:Qdi M = true:=List.any_eq_true.mpr ⟨rm r,List.mem_flatten.mpr ⟨r,hr,(Qx5 (nr r hr)).2⟩,decide_eq_true (by omega)⟩
  rw [hb] at this
  cases this
noncomputable abbrev Qoa:E:=.bi .min (.cons (.comp (.seq (.var 0)) [none] (.nm 0) .nil (.bi .minT (.cons (.var 0) .nil))) .nil)
theorem Qx6 {cf:CF} {n:Nat} {M:Tb} (h:Shp n M) (h1:1 ≤ n) (h4:n ≤ 4) {ρ:En}:evE cf Qoa (.fz (Qn M) :: ρ) = .ok (.fz (.int (rm (M.map rm)))) (.fz (Qn M) :: ρ):=by
 have hc:evE cf (.comp (.seq (.var 0)) [none] (.nm 0) .nil (.bi .minT (.cons (.var 0) .nil))) (.fz (Qn M) :: ρ) = .ok (.ow (.lst ((M.map Qal).map fun t=>T.int (rm (iOf t))))) (.fz (Qn M) :: ρ) :=
  Qa5 (rest:=[]) rfl rfl rfl rfl (fun t ht=>by
   obtain ⟨r,hr,rfl⟩:=List.mem_map.mp ht
   have e:=Q00 (r:=r) fun z=>by
    have:=h.row r hr
    rw [z] at this
    rw [← this] at h1
    cases h1
   refine ⟨.fz (.int (rm r)),?_,by rw [Qgw]; rfl⟩
   generalize Qal r = R at e
   simp only [Qbx,Ql,Qq,Qac,Qb,Q5,yC1,Qs,yC2,yBi,Qbp,Qad,cont,Out.opt,e]) (by rw [List.length_map,h.len]; omega)
 have e:((M.map Qal).map fun t=>T.int (rm (iOf t))) = (M.map rm).map T.int:=by
  rw [List.map_map,List.map_map]
  exact List.map_congr_left fun r _=>by show T.int (rm (iOf (Qal r))) = _; rw [Qgw]; rfl
 have ne:M.map rm ≠ []:=fun z=>by
  have:=h.len
  rw [List.map_eq_nil_iff.mp z] at this
  rw [← this] at h1
  cases h1
 have em:=Q01 ne
 rw [e] at hc
 simp only [Qbx,Ql,hc,Q5,yC1,Qs,yC2,yBi,Qbp,Qad,cont,Out.opt,em]
theorem Q02 (k:Nat) {m:Nat} {t:T} (hg:gd (m + 2) t = true):cfn (k + 9) 21 [.fz t] = .ok (.fz (.bl true)) [.non]:=by
 have e1:=Qx4 (k + 6) hg
 have z1:(1:Nat) ≤ 100000:=by decide
 have z2:(2:Nat) ≤ 100000:=by decide
 show Qb6 (cfn (k + 8)) ⟨1,4,Qgi⟩ _ = _
 rw [Qbq rfl]
 cases hb:Qe6 t with
 | false =>
  rw [hb] at e1
  have e2:=Q6l k hg hb
  have eq:eqO (.tup [.str "table",.non]) (.tup [.str "table",.non]) = some true:=by decide +kernel
  show Qcn _ (exS _ Qgi [.fz t,.un,.un,.un]) = _
  simp only [Qaf,Qa0,Qcd,Qae,Ql,Qq,Qac,Qb,Q5,yC1,Qs,yC2,Q2,Qw,Qaa,Qx,Qak,Q9,e1,Qax,Qm,Qz,L2.Qh,Option.map,if_true,Q1,yBl,Qec,Bool.not_false,Qao,yIf,Qbf,Qby,e2,Qbo,Qg7,Qji,Qmu,Qno,Qcq,frz,List.length_cons,List.length_nil,Nat.reduceAdd,z2,Qbn,Qbm,cont,Qbl,uc1,eq,Qdg,Qph,Qaq,Qa9,Qar,Qau,Qu]
 | true =>
  obtain ⟨n,M,rfl,h,h1,h4⟩:=Qx0 hb
  rw [hb] at e1
  have em:=Qx6 (cf:=cfn (k + 8)) h h1 h4 (ρ:=[.un,.un,.un])
  have eb:=Qui h h1
  have w1:exS (cfn (k + 8)) (.ite (.not (.call 17 (.cons (.var 0) .nil))) (.ret (.cmp .eq (.call 20 (.cons (.var 0) .nil)) (.tup (.cons (.str "table") (.cons .non .nil))))) .nil) [.fz (Qn M),.un,.un,.un] = .nx [.fz (Qn M),.un,.un,.un]:=by
   generalize Qn M = TT at e1 ⊢
   simp only [Qa0,Qcd,Qae,Ql,Qq,Qac,Qb,Q5,yC1,Qs,yC2,Q2,Qw,Qaa,Qx,Qak,Q9,e1,Qax,Qm,Qz,L2.Qh,Option.map,if_true,Q1,yBl,Qec,Bool.not_true,Qao,yIf,Qce]
  show Qcn _ (exS _ (.seq _ (.seq (.ite (.cmp .lt Qoa (.int 0)) (.ret (.cmp .eq (.call 20 (.cons (.var 0) .nil)) (.tup (.cons (.str "below") (.cons (.int 0) .nil))))) .nil) (.seq (.unp [1,2] (.call 20 (.cons (.var 0) .nil))) (.seq (.setF 3 Qli) (.ret (.and (.cmp .eq (.var 1) (.str "told")) (.call 19 (.cons (.lst (.cons (.var 2) .nil)) (.cons (.lst (.cons (.var 3) .nil)) .nil)))))))) ) [.fz (Qn M),.un,.un,.un]) = _
  rw [Qaf,w1,Qb1]
  cases hl:Qdi M with
  | true =>
   have e2:=Q6k k h h1 h4 hl
   have eq:eqO (.tup [.str "below",.int 0]) (.tup [.str "below",.int 0]) = some true:=by decide +kernel
   rw [hl] at eb
   generalize Qoa = E0 at em ⊢
   generalize Qli = E1
   generalize Qn M = TT at e2 em ⊢
   simp only [Qaf,Qa0,Qby,em,Q5,Qbo,Qbg,Qbn,Qbm,cont,Qbl,uc3,eb,Q1,yBl,Qao,yIf,Qbf,Qae,Ql,Qq,Qac,Qb,yC1,Qs,yC2,Q2,Qw,Qaa,Qx,Qak,Q9,e2,Qax,Qm,Qz,L2.Qh,Option.map,if_true,Qg7,Qji,Qno,Qcq,frz,List.length_cons,List.length_nil,Nat.reduceAdd,z2,uc1,eq,Qdg,Qph,Qaq,Qa9,Qar,Qau,Qu]
  | false =>
   have e2:=Q6j k h h1 h4 hl
   rw [hl] at eb
   have e3:=Qp0 (cf:=cfn (k + 8)) h h4 (ρ:=[.fz (.str "told"),.fz (Qn (Qlh M)),.un])
   have e4:=Qih (k + 6) (Ms:=[Qlh M]) fun N hN=>by
    rw [List.mem_singleton.mp hN]
    exact ⟨by rw [(Qx2 h).len]; omega,fun r hr=>by rw [(Qx2 h).row r hr]; omega⟩
   rw [List.map_singleton] at e4
   generalize Qoa = E0 at em ⊢
   generalize Qli = E1 at e3 ⊢
   generalize Qn (Qlh M) = T2 at e2 e3 e4 ⊢
   generalize Qn M = TT at e2 em e3 ⊢
   simp only [Qaf,Qa0,Qby,em,Q5,Qbo,Qbg,Qbn,Qbm,cont,Qbl,uc3,eb,Q1,yBl,Qao,yIf,Qce,Qb1,Q2m,Qae,Ql,Qq,Qac,Qb,yC1,Qs,yC2,Q2,Qw,Qaa,Qx,Qak,Q9,e2,Qax,Qm,Qz,L2.Qh,Option.map,if_true,Q57,Qah,Qcf,Qb3,List.length_cons,List.length_nil,Nat.reduceAdd,Nat.reduceLT,Qe,List.set,Qd4,e3,Qfw,Qdf,frz,Qbf,Q2j,Qji,uc1,Q0s,decide_true,Q56,Qe2,Qh9,Qcq,z1,e4,yB,Qdg,Qaq,Qa9,Qar,Qau,Qu]
open PySem L2
noncomputable def Qho (ps:List T) (o:List T):List (List T):=ps.map fun p=>o ++ [p]
noncomputable def tps (ps:List T):Nat → List (List T)
 | 0=>[[]]
 | n + 1=>(tps ps n).flatMap (Qho ps)
noncomputable abbrev Qfr:E:=.comp (.seq (.var 0)) [none,some 5] (.nm 0) .nil (.bin .add (.var 1) (.tup (.cons (.var 0) .nil)))
theorem Q6m {cf:CF} {ps o:List T} (hz:ps.length ≤ 1000) (ho:o.length ≤ 1000) {a b c d:Slot}:evE cf Qfr [.fz (.lst ps),a,b,c,d,.fz (.tup o)] = .ok (.ow (.lst ((Qho ps o).map .tup))) [.fz (.lst ps),a,b,c,d,.fz (.tup o)]:=by
 have e:evE cf Qfr [.fz (.lst ps),a,b,c,d,.fz (.tup o)] = .ok (.ow (.lst (ps.map fun p=>.tup (o ++ [p])))) [.fz (.lst ps),a,b,c,d,.fz (.tup o)] :=
  Qa5 (rest:=[.fz (.tup o)]) rfl rfl rfl rfl (fun x hx=>by
   have z1:(1:Nat) ≤ 100000:=by decide
   have z:o.length + 1 ≤ 100000:=by omega
   refine ⟨.fz (.tup (o ++ [x])),?_,rfl⟩
   simp only [Qd2,Qq,Qac,Qe,Qb,Q5,Qdo,Qg7,Ql,yC1,Qs,yC2,Qno,Qcq,frz,List.length_cons,List.length_nil,Nat.reduceAdd,z1,if_true,Qdn,Qdm,cont,Out.opt,uo2,z]) (by omega)
 rw [e]
 unfold Qho
 rw [List.map_map]
 rfl
theorem Qso {cf:CF} {ps:List T} (hz:ps.length ≤ 1000) {a c:Slot} {os:List (List T)} (ho:∀ o ∈ os,o.length ≤ 1000):∀ (m i:Nat) (acc:List (List T)) (s:Slot),Qda s = true → i ≤ os.length → os.length < m + i → acc.length + ((os.drop i).flatMap (Qho ps)).length ≤ 100000 →
  ∃ s',Qgy 2 (.nm 5) (exS cf (.extL 4 Qfr)) m i [.fz (.lst ps),a,.ro (.lst (os.map .tup)),c,.ow (.lst (acc.map .tup)),s] = .nx [.fz (.lst ps),a,.ro (.lst (os.map .tup)),c,.ow (.lst ((acc ++ (os.drop i).flatMap (Qho ps)).map .tup)),s'] ∧ Qda s' = true
 | 0,i,acc,s,_,_,hm,_=>by omega
 | m + 1,i,acc,s,o,hi,hm,hl=>by
  unfold Qgy
  rw [show Qa [.fz (.lst ps),a,.ro (.lst (os.map .tup)),c,.ow (.lst (acc.map .tup)),s] 2 = .ro (.lst (os.map .tup)) from rfl]
  simp only
  by_cases hn:i < os.length
  ·rw [List.drop_eq_getElem_cons hn,List.flatMap_cons,List.length_append] at hl
   have ei:(os.map T.tup)[i]? = some (.tup os[i]):=by rw [List.getElem?_map,List.getElem?_eq_getElem hn]; rfl
   have e0:Qca (.nm 5) (.tup os[i]) [.fz (.lst ps),a,.ro (.lst (os.map .tup)),c,.ow (.lst (acc.map .tup)),s] = some [.fz (.lst ps),a,.ro (.lst (os.map .tup)),c,.ow (.lst (acc.map .tup)),.fz (.tup os[i])]:=by
    cases s <;> first | rfl | cases o
   have e1:exS cf (.extL 4 Qfr) [.fz (.lst ps),a,.ro (.lst (os.map .tup)),c,.ow (.lst (acc.map .tup)),.fz (.tup os[i])] = .nx [.fz (.lst ps),a,.ro (.lst (os.map .tup)),c,.ow (.lst ((acc ++ Qho ps os[i]).map .tup)),.fz (.tup os[i])]:=by
    rw [exS,Q6m hz (ho _ (List.getElem_mem hn))]
    show (if true = true then _ else _) = _
    rw [if_pos rfl]
    show (if _ then _ else _) = _
    rw [if_pos (by rw [List.length_map,List.length_map]; omega),List.map_append]
    rfl
   simp only [ei,e0,e1]
   obtain ⟨s',e,o'⟩:=Qso (cf:=cf) hz (a:=a) (c:=c) ho m (i + 1) (acc ++ Qho ps os[i]) (.fz (.tup os[i])) rfl hn (by omega) (by rw [List.length_append]; omega)
   refine ⟨s',?_,o'⟩
   rw [e,List.drop_eq_getElem_cons hn,List.flatMap_cons,List.append_assoc]
  ·have ei:(os.map T.tup)[i]? = none:=by rw [List.getElem?_map,List.getElem?_eq_none (by omega)]; rfl
   simp only [ei]
   exact ⟨s,by rw [List.drop_of_length_le (by omega),List.flatMap_nil,List.append_nil],o⟩
theorem Qsp (ps:List T):∀ (n:Nat),∀ o ∈ tps ps n,o.length = n
 | 0,o,h=>by rw [List.mem_singleton.mp h]; rfl
 | n + 1,o,h=>by
  obtain ⟨x,hx,hm⟩:=List.mem_flatMap.mp h
  obtain ⟨p,_,rfl⟩:=List.mem_map.mp hm
  rw [List.length_append,Qsp ps n x hx]
  rfl
noncomputable abbrev Qsq:S:=.seq (.set 4 (.lst .nil)) (.seq (.forS 2 (.nm 5) (.extL 4 Qfr)) (.mov 2 4))
theorem Q03 {cf:CF} {ps:List T} (hz:ps.length ≤ 1000) {os:List (List T)} (ho:∀ o ∈ os,o.length ≤ 1000) (h1:os.length ≤ 100000) (hl:(os.flatMap (Qho ps)).length ≤ 100000) {a c s5:Slot} (o5:Qda s5 = true) :
  ∃ s5',exS cf Qsq [.fz (.lst ps),a,.ow (.lst (os.map .tup)),c,.un,s5] = .nx [.fz (.lst ps),a,.ow (.lst ((os.flatMap (Qho ps)).map .tup)),c,.un,s5'] ∧ Qda s5' = true:=by
 obtain ⟨s5',e,o⟩:=Qso (cf:=cf) hz (a:=a) (c:=c) ho 100001 0 [] s5 o5 (Nat.zero_le _) (by omega) (by simpa using hl)
 rw [List.map_nil,List.nil_append,List.drop_zero] at e
 refine ⟨s5',?_,o⟩
 have e1:exS cf (.set 4 (.lst .nil)) [.fz (.lst ps),a,.ow (.lst (os.map .tup)),c,.un,s5] = .nx [.fz (.lst ps),a,.ow (.lst (os.map .tup)),c,.ow (.lst []),s5]:=rfl
 have e2:exS cf (.forS 2 (.nm 5) (.extL 4 Qfr)) [.fz (.lst ps),a,.ow (.lst (os.map .tup)),c,.ow (.lst []),s5] = .nx [.fz (.lst ps),a,.ow (.lst (os.map .tup)),c,.ow (.lst ((os.flatMap (Qho ps)).map .tup)),s5']:=by
  rw [exS]
  show unl 2 (Qgy 2 (.nm 5) (exS cf (.extL 4 Qfr)) 100001 0 [.fz (.lst ps),a,.ro (.lst (os.map .tup)),c,.ow (.lst []),s5]) = _
  rw [e]
  rfl
 rw [Qaf,e1,Qb1,Qaf,e2,Qb1,Q98 rfl ⟨by decide,by show 2 < 6; decide⟩]
 rfl
theorem Qii (k:Nat) {ps:List T} {n:Nat} (hz:ps.length ≤ 1000) (hn:n ≤ 1000) (hb:∀ j,j < n → (tps ps j).length ≤ 100000 ∧ ((tps ps j).flatMap (Qho ps)).length ≤ 100000):cfn (k + 1) 9 [.fz (.lst ps),.fz (.int n)] = .ok (.ow (.lst ((tps ps n).map .tup))) [.non,.non]:=by
 obtain ⟨ρ',e,s3,s5,o3,o5,rfl⟩:=Qgc (fun j ρ=>∃ s3 s5,Qda s3 = true ∧ Qda s5 = true ∧ ρ = [.fz (.lst ps),.fz (.int n),.ow (.lst ((tps ps j).map .tup)),s3,.un,s5]) (tg:=.nm 3) (b:=exS (cfn k) Qsq) (xs:=Qaz 0 n) (n:=0) (ρ:=[.fz (.lst ps),.fz (.int n),.ow (.lst [.tup []]),.un,.un,.un]) ⟨.un,.un,rfl,rfl,rfl⟩ (by
  rintro i x ρ hx ⟨s3,s5,o3,o5,rfl⟩
  have hi:i < n:=by have:=(List.getElem?_eq_some_iff.mp hx).1; rwa [Qbd] at this
  rw [Nat.zero_add]
  obtain ⟨s5',e,o⟩:=Q03 (cf:=cfn k) hz (os:=tps ps i) (fun o ho=>by rw [Qsp ps i o ho]; omega) (hb i hi).1 (hb i hi).2 (a:=.fz (.int n)) (c:=.fz x) o5
  exact ⟨[.fz (.lst ps),.fz (.int n),.ow (.lst ((tps ps i).map .tup)),.fz x,.un,s5],_,(by cases s3 <;> first | rfl | cases o3),.inl e,.fz x,s5',rfl,o,rfl⟩)
 rw [Qbd,Nat.zero_add] at e
 have c:n ≤ 100000:=by omega
 have z0:(0:Nat) ≤ 100000:=by decide
 have z1:(1:Nat) ≤ 100000:=by decide
 show Qb6 (cfn k) ⟨2,6,Qfq⟩ _ = _
 rw [Qbq rfl]
 show Qcn _ (exS _ Qfq [.fz (.lst ps),.fz (.int n),.un,.un,.un,.un]) = _
 simp only [Qaf,Qk8,Qe2,Ql,Qg7,Qs,Q5,Qno,Qcq,List.length_nil,z0,if_true,yC1,yC2,Qh9,frz,List.length_cons,Nat.reduceAdd,z1,Qao,Qlq,Qah,Qb3,Nat.reduceLT,Qe,Qb,List.set,Qb1,Qgd,Qfh,Qq,Qac,Qt4 c,Qia,e,Qds,Qbf,Qdg,Qaq,Qa9,Qar,Qau,Qu,Option.map]
noncomputable def jOf:T → Nat
 | .int i=>i.toNat
 | _=>0
theorem Qrk (j:Nat):jOf (.int (0 + (j:Int))) = j:=by
 show (0 + (j:Int)).toNat = j
 rw [Int.zero_add,Int.toNat_natCast]
theorem Qx7 {f:Nat → T} (n:Nat):((Qaz 0 n).map fun x=>f (jOf x)) = (List.range n).map f:=by
 unfold Qaz
 rw [List.map_map]
 apply List.map_congr_left
 intro j _
 show f (jOf (.int (0 + (j:Int)))) = f j
 rw [Qrk]
theorem Qjz {i j:Int} (h:j.natAbs ≤ 1000000000000):Qcl i j = true:=by
 unfold Qcl
 simp only [Bool.or_eq_true,decide_eq_true_eq]
 exact .inr (.inl (by omega))
noncomputable def fg (m:Nat) (v:Int) (j:Nat):Int:=v / 2 ^ (m - 1 - j) % 2
noncomputable def Qij (m:Nat) (v:Int):List T:=(List.range m).map fun j=>.int (fg m v j)
noncomputable def mkM (n:Nat) (v:Int):Tb:=(List.range n).map fun i=>(List.range n).map fun j=>fg (n * n) v (i * n + j)
noncomputable abbrev Qik:E:=.comp (.rng1 (.bin .mul (.var 0) (.var 0))) [none,some 2,some 0] (.nm 0) .nil (.bin .band (.bin .shr (.var 1) (.bin .sub (.bin .sub (.bin .mul (.var 2) (.var 2)) (.int 1)) (.var 0))) (.int 1))
noncomputable abbrev Qlk:E:=.comp (.rng1 (.var 0)) [none,some 3,some 0] (.nm 0) .nil (.bi .tup (.cons (.slc (.var 1) (.cons (.bin .mul (.var 0) (.var 2)) .nil) (.cons (.bin .add (.bin .mul (.var 0) (.var 2)) (.var 2)) .nil)) .nil))
theorem la_f {cf:CF} {n:Nat} (hn:n ≤ 3) {v:Int} {a s:Slot}:evE cf Qik [.fz (.int n),a,.fz (.int v),s] = .ok (.ow (.lst (Qij (n * n) v))) [.fz (.int n),a,.fz (.int v),s]:=by
 have hm:(n:Int) * n = ((n * n:Nat):Int):=(Int.natCast_mul n n).symm
 have h9:n * n ≤ 9:=Nat.mul_le_mul hn hn
 have m3:Qcl (n:Int) n = true:=Qjz (by omega)
 have r9:∀ ρ,Qk6 (.fz (.int ((n:Int) * n))) ρ = .ok (Qaz 0 (n * n),none) ρ:=fun ρ=>by rw [hm]; exact Qt4 (by omega)
 have hw:evW cf (.rng1 (.bin .mul (.var 0) (.var 0))) [.fz (.int n),a,.fz (.int v),s] = .ok (Qaz 0 (n * n),none) [.fz (.int n),a,.fz (.int v),s]:=by
  simp only [Qfh,Qd2,Qq,Qac,Qb,Q5,Qdo,Qdn,Qdm,cont,Out.opt,uo5,m3,if_true,r9]
 have e:evE cf Qik [.fz (.int n),a,.fz (.int v),s] = .ok (.ow (.lst ((Qaz 0 (n * n)).map fun x=>T.int (fg (n * n) v (jOf x))))) [.fz (.int n),a,.fz (.int v),s]:=Qa5 (rest:=[.fz (.int v),.fz (.int n)]) hw rfl rfl rfl (fun x hx=>by
  unfold Qaz at hx
  obtain ⟨j,hj,rfl⟩:=List.mem_map.mp hx
  have hj:=List.mem_range.mp hj
  have e1:opB .shr (.int v) (.int ((n:Int) * n - 1 - (0 + (j:Int)))) = some (.fz (.int (v / 2 ^ (n * n - 1 - j)))):=by
   rw [hm]
   show (if _ then _ else _) = _
   rw [if_pos ⟨by omega,by omega⟩,show (((n * n:Nat):Int) - 1 - (0 + (j:Int))).toNat = n * n - 1 - j by omega]
  have e2:∀ w,opB .band (.int w) (.int 1) = some (.fz (.int (w % 2))):=fun w=>rfl
  refine ⟨.fz (.int (v / 2 ^ (n * n - 1 - j) % 2)),?_,?_⟩
  ·simp only [Qd2,Qq,Qac,Qe,Qb,Q5,Qdo,Qdn,Qdm,cont,Out.opt,uo5,m3,if_true,Qbg,uo4,e1,e2]
  ·rw [Qrk]
   rfl) (by rw [Qbd]; omega)
 rw [e,Qx7 (f:=fun j=>T.int (fg (n * n) v j))]
 rfl
theorem la_r {cf:CF} {n:Nat} (hn:n ≤ 3) {v:Int} {a b:Slot}:evE cf Qlk [.fz (.int n),a,b,.fz (.lst (Qij (n * n) v))] = .ok (.ow (.lst ((mkM n v).map Qal))) [.fz (.int n),a,b,.fz (.lst (Qij (n * n) v))]:=by
 have hw:evW cf (.rng1 (.var 0)) [.fz (.int n),a,b,.fz (.lst (Qij (n * n) v))] = .ok (Qaz 0 n,none) [.fz (.int n),a,b,.fz (.lst (Qij (n * n) v))]:=by
  have c:n ≤ 100000:=by omega
  simp only [Qfh,Qq,Qac,Qb,Q5,Qt4 c]
 have e:evE cf Qlk [.fz (.int n),a,b,.fz (.lst (Qij (n * n) v))] = .ok (.ow (.lst ((Qaz 0 n).map fun x=>T.tup (Qke (Qij (n * n) v) (some (((jOf x:Nat):Int) * n)) (some (((jOf x:Nat):Int) * n + n)))))) [.fz (.int n),a,b,.fz (.lst (Qij (n * n) v))] :=
  Qa5 (rest:=[.fz (.lst (Qij (n * n) v)),.fz (.int n)]) hw rfl rfl rfl (fun x hx=>by
   unfold Qaz at hx
   obtain ⟨j,hj,rfl⟩:=List.mem_map.mp hx
   have m3:Qcl (0 + (j:Int)) n = true:=Qjz (by omega)
   refine ⟨.fz (.tup (Qke (Qij (n * n) v) (some ((0 + (j:Int)) * n)) (some ((0 + (j:Int)) * n + n)))),?_,?_⟩
   ·simp only [Qbx,Ql,Q95,Qq,Qac,Qe,Qb,Q5,Q94,Qd2,Qdo,Qdn,Qdm,cont,Out.opt,uo5,m3,if_true,yC1,Qs,yC2,Q93,Q2l,Qni,uo1,Q92,Q2k,Q91,ui3,yBi,Qbp,Qad,ub9]
   ·rw [Qrk,Int.zero_add]
    rfl) (by rw [Qbd]; omega)
 rw [e,Qx7 (f:=fun j=>T.tup (Qke (Qij (n * n) v) (some ((j:Int) * n)) (some ((j:Int) * n + n))))]
 rcases (by omega:n = 0 ∨ n = 1 ∨ n = 2 ∨ n = 3) with rfl | rfl | rfl | rfl <;> rfl
noncomputable abbrev Qj0:S:=.seq (.setF 3 Qik) (.app 1 (.bi .tup (.cons Qlk .nil)))
theorem Q04 {cf:CF} {n:Nat} (hn:n ≤ 3) {v:Int} {acc:List T} (hz:acc.length < 100000) {s:Slot} (o:Qda s = true):exS cf Qj0 [.fz (.int n),.ow (.lst acc),.fz (.int v),s] = .nx [.fz (.int n),.ow (.lst (acc ++ [Qn (mkM n v)])),.fz (.int v),.fz (.lst (Qij (n * n) v))]:=by
 have e1:=la_f (cf:=cf) hn (v:=v) (a:=.ow (.lst acc)) (s:=s)
 have e2:=la_r (cf:=cf) hn (v:=v) (a:=.ow (.lst acc)) (b:=.fz (.int v))
 show exS cf (.seq (.setF 3 Qik) (.app 1 (.bi .tup (.cons Qlk .nil)))) _ = _
 generalize Qik = E1 at e1 ⊢
 generalize Qlk = E2 at e2 ⊢
 generalize Qij (n * n) v = F at *
 (cases s <;> cases o) <;> simp only [Qaf,Qd4,e1,Qao,Qfw,Qdf,frz,Qah,Qb3,List.length_cons,List.length_nil,Nat.reduceAdd,Nat.reduceLT,Qe,Qb,List.set,if_true,Qb1,Qix,Slot.mut,Qbx,Ql,e2,Q5,yC1,Qs,yC2,yBi,Qbp,Qad,cont,Out.opt,ub9,Qpj,Qla,Qk9,hz]
theorem Qsr {cf:CF} {n:Nat} (hn:n ≤ 3):∀ (vs:List Int) (acc:List T) (s2 s3:Slot),Qda s2 = true → Qda s3 = true → acc.length + vs.length < 100000 → ∃ t2 t3,Qbb (.nm 2) (exS cf Qj0) (vs.map T.int) [.fz (.int n),.ow (.lst acc),s2,s3] = .nx [.fz (.int n),.ow (.lst (acc ++ vs.map fun v=>Qn (mkM n v))),t2,t3]
 | [],acc,s2,s3,_,_,_=>⟨s2,s3,by simp [Qbb]⟩
 | v :: vs,acc,s2,s3,o2,o3,hz=>by
  rw [List.length_cons] at hz
  obtain ⟨t2,t3,e⟩:=Qsr (cf:=cf) hn vs (acc ++ [Qn (mkM n v)]) (.fz (.int v)) (.fz (.lst (Qij (n * n) v))) rfl rfl (by rw [List.length_append,List.length_singleton]; omega)
  refine ⟨t2,t3,?_⟩
  have e0:Qca (.nm 2) (.int v) [.fz (.int n),.ow (.lst acc),s2,s3] = some [.fz (.int n),.ow (.lst acc),.fz (.int v),s3]:=by
   cases s2 <;> first | rfl | cases o2
  rw [List.map_cons]
  unfold Qbb
  rw [e0]
  simp only [Q04 (cf:=cf) hn (v:=v) (acc:=acc) (by omega) o3]
  rw [e,List.map_cons,List.append_assoc]
  rfl
open PySem L2
noncomputable def Qhp (q:T):Prop:=∃ n f:Int,0 ≤ n ∧ q = .lst [.int n,.int f]
theorem Qja (k:Nat) {m:Int} (h0:0 < m) (h1:m.natAbs < 2 ^ 64) {q:T} (hq:Qhp q):∃ r q',0 ≤ r ∧ r < m ∧ Qhp q' ∧ cfn (k + 1) 13 [.ml q,.fz (.int m)] = .ok (.fz (.int r)) [q',.non]:=by
 obtain ⟨n,f,hn,rfl⟩:=hq
 have h1':m.natAbs < 18446744073709551616:=h1
 have h32:(32:Int).natAbs < 18446744073709551616:=by decide
 by_cases hf:f = 1
 ·refine ⟨n % m,.lst [.int (n / m),.int f],Int.emod_nonneg _ (by omega),Int.emod_lt_of_pos _ h0,⟨_,_,Int.ediv_nonneg hn (by omega),rfl⟩,?_⟩
  show Qb6 (cfn k) ⟨2,5,Qea⟩ _ = _
  rw [Qbq rfl]
  show Qcn _ (exS _ Qea [.ml (.lst [.int n,.int f]),.fz (.int m),.un,.un,.un]) = _
  subst hf
  simp only [Qaf,Qa0,Qby,Qxq,Qq,Qac,Qb,Q5,Qt3,Qbg,Qt2,Qt1,cont,Slot.prv,Qt0,ui1,at_1,Qbo,Qbn,Qbm,Qbl,uc1,Qb7,decide_true,Q1,yBl,Qao,yIf,Q2m,Qbx,Ql,Q99,yC1,Qe,Qs,yC2,yBi,Qbp,Qad,Out.opt,ub7,h0,Nat.reducePow,h1',and_self,if_true,Q57,Qah,Qcf,Qb3,List.length_cons,List.length_nil,Nat.reduceAdd,Nat.reduceLT,List.set,Qb1,Q2o,Q0q,Qxs,frz,Slot.mut,Qsf,Qxr,Q2p,Qbf,Qdg,Qph,Qaq,Qa9,Qar,Qau,Qu,Option.map]
 ·refine ⟨(((((n % 2147483647 + 40503) * 69621 % 2147483629) * ((n % 2147483647 + 40503) * 69621 % 2147483629) + 7817) % 2147483587) * 48271 + 11) % 2147483629 / 32 % m,
   .lst [.int ((((((n % 2147483647 + 40503) * 69621 % 2147483629) * ((n % 2147483647 + 40503) * 69621 % 2147483629) + 7817) % 2147483587) * 48271 + 11) % 2147483629),.int f],Int.emod_nonneg _ (by omega),Int.emod_lt_of_pos _ h0,⟨_,_,Int.emod_nonneg _ (by decide),rfl⟩,?_⟩
  show Qb6 (cfn k) ⟨2,5,Qea⟩ _ = _
  rw [Qbq rfl]
  show Qcn _ (exS _ Qea [.ml (.lst [.int n,.int f]),.fz (.int m),.un,.un,.un]) = _
  have b1:Qcl (n % 2147483647 + 40503) 69621 = true:=by unfold Qcl; simp
  have m1:0 ≤ (n % 2147483647 + 40503) * 69621 % 2147483629:=Int.emod_nonneg _ (by decide)
  have m2:(n % 2147483647 + 40503) * 69621 % 2147483629 < 2147483629:=Int.emod_lt_of_pos _ (by decide)
  generalize hs:(n % 2147483647 + 40503) * 69621 % 2147483629 = st at m1 m2 ⊢
  have b2:Qcl st st = true:=by
   unfold Qcl
   simp only [Bool.or_eq_true,decide_eq_true_eq]
   exact .inl (by omega)
  have b3:∀ z,Qcl z 48271 = true:=fun z=>by unfold Qcl; simp
  simp only [Qaf,Qa0,Qby,Qxq,Qq,Qac,Qb,Q5,Qt3,Qbg,Qt2,Qt1,cont,Slot.prv,Qt0,ui1,at_1,Qbo,Qbn,Qbm,Qbl,uc1,Qb7,hf,decide_false,Q1,yBl,Qao,yIf,Qce,Qb1,Qd4,Qd2,Q99,Qdo,Qdn,Qdm,Out.opt,uo8,Int.reduceLT,if_false,if_true,uo1,uo5,b1,hs,Qfw,Qdf,frz,Qah,Qb3,List.length_cons,List.length_nil,Nat.reduceAdd,Nat.reduceLT,Qe,List.set,b2,Q2o,b3,Q0q,Qxs,Slot.mut,Qsf,Qxr,Q2p,Qbf,uo7,Nat.reducePow,h32,and_self,h0,Qdg,Qaq,Qa9,Qar,Qau,Qu,Option.map]
theorem Qaai (k:Nat) (c:Int):∃ q,Qhp q ∧ cfn (k + 1) 12 [.fz (.int c)] = .ok (.ow q) [.non]:=by
 refine ⟨.lst [.int (if 0 - c > c then 0 - c else c),.int (if decide (10 ^ 18 ≤ (if 0 - c > c then 0 - c else c)) = true then 1 else 0)],⟨_,_,?_,rfl⟩,?_⟩
 ·split <;> omega
 ·have p1:(18:Int).natAbs ≤ 1000000:=by decide
  have p2:(10:Int).natAbs < 18446744073709551616:=by decide
  show Qb6 (cfn k) ⟨1,2,Qi4⟩ _ = _
  rw [Qbq rfl]
  show Qcn _ (exS _ Qi4 [.fz (.int c),.un]) = _
  have z2:(2:Nat) ≤ 100000:=by decide
  simp only [Qaf,Qd4,Qbx,Ql,Qq,Qac,Qb,Q5,yC1,Qd2,Qbg,Qdo,Qdn,Qdm,cont,Out.opt,uo4,Qs,yC2,yBi,Qbp,Qad,ub6,Qao,Qfw,Qdf,frz,Qah,Qb3,List.length_cons,List.length_nil,Nat.reduceAdd,Nat.reduceLT,Qe,List.set,if_true,Qb1,Qbf,Qe2,Qby,Qbo,uo9,Int.reduceLE,p1,Nat.reducePow,p2,and_self,Int.reduceToNat,Int.reducePow,Qbn,Qbm,Qbl,uc6,ub8,Qh9,Qcq,z2,Qdg,Qaq,Qa9,Qar,Qau,Qu,Option.map]
theorem Q6n {L:List T} {r:Int} (h0:0 ≤ r) (h1:r < (L.length:Int)):∃ t,atI L r = some t ∧ t ∈ L:=by
 obtain ⟨j,rfl⟩:=Int.eq_ofNat_of_zero_le h0
 have hj:j < L.length:=by omega
 exact ⟨_,Qhs (List.getElem?_eq_getElem hj),List.getElem_mem hj⟩
theorem Qaaj {a b:List T} (h:a.length + b.length ≤ 100000):opB .add (.lst a) (.lst b) = some (.ow (.lst (a ++ b))):=if_pos h
noncomputable abbrev Quj:List T:=[.non,.bl true,.bl false,.int (-1),.str "1",.str "",.tup [],.lst [],.tup [.int 0],.lst [.int 0],.dct [Sum.inr "a"] [.int 1],.tup [.tup [.int 0]],.int 1000000000000000000000000000000,.tup [.tup [.int 0,.int 1]],.tup [.str "ab"]]
theorem Qaak (k:Nat) {q:T} (hq:Qhp q):∃ t q',gd 3 t = true ∧ Qhp q' ∧ cfn (k + 2) 15 [.ml q] = .ok (.fz t) [q']:=by
 obtain ⟨r,q1,r0,r9,p1,e1⟩:=Qja k (m:=16) (by decide) (by decide) hq
 obtain ⟨t,ea,ht⟩:=Q6n (L:=Quj ++ [.tup [.tup [.bl true]]]) r0 (by show r < 16; exact r9)
 refine ⟨t,q1,?_,p1,?_⟩
 ·have:(Quj ++ [T.tup [.tup [.bl true]]]).all (gd 3) = true:=by decide +kernel
  exact List.all_eq_true.mp this t ht
 have z15:(15:Nat) ≤ 100000:=by decide
 have z16:(15:Nat) + 1 ≤ 100000:=by decide
 have z1:(1:Nat) ≤ 100000:=by decide
 have z2:(2:Nat) ≤ 100000:=by decide
 have z0:(0:Nat) ≤ 100000:=by decide
 have q1':(30:Int).natAbs ≤ 1000000:=by decide
 have q2':(10:Int).natAbs < 18446744073709551616:=by decide
 have es:exS (cfn (k + 1)) (.setF 1 (.lst (.cons .non (.cons (.bl true) (.cons (.bl false) (.cons (.neg (.int 1)) (.cons (.str "1") (.cons (.str "") (.cons (.tup .nil) (.cons (.lst .nil) (.cons (.tup (.cons (.int 0) .nil)) (.cons (.lst (.cons (.int 0) .nil)) (.cons (.lit (.dct [Sum.inr "a"] [.int 1])) (.cons (.tup (.cons (.tup (.cons (.int 0) .nil)) .nil)) (.cons (.bin .pow (.int 10) (.int 30)) (.cons (.tup (.cons (.tup (.cons (.int 0) (.cons (.int 1) .nil))) .nil)) (.cons (.tup (.cons (.str "ab") .nil)) .nil))))))))))))))))) [.ml q,.un] = .nx [.ml q,.fz (.lst Quj)]:=by
  simp only [Qd4,Qe2,Ql,Qmu,Q5,yC1,Qk3,Q2i,Qbg,Q55,Int.reduceNeg,Qji,Qg7,Qs,Qno,Qcq,List.length_nil,z0,if_true,Qh9,yC2,frz,List.length_cons,Nat.reduceAdd,z1,Q9y,Qd2,Qdo,Qdn,Qdm,cont,Out.opt,uo9,Int.reduceLE,q1',Nat.reducePow,q2',and_self,Int.reduceToNat,Int.reducePow,z2,z15,Qao,Qfw,Qdf,Qah,Qb3,Nat.reduceLT,Qe,Qb,List.set]
 have ka:opB .add (.lst Quj) (.lst [.tup [.tup [.bl true]]]) = some (.ow (.lst (Quj ++ [T.tup [.tup [.bl true]]]))):=Qaaj z16
 show Qb6 (cfn (k + 1)) ⟨1,2,Qi6⟩ _ = _
 rw [Qbq rfl]
 show Qcn _ (exS _ Qi6 [.ml q,.un]) = _
 rw [Qaf,es,Qb1]
 generalize Quj = OL at ka ea ⊢
 generalize hL:OL ++ [T.tup [.tup [.bl true]]] = L at ka ea
 simp only [Qbf,Qxq,Qd2,Qq,Qac,Qe,Qb,Q5,Qdo,Qe2,Ql,Qg7,Qk3,yC1,Qs,yC2,Qno,Qcq,frz,List.length_cons,List.length_nil,Nat.reduceAdd,z1,if_true,Qh9,Qdn,Qdm,cont,Out.opt,ka,Qt3,Qae,Qbg,Q2,Qw,List.all_cons,List.all_nil,Bool.and_true,Qaa,Qx,Qak,Q9,e1,Qax,Qm,Qz,L2.Qh,Option.map,List.getElem?_cons_zero,Slot.put,reduceCtorEq,if_false,Qt2,Qt1,Qt0,ui1,ea,Qao,Qdg,Qaq,Qa9,Qar,Qau,Qu]
noncomputable abbrev Qm0:S:=.seq (.setF 7 (.bi .max (.cons (.int 0) (.cons (.bin .sub (.call 13 (.cons (.var 0) (.cons (.int 5) .nil))) (.int 2)) .nil))))
 (.seq (.ite (.cmp .eq (.var 2) (.int 1)) (.setF 7 (.bin .sub (.call 13 (.cons (.var 0) (.cons (.int 5) .nil))) (.int 2))) .nil)
 (.seq (.ite (.cmp .eq (.var 2) (.int 2)) (.setF 7 (.bin .sub (.call 13 (.cons (.var 0) (.cons (.bin .add (.bin .mul (.int 2) (.bin .pow (.int 10) (.int 11))) (.int 1)) .nil))) (.bin .pow (.int 10) (.int 11)))) .nil)
 (.app 5 (.var 7))))
theorem Q05 (k:Nat) {w:Int} {q:T} (hq:Qhp q) {r:List Int} (hr:r.length ≤ 1000) {a b c d s:Slot} (o:Qda s = true):∃ v q',Qhp q' ∧ exS (cfn (k + 1)) Qm0 [.ml q,a,.fz (.int w),b,c,.ow (.lst (r.map .int)),d,s] = .nx [.ml q',a,.fz (.int w),b,c,.ow (.lst ((r ++ [v]).map .int)),d,.fz (.int v)]:=by
 obtain ⟨v1,q1,_,_,p1,e1⟩:=Qja k (m:=5) (by decide) (by decide) hq
 have p11:(11:Int).natAbs ≤ 1000000:=by decide
 have p10:(10:Int).natAbs < 18446744073709551616:=by decide
 have m2:∀ i:Int,Qcl 2 i = true:=fun i=>by unfold Qcl; simp
 have hz:r.length < 100000:=by omega
 have ea:∀ v:Int,r.map T.int ++ [.int v] = (r ++ [v]).map T.int:=fun v=>by rw [List.map_append]; rfl
 by_cases h1:w = 1
 ·subst h1
  obtain ⟨v2,q2,_,_,p2,e2⟩:=Qja k (m:=5) (by decide) (by decide) p1
  refine ⟨v2 - 2,q2,p2,?_⟩
  have ne:¬ (1:Int) = 2:=by decide
  (cases s <;> cases o) <;> simp only [Qaf,Qd4,Qbx,Ql,Qbg,Q5,yC1,Qd2,Qae,Qq,Qac,Qb,Qs,yC2,Q2,Qw,List.all_cons,List.all_nil,Bool.and_true,Qaa,Qx,Qak,Q9,e1,Qax,Qm,Qz,L2.Qh,Option.map,if_true,List.getElem?_cons_zero,Slot.put,Nat.reduceAdd,reduceCtorEq,if_false,Qdo,Qdn,Qdm,cont,Out.opt,uo4,yBi,Qbp,Qad,ub6,Qao,Qfw,Qdf,frz,Qah,Qb3,List.length_cons,List.length_nil,Nat.reduceLT,Qe,List.set,Qb1,Qa0,Qby,Qbo,Qbn,Qbm,Qbl,uc1,Qb7,decide_true,Q1,yBl,yIf,e2,ne,decide_false,Qce,Qix,Slot.mut,Qpj,Qla,Qk9,List.length_map,hz,ea]
 ·by_cases h2:w = 2
  ·subst h2
   obtain ⟨v2,q2,_,_,p2,e2⟩:=Qja k (m:=200000000001) (by decide) (by decide) p1
   refine ⟨v2 - 100000000000,q2,p2,?_⟩
   have ne:¬ (2:Int) = 1:=by decide
   (cases s <;> cases o) <;> simp only [Qaf,Qd4,Qbx,Ql,Qbg,Q5,yC1,Qd2,Qae,Qq,Qac,Qb,Qs,yC2,Q2,Qw,List.all_cons,List.all_nil,Bool.and_true,Qaa,Qx,Qak,Q9,e1,Qax,Qm,Qz,L2.Qh,Option.map,if_true,List.getElem?_cons_zero,Slot.put,Nat.reduceAdd,reduceCtorEq,if_false,Qdo,Qdn,Qdm,cont,Out.opt,uo4,yBi,Qbp,Qad,ub6,Qao,Qfw,Qdf,frz,Qah,Qb3,List.length_cons,List.length_nil,Nat.reduceLT,Qe,List.set,Qb1,Qa0,Qby,Qbo,Qbn,Qbm,Qbl,uc1,Qb7,ne,decide_false,Q1,yBl,yIf,Qce,decide_true,uo9,Int.reduceLE,p11,Nat.reducePow,p10,and_self,Int.reduceToNat,Int.reducePow,uo5,m2,Int.reduceMul,uo1,Int.reduceAdd,e2,Qix,Slot.mut,Qpj,Qla,Qk9,List.length_map,hz,ea]
  ·refine ⟨if v1 - 2 > 0 then v1 - 2 else 0,q1,p1,?_⟩
   (cases s <;> cases o) <;> simp only [Qaf,Qd4,Qbx,Ql,Qbg,Q5,yC1,Qd2,Qae,Qq,Qac,Qb,Qs,yC2,Q2,Qw,List.all_cons,List.all_nil,Bool.and_true,Qaa,Qx,Qak,Q9,e1,Qax,Qm,Qz,L2.Qh,Option.map,if_true,List.getElem?_cons_zero,Slot.put,Nat.reduceAdd,reduceCtorEq,if_false,Qdo,Qdn,Qdm,cont,Out.opt,uo4,yBi,Qbp,Qad,ub6,Qao,Qfw,Qdf,frz,Qah,Qb3,List.length_cons,List.length_nil,Nat.reduceLT,Qe,List.set,Qb1,Qa0,Qby,Qbo,Qbn,Qbm,Qbl,uc1,Qb7,h1,decide_false,Q1,yBl,yIf,Qce,h2,Qix,Slot.mut,Qpj,Qla,Qk9,List.length_map,hz,ea]
theorem Q06 (k:Nat) {n:Nat} (hn:n ≤ 4) {w:Int} {q:T} (hq:Qhp q) {a b c s6 s7:Slot} (o6:Qda s6 = true) (o7:Qda s7 = true):∃ (r:List Int) (q':T) (t6 t7:Slot),r.length = n ∧ Qhp q' ∧ Qda t6 = true ∧ Qda t7 = true ∧
  Qbb (.nm 6) (exS (cfn (k + 1)) Qm0) (Qaz 0 n) [.ml q,a,.fz (.int w),b,c,.ow (.lst []),s6,s7] = .nx [.ml q',a,.fz (.int w),b,c,.ow (.lst (r.map .int)),t6,t7]:=by
 obtain ⟨ρ',e,r,q',t6,t7,hr,hq',o6',o7',rfl⟩:=Qgc (fun i ρ=>∃ (r:List Int) (q':T) (t6 t7:Slot),r.length = i ∧ Qhp q' ∧ Qda t6 = true ∧ Qda t7 = true ∧ ρ = [.ml q',a,.fz (.int w),b,c,.ow (.lst (r.map .int)),t6,t7]) (tg:=.nm 6) (b:=exS (cfn (k + 1)) Qm0) (xs:=Qaz 0 n) (n:=0) (ρ:=[.ml q,a,.fz (.int w),b,c,.ow (.lst []),s6,s7]) ⟨[],q,s6,s7,rfl,hq,o6,o7,rfl⟩ (by
  rintro i x ρ hx ⟨r,q1,t6,t7,hr,p1,o6',o7',rfl⟩
  have hi:i < n:=by have:=(List.getElem?_eq_some_iff.mp hx).1; rwa [Qbd] at this
  obtain ⟨v,q2,p2,e⟩:=Q05 k (w:=w) p1 (r:=r) (by omega) (a:=a) (b:=b) (c:=c) (d:=.fz x) o7'
  exact ⟨[.ml q1,a,.fz (.int w),b,c,.ow (.lst (r.map .int)),.fz x,t7],_,(by cases t6 <;> first | rfl | cases o6'),.inl e,r ++ [v],q2,.fz x,.fz (.int v),by rw [List.length_append,hr]; rfl,p2,rfl,rfl,rfl⟩)
 rw [Qbd,Nat.zero_add] at hr
 exact ⟨r,q',t6,t7,hr,hq',o6',o7',e⟩
noncomputable abbrev Qob:S:=.seq (.set 5 (.lst .nil)) (.seq (.for_ (.rng1 (.var 1)) (.nm 6) Qm0) (.app 3 (.bi .tup (.cons (.var 5) .nil))))
noncomputable def Quk:Slot → Bool
 | .un=>true
 | .ow _=>true
 | _=>false
theorem Q6o (k:Nat) {n:Nat} (hn:n ≤ 4) {w:Int} {q:T} (hq:Qhp q):∃ (M:Tb) (q':T) (t4 t5 t6 t7:Slot),Shp n M ∧ Qhp q' ∧ Qbb (.nm 4) (exS (cfn (k + 1)) Qob) (Qaz 0 n) [.ml q,.fz (.int n),.fz (.int w),.ow (.lst []),.un,.un,.un,.un] = .nx [.ml q',.fz (.int n),.fz (.int w),.ow (.lst (M.map Qal)),t4,t5,t6,t7]:=by
 obtain ⟨ρ',e,M,q',t4,t5,t6,t7,⟨hl,hr⟩,hq',_,_,_,_,rfl⟩:=Qgc (fun i ρ=>∃ (M:Tb) (q':T) (t4 t5 t6 t7:Slot),(M.length = i ∧ ∀ r ∈ M,r.length = n) ∧ Qhp q' ∧ Qda t4 = true ∧ Quk t5 = true ∧ Qda t6 = true ∧ Qda t7 = true ∧ ρ = [.ml q',.fz (.int n),.fz (.int w),.ow (.lst (M.map Qal)),t4,t5,t6,t7]) (tg:=.nm 4) (b:=exS (cfn (k + 1)) Qob) (xs:=Qaz 0 n) (n:=0) (ρ:=[.ml q,.fz (.int n),.fz (.int w),.ow (.lst []),.un,.un,.un,.un]) ⟨[],q,.un,.un,.un,.un,⟨rfl,fun r z=>by cases z⟩,hq,rfl,rfl,rfl,rfl,rfl⟩ (by
  rintro i x ρ hx ⟨M,q1,t4,t5,t6,t7,⟨hl,hr⟩,p1,o4,o5,o6,o7,rfl⟩
  have hi:i < n:=by have:=(List.getElem?_eq_some_iff.mp hx).1; rwa [Qbd] at this
  obtain ⟨r,q2,u6,u7,lr,p2,v6,v7,er⟩:=Q06 k hn (w:=w) p1 (a:=.fz (.int n)) (b:=.ow (.lst (M.map Qal))) (c:=.fz x) o6 o7
  have z0:(0:Nat) ≤ 100000:=by decide
  have zn:n ≤ 100000:=by omega
  have zM:M.length < 100000:=by omega
  have zr:r.length ≤ 100000:=by omega
  have ea:M.map Qal ++ [.tup (r.map T.int)] = (M ++ [r]).map Qal:=by rw [List.map_append]; rfl
  refine ⟨[.ml q1,.fz (.int n),.fz (.int w),.ow (.lst (M.map Qal)),.fz x,t5,t6,t7],[.ml q2,.fz (.int n),.fz (.int w),.ow (.lst ((M ++ [r]).map Qal)),.fz x,.ow (.lst (r.map .int)),u6,u7],(by cases t4 <;> first | rfl | cases o4),.inl ?_,M ++ [r],q2,.fz x,_,u6,u7,⟨by rw [List.length_append,hl]; rfl,fun s hs=>?_⟩,p2,rfl,rfl,v6,v7,rfl⟩
  ·show exS _ (.seq (.set 5 (.lst .nil)) (.seq (.for_ (.rng1 (.var 1)) (.nm 6) Qm0) (.app 3 (.bi .tup (.cons (.var 5) .nil))))) _ = _
   generalize Qm0 = B0 at er ⊢
   (cases t5 <;> cases o5) <;> simp only [Qaf,Qk8,Qe2,Qs,Q5,Qh9,Qcq,List.length_nil,z0,if_true,Qao,Qlq,Qah,Qb3,List.length_cons,Nat.reduceAdd,Nat.reduceLT,Qe,Qb,List.set,Qb1,Qgd,Qfh,Qq,Qac,Qt4 zn,Qia,er,Qds,Qix,Slot.mut,Qbx,Ql,yC1,yC2,yBi,Qbp,Qad,cont,Slot.prv,Out.opt,ub9,Qpj,Qla,frz,Qk9,List.length_map,zM,ea]
  ·rcases List.mem_append.mp hs with z | z
   ·exact hr s z
   ·rw [List.mem_singleton.mp z]; exact lr)
 rw [Qbd,Nat.zero_add] at hl
 exact ⟨M,q',t4,t5,t6,t7,⟨hl,hr⟩,hq',e⟩
theorem Q07 (k:Nat) {n:Nat} (hn:n ≤ 4) {w:Int} {q:T} (hq:Qhp q):∃ (M:Tb) (q':T),Shp n M ∧ Qhp q' ∧ cfn (k + 2) 16 [.ml q,.fz (.int n),.fz (.int w)] = .ok (.fz (Qn M)) [q',.non,.non]:=by
 obtain ⟨M,q',t4,t5,t6,t7,h,p,e⟩:=Q6o k hn (w:=w) hq
 refine ⟨M,q',h,p,?_⟩
 have z0:(0:Nat) ≤ 100000:=by decide
 have zn:n ≤ 100000:=by omega
 have zM:M.length ≤ 100000:=by rw [h.len]; omega
 show Qb6 (cfn (k + 1)) ⟨3,8,Qjn⟩ _ = _
 rw [Qbq rfl]
 show Qcn _ (exS _ (.seq (.set 3 (.lst .nil)) (.seq (.for_ (.rng1 (.var 1)) (.nm 4) Qob) (.ret (.bi .tup (.cons (.var 3) .nil))))) [.ml q,.fz (.int n),.fz (.int w),.un,.un,.un,.un,.un]) = _
 generalize Qob = B0 at e ⊢
 simp only [Qaf,Qk8,Qe2,Qs,Q5,Qh9,Qcq,List.length_nil,z0,if_true,Qao,Qlq,Qah,Qb3,List.length_cons,Nat.reduceAdd,Nat.reduceLT,Qe,Qb,List.set,Qb1,Qgd,Qfh,Qq,Qac,Qt4 zn,Qia,e,Qds,Qbf,Qbx,Ql,yC1,yC2,yBi,Qbp,Qad,cont,Slot.prv,Out.opt,ub9,Qdg,Qaq,Qa9,Qar,Qau,Qu,Option.map]
open PySem L2
noncomputable def ups (n:Nat):List Int:=(List.range n).map fun (i:Nat)=>(0:Int) + (i:Int)
theorem Q6p (n:Nat):Qaz 0 n = (ups n).map T.int:=by
 unfold Qaz ups
 rw [List.map_map]
 rfl
theorem Qss (n:Nat):(ups n).length = n:=by unfold ups; rw [List.length_map,List.length_range]
noncomputable def mks (n m:Nat):List Tb:=(ups m).map (mkM n)
theorem Q6q (k:Nat) {n m:Nat} (hn:n ≤ 3) (hm:m ≤ 1000) (e1:opB .shl (.int 1) (.int ((n:Int) * n)) = some (.fz (.int m))):cfn (k + 1) 18 [.fz (.int n)] = .ok (.ow (.lst ((mks n m).map Qn))) [.non]:=by
 have z0:(0:Nat) ≤ 100000:=by decide
 have zm:m ≤ 100000:=by omega
 have m3:Qcl (n:Int) n = true:=Qjz (by omega)
 obtain ⟨t2,t3,e⟩:=Qsr (cf:=cfn k) hn (ups m) [] .un .un rfl rfl (by rw [Qss]; show 0 + m < 100000; omega)
 rw [← Q6p,List.nil_append,show (ups m).map (fun v=>Qn (mkM n v)) = (mks n m).map Qn by unfold mks; rw [List.map_map]; rfl] at e
 show Qb6 (cfn k) ⟨1,4,Qmw⟩ _ = _
 rw [Qbq rfl]
 show Qcn _ (exS _ (.seq (.set 1 (.lst .nil)) (.seq (.for_ (.rng1 (.bin .shl (.int 1) (.bin .mul (.var 0) (.var 0)))) (.nm 2) Qj0) (.ret (.var 1)))) [.fz (.int n),.un,.un,.un]) = _
 generalize Qj0 = B0 at e ⊢
 generalize (mks n m).map Qn = L at e ⊢
 simp only [Qaf,Qk8,Qe2,Qs,Q5,Qh9,Qcq,List.length_nil,z0,if_true,Qao,Qlq,Qah,Qb3,List.length_cons,Nat.reduceAdd,Nat.reduceLT,Qe,Qb,List.set,Qb1,Qgd,Qfh,Qd2,Qbg,Qdo,Qq,Qac,Qdn,Qdm,cont,Out.opt,uo5,m3,e1,Qt4 zm,Qia,e,Qds,Qbf,Qdg,Qaq,Qa9,Qar,Qau,Qu,Option.map]
noncomputable abbrev rws (n:Nat):List T:=(tps [T.int 0,.int 1] n).map .tup
theorem Q6r (k:Nat) {n:Nat} {M:List T} (hn:n ≤ 1000) (b1:∀ j,j < n → (tps [T.int 0,.int 1] j).length ≤ 100000 ∧ ((tps [T.int 0,.int 1] j).flatMap (Qho [T.int 0,.int 1])).length ≤ 100000) (hz:(rws n).length ≤ 1000)
  (b2:∀ j,j < n → (tps (rws n) j).length ≤ 100000 ∧ ((tps (rws n) j).flatMap (Qho (rws n))).length ≤ 100000) (e:(tps (rws n) n).map T.tup = M):cfn (k + 2) 10 [.fz (.int n)] = .ok (.ow (.lst M)) [.non]:=by
 have z2:(2:Nat) ≤ 100000:=by decide
 have a1:cfn (k + 1) 9 [.fz (.lst [T.int 0,.int 1]),.fz (.int n)] = .ok (.ow (.lst (rws n))) [.non,.non]:=Qii k (ps:=[T.int 0,.int 1]) (n:=n) (by decide) hn b1
 have a2:=Qii k (ps:=rws n) (n:=n) hz hn b2
 rw [e] at a2
 show Qb6 (cfn (k + 1)) ⟨1,1,Qgg⟩ _ = _
 rw [Qbq rfl]
 show Qcn _ (exS _ Qgg [.fz (.int n)]) = _
 generalize hR:rws n = R at a1 a2
 simp only [Qbf,Qae,Ql,Qe2,Qbg,Q5,yC1,Qs,yC2,Qh9,Qcq,frz,List.length_cons,List.length_nil,Nat.reduceAdd,z2,if_true,Qq,Qac,Qb,Q2,Qw,Qaa,Qx,Qak,Q9,a1,Qax,Qm,Qz,L2.Qh,Option.map,a2,Qao,Qdg,Qaq,Qa9,Qar,Qau,Qu]
theorem mks1:(tps (rws 1) 1).map T.tup = (mks 1 2).map Qn:=by kernel_rfl
theorem mks2:(tps (rws 2) 2).map T.tup = (mks 2 16).map Qn:=by kernel_rfl
theorem mks3:(tps (rws 3) 3).map T.tup = (mks 3 512).map Qn:=by kernel_rfl
theorem Q08 (n m:Nat) (hn:n ≤ 1000):∀ M ∈ mks n m,Fit M:=fun M hM=>by
 obtain ⟨v,_,rfl⟩:=List.mem_map.mp hM
 refine ⟨by unfold mkM; rw [List.length_map,List.length_range]; exact hn,fun r hr=>?_⟩
 unfold mkM at hr
 obtain ⟨i,_,rfl⟩:=List.mem_map.mp hr
 rw [List.length_map,List.length_range]
 exact hn
theorem Q6s {cf:CF} {i:Nat} {b:S} {ρ:En} {ts:List T} (hs:Qa ρ i = .ow (.lst ts)) (hk:(ρ.set i .un).all Qo1 = true):exS cf (.look i b) ρ = lkO i ρ (exS cf b ((ρ.set i (.fz (.lst ts))).map lkS)):=by
 rw [exS,hs]
 simp only [if_pos hk]
noncomputable abbrev pr1:S:=.ite (.not (.call 19 (.cons (.var 2) (.cons (.call 18 (.cons (.var 1) .nil)) .nil)))) (.ret (.bl false)) .nil
noncomputable abbrev Qil:S:=.seq (.set 2 (.call 10 (.cons (.var 1) .nil))) (.seq (.look 2 pr1) (.seq (.app 2 .non)
 (.ite (.cmp .ne (.bi .len (.cons (.call 10 (.cons (.var 1) .nil)) .nil)) (.bin .shl (.int 1) (.bin .mul (.var 1) (.var 1)))) (.ret (.bl false)) .nil)))
theorem Q09 {n m:Nat} {L:List T} {a:Addr} (am:cfn 14 10 [.fz (.int n)] = .ok (.ow (.lst L)) [.non]) (la:cfn 14 18 [.fz (.int n)] = .ok (.ow (.lst L)) [.non]) (ta:cfn 14 19 [.fz (.lst L),.fz (.lst L)] = .ok (.fz (.bl true)) [.non,.non])
  (hn:n ≤ 3) (sh:opB .shl (.int 1) (.int ((n:Int) * n)) = some (.fz (.int m))) (hl:L.length = m) (hm:m ≤ 1000) {s2:Slot} (o2:Quk s2 = true):exS (cfn 14) Qil [.pin a,.fz (.int n),s2,.un,.un,.un,.un,.un] = .nx [.pin a,.fz (.int n),.ow (.lst (L ++ [.non])),.un,.un,.un,.un,.un]:=by
 have m3:Qcl (n:Int) n = true:=Qjz (by omega)
 have w1:exS (cfn 14) (.set 2 (.call 10 (.cons (.var 1) .nil))) [.pin a,.fz (.int n),s2,.un,.un,.un,.un,.un] = .nx [.pin a,.fz (.int n),.ow (.lst L),.un,.un,.un,.un,.un]:=by
  (cases s2 <;> cases o2) <;> simp only [Qk8,Qae,Ql,Qq,Qac,Qe,Qb,Q5,yC1,Qs,yC2,Q2,Qw,Qaa,Qx,Qak,Q9,am,Qax,Qm,Qz,L2.Qh,Option.map,if_true,Qao,Qlq,Qah,Qb3,List.length_cons,List.length_nil,Nat.reduceAdd,Nat.reduceLT,List.set]
 have w2:exS (cfn 14) (.look 2 pr1) [.pin a,.fz (.int n),.ow (.lst L),.un,.un,.un,.un,.un] = .nx [.pin a,.fz (.int n),.ow (.lst L),.un,.un,.un,.un,.un]:=by
  have e:exS (cfn 14) pr1 [.pin a,.fz (.int n),.fx (.lst L),.un,.un,.un,.un,.un] = .nx [.pin a,.fz (.int n),.fx (.lst L),.un,.un,.un,.un,.un]:=by
   simp only [Qa0,Qcd,Qae,Ql,Qq,Qac,Qe,Qb,Q5,yC1,Qs,yC2,Q2,Qw,Qaa,Qx,Qak,Q9,la,Qax,Qm,Qz,L2.Qh,Option.map,if_true,ta,Q1,yBl,Qec,Bool.not_true,Qao,yIf,Qce]
  rw [Q6s (ts:=L) rfl rfl]
  show lkO 2 _ (exS (cfn 14) pr1 [.pin a,.fz (.int n),.fx (.lst L),.un,.un,.un,.un,.un]) = _
  rw [e]
  rfl
 have w3:exS (cfn 14) (.app 2 .non) [.pin a,.fz (.int n),.ow (.lst L),.un,.un,.un,.un,.un] = .nx [.pin a,.fz (.int n),.ow (.lst (L ++ [.non])),.un,.un,.un,.un,.un]:=by
  have z:L.length < 100000:=by omega
  simp only [Qix,Slot.mut,Qe,Qb,Qmu,Qao,Qpj,Qla,frz,Qk9,z,List.set,if_true]
 rw [Qaf,w1,Qb1,Qaf,w2,Qb1,Qaf,w3,Qb1]
 simp only [Qa0,Qby,Qbx,Ql,Qae,Qq,Qac,Qe,Qb,Q5,yC1,Qs,yC2,Q2,Qw,Qaa,Qx,Qak,Q9,am,Qax,Qm,Qz,L2.Qh,Option.map,if_true,yBi,Qbp,Qad,cont,Out.opt,ub1,hl,Qbo,Qd2,Qbg,Qdo,Qdn,Qdm,uo5,m3,sh,Qbn,Qbm,Qbl,uc2,Qb7,decide_true,Bool.not_true,Q1,yBl,Qao,yIf,Qce]
noncomputable def Bds (n:Nat):Prop:=(∀ j,j < n → (tps [T.int 0,.int 1] j).length ≤ 100000 ∧ ((tps [T.int 0,.int 1] j).flatMap (Qho [T.int 0,.int 1])).length ≤ 100000) ∧ (rws n).length ≤ 1000 ∧ ∀ j,j < n → (tps (rws n) j).length ≤ 100000 ∧ ((tps (rws n) j).flatMap (Qho (rws n))).length ≤ 100000
theorem bds1:Bds 1:=by unfold Bds; decide +kernel
theorem bds2:Bds 2:=by unfold Bds; decide +kernel
theorem bds3:Bds 3:=by unfold Bds; decide +kernel
theorem Qrl {n m:Nat} (b:Bds n) (e:(tps (rws n) n).map T.tup = (mks n m).map Qn) (hn:n ≤ 3) (hm:m ≤ 1000) (sh:opB .shl (.int 1) (.int ((n:Int) * n)) = some (.fz (.int m))):∃ L,∀ (a:Addr) (s2:Slot),Quk s2 = true → exS (cfn 14) Qil [.pin a,.fz (.int n),s2,.un,.un,.un,.un,.un] = .nx [.pin a,.fz (.int n),.ow (.lst L),.un,.un,.un,.un,.un] :=
 ⟨(mks n m).map Qn ++ [.non],fun a s2 o=>Q09 (Q6r 12 (by omega) b.1 b.2.1 b.2.2 e) (Q6q 13 hn hm sh) (Qih 12 (Q08 n m (by omega))) hn sh (by unfold mks; rw [List.length_map,List.length_map,Qss]) hm o⟩
theorem Q6t:∃ L,∀ (a:Addr) (s2:Slot),Quk s2 = true → exS (cfn 14) Qil [.pin a,.fz (.int (1:Nat)),s2,.un,.un,.un,.un,.un] = .nx [.pin a,.fz (.int (1:Nat)),.ow (.lst L),.un,.un,.un,.un,.un]:=Qrl bds1 mks1 (by decide) (by decide) rfl
theorem Q6u:∃ L,∀ (a:Addr) (s2:Slot),Quk s2 = true → exS (cfn 14) Qil [.pin a,.fz (.int (2:Nat)),s2,.un,.un,.un,.un,.un] = .nx [.pin a,.fz (.int (2:Nat)),.ow (.lst L),.un,.un,.un,.un,.un]:=Qrl bds2 mks2 (by decide) (by decide) rfl
theorem Q6v:∃ L,∀ (a:Addr) (s2:Slot),Quk s2 = true → exS (cfn 14) Qil [.pin a,.fz (.int (3:Nat)),s2,.un,.un,.un,.un,.un] = .nx [.pin a,.fz (.int (3:Nat)),.ow (.lst L),.un,.un,.un,.un,.un]:=Qrl bds3 mks3 (by decide) (by decide) rfl
theorem Qx8 {cf:CF} {B0:S} {L1 L2 L3:List T} {a:Addr} (p1:exS cf B0 [.pin a,.fz (.int (1:Nat)),.un,.un,.un,.un,.un,.un] = .nx [.pin a,.fz (.int (1:Nat)),.ow (.lst L1),.un,.un,.un,.un,.un])
  (p2:exS cf B0 [.pin a,.fz (.int (2:Nat)),.ow (.lst L1),.un,.un,.un,.un,.un] = .nx [.pin a,.fz (.int (2:Nat)),.ow (.lst L2),.un,.un,.un,.un,.un])
  (p3:exS cf B0 [.pin a,.fz (.int (3:Nat)),.ow (.lst L2),.un,.un,.un,.un,.un] = .nx [.pin a,.fz (.int (3:Nat)),.ow (.lst L3),.un,.un,.un,.un,.un]):exS cf (.for_ (.rng2 (.int 1) (.int 4)) (.nm 1) B0) [.pin a,.un,.un,.un,.un,.un,.un,.un] = .nx [.pin a,.fz (.int (3:Nat)),.ow (.lst L3),.un,.un,.un,.un,.un]:=by
 have ew:evW cf (.rng2 (.int 1) (.int 4)) [.pin a,.un,.un,.un,.un,.un,.un,.un] = .ok ([T.int (1:Nat),T.int (2:Nat),T.int (3:Nat)],none) [.pin a,.un,.un,.un,.un,.un,.un,.un]:=rfl
 have el:Qbb (.nm 1) (exS cf B0) [T.int (1:Nat),T.int (2:Nat),T.int (3:Nat)] [.pin a,.un,.un,.un,.un,.un,.un,.un] = .nx [.pin a,.fz (.int (3:Nat)),.ow (.lst L3),.un,.un,.un,.un,.un]:=by
  unfold Qbb
  rw [show Qca (.nm 1) (.int (1:Nat)) [.pin a,.un,.un,.un,.un,.un,.un,.un] = some [.pin a,.fz (.int (1:Nat)),.un,.un,.un,.un,.un,.un] from rfl]
  simp only [p1]
  unfold Qbb
  rw [show Qca (.nm 1) (.int (2:Nat)) [.pin a,.fz (.int (1:Nat)),.ow (.lst L1),.un,.un,.un,.un,.un] = some [.pin a,.fz (.int (2:Nat)),.ow (.lst L1),.un,.un,.un,.un,.un] from rfl]
  simp only [p2]
  unfold Qbb
  rw [show Qca (.nm 1) (.int (3:Nat)) [.pin a,.fz (.int (2:Nat)),.ow (.lst L2),.un,.un,.un,.un,.un] = some [.pin a,.fz (.int (3:Nat)),.ow (.lst L2),.un,.un,.un,.un,.un] from rfl]
  simp only [p3]
  unfold Qbb
  rfl
 rw [Qgd,ew]
 show Qko (Qbb (.nm 1) (exS cf B0) [T.int (1:Nat),T.int (2:Nat),T.int (3:Nat)] [.pin a,.un,.un,.un,.un,.un,.un,.un]) = _
 rw [el]
 rfl
theorem Q1a:∀ a:Addr,∃ ρ',exS (cfn 14) Q2r (.pin a :: uns 7) = .nx (.pin a :: ρ') ∧ ρ'.length = 7:=fun a =>
 let ⟨_,p1⟩:=Q6t
 let ⟨_,p2⟩:=Q6u
 let ⟨_,p3⟩:=Q6v
 ⟨_,Qx8 (p1 a _ rfl) (p2 a _ rfl) (p3 a _ rfl),rfl⟩
noncomputable def ab (x:Int):Int:=if 0 - x > x then 0 - x else x
noncomputable abbrev Qx9:E:=.bi .tup (.cons (.comp (.seq (.var 0)) [none] (.nm 0) .nil (.bi .max (.cons (.var 0) (.cons (.bin .sub (.int 0) (.var 0)) .nil)))) .nil)
theorem Q1b {cf:CF} {r:List Int} (hr:r.length ≤ 1000):evE cf Qx9 [.fz (Qal r)] = .ok (.fz (Qal (r.map ab))) [.fz (Qal r)]:=by
 have hc:evE cf (.comp (.seq (.var 0)) [none] (.nm 0) .nil (.bi .max (.cons (.var 0) (.cons (.bin .sub (.int 0) (.var 0)) .nil)))) [.fz (Qal r)] = .ok (.ow (.lst ((r.map T.int).map fun t=>match t with | .int v=>T.int (ab v) | t=>t))) [.fz (Qal r)] :=
  Qa5 (rest:=[]) rfl rfl rfl rfl (fun t ht=>by
   obtain ⟨v,_,rfl⟩:=List.mem_map.mp ht
   refine ⟨.fz (.int (ab v)),?_,rfl⟩
   simp only [Qbx,Ql,Qq,Qac,Qb,Q5,yC1,Qd2,Qbg,Qdo,Qdn,Qdm,cont,Out.opt,uo4,Qs,yC2,yBi,Qbp,Qad,ub6]
   rfl) (by rw [List.length_map]; omega)
 rw [List.map_map] at hc
 have e:r.map ((fun t=>match t with | .int v=>T.int (ab v) | t=>t) ∘ T.int) = (r.map ab).map T.int:=by rw [List.map_map]; rfl
 rw [e] at hc
 simp only [Qbx,Ql,hc,Q5,yC1,Qs,yC2,yBi,Qbp,Qad,cont,Out.opt,ub9]
noncomputable abbrev Qoc:E:=.bi .tup (.cons (.comp (.seq (.var 5)) [none] (.nm 0) .nil Qx9) .nil)
noncomputable def abT (M:Tb):Tb:=M.map fun r=>r.map ab
theorem Qya {cf:CF} {n:Nat} {M:Tb} (h:Shp n M) (h4:n ≤ 4) {a b c d e f g:Slot}:evE cf Qoc [a,b,c,d,e,.fz (Qn M),f,g] = .ok (.fz (Qn (abT M))) [a,b,c,d,e,.fz (Qn M),f,g]:=by
 have hc:evE cf (.comp (.seq (.var 5)) [none] (.nm 0) .nil Qx9) [a,b,c,d,e,.fz (Qn M),f,g] = .ok (.ow (.lst ((M.map Qal).map fun t=>Qal ((iOf t).map ab)))) [a,b,c,d,e,.fz (Qn M),f,g] :=
  Qa5 (rest:=[]) rfl rfl rfl rfl (fun t ht=>by
   obtain ⟨r,hr,rfl⟩:=List.mem_map.mp ht
   refine ⟨_,Q1b (by rw [h.row r hr]; omega),?_⟩
   rw [Qgw]
   rfl) (by rw [List.length_map,h.len]; omega)
 have e:((M.map Qal).map fun t=>Qal ((iOf t).map ab)) = (abT M).map Qal:=by
  unfold abT
  rw [List.map_map,List.map_map]
  exact List.map_congr_left fun r _=>by show Qal ((iOf (Qal r)).map ab) = _; rw [Qgw]; rfl
 rw [e] at hc
 simp only [Qbx,Ql,hc,Q5,yC1,Qs,yC2,yBi,Qbp,Qad,cont,Out.opt,ub9]
theorem Q1c {xs:List T} (hx:∀ x ∈ xs,gd 3 x = true) {a b c d e f g:Slot}:∃ s,Qbb (.nm 7) (exS (cfn 14) (.ite (.not (.call 21 (.cons (.var 7) .nil))) (.ret (.bl false)) .nil)) xs [a,b,c,d,e,f,g,.un] = .nx [a,b,c,d,e,f,g,s]:=by
 obtain ⟨ρ',ef,s,_,rfl⟩:=Qgc (fun _ ρ=>∃ s:Slot,Qda s = true ∧ ρ = [a,b,c,d,e,f,g,s]) (tg:=.nm 7) (b:=exS (cfn 14) (.ite (.not (.call 21 (.cons (.var 7) .nil))) (.ret (.bl false)) .nil)) (xs:=xs) (n:=0) (ρ:=[a,b,c,d,e,f,g,.un]) ⟨.un,rfl,rfl⟩ (by
  rintro j t ρ ht ⟨s,os,rfl⟩
  have er:=Q02 5 (m:=1) (hx t (List.mem_of_getElem? ht))
  refine ⟨[a,b,c,d,e,f,g,.fz t],_,(by cases s <;> first | rfl | cases os),.inl ?_,.fz t,rfl,rfl⟩
  simp only [Qa0,Qcd,Qae,Ql,Qq,Qac,Qe,Qb,Q5,yC1,Qs,yC2,Q2,Qw,Qaa,Qx,Qak,Q9,er,Qax,Qm,Qz,L2.Qh,Option.map,if_true,Q1,yBl,Qec,Bool.not_true,Qao,yIf,Qce])
 exact ⟨s,ef⟩
theorem Qyb {t:T} (h:gd 2 t = true):gd 3 t = true:=by
 have up1:∀ u,gd 1 u = true → gd 2 u = true:=fun u hu=>by
  cases u <;> first | rfl | (cases hu; done) | skip
  ·obtain ⟨h1,h2⟩:=Qgk hu
   exact (Qmy h1 fun x hx=>by have:=h2 x hx; cases x <;> first | rfl | (cases this; done)).1
  ·have hu:gd 1 (.tup _) = true:=hu
   obtain ⟨h1,h2⟩:=Qgk hu
   exact (Qmy h1 fun x hx=>by have:=h2 x hx; cases x <;> first | rfl | (cases this; done)).2
 cases t <;> first | rfl | (cases h; done) | skip
 ·obtain ⟨h1,h2⟩:=Qgk h
  exact (Qmy h1 fun x hx=>up1 x (h2 x hx)).1
 ·have h:gd 2 (.tup _) = true:=h
  obtain ⟨h1,h2⟩:=Qgk h
  exact (Qmy h1 fun x hx=>up1 x (h2 x hx)).2
theorem Q6w {n:Nat} {M:Tb} (h:Shp n M):Shp n (abT M):=⟨by unfold abT; rw [List.length_map,h.len],fun r hr=>by
 obtain ⟨s,hs,rfl⟩:=List.mem_map.mp hr
 rw [List.length_map,h.row s hs]⟩
theorem Qyc:∀ m:Int,∃ ρ',exS (cfn 14) Qrg ((uns 8).set 3 (.fz (.int m))) = .nx ρ' ∧ ρ'.length = 8:=by
 intro m
 obtain ⟨q,hq,e0⟩:=Qaai 13 m
 obtain ⟨r,q1,r0,r4,p1,e1⟩:=Qja 13 (m:=4) (by decide) (by decide) hq
 obtain ⟨n,hn⟩:=Int.eq_ofNat_of_zero_le (show 0 ≤ r by omega)
 have hn':1 + r = ((n + 1:Nat):Int):=by omega
 obtain ⟨w,q2,w0,w3,p2,e2⟩:=Qja 13 (m:=3) (by decide) (by decide) p1
 obtain ⟨M,q3,sM,p3,e3⟩:=Q07 12 (n:=n + 1) (by omega) (w:=w) p2
 obtain ⟨u,q4,gu,p4,e4⟩:=Qaak 12 p3
 have gM:=Qn5 sM (by omega)
 have eq:=Qya (cf:=cfn 14) sM (by omega) (a:=.un) (b:=.un) (c:=.un) (d:=.fz (.int m)) (e:=.ow q3) (f:=.un) (g:=.un)
 have gL:gd 3 (.lst (M.map Qal)) = true:=Qyb gM
 obtain ⟨s7,e7⟩:=Q1c (xs:=[Qn M,Qn (abT M),u,.lst (M.map Qal),.tup [.tup [.int 0,.int 0],.tup [.int 0,.int (-1)]],.non]) (by
  intro x hx
  simp only [List.mem_cons,List.not_mem_nil,or_false] at hx
  rcases hx with rfl | rfl | rfl | rfl | rfl | rfl
  ·exact Qyb gM
  ·exact Qyb (Qn5 (Q6w sM) (by omega))
  ·exact gu
  ·exact gL
  ·rfl
  ·rfl) (a:=.un) (b:=.un) (c:=.un) (d:=.fz (.int m)) (e:=.ow q4) (f:=.fz (Qn M)) (g:=.fz (Qn (abT M)))
 have z2:(2:Nat) ≤ 100000:=by decide
 have z6:(6:Nat) ≤ 100000:=by decide
 refine ⟨[.un,.un,.un,.fz (.int m),.ow q4,.fz (Qn M),.fz (Qn (abT M)),s7],?_,rfl⟩
 show exS (cfn 14) Qrg [.un,.un,.un,.fz (.int m),.un,.un,.un,.un] = _
 have w1:exS (cfn 14) (.setF 6 Qoc) [.un,.un,.un,.fz (.int m),.ow q3,.fz (Qn M),.un,.un] = .nx [.un,.un,.un,.fz (.int m),.ow q3,.fz (Qn M),.fz (Qn (abT M)),.un]:=by
  generalize Qoc = E0 at eq ⊢
  simp only [Qd4,eq,Qao,Qfw,Qdf,frz,Qah,Qb3,List.length_cons,List.length_nil,Nat.reduceAdd,Nat.reduceLT,Qe,Qb,List.set,if_true]
 show exS (cfn 14) (.seq (.set 4 (.call 12 (.cons (.var 3) .nil))) (.seq (.setF 5 (.call 16 (.cons (.var 4) (.cons (.bin .add (.int 1) (.call 13 (.cons (.var 4) (.cons (.int 4) .nil)))) (.cons (.call 13 (.cons (.var 4) (.cons (.int 3) .nil))) .nil))))) (.seq (.setF 6 Qoc) (.for_ (.seq (.lst (.cons (.var 5) (.cons (.var 6) (.cons (.call 15 (.cons (.var 4) .nil)) (.cons (.bi .list (.cons (.var 5) .nil)) (.cons (.tup (.cons (.tup (.cons (.int 0) (.cons (.int 0) .nil))) (.cons (.tup (.cons (.int 0) (.cons (.neg (.int 1)) .nil))) .nil))) (.cons .non .nil)))))))) (.nm 7) (.ite (.not (.call 21 (.cons (.var 7) .nil))) (.ret (.bl false)) .nil))))) _ = _
 have w0:exS (cfn 14) (.set 4 (.call 12 (.cons (.var 3) .nil))) [.un,.un,.un,.fz (.int m),.un,.un,.un,.un] = .nx [.un,.un,.un,.fz (.int m),.ow q,.un,.un,.un]:=by
  simp only [Qk8,Qae,Ql,Qq,Qac,Qe,Qb,Q5,yC1,Qs,yC2,Q2,Qw,Qaa,Qx,Qak,Q9,e0,Qax,Qm,Qz,L2.Qh,Option.map,if_true,Qao,Qlq,Qah,Qb3,List.length_cons,List.length_nil,Nat.reduceAdd,Nat.reduceLT,List.set]
 have w2:exS (cfn 14) (.setF 5 (.call 16 (.cons (.var 4) (.cons (.bin .add (.int 1) (.call 13 (.cons (.var 4) (.cons (.int 4) .nil)))) (.cons (.call 13 (.cons (.var 4) (.cons (.int 3) .nil))) .nil))))) [.un,.un,.un,.fz (.int m),.ow q,.un,.un,.un] = .nx [.un,.un,.un,.fz (.int m),.ow q3,.fz (Qn M),.un,.un]:=by
  generalize Qn M = TT at e3 ⊢
  simp only [Qd4,Qae,Ql,Qq,Qac,Qe,Qb,Q5,yC1,Qd2,Qbg,Qdo,Qs,yC2,Q2,Qw,List.all_cons,List.all_nil,Bool.and_true,Qaa,Qx,Qak,Q9,e1,Qax,Qm,Qz,L2.Qh,reduceCtorEq,Option.map,if_false,Nat.reduceAdd,Nat.reduceEqDiff,if_true,List.getElem?_cons_zero,Slot.put,Qdn,Qdm,cont,Out.opt,uo1,hn',e2,e3,Qao,Qfw,Qdf,frz,Qah,Qb3,List.length_cons,List.length_nil,Nat.reduceLT,List.set]
 rw [Qaf,w0,Qb1,Qaf,w2,Qb1,Qaf,w1,Qb1]
 generalize (.ite (.not (.call 21 (.cons (.var 7) .nil))) (.ret (.bl false)) .nil:S) = B0 at e7 ⊢
 generalize Qn (abT M) = T2 at e7 ⊢
 have el:Qhz .list [Qn M] = some (.ow (.lst (M.map Qal))):=rfl
 simp only [Qgd,Qmv,Qe2,Ql,Qq,Qac,Qe,Qb,Q5,yC1,Qae,Qs,yC2,Q2,Qw,List.all_nil,Bool.and_true,Qaa,Qx,Qak,Q9,e4,Qax,Qm,Qz,L2.Qh,reduceCtorEq,Option.map,if_false,Nat.reduceAdd,Nat.reduceEqDiff,if_true,List.getElem?_cons_zero,Slot.put,Qbx,yBi,Qbp,Qad,cont,Out.opt,el,Qg7,Qbg,Qno,Qcq,frz,List.length_cons,List.length_nil,z2,Q2i,Q55,Int.reduceNeg,Qmu,Qh9,z6,Qqz,Qk5,Qk4,Qft,Qiu,Qao,Qia,e7,Qds]
open PySem L2
section
variable {P:Program} {w:World} {K:PySem.W.Frag} {mg:Str → Option Value} {base:Heap}
theorem ok_q {x:Str} {st:Stmt} {f:Addr} {fd:FuncData} {N ps:List Str} {k:Nat} {sp:Sp} (F:Fun K x x st f fd) (S:FnScope N ps (Qd st)) (len:∀ vs H Q E,sp vs H Q E → vs.length = ps.length)
  (hbody:∀ (cdv:Value) (A:Around) (outer:List Env) (s:Shared) (H:Hp) (vs:List V) (Q:VK) (E:XK),Room k (A.deeper (PyProof.Rows.envOfC x (Qd st) s.heap.objs.size f cdv)) → sp vs H Q E →
   ∃ t,QB (Qeo (fun _=>true) CX0 P w K mg base N x (Qd st) f cdv A outer s H E).nox (Q0 st) t ∧ t { nx:=fun _ H'=>Q .non H',rt:=Q } (Qa3 N vs) H):FnOk P w K mg base CX0 (k + 1) f fd ps sp :=
 F.ok S len fun cdv A outer s H vs Q E hr hs=>let ⟨t,a,b⟩:=hbody cdv A outer s H vs Q E hr hs; ⟨t,a.h,b⟩
theorem Qyd {h:Heap} {x:Str} {st:Stmt} {f:Addr} {oc:Value} {od an:Option Addr} {osl:Array (Option Value)} {kV doc pm cdv ct:Value} (X:K.In h) (G:h.Ns mainGlobals mg) (a:PySem.W.nsIn K mainGlobals x = some (some (.ref f)))
  (l:K.lookup f = some ⟨oc,od,.func (PySem.W.fnOf x x (Qam st) (Q0 st) (Qd st) .none kV doc pm an cdv ct),osl⟩) (c:PySem.W.codeIn K cdv x = true) (k:PySem.W.keepIn K (.ref f) = true):Dfn K mg x st:=⟨⟨f,_,Qvb l c k,PySem.W.mg_of X G a⟩⟩
theorem Qye {h:Heap} {x:Str} {i:Int} {t:Tok} (X:K.In h) (G:h.Ns mainGlobals mg) (a:PySem.W.nsIn K mainGlobals x = some (some (.int i t))):∃ u,mg x = some u ∧ RelV (.int i) u:=⟨_,PySem.W.mg_of X G a,t,rfl⟩
theorem Q1d {lf:Addr} {lfd:FuncData} (F:Fun K "law" "law" Qjm lf lfd) (s:Shared) (v:Value):BindsTo s lfd ⟨[v],[]⟩ [("_law_script",v)]:=by
 obtain ⟨oc,od,kV,doc,pm,an,cdv,ct,osl,rfl,lk,hcd⟩:=F.ex
 exact .of_eq (Q6d _ _ _ _ _ _ [v] rfl)
theorem Qa6 {xs:List Df} {d:Df} (i:Nat) (h:xs[i]? = some d):d ∈ xs:=List.mem_of_getElem? h
theorem Q6x {l:PySem.W.OpenLaw} {fa:Addr} (hfa:mg "law" = some (.ref fa)) (tx:Txt K mg) (dl:Dfn K mg "law" Qjm) (dc:Dfn K mg "_law_cell" Qd8) (D:∀ d ∈ ds,Dfn K mg d.x d.st) :
  ∃ fd:FuncData,(∀ (s:Shared) (v:Value),BindsTo s fd ⟨[v],[]⟩ [("_law_script",v)]) ∧ ∀ base:Heap,K.In base → base.Ns mainGlobals mg → FnOk l.prog w K mg base CX0 16 fa fd ["_law_script"] (Qqy K):=by
 obtain ⟨f,fd,F,m⟩:=dl.ex
 have e:=hfa.symm.trans m
 cases e
 refine ⟨fd,Q1d F,fun base _ _=>?_⟩
 have A:Q54 (fun d=>DfOk K mg d ∧ Qay l.prog w K mg base ds d) ds:=⟨⟨⟨D _ (Qa6 0 rfl),Qpk,Qpl,rfl,rfl⟩,Qrc tx⟩,⟨⟨D _ (Qa6 1 rfl),Qt6,Qt7,rfl,rfl⟩,Qxz tx⟩,⟨⟨D _ (Qa6 2 rfl),Qq3,Qq4,rfl,rfl⟩,Qua tx⟩,⟨⟨D _ (Qa6 3 rfl),Qeu,Qls,rfl,rfl⟩,Qnz tx⟩,⟨⟨D _ (Qa6 4 rfl),Qlt,Qlu,rfl,rfl⟩,Qn0 tx⟩,⟨⟨D _ (Qa6 5 rfl),Qjk,Qpm,rfl,rfl⟩,Qrd tx⟩,⟨⟨D _ (Qa6 6 rfl),Qlv,Qlw,rfl,rfl⟩,Qn1 tx⟩,⟨⟨D _ (Qa6 7 rfl),Qge,Qlb,rfl,rfl⟩,Ql1 tx⟩,⟨⟨D _ (Qa6 8 rfl),Qd7,Qhj,rfl,rfl⟩,Qif tx⟩,⟨⟨D _ (Qa6 9 rfl),Qbt,Qlx,rfl,rfl⟩,Qn2 tx⟩,⟨⟨D _ (Qa6 10 rfl),Qnq,Qnr,rfl,rfl⟩,Qpu tx⟩,⟨⟨D _ (Qa6 11 rfl),Qq5,Qq6,rfl,rfl⟩,Qub tx⟩,⟨⟨D _ (Qa6 12 rfl),Qlc,Qq7,rfl,rfl⟩,Quc tx⟩,⟨⟨D _ (Qa6 13 rfl),Qdb,Qpp,rfl,rfl⟩,Qre tx⟩,⟨⟨D _ (Qa6 14 rfl),Qns,Qnt,rfl,rfl⟩,Qpv tx⟩,⟨⟨D _ (Qa6 15 rfl),Qld,Qq8,rfl,rfl⟩,Qud tx⟩,⟨⟨D _ (Qa6 16 rfl),Qba,Qnu,rfl,rfl⟩,Qpw tx⟩,⟨⟨D _ (Qa6 17 rfl),Qe3,Qiy,rfl,rfl⟩,Qjq tx⟩,⟨⟨D _ (Qa6 18 rfl),Qfl,Qq9,rfl,rfl⟩,Que tx⟩,⟨⟨D _ (Qa6 19 rfl),Qej,Qid,rfl,rfl⟩,Qi9 tx⟩,⟨⟨D _ (Qa6 20 rfl),Qjl,Qpr,rfl,rfl⟩,Qrf tx⟩,⟨⟨D _ (Qa6 21 rfl),Qdx,Qnv,rfl,rfl⟩,Qpx tx⟩,trivial⟩
 have hc:=Qmq (Qxp A) 14
 refine ok_q (k:=15) F Qgf (fun vs H Q E h=>?_) (fun cdv A outer s H vs Q E hr h=>?_)
 ·obtain ⟨a,ns,rfl,_⟩:=h
  rfl
 ·exact ⟨_,Qaaf tx hc (Qn3 dc tx) hr,Q0t h (by decide) (by decide) Q1a Qyc⟩
end
end My
def PySem.W.Fast.tw15441373933413627308:Unit:=()
def PySem.W.Fast.tw9820951472441186710:Unit:=()
def PySem.W.Fast.tw9598343089449999931:Unit:=()
def PySem.W.Fast.tw13518050095659269397:Unit:=()
def PySem.W.Fast.tw7018897897639240051:Unit:=()
def PySem.W.Fast.tw10754629108567534295:Unit:=()
def PySem.W.Fast.tw10483818694168241216:Unit:=()
def PySem.W.Fast.tw13931556304329027278:Unit:=()
def PySem.W.Fast.tw10919744957675180723:Unit:=()
def PySem.W.Fast.tw1853712685654420197:Unit:=()
def PySem.W.Fast.tw10408148839445154995:Unit:=()
def PySem.W.Fast.tw6980199584825827883:Unit:=()
def PySem.W.Fast.tw7825664400625862405:Unit:=()
def PySem.W.Fast.tw15282218588425955319:Unit:=()
def PySem.W.Fast.tw14059755264083767481:Unit:=()
def PySem.W.Fast.tw7865927031003850455:Unit:=()
def PySem.W.Fast.tw1880018818176757584:Unit:=()
def PySem.W.Fast.tw4630436946535257656:Unit:=()
def PySem.W.Fast.tw3157942719995648005:Unit:=()
def PySem.W.Fast.tw5827562983351695968:Unit:=()
def PySem.W.Fast.tw7732108239804303686:Unit:=()
def PySem.W.Fast.tw11563584367907228142:Unit:=()
def PySem.W.Fast.tw13285871520801484766:Unit:=()
def PySem.W.Fast.tw7900489901849027526:Unit:=()
def PySem.W.Fast.tw553787787346814346:Unit:=()
def PySem.W.Fast.tw1466622075186603004:Unit:=()
def PySem.W.Fast.tw5266598529534037626:Unit:=()
def PySem.W.Fast.tw4832527818301731422:Unit:=()
def PySem.W.Fast.tw6571675941098732608:Unit:=()
def PySem.W.Fast.tw17164159803519602614:Unit:=()
def PySem.W.Fast.tw2596188145935783897:Unit:=()
def PySem.W.Fast.tw13654786287126399879:Unit:=()
def PySem.W.Fast.tw2115775077509396724:Unit:=()
def PySem.W.Fast.tw2142358414142144153:Unit:=()
def PySem.W.Fast.tw8115425324976013201:Unit:=()
def PySem.W.Fast.tw10528936127900287570:Unit:=()
def PySem.W.Fast.tw7135495650116318339:Unit:=()
def PySem.W.Fast.tw537809055950723140:Unit:=()
def PySem.W.Fast.tw3509308108949196379:Unit:=()
def PySem.W.Fast.tw1562870396311079941:Unit:=()
def PySem.W.Fast.tw15006394455080277080:Unit:=()
def PySem.W.Fast.tw6461104730704608342:Unit:=()
def PySem.W.Fast.tw2039889631032152166:Unit:=()
def PySem.W.Fast.tw3642149551037613108:Unit:=()
def PySem.W.Fast.tw13608826818927847773:Unit:=()
def PySem.W.Fast.tw1522534842048820253:Unit:=()
def PySem.W.Fast.tw14880200065221238385:Unit:=()
def PySem.W.Fast.tw12544473997395710629:Unit:=()
def PySem.W.Fast.tw5923557149705216749:Unit:=()
def PySem.W.Fast.tw9399151817247652932:Unit:=()
def PySem.W.Fast.tw14697478103113586828:Unit:=()
def PySem.W.Fast.tw16693160206300359130:Unit:=()
def PySem.W.Fast.tw14738865717015136572:Unit:=()
def PySem.W.Fast.tw174262547432809463:Unit:=()
def PySem.W.Fast.tw10414788633903041204:Unit:=()
def PySem.W.Fast.tw11373941361781934148:Unit:=()
def PySem.W.Fast.tw12310275236148614198:Unit:=()
def PySem.W.Fast.tw6063949482856353503:Unit:=()
def PySem.W.Fast.tw17594064938897109036:Unit:=()
def PySem.W.Fast.tw17858088657948748219:Unit:=()
def PySem.W.Fast.tw7532163026533210237:Unit:=()
def PySem.W.Fast.tw6899039794244412817:Unit:=()
def PySem.W.Fast.tw16386930685605188424:Unit:=()
def PySem.W.Fast.tw7056624561379097646:Unit:=()
def PySem.W.Fast.tw9374673390619563117:Unit:=()
def PySem.W.Fast.tw10188877211537370119:Unit:=()
def PySem.W.Fast.tw3777413532072114042:Unit:=()
def PySem.W.Fast.tw15756432300885907399:Unit:=()
def PySem.W.Fast.tw1935192333876741029:Unit:=()
def PySem.W.Fast.tw17938018331719215890:Unit:=()
def PySem.W.Fast.tw6832445512594982790:Unit:=()
def PySem.W.Fast.tw15588815214089125420:Unit:=()
def PySem.W.Fast.tw3152850940997876958:Unit:=()
def PySem.W.Fast.tw2443574400135884893:Unit:=()
def PySem.W.Fast.tw11492475245870386097:Unit:=()
def PySem.W.Fast.tw17377695579763768303:Unit:=()
def PySem.W.Fast.tw8542275191916772334:Unit:=()
def PySem.W.Fast.tw7816436229496699591:Unit:=()
def PySem.W.Fast.tw12869654288429200796:Unit:=()
def PySem.W.Fast.tw3145877651199867045:Unit:=()
def PySem.W.Fast.tw15972593905277579188:Unit:=()
def PySem.W.Fast.tw1652333954665020601:Unit:=()
def PySem.W.Fast.tw15244740280389069671:Unit:=()
def PySem.W.Fast.tw13554306943924637826:Unit:=()
def PySem.W.Fast.tw15041515877353253241:Unit:=()
def PySem.W.Fast.tw11288156898393866459:Unit:=()
def PySem.W.Fast.tw3655171089600447603:Unit:=()
def PySem.W.Fast.tw14793676472097400531:Unit:=()
def PySem.W.Fast.tw14128525007501179730:Unit:=()
def PySem.W.Fast.tw9664798205586948031:Unit:=()
def PySem.W.Fast.tw10395070460285367113:Unit:=()
def PySem.W.Fast.tw12923806004484652122:Unit:=()
def PySem.W.Fast.tw18062218616769603150:Unit:=()
def PySem.W.Fast.tw4998227333801376153:Unit:=()
def PySem.W.Fast.tw434126641170480805:Unit:=()
def PySem.W.Fast.tw16819846334862252686:Unit:=()
def PySem.W.Fast.tw6147039946886729435:Unit:=()
def PySem.W.Fast.tw589868652607247022:Unit:=()
def PySem.W.Fast.tw9732825988361698727:Unit:=()
def PySem.W.Fast.tw2471713842440448932:Unit:=()
def PySem.W.Fast.tw4369490583293031906:Unit:=()
def PySem.W.Fast.tw508289773731106970:Unit:=()
def PySem.W.Fast.tw12979447461655209141:Unit:=()
def PySem.W.Fast.tw5323564855634775254:Unit:=()
def PySem.W.Fast.tw2989038357322818173:Unit:=()
def PySem.W.Fast.tw2465668779730936394:Unit:=()
def PySem.W.Fast.tw1895172359971756261:Unit:=()
def PySem.W.Fast.tw10233670353172723624:Unit:=()
def PySem.W.Fast.tw12013262067453068930:Unit:=()
def PySem.W.Fast.tw13825214917816928967:Unit:=()
def PySem.W.Fast.tw3022388192930617050:Unit:=()
def PySem.W.Fast.tw4831458878679177075:Unit:=()
def PySem.W.Fast.tw9381213195390559545:Unit:=()
def PySem.W.Fast.tw3001632048854339396:Unit:=()
def PySem.W.Fast.tw8283181092322664233:Unit:=()
def PySem.W.Fast.tw3646156935079103150:Unit:=()
def PySem.W.Fast.tw5116075121525198398:Unit:=()
def PySem.W.Fast.tw13626892348259742395:Unit:=()
def PySem.W.Fast.tw9571323800374761684:Unit:=()
def PySem.W.Fast.tw5440892556018495077:Unit:=()
def PySem.W.Fast.tw1645448334490088910:Unit:=()
def PySem.W.Fast.tw241653154968983229:Unit:=()
def PySem.W.Fast.tw2633981333667621923:Unit:=()
def PySem.W.Fast.tw17160909668366211572:Unit:=()
def PySem.W.Fast.tw14499753126526498530:Unit:=()
def PySem.W.Fast.tw1549420271422448915:Unit:=()
def PySem.W.Fast.tw4433330333328110489:Unit:=()
def PySem.W.Fast.tw10401597698333628404:Unit:=()
def PySem.W.Fast.tw10068634907376305404:Unit:=()
def PySem.W.Fast.tw13616316957975667104:Unit:=()
def PySem.W.Fast.tw14347717281109910789:Unit:=()
def PySem.W.Fast.tw1349834014976740833:Unit:=()
def PySem.W.Fast.tw9230332718989801277:Unit:=()
def PySem.W.Fast.tw10048017489935638235:Unit:=()
def PySem.W.Fast.tw16840138940571443836:Unit:=()
def PySem.W.Fast.tw425226623596635137:Unit:=()
def PySem.W.Fast.tw12212083113934657383:Unit:=()
def PySem.W.Fast.tw4003592865152416045:Unit:=()
def PySem.W.Fast.tw7985617400533746447:Unit:=()
def PySem.W.Fast.tw11829644785496015037:Unit:=()
def PySem.W.Fast.tw2544962255112695245:Unit:=()
def PySem.W.Fast.tw18385459325960390587:Unit:=()
def PySem.W.Fast.tw16901960995320585963:Unit:=()
def PySem.W.Fast.tw1434272451812174579:Unit:=()
def PySem.W.Fast.tw3621069983945765138:Unit:=()
def PySem.W.Fast.tw10699646436887642417:Unit:=()
def PySem.W.Fast.tw7032743563236983747:Unit:=()
def PySem.W.Fast.tw14806130626090412599:Unit:=()
def PySem.W.Fast.tw13905968849436596593:Unit:=()
def PySem.W.Fast.tw2201628261466046555:Unit:=()
def PySem.W.Fast.tw12309227405812439067:Unit:=()
def PySem.W.Fast.tw12672933551635349587:Unit:=()
def PySem.W.Fast.tw7839108834619019635:Unit:=()
def PySem.W.Fast.tw11949299605278923456:Unit:=()
def PySem.W.Fast.tw8614774663836645293:Unit:=()
def PySem.W.Fast.tw4104244631123605359:Unit:=()
def PySem.W.Fast.tw15955925182053583055:Unit:=()
def PySem.W.Fast.tw11709651232273676273:Unit:=()
def PySem.W.Fast.tw16878543084919328325:Unit:=()
def PySem.W.Fast.tw11078707485392565276:Unit:=()
def PySem.W.Fast.tw14171767072366113125:Unit:=()
def PySem.W.Fast.tw1904572907209464396:Unit:=()
def PySem.W.Fast.tw16589571699015379324:Unit:=()
def PySem.W.Fast.tw8557381817248819841:Unit:=()
def PySem.W.Fast.tw8865337858459510739:Unit:=()
def PySem.W.Fast.tw5587074870242160945:Unit:=()
def PySem.W.Fast.tw1664478870551290992:Unit:=()
def PySem.W.Fast.tw8117826781440131593:Unit:=()
def PySem.W.Fast.tw11947503015390027731:Unit:=()
def PySem.W.Fast.tw6117846640529931283:Unit:=()
def PySem.W.Fast.tw5529594530164141672:Unit:=()
def PySem.W.Fast.tw13720679025950058712:Unit:=()
def PySem.W.Fast.tw14947830603456838476:Unit:=()
def PySem.W.Fast.tw14123153039765216601:Unit:=()
def PySem.W.Fast.tw15940910402854905608:Unit:=()
def PySem.W.Fast.tw13051730262799899569:Unit:=()
def PySem.W.Fast.tw12417014678540505432:Unit:=()
def PySem.W.Fast.tw18058207219357131651:Unit:=()
def PySem.W.Fast.tw7769533730539348332:Unit:=()
def PySem.W.Fast.tw5307318685507306975:Unit:=()
def PySem.W.Fast.tw8101750356344339840:Unit:=()
def PySem.W.Fast.tw17242840422563188910:Unit:=()
def PySem.W.Fast.tw10963055125468886835:Unit:=()
def PySem.W.Fast.tw15421946592823082198:Unit:=()
def PySem.W.Fast.tw3000293572608881558:Unit:=()
def PySem.W.Fast.tw4535590511761282019:Unit:=()
def PySem.W.Fast.tw9527299370049848023:Unit:=()
def PySem.W.Fast.tw18287121049812343407:Unit:=()
def PySem.W.Fast.tw15172915403430271279:Unit:=()
def PySem.W.Fast.tw4617239193141525247:Unit:=()
def PySem.W.Fast.tw4728578263259003157:Unit:=()
def PySem.W.Fast.tw5463496282694730960:Unit:=()
def PySem.W.Fast.tw16710515652424502941:Unit:=()
def PySem.W.Fast.tw13001176267037969952:Unit:=()
def PySem.W.Fast.tw5705028874934792240:Unit:=()
def PySem.W.Fast.tw4248131796570679173:Unit:=()
def PySem.W.Fast.tw16946387114522673320:Unit:=()
def PySem.W.Fast.tw16237584342758127091:Unit:=()
def PySem.W.Fast.tw6059519514687164806:Unit:=()
def PySem.W.Fast.tw6470243084106020135:Unit:=()
def PySem.W.Fast.tw5969060286710721743:Unit:=()
def PySem.W.Fast.tw10841814527843085577:Unit:=()
def PySem.W.Fast.tw12384384184268831926:Unit:=()
def PySem.W.Fast.tw9168294539441385196:Unit:=()
def PySem.W.Fast.tw5094473193271218699:Unit:=()
def PySem.W.Fast.tw15412493336386727551:Unit:=()
def PySem.W.Fast.tw18330864402314279813:Unit:=()
def PySem.W.Fast.tw10488726618256262308:Unit:=()
def PySem.W.Fast.tw11764568632458387050:Unit:=()
open PySem PySem.W PyProof.Rows
set_option maxRecDepth 100000 in
set_option maxHeartbeats 0 in
theorem PySem.Challenge.cw_noughtways_k66_all_marks_holds : PySem.Challenge.rw_noughtways_k66_all_marks.Holds := by
 w_on; o_law; k_head; (case hw=>w_witness2)
 k_fill
 refine L2.Qva (l:=PySem.Challenge.rw_noughtways_k66_all_marks) (n:=63) (k:=16) (x := "_law_script") (CX:=L2.CX0) (sp:=L2.Qqy) rfl (by decide) rfl ⟨rfl,by decide,by decide,rfl⟩ (fun w h Y=>PySem.W.kIn_of Y) ?F ?S ?C ?T
 case F =>
  intro w mg fa h KX G hmg
  have ⟨d0,d1,d2,d3,d4,d5,d6,d7,d8,d9,d10,d11,d12,d13,d14,d15,d16,d17,d18,d19,d20,d21,d22,d23⟩:L2.Dfn (L2.KOf KX) mg "law" My.Qjm ∧ L2.Dfn (L2.KOf KX) mg "_law_cell" My.Qd8 ∧ L2.Dfn (L2.KOf KX) mg "is_whole" My.Qfi ∧ L2.Dfn (L2.KOf KX) mg "is_row" My.Qic ∧ L2.Dfn (L2.KOf KX) mg "is_grid" My.Qgp ∧ L2.Dfn (L2.KOf KX) mg "numbers_of" My.Qdt ∧ L2.Dfn (L2.KOf KX) mg "is_bounded" My.Qdu ∧ L2.Dfn (L2.KOf KX) mg "wrong_at" My.Qfj ∧ L2.Dfn (L2.KOf KX) mg "need_table" My.Qdv ∧ L2.Dfn (L2.KOf KX) mg "need_tables" My.Qc6 ∧ L2.Dfn (L2.KOf KX) mg "need_none_below" My.Qbz ∧ L2.Dfn (L2.KOf KX) mg "all_tuples" My.Qdw ∧ L2.Dfn (L2.KOf KX) mg "all_marks" My.Qeh ∧ L2.Dfn (L2.KOf KX) mg "mark_of" My.Qgq ∧ L2.Dfn (L2.KOf KX) mg "_law_pen" My.Qgr ∧ L2.Dfn (L2.KOf KX) mg "_law_draw" My.Qfk ∧ L2.Dfn (L2.KOf KX) mg "_law_whole" My.Qdc ∧ L2.Dfn (L2.KOf KX) mg "_law_odd" My.Qgs ∧ L2.Dfn (L2.KOf KX) mg "_law_table" My.Qei ∧ L2.Dfn (L2.KOf KX) mg "_law_is_square" My.Qcg ∧ L2.Dfn (L2.KOf KX) mg "_law_all" My.Qgt ∧ L2.Dfn (L2.KOf KX) mg "_law_tables_are" My.Qb8 ∧ L2.Dfn (L2.KOf KX) mg "_law_said" My.Qfm ∧ L2.Dfn (L2.KOf KX) mg "_law_right" My.Qek:=by
   refine ⟨?_,?_,?_,?_,?_,?_,?_,?_,?_,?_,?_,?_,?_,?_,?_,?_,?_,?_,?_,?_,?_,?_,?_,?_⟩ <;> (dsimp only [L2.KOf]; refine' My.Qyd KX G ?a ?l ?c ?k; (case a=>k_is); (case l=>k_is); (case c=>k_is); (case k=>k_is))
  have ⟨z0,z1,z2,z3,z4,z5,z6,z7,z8,z9,z10,z11,z12,z13⟩:mg "ValueError" = none ∧ mg "abs" = none ∧ mg "all" = none ∧ mg "any" = none ∧ mg "bool" = none ∧ mg "divmod" = none ∧ mg "int" = none ∧ mg "isinstance" = none ∧ mg "len" = none ∧ mg "list" = none ∧ mg "max" = none ∧ mg "min" = none ∧ mg "range" = none ∧ mg "tuple" = none:=by
   refine ⟨?_,?_,?_,?_,?_,?_,?_,?_,?_,?_,?_,?_,?_,?_⟩ <;> (refine PySem.W.mg_none_of KX G ?_; (try dsimp only [L2.KOf]); k_is)
  have y0:∃ u,mg "MOST_ROWS" = some u ∧ L2.RelV (L2.V.int (4)) u:=by
   refine' My.Qye (K:=L2.KOf KX) KX G ?a
   (case a=>(try dsimp only [L2.KOf]); k_is)
  have y1:∃ u,mg "MOST_TABLES" = some u ∧ L2.RelV (L2.V.int (4)) u:=by
   refine' My.Qye (K:=L2.KOf KX) KX G ?a
   (case a=>(try dsimp only [L2.KOf]); k_is)
  have zx:L2.Exs (L2.KOf KX) mg:=by
   dsimp only [L2.KOf]
   refine' L2.Q4v KX G ?e0 ?e1 ?e2 ?e3 ?e4 ?e5 ?e6 ?e7 ?e8 ?e9 ?e10 ?ok
   (case e0=>k_is); (case e1=>k_is); (case e2=>k_is); (case e3=>k_is); (case e4=>k_is); (case e5=>k_is); (case e6=>k_is); (case e7=>k_is); (case e8=>k_is); (case e9=>k_is); (case e10=>k_is)
   (case ok=>kernel_rfl)
  have zi_Below:L2.Ini (L2.KOf KX) (L2.cad mg "NoughtError") (L2.cad mg "Below"):=by
   dsimp only [L2.KOf]
   refine' L2.Qwl (st:=My.Qcu) (x := "Below") KX G ?e0 ?e1 ?lc ?fi ?l ?c ?k My.Qlz (by rfl) (by rfl) My.Ql0 (by rfl) ?ok
   (case e0=>k_is); (case e1=>k_is); (case lc=>k_is); (case fi=>(dsimp only; k_is)); (case l=>k_is); (case c=>k_is); (case k=>k_is)
   (case ok=>kernel_rfl)
  have zi_NoTables:L2.Ini (L2.KOf KX) (L2.cad mg "NoughtError") (L2.cad mg "NoTables"):=by
   dsimp only [L2.KOf]
   refine' L2.Qwl (st:=My.Qbs) (x := "NoTables") KX G ?e0 ?e1 ?lc ?fi ?l ?c ?k My.Qi0 (by rfl) (by rfl) My.Qi1 (by rfl) ?ok
   (case e0=>k_is); (case e1=>k_is); (case lc=>k_is); (case fi=>(dsimp only; k_is)); (case l=>k_is); (case c=>k_is); (case k=>k_is)
   (case ok=>kernel_rfl)
  have dk:L2.Dfn (L2.KOf KX) mg "_law_kind" My.Qd9:=by
   dsimp only [L2.KOf]
   refine' My.Qyd KX G ?a ?l ?c ?k
   (case a=>k_is); (case l=>k_is); (case c=>k_is); (case k=>k_is)
  have tx:My.Txt (L2.KOf KX) mg:=⟨z0,z1,z2,z3,z4,z5,z6,z7,z8,z9,z10,z11,z12,z13,y0,y1,zx,zi_Below,zi_NoTables,dk,d16⟩
  refine My.Q6x hmg tx d0 d1 fun d hd=>?_
  simp only [My.ds,List.mem_cons,List.not_mem_nil,or_false] at hd
  rcases hd with rfl | rfl | rfl | rfl | rfl | rfl | rfl | rfl | rfl | rfl | rfl | rfl | rfl | rfl | rfl | rfl | rfl | rfl | rfl | rfl | rfl | rfl
  ·exact d2
  ·exact d3
  ·exact d4
  ·exact d5
  ·exact d6
  ·exact d7
  ·exact d8
  ·exact d9
  ·exact d10
  ·exact d11
  ·exact d12
  ·exact d13
  ·exact d14
  ·exact d15
  ·exact d16
  ·exact d17
  ·exact d18
  ·exact d19
  ·exact d20
  ·exact d21
  ·exact d22
  ·exact d23
 case S=>exact fun K H a ns hl _ hS=>⟨a,ns,rfl,hS,hl,fun _=>rfl⟩
 case C=>exact fun _ _ _ _ z=>z
 case T=>exact fun w a q=>L2.Qaac (by first | kernel_rfl | exact rfl | decide) a q
