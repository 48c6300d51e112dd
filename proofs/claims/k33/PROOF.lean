import PyProof.Rows.All
import Wide.All
import OpenK.AllK
import Wide.FinOn
import PyProof.DictFindH
import PyProof.DictRoadsH
import Lean
import PyProof.EqAt
import PyProof.EqKinds
import PyProof.TupleCall
import PyProof.NeKinds
import PyProof.ListRange
import PyProof.TupleOfSeq
import KE.KSortTup
import PyProof.TupleKey
import PyProof.Rows.SetFrom
import PyProof.SetRoads
import KE.KDictList
import KE.KDictOf
import PyProof.AttrMiss
import PyProof.IsiH_list
import PyProof.AutoListH
import PySem.Challenge.RW_noughtways_k33_lines_lost_and_made
set_option Elab.async false
set_option linter.all false
set_option maxRecDepth 100000
namespace L2
open PySem
section
variable {prog:Program} {w:World} {K:Type} [DecidableEq K] {knd:HeapKind prog w K} {A:Around} {E:Value→Shared→Prop} {s:Shared}
end
open PySem PySem.Spec PyProof.Rows
noncomputable abbrev Key:=Sum Int Str
noncomputable def Q3f:Key→Value→Bool
 | .inl k,v=>Value.isInt k v
 | .inr x,v=>Value.isStrOf x v
noncomputable def keyH (w:World):Key→Int
 | .inl k=>hashInt k
 | .inr x=>hashStr w x
theorem Qbs:∀ {k:Key} {v:Value},Q3f k v=true→(∃ i t,k=Sum.inl i∧v=Value.int i t)∨(∃ x t,k=Sum.inr x∧v=Value.str x t)
 | .inl i,v,h=>by
  obtain ⟨t,e⟩:=Value.isInt_shape (k:=i) (v:=v) h
  exact .inl ⟨i,t,rfl,e⟩
 | .inr x,v,h=>by
  obtain ⟨t,e⟩:=Value.isStrOf_shape (x:=x) (v:=v) h
  exact .inr ⟨x,t,rfl,e⟩
theorem Q4r (a b:Int):decide ((Sum.inl a:Key)=Sum.inl b)=(a==b):=by
 by_cases e:a=b
 ·subst e;simp
 ·have h:¬ (Sum.inl a:Key)=Sum.inl b:=fun q=>e (Sum.inl.inj q)
  rw [decide_eq_false h]
  exact (beq_eq_false_iff_ne.mpr e).symm
theorem Q4s (a b:Str):decide ((Sum.inr a:Key)=Sum.inr b)=decide (a=b):=by
 by_cases e:a=b
 ·subst e;simp
 ·have h:¬ (Sum.inr a:Key)=Sum.inr b:=fun q=>e (Sum.inr.inj q)
  rw [decide_eq_false h,decide_eq_false e]
theorem Q4t (a:Int) (b:Str):decide ((Sum.inl a:Key)=Sum.inr b)=false:=decide_eq_false (fun q=>nomatch q)
theorem Q4u (a:Str) (b:Int):decide ((Sum.inr a:Key)=Sum.inl b)=false:=decide_eq_false (fun q=>nomatch q)
noncomputable def Qs9 (prog:Program) (w:World):PySem.KeyKind prog w Key where
 is:=Q3f
 hash:=keyH w
 inj:=fun v a b ha hb=>by
  rcases Qbs ha with ⟨i,t,rfl,rfl⟩ | ⟨x,t,rfl,rfl⟩
  ·rcases Qbs hb with ⟨j,u,rfl,e⟩ | ⟨y,u,rfl,e⟩
   ·injection e with e1 _;rw [e1]
   ·exact nomatch e
  ·rcases Qbs hb with ⟨j,u,rfl,e⟩ | ⟨y,u,rfl,e⟩
   ·exact nomatch e
   ·injection e with e1 _;rw [e1]
 byValue:=fun k v h=>by
  rcases Qbs h with ⟨i,t,rfl,rfl⟩ | ⟨x,t,rfl,rfl⟩ <;> rfl
 pyHash:=fun hv h=>by
  rcases Qbs hv with ⟨i,t,rfl,rfl⟩ | ⟨x,t,rfl,rfl⟩
  ·exact wpAny_pyHash_int h
  ·exact wpAny_pyHash_str h
 eqBool:=fun hu hv h=>by
  rcases Qbs hu with ⟨i,t,rfl,rfl⟩ | ⟨x,t,rfl,rfl⟩
  ·rcases Qbs hv with ⟨j,u,rfl,rfl⟩ | ⟨y,u,rfl,rfl⟩
   ·rw [Q4r] at h;exact wpAny_eqBool_int h
   ·rw [Q4t] at h;exact SeqAt.EqAt.int_str i t y u _ _ _ _ h
  ·rcases Qbs hv with ⟨j,u,rfl,rfl⟩ | ⟨y,u,rfl,rfl⟩
   ·rw [Q4u] at h;exact SeqAt.EqAt.str_int x t j u _ _ _ _ h
   ·rw [Q4s] at h;exact wpAny_eqBool_str h
 «strs»:=fun k x t v h=>by
  rcases Qbs h with ⟨i,u,rfl,e⟩ | ⟨y,u,rfl,e⟩
  ·exact nomatch e
  ·injection e with e1 _
   subst e1
   cases v <;> rfl
inductive V where
 | non | bl (b:Bool) | int (i:Int) | str (x:Str) | byt (b:Array UInt8) | flt (b:UInt64) | ref (a:Addr) | ty (n:String)
 deriving DecidableEq
noncomputable def RelV:V→Value→Prop
 | .non,u=>u=Value.none
 | .bl b,u=>u=Value.bool b
 | .int i,u=>∃ t,u=Value.int i t
 | .str x,u=>∃ t,u=Value.str x t
 | .byt b,u=>∃ t,u=Value.bytes b t
 | .flt b,u=>∃ t,u=Value.float b t
 | .ref a,u=>u=Value.ref a
 | .ty n,u=>u=Value.type n
noncomputable abbrev Vals:List V→List Value→Prop:=Paired RelV
theorem Vals.length {xs:List V} {us:List Value} (r:Vals xs us):xs.length=us.length:=Paired.length r
theorem Vals.get:∀ {xs:List V} {us:List Value} {i:Nat} {x:V},Vals xs us→xs[i]?=some x→∃ u,us[i]?=some u∧RelV x u
 | _,_,_,_,.nil,e=>by simp at e
 | _,_,0,_,.cons r _,e=>by simp at e;subst e;exact ⟨_,rfl,r⟩
 | _,_,i+1,x,.cons _ t,e=>by
  obtain ⟨u,h1,h2⟩:=Vals.get (i:=i) (x:=x) t (by simpa using e)
  exact ⟨u,by simpa using h1,h2⟩
theorem Vals.set {x:V} {u:Value} (r:RelV x u):∀ {xs:List V} {us:List Value} (i:Nat),Vals xs us→Vals (xs.set i x) (us.set i u)
 | _,_,_,.nil=>.nil
 | _,_,0,.cons _ t=>.cons r t
 | _,_,i+1,.cons q t=>.cons q (Vals.set r i t)
theorem Vals.append:∀ {xs ys:List V} {us ws:List Value},Vals xs us→Vals ys ws→Vals (xs++ys) (us++ws)
 | _,_,_,_,.nil,s=>s
 | _,_,_,_,.cons r t,s=>.cons r (Vals.append t s)
theorem Vals.take:∀ {xs:List V} {us:List Value} (n:Nat),Vals xs us→Vals (xs.take n) (us.take n)
 | _,_,0,_=>.nil
 | _,_,_+1,.nil=>.nil
 | _,_,n+1,.cons r t=>.cons r (Vals.take n t)
theorem Vals.drop:∀ {xs:List V} {us:List Value} (n:Nat),Vals xs us→Vals (xs.drop n) (us.drop n)
 | _,_,0,r=>r
 | _,_,_+1,.nil=>.nil
 | _,_,n+1,.cons _ t=>Vals.drop n t
noncomputable def RelO:Option V→Option Value→Prop
 | some v,some u=>RelV v u
 | none,none=>True
 | _,_=>False
noncomputable def KV {κ:Type}:List (κ×V)→List (κ×Value)→Prop:=Paired fun (p:κ×V) (q:κ×Value)=>p.1=q.1∧RelV p.2 q.2
noncomputable def kV:Key→V
 | .inl i=>.int i
 | .inr x=>.str x
inductive HO where
  | lst (xs:List V)
  | tup (xs:List V)
  | dK (kvs:List (Key×V)) | dT (kvs:List (List Key×V))
  | set (S:Int→Bool) (n:Nat)
  | ins (C dx:Addr) (fs:List (Str×V))
  | own (x:Addr)
  | xd (fs:List (Str×V))
  | met (f x:Addr)
  | rng (lo hi:Int)
  | frz (o:Obj) (u:HO)
  | tbl (q:Str)
 | cod (q:Str)
  | ext (φ:Heap→Prop)
noncomputable abbrev Hp:=Addr→Option HO
noncomputable def upd (H:Hp) (a:Addr) (o:HO):Hp:=fun b=>if b=a then some o else H b
theorem Qp {H:Hp} {a:Addr} {o:HO}:upd H a o a=some o:=by unfold upd;rw [if_pos rfl]
theorem Qz {H:Hp} {a b:Addr} {o:HO} (h:b≠a):upd H a o b=H b:=by unfold upd;rw [if_neg h]
theorem Qbw {H:Hp} {a b:Addr} {o:HO} (h:H a=some o) (h':H b=none):a≠b:=by
 intro e;subst e;rw [h] at h';cases h'
noncomputable def IsTupD (h:Heap) (a:Addr) (its:Array Value):Prop:=∃ o,h.get? a=some o∧o.cls=.type "tuple" ∧ ∃ n,o.data=.seq its n∧o.dict=none
theorem IsTupD.tup {h:Heap} {a:Addr} {its:Array Value} (x:IsTupD h a its):IsTup h a its:=let ⟨o,e,c,n,d,_⟩:=x;⟨o,e,c,n,d⟩
theorem IsTupD.new (h:Heap) (its:Array Value):IsTupD (h.push { cls:=.type "tuple",data:=.seq its }) h.objs.size its:=⟨_,Heap.get?_push_size _ rfl,rfl,_,rfl,rfl⟩
section
variable (P:Program) (w:World)
noncomputable def ObjOk (H:Hp) (h:Heap) (a:Addr):HO→Prop
 | .lst xs=>xs.length≤sizeLine∧∃ (its:List Value) (n:Nat),Vals xs its∧h.get? a=some { cls:=.type "list",data:=.seq its.toArray n }
 | .tup xs=>xs.length≤sizeLine∧∃ its:List Value,Vals xs its∧IsTupD h a its.toArray
 | .dK kvs=>kvs.length≤sizeLine∧(a==sysModules)=false∧∃ vs,KV kvs vs∧h.DictOf (Qs9 P w) a vs
 | .dT kvs=>kvs.length≤sizeLine∧(a==sysModules)=false∧∃ xs:List (List Key×Addr×Value),
   Paired (fun (p:List Key×V) (q:List Key×Addr×Value)=>p.1=q.1∧H q.2.1=some (.tup (p.1.map kV))∧RelV p.2 q.2.2) kvs xs ∧
   ∃ o es ep,h.get? a=some o∧o.ExactDict∧o.data=.dict es ep∧es.toList=xs.map (entryOfKey (tupleKind (Qs9 P w)))∧(xs.map (·.1)).Nodup∧ep=es.size
 | .set S n=>h.SetOf (intKind P w) a S n
 | .ins C dx fs=>H dx=some (.own a)∧fs.length≤1000∧dx≠a∧h.get? a=some (PySem.W.instObj C dx) ∧
   ∃ mA,h.Ns1 dx mA∧(∀ f,RelO (fs.lookup f) (mA f))∧PySem.Within mA (fs.map (·.1))
 | .own _=>∃ o,h.get? a=some o
 | .xd fs=>∃ mA,h.Ns1 a mA∧∀ f,RelO (fs.lookup f) (mA f)
 | .rng lo hi=>∃ t u v,h.get? a=some { cls:=.type "range",data:=.fields #[.int lo t,.int hi u,.int 1 v] }
 | .frz o u=>h.get? a=some o∧ObjOk H h a u
 | .tbl q=>∃ ps:Array Value,h.get? a=some { cls:=.none,data:=.fields ps }∧TriplesOk ps.toList∧∀ pos cv,codeAmong pos ps.toList=some cv→∃ c,cv=.ref c∧H c=some (.cod q)
 | .cod q=>h.CodeRec (.ref a) q
 | .met f x=>h.get? a=some (PySem.W.methodObj (.ref f) (.ref x))
 | .ext φ=>φ h∧(∃ o,h.get? a=some o)∧∀ h1 h2:Heap,φ h1→(∀ o,h1.get? a=some o→h2.get? a=some o)→φ h2
noncomputable def HOk (H:Hp) (h:Heap):Prop:=∀ a o,H a=some o→ObjOk P w H h a o
end
section
variable {P:Program} {w:World} {H H':Hp} {h h':Heap} {a:Addr} {o:HO}
theorem ObjOk.lt (x:ObjOk P w H h a o):a<h.objs.size:=by
 cases o with
 | lst xs=>obtain ⟨_,_,_,_,e⟩:=x;exact Heap.lt_size e
 | tup xs=>obtain ⟨_,_,_,p⟩:=x;exact p.tup.lt
 | dK kvs=>obtain ⟨_,_,_,_,o,_,_,e,_⟩:=x;exact Heap.lt_size e
 | dT kvs=>obtain ⟨_,_,_,_,o,_,_,e,_⟩:=x;exact Heap.lt_size e
 | set S n=>obtain ⟨o,_,_,_,e,_⟩:=x;exact Heap.lt_size e
 | ins C dx fs=>obtain ⟨_,_,_,e,_⟩:=x;exact Heap.lt_size e
 | own y=>obtain ⟨_,e⟩:=x;exact Heap.lt_size e
 | xd fs=>obtain ⟨_,⟨_,_,_,e,_⟩,_⟩:=x;exact Heap.lt_size e
 | rng lo hi=>obtain ⟨_,_,_,e⟩:=x;exact Heap.lt_size e
 | frz ob u=>obtain ⟨e,_⟩:=x;exact Heap.lt_size e
 | tbl q=>obtain ⟨_,e,_⟩:=x;exact Heap.lt_size e
 | cod q=>obtain ⟨_,_,_,_,e,e1,_⟩:=x;cases e;exact Heap.lt_size e1
 | met f y=>exact Heap.lt_size (show h.get? a=some _ from x)
 | ext φ=>obtain ⟨_,⟨_,e⟩,_⟩:=x;exact Heap.lt_size e
theorem Paired.mapP {α β:Type} {F G:α→β→Prop}:∀ {l₁:List α} {l₂:List β},Paired F l₁ l₂→(∀ a b,F a b→G a b)→Paired G l₁ l₂
 | _,_,.nil,_=>.nil
 | _,_,.cons r t,f=>.cons (f _ _ r) (Paired.mapP t f)
theorem ObjOk.stay (x:ObjOk P w H h a o) (k:∀ b u,(b=a∨H b=some (.own a))→h.get? b=some u→h'.get? b=some u)
  (ho:∀ b,H b=some (.own a)→H' b=some (.own a)) (ht:∀ b xs,H b=some (.tup xs)→H' b=some (.tup xs)) (hcod:∀ b q,H b=some (.cod q)→H' b=some (.cod q):=by exact fun _ _ q=>q):ObjOk P w H' h' a o:=by
 induction o with
 | lst xs=>obtain ⟨z,its,n,r,e⟩:=x;exact ⟨z,its,n,r,k _ _ (.inl rfl) e⟩
 | tup xs=>obtain ⟨z,its,r,ob,e,c⟩:=x;exact ⟨z,its,r,ob,k _ _ (.inl rfl) e,c⟩
 | dK kvs=>obtain ⟨z,y,vs,r,ob,es,ep,e,c⟩:=x;exact ⟨z,y,vs,r,ob,es,ep,k _ _ (.inl rfl) e,c⟩
 | dT kvs =>
  obtain ⟨z,y,xs,r,ob,es,ep,e,c⟩:=x
  exact ⟨z,y,xs,Paired.mapP r fun p q z=>⟨z.1,ht _ _ z.2.1,z.2.2⟩,ob,es,ep,k _ _ (.inl rfl) e,c⟩
 | set S n=>obtain ⟨ob,es,ep,t,e,c⟩:=x;exact ⟨ob,es,ep,t,k _ _ (.inl rfl) e,c⟩
 | ins C dx fs =>
  obtain ⟨d,z,ne,e,mA,⟨od,es,ep,e2,c⟩,r⟩:=x
  exact ⟨ho _ d,z,ne,k _ _ (.inl rfl) e,mA,⟨od,es,ep,k _ _ (.inr d) e2,c⟩,r⟩
 | own y=>obtain ⟨ob,e⟩:=x;exact ⟨ob,k _ _ (.inl rfl) e⟩
 | xd fs=>obtain ⟨mA,⟨od,es,ep,e,c⟩,r⟩:=x;exact ⟨mA,⟨od,es,ep,k _ _ (.inl rfl) e,c⟩,r⟩
 | rng lo hi=>obtain ⟨t,u,v,e⟩:=x;exact ⟨t,u,v,k _ _ (.inl rfl) e⟩
 | frz ob u ih=>obtain ⟨e,q⟩:=x;exact ⟨k _ _ (.inl rfl) e,ih q⟩
 | tbl q =>
  obtain ⟨ps,e,tr,al⟩:=x
  refine ⟨ps,k _ _ (.inl rfl) e,tr,fun pos cv hc=>?_⟩
  obtain ⟨c,ec,hH⟩:=al pos cv hc
  exact ⟨c,ec,hcod _ _ hH⟩
 | cod q =>
  obtain ⟨c,o,vs,t,e,e1,r⟩:=x
  cases e
  exact ⟨_,o,vs,t,rfl,k _ _ (.inl rfl) e1,r⟩
 | met f y =>
  have e:h.get? a=some (PySem.W.methodObj (.ref f) (.ref y)):=x
  show h'.get? a=some (PySem.W.methodObj (.ref f) (.ref y))
  exact k a _ (.inl rfl) e
 | ext φ=>obtain ⟨p,⟨o,e⟩,st⟩:=x;exact ⟨st _ _ p fun o q=>k _ _ (.inl rfl) q,⟨o,k _ _ (.inl rfl) e⟩,st⟩
theorem HOk.lt (x:HOk P w H h) (e:H a=some o):a<h.objs.size:=(x a o e).lt
theorem HOk.fresh (x:HOk P w H h) (e:h.objs.size≤a):H a=none:=by
 cases q:H a with
 | none=>rfl
 | some u=>exact absurd (Nat.lt_of_lt_of_le (x.lt q) e) (Nat.lt_irrefl _)
theorem HOk.kept (x:HOk P w H h) (k:∀ b u,h.get? b=some u→h'.get? b=some u):HOk P w H h':=fun a o e =>
 (x a o e).stay (fun b u _ q=>k b u q) (fun _ q=>q) fun _ _ q=>q
theorem HOk.laid (x:HOk P w H h) (k:∀ b u,h.get? b=some u→h'.get? b=some u) (hp:h.objs.size≤a) (new:ObjOk P w (upd H a o) h' a o):HOk P w (upd H a o) h':=fun b u e=>by
 have hn:=x.fresh hp
 by_cases hb:b=a
 ·subst hb;rw [Qp] at e;cases e;exact new
 ·rw [Qz hb] at e
  exact (x b u e).stay (fun c v _ q=>k c v q) (fun c q=>by rw [Qz (Qbw q hn)];exact q) (fun c xs q=>by rw [Qz (Qbw q hn)];exact q) fun c xs q=>by rw [Qz (Qbw q hn)];exact q
end
noncomputable def Rd (H:Hp) (a:Addr) (u:HO):Prop:=H a=some u∨∃ o,H a=some (.frz o u)
theorem Rd.ok {P:Program} {w:World} {H:Hp} {h:Heap} {a:Addr} {u:HO} (r:Rd H a u) (x:HOk P w H h):ObjOk P w H h a u:=by
 rcases r with r | ⟨o,r⟩
 ·exact x a u r
 ·obtain ⟨_,q⟩:=x a _ r
  exact q
noncomputable def Mut:Option HO→Prop
 | some (.lst _)=>True
 | some (.dK _)=>True
 | some (.dT _)=>True
 | some (.set _ _)=>True
 | some (.ins _ _ _)=>True
 | some (.ext _)=>True
 | _=>False
section
variable {P:Program} {w:World} {H:Hp} {h h':Heap} {x e:Addr} {o':HO}
theorem HOk.write (ok:HOk P w H h) (mu:Mut (H x)) (he:e=x∨H e=some (.own x)) (k:∀ b u,b≠e→h.get? b=some u→h'.get? b=some u) (heo:∃ u,h'.get? e=some u)
  (new:ObjOk P w (upd H x o') h' x o'):HOk P w (upd H x o') h':=fun b u q=>by
 have nown:∀ c y,H c=some (.own y)→c≠x:=fun c y r z=>by subst z;rw [r] at mu;exact mu
 have ntup:∀ c xs,H c=some (.tup xs)→c≠x:=fun c xs r z=>by subst z;rw [r] at mu;exact mu
 by_cases hb:b=x
 ·subst hb;rw [Qp] at q;cases q;exact new
 ·rw [Qz hb] at q
  by_cases hbe:b=e
  ·have q':H b=some (.own x):=by
    rcases he with z | z
    ·exact absurd (hbe.trans z) hb
    ·rw [hbe];exact z
   rw [q] at q';cases q'
   obtain ⟨v,hv⟩:=heo
   exact ⟨v,by rw [hbe];exact hv⟩
  ·refine (ok b u q).stay (fun c v hc r=>k c v ?_ r) (fun c r=>by rw [Qz (nown c b r)];exact r) (fun c xs r=>by rw [Qz (ntup c xs r)];exact r) fun c y r=>by rw [Qz (fun z=>by subst z;rw [r] at mu;exact mu)];exact r
   rcases hc with rfl | hc
   ·exact hbe
   ·rintro rfl
    rcases he with z | z
    ·exact nown c b hc z
    ·rw [hc] at z;cases z;exact hb rfl
end
structure Un (fs ex:List Addr) (H H':Hp) (h h':Heap):Prop where
 keep:∀ b o,h.get? b=some o→H b=none→b∉fs→b∉ex→h'.get? b=some o
 slot:∀ b o,h.get? b=some o→H b=none→b∈fs→b∉ex→∃ sl,h'.get? b=some { o with slots:=sl }
 free:∀ b o,h.get? b=some o→H b=none→b∉ex→H' b=none
 there:∀ b o,h.get? b=some o→b∉ex→∃ o',h'.get? b=some o'
 tups:∀ b xs,H b=some (.tup xs)→H' b=some (.tup xs)
 frzs:∀ b o u,H b=some (.frz o u)→H' b=some (.frz o u)
 tbls:∀ b q,H b=some (.tbl q)→H' b=some (.tbl q)
section
variable {fs fs' ex ex':List Addr} {H H1 H2:Hp} {h h1 h2 h':Heap} {a x e:Addr} {o:HO}
theorem Un.any (u:Un fs ex H H1 h h1) {b:Addr} {ob:Obj} (q:h.get? b=some ob) (n:H b=none) (hx:b∉ex):∃ sl,h1.get? b=some { ob with slots:=sl }:=by
 by_cases hb:b∈fs
 ·exact u.slot b ob q n hb hx
 ·exact ⟨ob.slots,u.keep b ob q n hb hx⟩
theorem Un.kept (k:∀ b u,h.get? b=some u→h'.get? b=some u):Un fs ex H H h h' :=
 ⟨fun b ob q _ _ _=>k b ob q,fun b ob q _ _ _=>⟨ob.slots,k b ob q⟩,fun _ _ _ n _=>n,fun b ob q _=>⟨ob,k b ob q⟩,fun _ _ q=>q,fun _ _ _ q=>q,fun _ _ q=>q⟩
theorem Un.refl:Un fs ex H H h h:=Un.kept fun _ _ q=>q
theorem Un.laid (k:∀ b u,h.get? b=some u→h'.get? b=some u) (hp:h.objs.size≤a) (hn:H a=none):Un fs ex H (upd H a o) h h' where
 keep:=fun b u q _ _ _=>k b u q
 slot:=fun b u q _ _ _=>⟨u.slots,k b u q⟩
 free:=fun b u q n _=>by rw [Qz (Nat.ne_of_lt (Nat.lt_of_lt_of_le (Heap.lt_size q) hp))];exact n
 there:=fun b u q _=>⟨u,k b u q⟩
 tups:=fun b xs q=>by rw [Qz (Qbw q hn)];exact q
 frzs:=fun b u xs q=>by rw [Qz (Qbw q hn)];exact q
 tbls:=fun b ps q=>by rw [Qz (Qbw q hn)];exact q
theorem Un.write (mu:Mut (H x)) (he:e=x∨H e=some (.own x)) (k:∀ b u,b≠e→h.get? b=some u→h'.get? b=some u) (heo:∃ u,h'.get? e=some u):Un fs ex H (upd H x o) h h':=by
 have hx:∀ b,H b=none→b≠x:=fun b n z=>by subst z;rw [n] at mu;exact mu
 have hb:∀ b,H b=none→b≠e:=fun b n z=>by
  subst z
  rcases he with r | r
  ·exact hx b n r
  ·rw [n] at r;cases r
 have hm:∀ b u,H b=some u→¬ Mut (some u)→b≠x:=fun b u q nm z=>by subst z;rw [q] at mu;exact nm mu
 refine ⟨fun b u q n _ _=>k b u (hb b n) q,fun b u q n _ _=>⟨u.slots,k b u (hb b n) q⟩,fun b u q n _=>by rw [Qz (hx b n)];exact n,fun b u q _=>?_,
  fun b xs q=>by rw [Qz (hm b _ q fun z=>z)];exact q,fun b u xs q=>by rw [Qz (hm b _ q fun z=>z)];exact q,fun b ps q=>by rw [Qz (hm b _ q fun z=>z)];exact q⟩
 by_cases hbe:b=e
 ·subst hbe;exact heo
 ·exact ⟨u,k b u hbe q⟩
end
noncomputable def trk (h:Heap) (H:Hp):List Addr:=(List.range h.objs.size).filter fun a=>(H a).isSome
noncomputable def Qn4 (h:Heap) (H:Hp):Heap:=PySem.W.hideAll h (trk h H)
theorem Quv (h:Heap) (H:Hp):(Qn4 h H).objs.size=h.objs.size:=PySem.W.hideAll_size _ _
theorem Qwh {h:Heap} {H:Hp} {b:Addr} {o:Obj} (e:h.get? b=some o) (n:H b=none):(Qn4 h H).get? b=some o :=
 PySem.W.hideAll_get _ e fun hm=>by
  have q:(H b).isSome=true:=(List.mem_filter.mp hm).2
  rw [n] at q;simp at q
theorem Q0h {h:Heap} {H:Hp} {b:Addr} {o:Obj} (e:(Qn4 h H).get? b=some o):h.get? b=some o∧H b=none:=by
 have e':h.get? b=some o:=PySem.W.of_hideAll (trk h H) e
 refine ⟨e',?_⟩
 cases q:H b with
 | none=>rfl
 | some x =>
  have hm:b∈trk h H:=List.mem_filter.mpr ⟨List.mem_range.mpr (Heap.lt_size e'),by simp [q]⟩
  have z:(Qn4 h H).get? b=none:=PySem.W.hideAll_none (trk h H) hm
  rw [z] at e;cases e
noncomputable def Q0i (g h:Heap) (L:Addr):List (Addr×Obj):=(List.range h.objs.size).filterMap fun a=>if a=L∨(g.get? a).isSome=true then none else (h.get? a).map fun o=>(a,o)
noncomputable def rest (g h:Heap) (L d:Addr):List (Addr×Obj):=(Q0i g h L).filter fun p=>decide (p.1≠d)
structure Mod (K:PySem.W.Frag) (mg:Str→Option Value) (base:Heap):Prop where
 kin:K.In base
 glob:base.Ns mainGlobals mg
 blt:∃ mb,base.Ns builtinsNs mb∧∀ x:Str,x ≠ "__name__" → mb x=bootBuiltins x
 nolimit:base.NoLimit
 bm:∃ bm ob,mg "__builtins__" = some (.ref bm)∧bm≠builtinsNs∧base.get? bm=some ob∧ob.cls=.type "module" ∧ ob.dict=some builtinsNs∧ob.data=.plain
noncomputable def Qwi (K:PySem.W.Frag) (a:Addr) (q:Str):Prop:=∃ b t,K.getLast?=some (b,{ cls:=.none,data:=.fields #[.ref a,.str q t] })
noncomputable def Qwj (K:PySem.W.Frag) (H:Hp):Prop:=∀ a q,Qwi K a q→H a=some (.tbl q)
structure Cx where
 prog:Program
 w:World
 K:PySem.W.Frag
 mg:Str→Option Value
 base:Heap
 A:Around
 N:List Str
 s₀:Shared
 H₀:Hp
 env:Env
 outer:List Env
 stack:List Env
 ex:List Addr
 fn:Str→Bool
 calm:Bool
 pn:List (Addr×Obj)
 xe:Value→Shared→Prop
noncomputable def frs (l:List Env):List Addr:=l.filterMap (·.frame)
noncomputable abbrev Cx.fs (X:Cx):List Addr:=frs X.outer
noncomputable def Vis (sc:Scope) (x:Str):Prop:=sc.names.lookup x=some .local∨sc.names.lookup x=some .cell∨sc.names.lookup x=some .free
noncomputable def Loc (sc:Scope) (x:Str):Prop:=sc.names.lookup x=some .local∨sc.names.lookup x=some .cell
noncomputable def Look (env:Env) (h:Heap) (m:Str→Option Value) (x:Str) (u:Value):Prop :=
 (env.kindOf x=some .local∧m x=some u)∨((env.kindOf x=some .cell∨env.kindOf x=some .free)∧∃ c,env.cells.lookup x=some c∧h.IsCell c (some u))
structure Cx.Ok (X:Cx):Prop where
 mod:Mod X.K X.mg X.base
 kind:X.env.scope.kind=.function
 glob:X.env.globals=mainGlobals
 blt:X.env.builtins=builtinsNs
 above:X.s₀.heap.objs.size≤X.env.locals
 inj:∀ x y c,X.env.cells.lookup x=some c→X.env.cells.lookup y=some c→x=y
 has:∀ x,(X.env.kindOf x=some .cell∨X.env.kindOf x=some .free)→∃ c,X.env.cells.lookup x=some c
 cab:∀ x c,X.fn x=true→X.env.cells.lookup x=some c→X.s₀.heap.objs.size≤c
 hd:X.calm=true→X.A.handled=none
 frames:X.A.frames=some X.stack
 stk:X.stack=X.outer∨(X.stack=X.env::X.outer∧X.env.frame=some X.env.locals)
 exf:∀ b∈X.ex,b≠X.env.locals∧∀ x c,X.env.cells.lookup x=some c→c≠b
 bs:∀ b o,X.base.get? b=some o→X.s₀.heap.get? b=some o∧X.H₀ b=none
 bsz:X.base.objs.size≤X.s₀.heap.objs.size
 noex:∀ b o,X.base.get? b=some o→b∉X.ex
 exfs:∀ b∈X.ex,b∉X.fs
 funs:X.s₀.heap.FunFrames X.base X.outer
 frf:(∀ b∈X.fs,X.H₀ b=none)∧Qwj X.K X.H₀
structure Inv (X:Cx) (pins:List (Addr×Obj)) (σ:List (Option V)) (H:Hp) (s:Shared):Prop where
 ok:X.Ok
 os:s.os=X.s₀.os
 bare:AllBare s.gens
 base:Un X.fs X.ex X.H₀ H X.s₀.heap s.heap
 loc:∃ m,s.heap.Ns X.env.locals m∧∀ (i:Nat) (x:Str) (v:V),X.N[i]?=some x→σ[i]?=some (some v)→Vis X.env.scope x→∃ u,RelV v u∧Look X.env s.heap m x u
 cell:∀ x c,X.env.cells.lookup x=some c→∃ v,s.heap.IsCell c v
 free:H X.env.locals=none
 freeC:∀ x c,X.env.cells.lookup x=some c→H c=none∨(X.fn x=false∧∃ o u,H c=some (.frz o u))
 pin:∀ p∈X.pn++pins,s.heap.get? p.1=some p.2∧H p.1=none∧p.1≠X.env.locals∧p.1∉X.fs∧∀ v,p.2.data≠.cell v
 hok:HOk X.prog X.w H s.heap
 len:σ.length=X.N.length
section
variable {X:Cx} {pins:List (Addr×Obj)} {σ:List (Option V)} {H H':Hp} {s:Shared} {h':Heap}
theorem Cx.Ok.nofr (ok:X.Ok) {b:Addr} {o:Obj} (e:X.base.get? b=some o):b∉X.fs:=fun hb=>by
 have:=(ok.funs.mem hb).1
 rw [e] at this;cases this
theorem Inv.bs (I:Inv X pins σ H s):∀ b o,X.base.get? b=some o→s.heap.get? b=some o∧H b=none:=fun b o e =>
 ⟨I.base.keep b o (I.ok.bs b o e).1 (I.ok.bs b o e).2 (I.ok.nofr e) (I.ok.noex b o e),I.base.free b o (I.ok.bs b o e).1 (I.ok.bs b o e).2 (I.ok.noex b o e)⟩
theorem Inv.bk (I:Inv X pins σ H s):∀ b o,X.base.get? b=some o→s.heap.get? b=some o:=fun b o e=>(I.bs b o e).1
theorem Inv.mod (I:Inv X pins σ H s):Mod X.K X.mg X.base:=I.ok.mod
theorem Inv.kIn (I:Inv X pins σ H s):X.K.In s.heap:=I.ok.mod.kin.keeps I.bk
theorem Inv.nolimit (I:Inv X pins σ H s):s.heap.NoLimit:=I.ok.mod.nolimit.keeps I.bk
theorem Inv.lt (I:Inv X pins σ H s):X.env.locals<s.heap.objs.size:=let ⟨_,hn,_⟩:=I.loc;hn.lt
theorem Inv.sz (I:Inv X pins σ H s):X.s₀.heap.objs.size≤s.heap.objs.size:=Nat.le_trans I.ok.above (Nat.le_of_lt I.lt)
theorem Inv.nofs (I:Inv X pins σ H s) {a:Addr} (h:s.heap.objs.size≤a):a∉X.fs:=fun hb=>by
 obtain ⟨_,o,ho,_⟩:=I.ok.funs.mem hb
 exact absurd (Nat.lt_of_lt_of_le (Heap.lt_size ho) (Nat.le_trans I.sz h)) (Nat.lt_irrefl _)
theorem Inv.cne (I:Inv X pins σ H s):∀ x c,X.env.cells.lookup x=some c→c≠X.env.locals:=fun x c e z=>by
 obtain ⟨v,o,ho,hd⟩:=I.cell x c e
 obtain ⟨m,⟨o',es,ep,ho',hd',_⟩,_⟩:=I.loc
 rw [z,ho'] at ho;cases ho;rw [hd'] at hd;cases hd
theorem Inv.funs (I:Inv X pins σ H s):s.heap.FunFrames X.base X.outer:=by
 have all:∀ (l:List Env),(∀ b∈frs l,b∈X.fs)→X.s₀.heap.FunFrames X.base l→s.heap.FunFrames X.base l:=by
  intro l
  induction l with
  | nil=>intro _ _;trivial
  | cons env r ih =>
   intro hs hl
   obtain ⟨hk,⟨L,o,hf,hn,ho,hd⟩,hr⟩:=hl
   have hL:L∈X.fs:=hs L (by unfold frs;rw [List.filterMap_cons,hf];exact List.mem_cons_self)
   obtain ⟨sl,e⟩:=I.base.slot L o ho (I.ok.frf.1 L hL) hL fun z=>I.ok.exfs L z hL
   exact ⟨hk,⟨L,_,hf,hn,e,hd⟩,ih (fun b hb=>hs b (by unfold frs;rw [List.filterMap_cons,hf];exact List.mem_cons_of_mem _ hb)) hr⟩
 exact all X.outer (fun _ hb=>hb) I.ok.funs
theorem Inv.stack (I:Inv X pins σ H s):s.heap.FunFrames X.base X.stack:=by
 rcases I.ok.stk with e | ⟨e,hf⟩
 ·rw [e];exact I.funs
 ·rw [e]
  obtain ⟨m,hn,_⟩:=I.loc
  refine .cons (by rw [I.ok.kind];decide) hf hn ?_ I.funs
  exact Heap.get?_none_of_le (Nat.le_trans I.ok.bsz I.ok.above)
theorem Inv.stkSub (I:Inv X pins σ H s):∀ b∈frs X.stack,b∈X.env.locals::X.fs:=fun b hb=>by
 rcases I.ok.stk with e | ⟨e,hf⟩
 ·rw [e] at hb;exact List.mem_cons_of_mem _ hb
 ·rw [e] at hb
  unfold frs at hb
  rw [List.filterMap_cons,hf] at hb
  exact hb
theorem Inv.stkFree (I:Inv X pins σ H s):∀ b∈frs X.stack,H b=none:=fun b hb=>by
 rcases List.mem_cons.mp (I.stkSub b hb) with e | hb
 ·rw [e];exact I.free
 ·obtain ⟨_,o,ho,_⟩:=I.ok.funs.mem hb
  exact I.base.free b o ho (I.ok.frf.1 b hb) fun z=>I.ok.exfs b z hb
theorem Inv.tab (I:Inv X pins σ H s):Qwj X.K H:=fun a q h=>I.base.tbls a q (I.ok.frf.2 a q h)
theorem Inv.step {g':Array GenState} {t':Nat} {d':Drawn} {ch:List Addr} (I:Inv X pins σ H s)
  (hch:∀ b∈ch,(b∈X.ex∨X.s₀.heap.objs.size≤b)∧b≠X.env.locals∧(∀ x c,X.env.cells.lookup x=some c→c≠b)∧∀ p∈X.pn++pins,p.1≠b)
  (keep:∀ b o,b≠X.env.locals→b∉X.fs→b∉ch→s.heap.get? b=some o→H b=none→h'.get? b=some o)
  (slot:∀ b o,b≠X.env.locals→b∈X.fs→b∉ch→s.heap.get? b=some o→H b=none→∃ sl,h'.get? b=some { o with slots:=sl }) (free:∀ b o,b∉ch→s.heap.get? b=some o→H b=none→H' b=none)
  (there:∀ b o,b∉ch→s.heap.get? b=some o→∃ o',h'.get? b=some o')
  (tups:∀ b xs,H b=some (.tup xs)→H' b=some (.tup xs)) (frzs:∀ b o u,H b=some (.frz o u)→H' b=some (.frz o u)) (tbls:∀ b q,H b=some (.tbl q)→H' b=some (.tbl q))
  (ns:∀ m,s.heap.Ns X.env.locals m→h'.Ns X.env.locals m) (hok:HOk X.prog X.w H' h') (hg:AllBare g') :
  Inv X pins σ H' { s with heap:=h',gens:=g',drawn:=d',toks:=t' }:=by
 have neL:∀ b o,X.s₀.heap.get? b=some o→b≠X.env.locals:=fun b o e=>Nat.ne_of_lt (Nat.lt_of_lt_of_le (Heap.lt_size e) I.ok.above)
 have neC:∀ b o,X.s₀.heap.get? b=some o→b∉X.ex→b∉ch:=fun b o e hx hb=>by
  rcases (hch b hb).1 with z | z
  ·exact hx z
  ·exact absurd (Nat.lt_of_lt_of_le (Heap.lt_size e) z) (Nat.lt_irrefl _)
 have cellK:∀ x c,X.env.cells.lookup x=some c→∀ v,s.heap.IsCell c v→h'.IsCell c v:=fun x c e v ⟨o,ho,hd⟩=>by
  have nch:c∉ch:=fun z=>(hch c z).2.2.1 x c e rfl
  rcases I.freeC x c e with fc | ⟨_,of,u,fc⟩
  ·by_cases hc:c∈X.fs
   ·obtain ⟨sl,q⟩:=slot c o (I.cne x c e) hc nch ho fc
    exact ⟨_,q,hd⟩
   ·exact ⟨o,keep c o (I.cne x c e) hc nch ho fc,hd⟩
  ·have e1:=(I.hok c _ fc).1
   rw [ho] at e1
   cases e1
   exact ⟨_,(hok c _ (frzs c _ _ fc)).1,hd⟩
 refine ⟨I.ok,I.os,hg,⟨fun b o e n hb hx=>?_,fun b o e n hb hx=>?_,fun b o e n hx=>?_,fun b o e hx=>?_,fun b xs e=>tups b xs (I.base.tups b xs e),fun b o xs e=>frzs b o xs (I.base.frzs b o xs e),fun b ps e=>?_⟩,?_,fun x c e=>?_,?_,fun x c e=>?_,fun p hp=>?_,hok,I.len⟩
 ·exact keep b o (neL b o e) hb (neC b o e hx) (I.base.keep b o e n hb hx) (I.base.free b o e n hx)
 ·obtain ⟨sl,e1⟩:=I.base.slot b o e n hb hx
  obtain ⟨sl',e2⟩:=slot b _ (neL b o e) hb (neC b o e hx) e1 (I.base.free b o e n hx)
  exact ⟨sl',e2⟩
 ·obtain ⟨o',e1⟩:=I.base.there b o e hx
  exact free b o' (neC b o e hx) e1 (I.base.free b o e n hx)
 ·obtain ⟨o',e1⟩:=I.base.there b o e hx
  exact there b o' (neC b o e hx) e1
 ·exact tbls b ps (I.base.tbls b ps e)
 ·obtain ⟨m,hn,hl⟩:=I.loc
  refine ⟨m,ns m hn,fun i x v e1 e2 e3=>?_⟩
  obtain ⟨u,r,l⟩:=hl i x v e1 e2 e3
  refine ⟨u,r,?_⟩
  rcases l with l | ⟨k,c,e,z⟩
  ·exact .inl l
  ·exact .inr ⟨k,c,e,cellK x c e _ z⟩
 ·obtain ⟨v,z⟩:=I.cell x c e
  exact ⟨v,cellK x c e v z⟩
 ·obtain ⟨m,⟨o,_,_,ho,_⟩,_⟩:=I.loc
  exact free _ o (fun z=>(hch _ z).2.1 rfl) ho I.free
 ·obtain ⟨v,o,ho,hd⟩:=I.cell x c e
  rcases I.freeC x c e with fc | ⟨fn,of,u,fc⟩
  ·exact .inl (free c o (fun z=>(hch c z).2.2.1 x c e rfl) ho fc)
  ·exact .inr ⟨fn,of,u,frzs c _ _ fc⟩
 ·obtain ⟨e,n,ne,nf,d⟩:=I.pin p hp
  have nch:p.1∉ch:=fun z=>(hch p.1 z).2.2.2 p hp rfl
  exact ⟨keep p.1 p.2 ne nf nch e n,free p.1 p.2 nch e n,ne,nf,d⟩
theorem Inv.un {t':Nat} (I:Inv X pins σ H s) (u:Un X.fs [] H H' s.heap h') (hok:HOk X.prog X.w H' h'):Inv X pins σ H' { s with heap:=h',toks:=t' }:=by
 obtain ⟨m,⟨o,es,ep,ho,r⟩,_⟩:=id I.loc
 obtain ⟨sl,hL⟩:=u.any ho I.free (by simp)
 exact I.step (g':=s.gens) (d':=s.drawn) (ch:=[]) (fun _ z=>nomatch z) (fun b o _ hb _ e n=>u.keep b o e n hb (by simp)) (fun b o _ hb _ e n=>u.slot b o e n hb (by simp)) (fun b o _ e n=>u.free b o e n (by simp)) (fun b o _ e=>u.there b o e (by simp)) u.tups u.frzs u.tbls (fun m' hm=>by
  obtain ⟨o',es',ep',ho',r'⟩:=hm
  rw [ho] at ho';cases ho'
  exact ⟨_,es',ep',hL,r'⟩) hok I.bare
theorem Inv.call {g':Array GenState} {t':Nat} {d':Drawn} {ch:List Addr} (I:Inv X pins σ H s) (u:Un (frs X.stack) ch H H' s.heap h') (hok:HOk X.prog X.w H' h') (hg:AllBare g')
  (hch:∀ b∈ch,(b∈X.ex∨X.s₀.heap.objs.size≤b)∧b≠X.env.locals∧(∀ x c,X.env.cells.lookup x=some c→c≠b)∧∀ p∈X.pn++pins,p.1≠b) :
  Inv X pins σ H' { s with heap:=h',gens:=g',drawn:=d',toks:=t' }:=by
 obtain ⟨m,⟨o,es,ep,ho,r⟩,_⟩:=id I.loc
 obtain ⟨sl,hL⟩:=u.any ho I.free fun z=>(hch _ z).2.1 rfl
 exact I.step (ch:=ch) hch (fun b o hL hb hc e n=>u.keep b o e n (fun z=>(List.mem_cons.mp (I.stkSub b z)).elim hL hb) hc) (fun b o _ _ hc e n=>u.any e n hc) (fun b o hc e n=>u.free b o e n hc) (fun b o hc e=>u.there b o e hc) u.tups u.frzs u.tbls (fun m' hm=>by
  obtain ⟨o',es',ep',ho',r'⟩:=hm
  rw [ho] at ho';cases ho'
  exact ⟨_,es',ep',hL,r'⟩) hok hg
theorem Inv.turned {t':Nat} {it:Addr} (I:Inv X pins σ H s) (k:∀ b o,b≠it→s.heap.get? b=some o→h'.get? b=some o) (hn:H it=none) (hL:it≠X.env.locals)
  (h1:it∈X.ex∨X.s₀.heap.objs.size≤it) (h2:∀ x c,X.env.cells.lookup x=some c→c≠it) (h3:∀ p∈X.pn++pins,p.1≠it):Inv X pins σ H { s with heap:=h',toks:=t' }:=by
 have nit:∀ b u,H b=some u→b≠it:=fun b u e z=>by rw [z,hn] at e;cases e
 refine I.step (g':=s.gens) (d':=s.drawn) (ch:=[it]) (fun b hb=>?_) (fun b o _ _ hc e _=>k b o (fun z=>hc (by simp [z])) e) (fun b o _ _ hc e _=>⟨o.slots,k b o (fun z=>hc (by simp [z])) e⟩) (fun _ _ _ _ n=>n)
  (fun b o hc e=>⟨o,k b o (fun z=>hc (by simp [z])) e⟩) (fun _ _ e=>e) (fun _ _ _ e=>e) (fun _ _ e=>e) (fun m hm=>?_) (fun b u e=>?_) I.bare
 ·have e:b=it:=by simpa using hb
  subst e
  exact ⟨h1,hL,h2,h3⟩
 ·obtain ⟨o,es,ep,ho,r⟩:=hm
  exact ⟨o,es,ep,k _ o (Ne.symm hL) ho,r⟩
 ·refine (I.hok b u e).stay (fun c v hc q=>k c v ?_ q) (fun _ q=>q) fun _ _ q=>q
  rcases hc with z | z
  ·rw [z];exact nit b u e
  ·exact nit c _ z
theorem Inv.tok (I:Inv X pins σ H s) (t:Nat):Inv X pins σ H { s with toks:=t }:=I.un (h':=s.heap) (t':=t) Un.refl I.hok
theorem Inv.kept {t':Nat} (I:Inv X pins σ H s) (k:∀ b u,s.heap.get? b=some u→h'.get? b=some u):Inv X pins σ H { s with heap:=h',toks:=t' }:=I.un (Un.kept k) (I.hok.kept k)
theorem Inv.laid {a:Addr} {o:HO} {t':Nat} (I:Inv X pins σ H s) (k:∀ b u,s.heap.get? b=some u→h'.get? b=some u) (hp:s.heap.objs.size≤a) (new:ObjOk X.prog X.w (upd H a o) h' a o) :
  Inv X pins σ (upd H a o) { s with heap:=h',toks:=t' }:=I.un (Un.laid k hp (I.hok.fresh hp)) (I.hok.laid k hp new)
theorem Inv.write {x e:Addr} {o:HO} {t':Nat} (I:Inv X pins σ H s) (mu:Mut (H x)) (he:e=x∨H e=some (.own x)) (k:∀ b u,b≠e→s.heap.get? b=some u→h'.get? b=some u) (heo:∃ u,h'.get? e=some u)
  (new:ObjOk X.prog X.w (upd H x o) h' x o):Inv X pins σ (upd H x o) { s with heap:=h',toks:=t' }:=I.un (Un.write mu he k heo) (I.hok.write mu he k heo new)
theorem Inv.pins_of {pins':List (Addr×Obj)} (I:Inv X pins σ H s) (h:∀ p∈pins',s.heap.get? p.1=some p.2∧H p.1=none∧p.1≠X.env.locals∧p.1∉X.fs∧∀ v,p.2.data≠.cell v):Inv X pins' σ H s :=
 ⟨I.ok,I.os,I.bare,I.base,I.loc,I.cell,I.free,I.freeC,fun p hp=>(List.mem_append.mp hp).elim (fun z=>I.pin p (List.mem_append_left _ z)) (h p),I.hok,I.len⟩
theorem Qk8 {N:List Str} (hN:N.Nodup) {i j:Nat} {x:Str} (a:N[i]?=some x) (b:N[j]?=some x):i=j:=by
 obtain ⟨h1,e1⟩:=List.getElem?_eq_some_iff.mp a
 obtain ⟨h2,e2⟩:=List.getElem?_eq_some_iff.mp b
 exact (List.getElem_inj hN).mp (e1.trans e2.symm)
theorem Quw {M:Model} {A:Around} {E:Value→Shared→Prop} {i:Nat} {x:Str} {v:V} {u:Value} {Q:Unit→Shared→Prop} (I:Inv X pins σ H s) (hN:X.N.Nodup) (hi:X.N[i]?=some x) (hx:Loc X.env.scope x) (r:RelV v u)
  (h:∀ s',Inv X pins (σ.set i (some v)) H s'→(∃ a,Heap.SameBut a s.heap s'.heap∧(a=X.env.locals∨X.env.cells.lookup x=some a))→Q () s') (hf:X.fn x=true∨X.env.scope.names.lookup x=some .local:=by first | exact .inl rfl | exact .inr rfl | assumption):wpAny M A (storeName X.env x u) Q E s:=by
 obtain ⟨m,hn,hl⟩:=id I.loc
 have hcls:(X.env.scope.kind==.class||(X.env.scope.kind==.module&&X.env.locals != X.env.globals))=false:=by rw [I.ok.kind];rfl
 have hiσ:i<σ.length:=by rw [I.len];exact (List.getElem?_eq_some_iff.mp hi).1
 have cne:=I.cne
 have tracked:∀ {a:Addr} {h':Heap},(∃ o,s.heap.get? a=some o∧H a=none)→Heap.SameBut a s.heap h'→HOk X.prog X.w H h':=fun {a h'} ha hs b ob e=>by
  obtain ⟨_,_,hfree⟩:=ha
  refine (I.hok b ob e).stay (fun c w' hc q=>(hs.2 c ?_).trans q) (fun _ q=>q) fun _ _ q=>q
  rintro rfl
  rcases hc with rfl | hc
  ·rw [hfree] at e;cases e
  ·rw [hfree] at hc;cases hc
 rcases hx with hk | hk
 ·refine wpAny_storeName_local hk hn (fun h' hn' hs=>?_) hcls
  obtain ⟨oL,_,_,hoL,_⟩:=id hn
  refine h _ ⟨I.ok,I.os,I.bare,⟨fun b o e n hb hx=>?_,fun b o e n hb hx=>?_,I.base.free,fun b o e hx=>?_,I.base.tups,I.base.frzs,I.base.tbls⟩,⟨_,hn',fun j y v' e1 e2 e3=>?_⟩,fun y c e=>?_,I.free,I.freeC,fun p hp=>?_,tracked ⟨oL,hoL,I.free⟩ hs,by simpa using I.len⟩ ⟨_,hs,.inl rfl⟩
  ·exact (hs.2 b (Nat.ne_of_lt (Nat.lt_of_lt_of_le (Heap.lt_size e) I.ok.above))).trans (I.base.keep b o e n hb hx)
  ·obtain ⟨sl,e1⟩:=I.base.slot b o e n hb hx
   exact ⟨sl,(hs.2 b (Nat.ne_of_lt (Nat.lt_of_lt_of_le (Heap.lt_size e) I.ok.above))).trans e1⟩
  ·obtain ⟨o',e1⟩:=I.base.there b o e hx
   exact ⟨o',(hs.2 b (Nat.ne_of_lt (Nat.lt_of_lt_of_le (Heap.lt_size e) I.ok.above))).trans e1⟩
  ·by_cases hj:j=i
   ·subst hj
    rw [hi] at e1;cases e1
    rw [List.getElem?_set_self hiσ] at e2
    cases e2
    exact ⟨u,r,.inl ⟨hk,by simp⟩⟩
   ·rw [List.getElem?_set_ne (Ne.symm hj)] at e2
    obtain ⟨u',r',q⟩:=hl j y v' e1 e2 e3
    refine ⟨u',r',?_⟩
    rcases q with ⟨k,e⟩ | ⟨k,c,e,z⟩
    ·refine .inl ⟨k,?_⟩
     have:y≠x:=fun e=>hj (Qk8 hN e1 (e ▸ hi))
     simp [this,e]
    ·exact .inr ⟨k,c,e,z.sameBut hs (cne y c e)⟩
  ·obtain ⟨w',z⟩:=I.cell y c e
   exact ⟨w',z.sameBut hs (cne y c e)⟩
  ·obtain ⟨e,n,ne,nf,d⟩:=I.pin p hp
   exact ⟨(hs.2 p.1 ne).trans e,n,ne,nf,d⟩
 ·have hfn:X.fn x=true:=by
   rcases hf with z | z
   ·exact z
   ·rw [z] at hk;cases hk
  obtain ⟨c,hc⟩:=I.ok.has x (.inl hk)
  obtain ⟨w',z⟩:=I.cell x c hc
  refine wpAny_storeName_cell I.ok.kind hk hc z (fun h' hc' hs=>?_)
  obtain ⟨oc,hoc,hocd⟩:=id z
  refine h { s with heap:=h' } ⟨I.ok,I.os,I.bare,⟨fun b o e n hb hx=>?_,fun b o e n hb hx=>?_,I.base.free,fun b o e hx=>?_,I.base.tups,I.base.frzs,I.base.tbls⟩,⟨m,hn.sameBut hs (Ne.symm (cne x c hc)),fun j y v' e1 e2 e3=>?_⟩,fun y c' e=>?_,I.free,I.freeC,fun p hp=>?_,tracked ⟨oc,hoc,(I.freeC x c hc).resolve_right fun z=>by rw [hfn] at z;cases z.1⟩ hs,by simpa using I.len⟩ ⟨c,hs,.inr hc⟩
  ·exact (hs.2 b (Nat.ne_of_lt (Nat.lt_of_lt_of_le (Heap.lt_size e) (I.ok.cab x c hfn hc)))).trans (I.base.keep b o e n hb hx)
  ·obtain ⟨sl,e1⟩:=I.base.slot b o e n hb hx
   exact ⟨sl,(hs.2 b (Nat.ne_of_lt (Nat.lt_of_lt_of_le (Heap.lt_size e) (I.ok.cab x c hfn hc)))).trans e1⟩
  ·obtain ⟨o',e1⟩:=I.base.there b o e hx
   exact ⟨o',(hs.2 b (Nat.ne_of_lt (Nat.lt_of_lt_of_le (Heap.lt_size e) (I.ok.cab x c hfn hc)))).trans e1⟩
  ·by_cases hj:j=i
   ·subst hj
    rw [hi] at e1;cases e1
    rw [List.getElem?_set_self hiσ] at e2
    cases e2
    exact ⟨u,r,.inr ⟨.inl hk,c,hc,hc'⟩⟩
   ·rw [List.getElem?_set_ne (Ne.symm hj)] at e2
    obtain ⟨u',r',q⟩:=hl j y v' e1 e2 e3
    refine ⟨u',r',?_⟩
    rcases q with q | ⟨k,c',e,z'⟩
    ·exact .inl q
    ·refine .inr ⟨k,c',e,z'.sameBut hs ?_⟩
     rintro rfl
     exact hj (Qk8 hN e1 (I.ok.inj _ _ _ e hc ▸ hi))
  ·by_cases hcc:c'=c
   ·subst hcc;exact ⟨_,hc'⟩
   ·obtain ⟨w2,z2⟩:=I.cell y c' e
    exact ⟨w2,z2.sameBut hs hcc⟩
  ·obtain ⟨e,n,ne,nf,d⟩:=I.pin p hp
   refine ⟨(hs.2 p.1 ?_).trans e,n,ne,nf,d⟩
   intro q
   rw [q,hoc] at e
   have q':oc=p.2:=Option.some.inj e
   exact d w' (by rw [←q'];exact hocd)
theorem Qfp {M:Model} {A:Around} {E:Value→Shared→Prop} {i:Nat} {x:Str} {v:V} {u:Value} {Q:Unit→Shared→Prop} (I:Inv X pins σ H s) (hN:X.N.Nodup) (hi:X.N[i]?=some x) (hx:Loc X.env.scope x) (r:RelV v u)
  (h:∀ s',Inv X pins (σ.set i (some v)) H s'→Q () s') (hf:X.fn x=true∨X.env.scope.names.lookup x=some .local:=by first | exact .inl rfl | exact .inr rfl | assumption):wpAny M A (storeName X.env x u) Q E s :=
 Quw I hN hi hx r (fun s' I' _=>h s' I') hf
theorem Inv.call' {s':Shared} {ch:List Addr} (I:Inv X pins σ H s) (ho:s'.os=s.os) (u:Un (frs X.stack) ch H H' s.heap s'.heap) (hok:HOk X.prog X.w H' s'.heap) (hg:AllBare s'.gens)
  (hch:∀ b∈ch,(b∈X.ex∨X.s₀.heap.objs.size≤b)∧b≠X.env.locals∧(∀ x c,X.env.cells.lookup x=some c→c≠b)∧∀ p∈X.pn++pins,p.1≠b):Inv X pins σ H' s':=by
 obtain ⟨h',g',d',t',o'⟩:=s'
 have e:o'=s.os:=ho
 subst e
 exact I.call (g':=g') (t':=t') (d':=d') u hok hg hch
end
noncomputable abbrev XK:=Value→Option Addr→Hp→Prop
noncomputable abbrev St:=List (Option V)
noncomputable abbrev VK:=V→Hp→Prop
noncomputable abbrev TE:=St→Hp→VK→Prop
noncomputable abbrev TT:=St→Hp→(Bool→Hp→Prop)→Prop
noncomputable abbrev TA:=St→Hp→(List V→Hp→Prop)→Prop
structure Ends where
 nx:St→Hp→Prop
 rt:VK
 bk:St→Hp→Prop:=fun _ _=>False
 ct:St→Hp→Prop:=fun _ _=>False
noncomputable abbrev TS:=Ends→St→Hp→Prop
noncomputable def EP (X:Cx) (pins:List (Addr×Obj)) (σ:St) (Q:VK) (u:Value) (s':Shared):Prop:=∃ v H',Inv X pins σ H' s'∧RelV v u∧Q v H'
noncomputable def TP (X:Cx) (pins:List (Addr×Obj)) (σ:St) (Q:Bool→Hp→Prop) (b:Bool) (s':Shared):Prop:=∃ H',Inv X pins σ H' s'∧Q b H'
noncomputable def AP (X:Cx) (pins:List (Addr×Obj)) (σ:St) (Q:List V→Hp→Prop) (us:List Value) (s':Shared):Prop:=∃ vs H',Inv X pins σ H' s'∧Vals vs us∧Q vs H'
noncomputable def SP (X:Cx) (pins:List (Addr×Obj)) (D:Ends) (f:Flow) (s':Shared):Prop :=
 match f with
 | .next=>∃ σ' H',Inv X pins σ' H' s'∧D.nx σ' H'
 | .brk=>∃ σ' H',Inv X pins σ' H' s'∧D.bk σ' H'
 | .cont=>∃ σ' H',Inv X pins σ' H' s'∧D.ct σ' H'
 | .ret u=>∃ v σ' H',Inv X pins σ' H' s'∧RelV v u∧D.rt v H'
noncomputable def PE (X:Cx) (e:Expr) (t:TE):Prop :=
 ∀ (pins:List (Addr×Obj)) (s:Shared) (σ:St) (H:Hp) (Q:VK),Inv X pins σ H s→t σ H Q→wpAny (model X.prog X.w) X.A (eval e X.env) (EP X pins σ Q) X.xe s
noncomputable def PT (X:Cx) (e:Expr) (t:TT):Prop :=
 ∀ (pins:List (Addr×Obj)) (s:Shared) (σ:St) (H:Hp) (Q:Bool→Hp→Prop),Inv X pins σ H s→t σ H Q→wpAny (model X.prog X.w) X.A (isTrue e X.env (eval e X.env)) (TP X pins σ Q) X.xe s
noncomputable def PW (X:Cx) (e:Expr) (t:TT):Prop :=
 ∀ (whole:Sem Value) (pins:List (Addr×Obj)) (s:Shared) (σ:St) (H:Hp) (Q:Bool→Hp→Prop),Inv X pins σ H s→t σ H Q→wpAny (model X.prog X.w) X.A (isTrue e X.env whole) (TP X pins σ Q) X.xe s
theorem PW.pt {X:Cx} {e:Expr} {t:TT} (h:PW X e t):PT X e t:=h _
noncomputable def PA (X:Cx) (es:List Expr) (t:TA):Prop :=
 ∀ (pos:Pos) (pins:List (Addr×Obj)) (s:Shared) (σ:St) (H:Hp) (Q:List V→Hp→Prop),Inv X pins σ H s→t σ H Q→wpAny (model X.prog X.w) X.A (spliced (backTo pos (starEach es X.env))) (AP X pins σ Q) X.xe s
noncomputable def PS (X:Cx) (st:Stmt) (t:TS):Prop :=
 ∀ (pins:List (Addr×Obj)) (s:Shared) (σ:St) (H:Hp) (D:Ends),Inv X pins σ H s→t D σ H→wpAny (model X.prog X.w) X.A (exec st X.env) (SP X pins D) X.xe s
noncomputable def PSs (X:Cx) (st:List Stmt) (t:TS):Prop :=
 ∀ (pins:List (Addr×Obj)) (s:Shared) (σ:St) (H:Hp) (D:Ends),Inv X pins σ H s→t D σ H→wpAny (model X.prog X.w) X.A (execs st X.env) (SP X pins D) X.xe s
theorem thn {α:Type} {t:Sem α} {Q Q':α→Shared→Prop} {M:Model} {A:Around} {E:Value→Shared→Prop} {s:Shared} (h:wpAny M A t Q E s) (hQ:∀ a s,Q a s→Q' a s):wpAny M A t Q' E s:=wpAny_mono h hQ fun _ _ x=>x
section
variable {X:Cx}
theorem bin {a b:Expr} {ta tb:TE} (ha:PE X a ta) (hb:PE X b tb) {pins:List (Addr×Obj)} {s:Shared} {σ:St} {H:Hp} {R:V→V→Hp→Prop} (I:Inv X pins σ H s) (h:ta σ H fun x H1=>tb σ H1 fun y H2=>R x y H2)
  {α:Type} {Q:α→Shared→Prop} {f:Value→Value→Sem α}
  (hf:∀ v u s2 x y H2,Inv X pins σ H2 s2→RelV x v→RelV y u→R x y H2→wpAny (model X.prog X.w) X.A (f v u) Q X.xe s2) :
  wpAny (model X.prog X.w) X.A (eval a X.env) (fun v s₁=>wpAny (model X.prog X.w) X.A (eval b X.env) (fun u s₂=>wpAny (model X.prog X.w) X.A (f v u) Q X.xe s₂) X.xe s₁) X.xe s:=by
 refine thn (ha pins s σ H _ I h) fun v s1 ⟨x,H1,I1,r1,q1⟩=>?_
 refine thn (hb pins s1 σ H1 _ I1 q1) fun u s2 ⟨y,H2,I2,r2,q2⟩=>?_
 exact hf v u s2 x y H2 I2 r1 r2 q2
noncomputable abbrev Qmq (i:Nat):TE:=fun σ H Q=>∃ v,σ[i]?=some (some v)∧Q v H
noncomputable abbrev tC (v:V):TE:=fun _ H Q=>Q v H
theorem Q4v {i:Nat} {x:Str} {pos:Pos} (hN:X.N[i]?=some x) (hv:Vis X.env.scope x) (hd:(x==("__debug__" : Str))=false:=by decide) (hcd:(x==("__classdict__" : Str))=false:=by decide):PE X (.Name x pos) (Qmq i):=by
 intro pins s σ H Q I h
 obtain ⟨v,e,h⟩:=h
 obtain ⟨m,hn,hl⟩:=I.loc
 obtain ⟨u,r,l⟩:=hl i x v hN e hv
 have fin:EP X pins σ Q u s:=⟨v,H,I,r,h⟩
 rcases l with ⟨hk,hm⟩ | ⟨hk,c,hc,hcell⟩
 ·exact wpAny_Name (wpAny_loadName_local I.ok.kind hk hn hm fin) hd
 ·rcases hk with hk | hk
  ·exact wpAny_Name (wpAny_loadName_cell I.ok.kind hk hc hcell fin) hd
  ·exact wpAny_Name (wpAny_loadName_free I.ok.kind hk hc hcell fin hcd) hd
theorem Q4w {i j pos}:PE X (.Constant (.int i) j pos) (tC (.int i)):=fun _ _ _ H _ I h=>wpAny_Constant_int ⟨.int i,H,I.tok _,⟨_,rfl⟩,h⟩
theorem Q8j {b j pos}:PE X (.Constant (.bool b) j pos) (tC (.bl b)):=fun _ _ _ H _ I h=>Constant_bool ⟨.bl b,H,I,rfl,h⟩
theorem Q4x {j pos}:PE X (.Constant .none j pos) (tC .non):=fun _ _ _ H _ I h=>Constant_none ⟨.non,H,I,rfl,h⟩
theorem Qwk {x j pos}:PE X (.Constant (.str x) j pos) (tC (.str x)):=fun _ _ _ H _ I h=>Calls.Constant_str ⟨.str x,H,I.tok _,⟨_,rfl⟩,h⟩
noncomputable def Gl (X:Cx) (x:Str):Prop:=X.env.kindOf x=some .globalImplicit
theorem Qfy {E:Value→Shared→Prop} {pins:List (Addr×Obj)} {s:Shared} {σ:St} {H:Hp} {x:Str} {u:Value} {pos:Pos} {Q:Value→Shared→Prop} (I:Inv X pins σ H s) (hg:Gl X x) (hm:X.mg x=some u) (h:Q u s)
  (hd:(x==("__debug__" : Str))=false:=by decide):wpAny (model X.prog X.w) X.A (eval (.Name x pos) X.env) Q E s :=
 Calls.Name_function_global I.ok.kind hg (Calls.loadGlobal_global (by rw [I.ok.glob];exact I.mod.glob.keeps I.bk) hm h) hd
theorem Qk9 {E:Value→Shared→Prop} {pins:List (Addr×Obj)} {s:Shared} {σ:St} {H:Hp} {x:Str} {u:Value} {pos:Pos} {Q:Value→Shared→Prop} (I:Inv X pins σ H s) (hg:Gl X x) (hm:X.mg x=none) (hv:bootBuiltins x=some u) (h:Q u s)
  (hn:x ≠ "__name__" := by decide) (hd:(x==("__debug__" : Str))=false:=by decide):wpAny (model X.prog X.w) X.A (eval (.Name x pos) X.env) Q E s:=by
 obtain ⟨mb,h1,h2⟩:=I.mod.blt
 exact Calls.Name_function_global I.ok.kind hg (Calls.loadGlobal_builtin (by rw [I.ok.glob];exact I.mod.glob.keeps I.bk) hm (by rw [I.ok.blt];exact h1.keeps I.bk) ((h2 x hn).trans hv) h) hd
theorem Qn5 {x:Str} {v:V} {u:Value} {pos:Pos} (hg:Gl X x) (hm:X.mg x=some u) (r:RelV v u) (hd:(x==("__debug__" : Str))=false:=by decide):PE X (.Name x pos) (tC v) :=
 fun _ _ _ H _ I h=>Qfy I hg hm ⟨v,H,I,r,h⟩ hd
theorem Q0j {x:Str} {v:V} {u:Value} {pos:Pos} (hg:Gl X x) (hm:X.mg x=none) (hv:bootBuiltins x=some u) (r:RelV v u) (hn:x ≠ "__name__" := by decide) (hd:(x==("__debug__" : Str))=false:=by decide):PE X (.Name x pos) (tC v) :=
 fun _ _ _ H _ I h=>Qk9 I hg hm hv ⟨v,H,I,r,h⟩ hn hd
variable {a b:Expr} {ta tb:TE} {pos:Pos}
noncomputable def PC (X:Cx) (op:CmpOp) (a b:Expr) (t:TE):Prop :=
 ∀ (pins:List (Addr×Obj)) (s:Shared) (σ:St) (H:Hp) (Q:VK),Inv X pins σ H s→t σ H Q →
  wpAny (model X.prog X.w) X.A (eval a X.env) (fun v s₁=>wpAny (model X.prog X.w) X.A (eval b X.env) (fun u s₂=>wpAny (model X.prog X.w) X.A (compareOp op v u) (EP X pins σ Q) X.xe s₂) X.xe s₁) X.xe s
theorem Qwl (b:Expr) {op:CmpOp} (h:op≠.In) (h2:op≠.NotIn):behindInMarks op b=false:=by
 have e1:(op==CmpOp.In)=false:=by cases op <;> first | rfl | exact absurd rfl h
 have e2:(op==CmpOp.NotIn)=false:=by cases op <;> first | rfl | exact absurd rfl h2
 cases b <;> simp [behindInMarks,e1,e2]
noncomputable abbrev tB (t:TE):TT:=fun σ H Q=>t σ H fun x H1=>∃ c,x=.bl c∧Q c H1
theorem pt_cmp {op:CmpOp} {t:TE} (h:PC X op a b t) (h1:behindInMarks op b=false:=by first | exact Qwl _ (by decide) (by decide) | rfl):PT X (.Compare a [op] [b] pos) (tB t):=by
 intro pins s σ H Q I hw
 refine wpAny_isTrue_Compare1 (thn (h pins s σ H _ I hw) fun v s1 h1=>thn h1 fun u s2 h2=>thn h2 fun c s3 ⟨x,H1,I1,r1,q1⟩=>?_) h1
 obtain ⟨d,rfl,q⟩:=q1
 cases r1
 exact wpAny_truthy_bool ⟨H1,I1,q⟩
theorem Q4y {e:Expr} {t:TE} (h:PE X e t) (he:∀ whole,isTrue e X.env whole=(do let v ← whole;standAt e.pos;holding [v] (truthy v)):=by intro _;rfl):PT X e (tB t):=by
 intro pins s σ H Q I hw
 refine isTrue_plain (thn (h pins s σ H _ I hw) fun v s1 ⟨x,H1,I1,r1,q1⟩=>?_) (he _)
 obtain ⟨d,rfl,q⟩:=q1
 cases r1
 exact wpAny_truthy_bool ⟨H1,I1,q⟩
variable {tA tB':TT} {rest:List Expr}
noncomputable abbrev Q8k (t u:TT):TT:=fun σ H Q=>t σ H fun c H1=>if c=true then u σ H1 Q else Q false H1
noncomputable abbrev tOr (t u:TT):TT:=fun σ H Q=>t σ H fun c H1=>if c=true then Q true H1 else u σ H1 Q
noncomputable abbrev Q8l (t:TT):TT:=fun σ H Q=>t σ H fun c H1=>Q (!c) H1
theorem Q0k (ha:PT X a tA):PW X (.BoolOp .And [a] pos) tA:=by
 intro wh pins s σ H Q I h
 refine isTrue_and (thn (ha pins s σ H Q I h) fun c s1 e=>?_)
 cases c with
 | true=>exact isTrue_and_nil e
 | false=>exact e
theorem Q4z (ha:PT X a tA):PW X (.BoolOp .Or [a] pos) tA:=by
 intro wh pins s σ H Q I h
 refine isTrue_or (thn (ha pins s σ H Q I h) fun c s1 e=>?_)
 cases c with
 | false=>exact isTrue_or_nil e
 | true=>exact e
theorem Q40 (ha:PT X a tA) (hb:PW X (.BoolOp .And (b::rest) pos) tB'):PW X (.BoolOp .And (a::b::rest) pos) (Q8k tA tB'):=by
 intro wh pins s σ H Q I h
 refine isTrue_and (thn (ha pins s σ H _ I h) fun c s1 ⟨H1,I1,q1⟩=>?_)
 cases c with
 | true=>exact hb wh pins s1 σ H1 Q I1 q1
 | false=>exact ⟨H1,I1,q1⟩
theorem Q8m (ha:PT X a tA) (hb:PW X (.BoolOp .Or (b::rest) pos) tB'):PW X (.BoolOp .Or (a::b::rest) pos) (tOr tA tB'):=by
 intro wh pins s σ H Q I h
 refine isTrue_or (thn (ha pins s σ H _ I h) fun c s1 ⟨H1,I1,q1⟩=>?_)
 cases c with
 | true=>exact ⟨H1,I1,q1⟩
 | false=>exact hb wh pins s1 σ H1 Q I1 q1
theorem Q41 (ha:PT X a tA):PT X (.UnaryOp .Not a pos) (Q8l tA):=by
 intro pins s σ H Q I h
 exact isTrue_not (ha pins s σ H (fun c H1=>Q (!c) H1) I h)
noncomputable abbrev Q3g (ta tb:TE):TE:=fun σ H Q=>ta σ H fun x H1=>∃ c,x=.bl c∧if c=true then tb σ H1 Q else Q (.bl false) H1
noncomputable abbrev Q3h (ta:TE):TE:=fun σ H Q=>ta σ H fun x H1=>∃ c,x=.bl c∧Q (.bl (!c)) H1
theorem Q42 {op} {t:TE} (h:PE X a t):PE X (.BoolOp op [a] pos) t:=fun pins s σ H Q I hw=>BoolOp_one (h pins s σ H Q I hw)
theorem Q43 (ha:PE X a ta) (hb:PE X (.BoolOp .And (b::rest) pos) tb):PE X (.BoolOp .And (a::b::rest) pos) (Q3g ta tb):=by
 intro pins s σ H Q I h
 refine BoolOp_and (thn (ha pins s σ H _ I h) fun v s1 ⟨x,H1,I1,r1,q1⟩=>?_)
 obtain ⟨c,rfl,q1⟩:=q1
 cases r1
 refine wpAny_truthy_bool ?_
 cases c with
 | true=>exact hb pins s1 σ H1 Q I1 q1
 | false=>exact ⟨.bl false,H1,I1,rfl,q1⟩
theorem Q44 (ha:PE X a ta):PE X (.UnaryOp .Not a pos) (Q3h ta):=by
 intro pins s σ H Q I h
 refine UnaryOp_ (thn (ha pins s σ H _ I h) fun v s1 ⟨x,H1,I1,r1,q1⟩=>?_)
 obtain ⟨c,rfl,q1⟩:=q1
 cases r1
 exact not_of (wpAny_truthy_bool ⟨.bl (!c),H1,I1,rfl,q1⟩)
noncomputable abbrev tIf (t:TT) (ta tb:TE):TE:=fun σ H Q=>t σ H fun c H1=>if c=true then ta σ H1 Q else tb σ H1 Q
theorem Qwm {c:Expr} (hc:PT X c tA) (ha:PE X a ta) (hb:PE X b tb):PE X (.IfExp c a b pos) (tIf tA ta tb):=by
 intro pins s σ H Q I h
 refine wpAny_IfExp (thn (hc pins s σ H _ I h) fun d s1 ⟨H1,I1,q1⟩=>?_)
 cases d with
 | true=>exact ha pins s1 σ H1 Q I1 q1
 | false=>exact hb pins s1 σ H1 Q I1 q1
end
noncomputable def SqL (K:PySem.W.Frag) (H:Hp) (a:Addr) (xs:List V):Prop :=
 Rd H a (.lst xs) ∨
  ∃ (o:Obj) (its:Array Value) (n:Nat),K.lookup a=some o∧o.cls=.type "list" ∧ o.dict=none∧o.data=.seq its n∧its.size≤sizeLine∧Vals xs its.toList
noncomputable def SqT (K:PySem.W.Frag) (H:Hp) (a:Addr) (xs:List V):Prop :=
 Rd H a (.tup xs) ∨
  ∃ (o:Obj) (its:Array Value) (n:Nat),K.lookup a=some o∧o.cls=.type "tuple" ∧ o.data=.seq its n∧its.size≤sizeLine∧Vals xs its.toList
noncomputable def absV:Value→Option V
 | .none=>some .non
 | .bool b=>some (.bl b)
 | .int i _=>some (.int i)
 | .str x _=>some (.str x)
 | .bytes b _=>some (.byt b)
 | .float b _=>some (.flt b)
 | .ref a=>some (.ref a)
 | .type n=>some (.ty n)
 | _=>none
theorem RelV.abs {x:V} {u:Value} (r:RelV x u):absV u=some x:=by
 cases x with
 | non=>cases r;rfl
 | bl _=>cases r;rfl
 | int _=>obtain ⟨t,rfl⟩:=r;rfl
 | str _=>obtain ⟨t,rfl⟩:=r;rfl
 | byt _=>obtain ⟨t,rfl⟩:=r;rfl
 | flt _=>obtain ⟨t,rfl⟩:=r;rfl
 | ref _=>cases r;rfl
 | ty _=>cases r;rfl
theorem RelV.inj {x y:V} {u:Value} (r:RelV x u) (q:RelV y u):x=y:=Option.some.inj (r.abs.symm.trans q.abs)
theorem Vals.inj:∀ {xs ys:List V} {us:List Value},Vals xs us→Vals ys us→xs=ys
 | _,_,_,.nil,.nil=>rfl
 | _,_,_,.cons r t,.cons r' t'=>by rw [r.inj r',Vals.inj t t']
section
variable {X:Cx} {pins:List (Addr×Obj)} {σ:St} {H:Hp} {s:Shared} {a:Addr} {xs ys:List V}
theorem SqL.of {K:PySem.W.Frag} (h:H a=some (.lst xs)):SqL K H a xs:=.inl (.inl h)
theorem SqT.of {K:PySem.W.Frag} (h:H a=some (.tup xs)):SqT K H a xs:=.inl (.inl h)
theorem Inv.list (I:Inv X pins σ H s) (h:SqL X.K H a xs):∃ its:List Value,Vals xs its∧PlainL s.heap a its.toArray∧xs.length≤sizeLine:=by
 rcases h with h | ⟨o,its,n,hk,hc,hd,hs,hz,r⟩
 ·obtain ⟨z,its,n,r,e⟩:=h.ok I.hok
  exact ⟨its,r,⟨_,n,e,rfl,rfl,rfl⟩,z⟩
 ·refine ⟨its.toList,r,⟨o,n,I.kIn a o hk,hc,hd,by simpa using hs⟩,?_⟩
  have e:=r.length
  simp only [Array.length_toList] at e
  omega
theorem Inv.tuple (I:Inv X pins σ H s) (h:SqT X.K H a xs):∃ its:List Value,Vals xs its∧IsTup s.heap a its.toArray∧xs.length≤sizeLine:=by
 rcases h with h | ⟨o,its,n,hk,hc,hs,hz,r⟩
 ·obtain ⟨z,its,r,p⟩:=h.ok I.hok
  exact ⟨its,r,p.tup,z⟩
 ·refine ⟨its.toList,r,⟨o,I.kIn a o hk,hc,n,by simpa using hs⟩,?_⟩
  have e:=r.length
  simp only [Array.length_toList] at e
  omega
theorem Inv.list_inj (I:Inv X pins σ H s) (h:SqL X.K H a xs) (h':SqL X.K H a ys):xs=ys:=by
 obtain ⟨its,r,⟨o,n,e,_,_,d⟩,_⟩:=I.list h
 obtain ⟨its',r',⟨o',n',e',_,_,d'⟩,_⟩:=I.list h'
 rw [e] at e';cases e'
 rw [d] at d'
 injection d' with d1 _
 have:its=its':=by simpa using congrArg Array.toList d1
 subst this
 exact r.inj r'
theorem Inv.tuple_inj (I:Inv X pins σ H s) (h:SqT X.K H a xs) (h':SqT X.K H a ys):xs=ys:=by
 obtain ⟨its,r,⟨o,e,_,n,d⟩,_⟩:=I.tuple h
 obtain ⟨its',r',⟨o',e',_,n',d'⟩,_⟩:=I.tuple h'
 rw [e] at e';cases e'
 rw [d] at d'
 injection d' with d1 _
 have:its=its':=by simpa using congrArg Array.toList d1
 subst this
 exact r.inj r'
end
noncomputable abbrev Cx.wish (X:Cx) (E:Value→Shared→Prop):Cx:={ X with xe:=E }
noncomputable abbrev Cx.nox (X:Cx):Cx:=X.wish fun _ _=>False
theorem Cx.Ok.wish {X:Cx} (ok:X.Ok) (E:Value→Shared→Prop):(X.wish E).Ok :=
 ⟨ok.mod,ok.kind,ok.glob,ok.blt,ok.above,ok.inj,ok.has,ok.cab,ok.hd,ok.frames,ok.stk,ok.exf,ok.bs,ok.bsz,ok.noex,ok.exfs,ok.funs,ok.frf⟩
theorem Cx.Ok.unwish {X:Cx} {E:Value→Shared→Prop} (ok:(X.wish E).Ok):X.Ok :=
 ⟨ok.mod,ok.kind,ok.glob,ok.blt,ok.above,ok.inj,ok.has,ok.cab,ok.hd,ok.frames,ok.stk,ok.exf,ok.bs,ok.bsz,ok.noex,ok.exfs,ok.funs,ok.frf⟩
section
variable {X:Cx} {pins:List (Addr×Obj)} {σ:St} {H:Hp} {s:Shared} {E:Value→Shared→Prop}
theorem Inv.wish (I:Inv X pins σ H s) (E:Value→Shared→Prop):Inv (X.wish E) pins σ H s:=⟨I.ok.wish E,I.os,I.bare,I.base,I.loc,I.cell,I.free,I.freeC,I.pin,I.hok,I.len⟩
theorem Inv.unwish (I:Inv (X.wish E) pins σ H s):Inv X pins σ H s:=⟨I.ok.unwish,I.os,I.bare,I.base,I.loc,I.cell,I.free,I.freeC,I.pin,I.hok,I.len⟩
theorem SP.unwish {D:Ends} {f:Flow} {s':Shared} (h:SP (X.wish E) pins D f s'):SP X pins D f s':=by
 cases f with
 | next=>obtain ⟨σ',H',I,q⟩:=h;exact ⟨σ',H',I.unwish,q⟩
 | brk=>obtain ⟨σ',H',I,q⟩:=h;exact ⟨σ',H',I.unwish,q⟩
 | cont=>obtain ⟨σ',H',I,q⟩:=h;exact ⟨σ',H',I.unwish,q⟩
 | ret u=>obtain ⟨v,σ',H',I,r,q⟩:=h;exact ⟨v,σ',H',I.unwish,r,q⟩
theorem PSs.nox {st:List Stmt} {t:TS} (h:PSs X.nox st t):PSs X st t:=fun pins s σ H D I hw =>
 wpAny_mono (h pins s σ H D (I.wish _) hw) (fun _ _ q=>q.unwish) fun _ _ z=>False.elim z
end
section
variable {X:Cx} {st:Stmt} {rest:List Stmt} {t u:TS} {e:Expr} {te:TE} {pos:Pos}
noncomputable abbrev Q3i:TS:=fun D σ H=>D.nx σ H
noncomputable abbrev Qwn (t u:TS):TS:=fun D σ H=>t { D with nx:=u D } σ H
theorem Q0l:PSs X [] Q3i:=fun _ _ σ H _ I h=>wpAny_execs_nil ⟨σ,H,I,h⟩
theorem Qwo (h1:PS X st t) (h2:PSs X rest u):PSs X (st::rest) (Qwn t u):=by
 intro pins s σ H D I h
 refine wpAny_execs_cons (thn (h1 pins s σ H { D with nx:=u D } I h) fun f s1 q=>?_)
 cases f with
 | next =>
  obtain ⟨σ',H',I',q⟩:=q
  exact h2 pins s1 σ' H' D I' q
 | ret v=>exact q
 | brk=>exact q
 | cont=>exact q
theorem Q0m (h1:PS X st t):PSs X [st] t:=by
 intro pins s σ H D I h
 refine wpAny_execs_cons (thn (h1 pins s σ H D I h) fun f s1 q=>?_)
 cases f with
 | next=>exact wpAny_execs_nil q
 | ret v=>exact q
 | brk=>exact q
 | cont=>exact q
theorem Inv.quiet {pins:List (Addr×Obj)} {σ:St} {H:Hp} {s:Shared} (I:Inv X pins σ H s):interactive X.env=false:=by simp [interactive,I.ok.kind]
noncomputable abbrev Qwp (te:TE):TS:=fun D σ H=>te σ H fun _ H1=>D.nx σ H1
theorem Q0n (he:PE X e te) (hs:swapsWith e none pos.line X.env=pure false:=by rfl):PS X (.Expr e pos) (Qwp te):=by
 intro pins s σ H D I h
 exact wpAny_Expr_any (thn (he pins s σ H _ I h) fun v s1 ⟨x,H1,I1,r1,q1⟩=>⟨σ,H1,I1,q1⟩) I.quiet hs
noncomputable abbrev Q0o (te:TE):TS:=fun D σ H=>te σ H D.rt
theorem Q45 (he:PE X e te):PS X (.Return (some e) pos) (Q0o te):=by
 intro pins s σ H D I h
 exact wpAny_Return_some (thn (he pins s σ H _ I h) fun v s1 ⟨x,H1,I1,r1,q1⟩=>⟨x,σ,H1,I1,r1,q1⟩)
noncomputable abbrev Q8n (c:TT) (t u:TS):TS:=fun D σ H=>c σ H fun b H1=>if b=true then t D σ H1 else u D σ H1
theorem Q8o {c:Expr} {a b:List Stmt} {tc:TT} (hc:PT X c tc) (ha:PSs X a t) (hb:PSs X b u):PS X (.If c a b pos) (Q8n tc t u):=by
 intro pins s σ H D I h
 refine wpAny_If (thn (hc pins s σ H _ I h) fun d s1 ⟨H1,I1,q1⟩=>?_)
 cases d with
 | true=>exact ha pins s1 σ H1 D I1 q1
 | false=>exact hb pins s1 σ H1 D I1 q1
end
noncomputable abbrev TG:=V→St→Hp→(St→Hp→Prop)→Prop
noncomputable abbrev TGs:=List V→St→Hp→(St→Hp→Prop)→Prop
noncomputable def PG (X:Cx) (target:Expr) (t:TG):Prop :=
 ∀ (pins:List (Addr×Obj)) (s:Shared) (σ:St) (H:Hp) (v:V) (u:Value) (Q:St→Hp→Prop),Inv X pins σ H s→RelV v u→t v σ H Q →
  wpAny (model X.prog X.w) X.A (assign target X.env u) (fun _ s'=>∃ σ' H',Inv X pins σ' H' s'∧Q σ' H') X.xe s
noncomputable def PGs (X:Cx) (ts:List Expr) (t:TGs):Prop :=
 ∀ (pins:List (Addr×Obj)) (s:Shared) (σ:St) (H:Hp) (vs:List V) (us:List Value) (Q:St→Hp→Prop),Inv X pins σ H s→Vals vs us→t vs σ H Q →
  wpAny (model X.prog X.w) X.A (assignInOrder ((assignEach ts X.env).map (·.2)) us) (fun _ s'=>∃ σ' H',Inv X pins σ' H' s'∧Q σ' H') X.xe s
noncomputable abbrev Q46:=V→V→V→Hp→(Hp→Prop)→Prop
noncomputable def Q8p (X:Cx) (t:Q46):Prop :=
 ∀ (pins:List (Addr×Obj)) (s:Shared) (σ:St) (H:Hp) (o i v:V) (ov iv u:Value) (Q:Hp→Prop),Inv X pins σ H s→RelV o ov→RelV i iv→RelV v u→t o i v H Q →
  wpAny (model X.prog X.w) X.A (setItem ov iv u) (fun _ s'=>∃ H',Inv X pins σ H' s'∧Q H') X.xe s
section
variable {X:Cx} {pos:Pos}
noncomputable abbrev Qgi (i:Nat):TG:=fun v σ H Q=>Q (σ.set i (some v)) H
theorem Q0p {i:Nat} {x:Str} (hN:X.N.Nodup) (hi:X.N[i]?=some x) (hx:Loc X.env.scope x) (hf:X.fn x=true∨X.env.scope.names.lookup x=some .local:=by first | exact .inl rfl | exact .inr rfl | assumption):PG X (.Name x pos) (Qgi i):=by
 intro pins s σ H v u Q I r h
 exact wpAny_assign_Name (Qfp I hN hi hx r (fun s' I'=>⟨_,H,I',h⟩) hf)
noncomputable abbrev Q47:TGs:=fun vs σ H Q=>vs=[]∧Q σ H
noncomputable abbrev Qwq (t:TG) (u:TGs):TGs:=fun vs σ H Q=>∃ v r,vs=v::r∧t v σ H fun σ' H'=>u r σ' H' Q
theorem Q0q:PGs X [] Q47:=by
 intro pins s σ H vs us Q I r h
 obtain ⟨e,h⟩:=h
 subst e
 cases r
 exact assignInOrder_nil ⟨σ,H,I,h⟩
theorem Qwr {e:Expr} {es:List Expr} {t:TG} {u:TGs} (h1:PG X e t) (h2:PGs X es u)
  (hs:(assignEach (e::es) X.env).map (·.2)=assign e X.env::(assignEach es X.env).map (·.2):=by rfl):PGs X (e::es) (Qwq t u):=by
 intro pins s σ H vs us Q I r h
 obtain ⟨v,vr,e1,h⟩:=h
 subst e1
 cases r with
 | cons r rr =>
  rw [hs]
  refine assignInOrder_cons (thn (h1 pins s σ H _ _ _ I r h) fun _ s1 ⟨σ1,H1,I1,q1⟩=>?_)
  exact h2 pins s1 σ1 H1 _ _ Q I1 rr q1
noncomputable def Q0r (K:PySem.W.Frag) (n:Nat) (t:TGs):TG:=fun v σ H Q=>∃ a xs,v=.ref a∧SqT K H a xs∧xs.length=n∧t xs σ H Q
theorem Q48 {es:List Expr} {k:Nat} {t:TGs} {n:Nat} (hc:X.calm=true) (h:PGs X es t)
  (hn:(assignEach es X.env).length=n:=by rfl) (hst:(assignEach es X.env).findIdx? (·.1)=none:=by rfl):PG X (.Tuple es k pos) (Q0r X.K n t):=by
 intro pins s σ H v u Q I r hw
 obtain ⟨a,xs,e1,hq,hl,hw⟩:=hw
 subst e1
 cases r
 obtain ⟨its,rv,ht,hz⟩:=I.tuple hq
 refine assign_Tuple_tuple (I.ok.hd hc) ht (by simp [hn,←hl,rv.length]) hst fun h' hx=>?_
 have I1:Inv X pins σ H { s with heap:=h' }:=I.kept (t':=s.toks) fun b o e=>hx b o (Nat.ne_of_lt (Heap.lt_size e)) e
 exact h pins _ σ H xs _ Q I1 (by simpa using rv) hw
noncomputable abbrev Q49 (to ti:TE) (t:Q46):TG:=fun v σ H Q=>to σ H fun o H1=>ti σ H1 fun i H2=>t o i v H2 fun H3=>Q σ H3
theorem Q5a {o i:Expr} {to ti:TE} {t:Q46} (ho:PE X o to) (hi:PE X i ti) (hs:Q8p X t)
  (ha:∀ v,assign (.Subscript o i pos) X.env v=(do
   let ov ← holding [v] (eval o X.env)
   let iv ← holding [v,ov] (eval i X.env)
   standAt pos
   holding [v,ov,iv] (setItem ov iv v)
   release [v,ov,iv] []):=by intro _;rfl):PG X (.Subscript o i pos) (Q49 to ti t):=by
 intro pins s σ H v u Q I r h
 rw [ha]
 refine wpAny_bind (wpAny_holding (thn (ho pins s σ H _ I h) fun ov s1 ⟨x,H1,I1,r1,q1⟩=>?_))
 refine wpAny_bind (wpAny_holding (thn (hi pins s1 σ H1 _ I1 q1) fun iv s2 ⟨y,H2,I2,r2,q2⟩=>?_))
 refine wpAny_bind (wpAny_standAt (wpAny_bind (wpAny_holding (thn (hs pins s2 σ H2 x y v ov iv u _ I2 r1 r2 r q2) fun _ s3 ⟨H3,I3,q3⟩=>?_))))
 exact wpAny_release ⟨σ,H3,I3,q3⟩
noncomputable abbrev Qmr (te:TE) (g:TG):TS:=fun D σ H=>te σ H fun x H1=>g x σ H1 D.nx
theorem Q5b {tg e:Expr} {te:TE} {g:TG} (he:PE X e te) (hg:PG X tg g) (hs:swapsWithSole [tg] e pos.line X.env=pure false:=by rfl) (hw:swappedStores [tg] e X.env=pure none:=by rfl)
  (h1:(assignEach [tg] X.env).map (·.2)=[assign tg X.env]:=by rfl):PS X (.Assign [tg] e pos) (Qmr te g):=by
 intro pins s σ H D I h
 refine wpAny_Assign_stores (thn (he pins s σ H _ I h) fun v s1 ⟨x,H1,I1,r1,q1⟩=>?_) hs hw
 rw [h1]
 exact thn (hg pins s1 σ H1 x v _ I1 r1 q1) fun _ s2 q=>q
theorem Q5c {i:Nat} {x:Str} {e:Expr} {te:TE} {pos':Pos} (hN:X.N.Nodup) (hi:X.N[i]?=some x) (hx:Loc X.env.scope x) (he:PE X e te) (hs:swapsWith e (some (.Name x pos')) pos.line X.env=pure false:=by rfl) (hf:X.fn x=true∨X.env.scope.names.lookup x=some .local:=by first | exact .inl rfl | exact .inr rfl | assumption) :
  PS X (.Assign [.Name x pos'] e pos) (Qmr te (Qgi i)):=by
 intro pins s σ H D I h
 refine wpAny_Assign_Name (thn (he pins s σ H _ I h) fun v s1 ⟨y,H1,I1,r1,q1⟩=>?_) hs
 exact Qfp I1 hN hi hx r1 (fun s2 I2=>⟨_,H1,I2,q1⟩) hf
noncomputable abbrev Q5d (i j:Nat) (ta:TA):TS:=fun D σ H=>ta σ H fun vs H1=>∃ v w,vs=[v,w]∧D.nx ((σ.set i (some v)).set j (some w)) H1
theorem Q5e {i j:Nat} {x y:Str} {a b:Expr} {ta:TA} {px py pt:Pos} {kt k2 pt2} (hc:X.calm=true) (hN:X.N.Nodup) (hi:X.N[i]?=some x) (hj:X.N[j]?=some y) (hij:i≠j)
  (hx:X.env.scope.names.lookup x=some .local) (hy:X.env.scope.names.lookup y=some .local) (ha:PA X [a,b] ta)
  (hw:swappedStores [.Tuple [.Name x px,.Name y py] kt pt] (.Tuple [a,b] k2 pt2) X.env=pure (some [x,y]))
  (hs:swapsWithSole [.Tuple [.Name x px,.Name y py] kt pt] (.Tuple [a,b] k2 pt2) pos.line X.env=pure false:=by rfl) :
  PS X (.Assign [.Tuple [.Name x px,.Name y py] kt pt] (.Tuple [a,b] k2 pt2) pos) (Q5d i j ta):=by
 intro pins s σ H D I h
 rw [exec_Assign_arm]
 refine wpAny_bind (wpAny_standAt ?_)
 rw [hs]
 refine wpAny_bind (wpAny_pure ?_)
 rw [if_neg (by decide)]
 refine wpAny_bind (Tuple_ (thn (ha _ pins s σ H _ I h) fun us s1 ⟨vs,H1,I1,r1,q1⟩=>?_))
 obtain ⟨v,w,e1,q1⟩:=q1
 subst e1
 obtain ⟨u1,u2,rfl,rv,rw'⟩:∃ u1 u2,us=[u1,u2]∧RelV v u1∧RelV w u2:=by
  cases r1 with
  | cons p q =>
   cases q with
   | cons p' q' =>
    cases q'
    exact ⟨_,_,rfl,p,p'⟩
 refine wpAny_newObj_type ?_ (by show 2≤sizeLine;decide)
 have I2:Inv X pins σ H1 { s1 with heap:=s1.heap.push { cls:=.type "tuple",data:=.seq [u1,u2].toArray } }:=I1.kept (t':=s1.toks) fun b o e=>Heap.get?_push_of_some _ e
 rw [hw]
 refine wpAny_bind (wpAny_pure ?_)
 show wpAny (model X.prog X.w) X.A (do rule "assign.swapped-stores";let items ← unpackItems (.ref s1.heap.objs.size) 2 none;assignInOrder [fun v=>bindName X.env y v,fun v=>bindName X.env x v] items.reverse;pure Flow.next) _ _ _
 refine wpAny_bind (wpAny_rule (wpAny_bind (unpackItems_tuple (items:=#[u1,u2]) (I.ok.hd hc) (IsTup.new s1.heap _) fun h' hx'=>?_)))
 have I3:=I2.kept (h':=h') (t':=s1.toks) fun b o e=>hx' b o (Nat.ne_of_lt (Heap.lt_size e)) e
 show wpAny _ _ (assignInOrder [fun v=>bindName X.env y v,fun v=>bindName X.env x v] [u2,u1] >>= fun _=>pure Flow.next) _ _ _
 refine wpAny_bind (assignInOrder_cons (wpAny_bindName (Qfp I3 hN hj (.inl hy) rw' (fun s2 I4=>?_) (.inr hy))))
 refine assignInOrder_cons (wpAny_bindName (Qfp I4 hN hi (.inl hx) rv (fun s3 I5=>assignInOrder_nil (wpAny_pure ?_)) (.inr hx)))
 rw [List.set_comm _ _ (Ne.symm hij)] at I5
 exact ⟨_,H1,I5,q1⟩
end
section
variable {X:Cx} {pos:Pos}
noncomputable def Qws (c:TT) (tb:TS):TS:=fun D σ H=>∃ W:Nat→St→Hp→Prop,(∃ m,W m σ H)∧∀ m σ H,W m σ H →
 c σ H fun b H1=>if b=true then ∃ N:St→Hp→Prop,(∀ σ' H',N σ' H'→∃ m',m'<m∧W m' σ' H')∧tb { D with nx:=N,ct:=N,bk:=D.nx } σ H1 else D.nx σ H1
theorem Qwt {c:Expr} {body:List Stmt} {tc:TT} {tb:TS} (hp:PassesOwn (model X.prog X.w) X.A X.env X.xe) (hc:PT X c tc) (hb:PSs X body tb):PS X (.While c body [] pos) (Qws tc tb):=by
 intro pins s σ H D I h
 obtain ⟨W,⟨m0,w0⟩,turn⟩:=h
 refine wpAny_While (codeAny_whileLoop (fun n s'=>∃ σ' H',Inv X pins σ' H' s'∧W n σ' H') ?_ m0 ⟨σ,H,I,w0⟩)
 rintro n s1 ⟨σ1,H1,I1,w1⟩
 refine wpAny_passesOwn hp (thn (hc pins s1 σ1 H1 _ I1 (turn n σ1 H1 w1)) fun b s2 ⟨H2,I2,q2⟩=>?_)
 cases b with
 | true =>
  obtain ⟨N,hN,q2⟩:=q2
  rw [if_pos rfl]
  refine wpAny_passesOwn hp (thn (hb pins s2 σ1 H2 _ I2 q2) fun f s3 q3=>?_)
  cases f with
  | next =>
   obtain ⟨σ3,H3,I3,n3⟩:=q3
   obtain ⟨m',hm,w3⟩:=hN σ3 H3 n3
   exact ⟨m',hm,σ3,H3,I3,w3⟩
  | cont =>
   obtain ⟨σ3,H3,I3,n3⟩:=q3
   obtain ⟨m',hm,w3⟩:=hN σ3 H3 n3
   exact ⟨m',hm,σ3,H3,I3,w3⟩
  | brk=>exact q3
  | ret v=>exact q3
 | false =>
  rw [if_neg Bool.false_ne_true]
  exact wpAny_execs_nil ⟨σ1,H2,I2,q2⟩
end
structure It where
 go:Nat→Hp→Prop
 yld:Nat→Hp→V→Hp→Prop
 stop:Nat→Hp→Prop
noncomputable def Qhz (X:Cx) (pins:List (Addr×Obj)) (H:Hp) (b:Addr):Prop :=
 H b=none∧b≠X.env.locals∧b∉X.fs∧(b∈X.ex∨X.s₀.heap.objs.size≤b)∧(∀ x c,X.env.cells.lookup x=some c→c≠b)∧∀ p∈X.pn++pins,p.1≠b
theorem Inv.fpOk {X:Cx} {pins:List (Addr×Obj)} {σ:St} {H H':Hp} {s:Shared} {b:Addr} (I:Inv X pins σ H s) (hb:s.heap.objs.size≤b) (hn:H' b=none):Qhz X pins H' b:=by
 refine ⟨hn,Nat.ne_of_gt (Nat.lt_of_lt_of_le I.lt hb),I.nofs hb,.inr (Nat.le_trans I.sz hb),fun x c e z=>?_,fun p hp z=>?_⟩
 ·obtain ⟨v,q⟩:=I.cell x c e
  exact absurd (Nat.lt_of_lt_of_le q.lt (by rw [z];exact hb)) (Nat.lt_irrefl _)
 ·exact absurd (Nat.lt_of_lt_of_le (Heap.lt_size (I.pin p hp).1) (by rw [z];exact hb)) (Nat.lt_irrefl _)
structure Turn (P:Program) (w:World) (K:PySem.W.Frag) (tg:Expr) (J:It) (fp:List Addr) (it:Addr) (tn:Nat→Heap→Prop):Prop where
 mem:it∈fp
 obj:∀ i h,tn i h→∀ b∈fp,∃ o,h.get? b=some o∧∀ v,o.data≠.cell v
 keep:∀ i h h',tn i h→(∀ b∈fp,∀ o,h.get? b=some o→h'.get? b=some o)→tn i h'
 item:∀ (X:Cx),X.prog=P→X.w=w→X.K=K→X.calm=true→∀ (i:Nat) (pins:List (Addr×Obj)) (s:Shared) (σ:St) (H:Hp) (E:Value→Shared→Prop),Inv X pins σ H s→(∀ b∈fp,Qhz X pins H b)→tn i s.heap→J.go i H →
  wpAny (model P w) X.A (pyNext (.ref it)) (fun r s1=>∃ u,r=some u ∧
   wpAny (model P w) X.A (letOwnedTupleGo tg (.ref it) u) (fun _ s2=>∃ x H',Inv X pins σ H' s2∧RelV x u∧J.yld i H x H'∧tn (i+1) s2.heap∧∀ b∈fp,H' b=none) E s1) E s
 done:∀ (X:Cx),X.prog=P→X.w=w→X.K=K→X.calm=true→∀ (i:Nat) (pins:List (Addr×Obj)) (s:Shared) (σ:St) (H:Hp) (E:Value→Shared→Prop),Inv X pins σ H s→(∀ b∈fp,Qhz X pins H b)→tn i s.heap→J.stop i H →
  wpAny (model P w) X.A (pyNext (.ref it)) (fun r s1=>r=none∧Inv X pins σ H s1) E s
 self:∀ (A:Around) (i:Nat) (s:Shared) (Q:Value→Shared→Prop) (E:Value→Shared→Prop),tn i s.heap→Q (.ref it) s→wpAny (model P w) A (pyIter (.ref it)) Q E s
noncomputable abbrev TI:=St→Hp→(It→Hp→Prop)→Prop
noncomputable def PIE (X:Cx) (pins:List (Addr×Obj)) (σ:St) (tg:Expr) (R:It→Hp→Prop) (itv:Value) (s2:Shared):Prop :=
 ∃ (it:Addr) (fp:List Addr) (tn:Nat→Heap→Prop) (J:It) (H':Hp),itv=.ref it∧Inv X pins σ H' s2∧Turn X.prog X.w X.K tg J fp it tn∧tn 0 s2.heap∧(∀ b∈fp,Qhz X pins H' b)∧R J H'
noncomputable def PI (X:Cx) (tg iter:Expr) (wi:TI):Prop :=
 ∀ (pins:List (Addr×Obj)) (s:Shared) (σ:St) (H:Hp) (R:It→Hp→Prop),Inv X pins σ H s→wi σ H R →
  wpAny (model X.prog X.w) X.A (eval iter X.env) (fun v s1=>wpAny (model X.prog X.w) X.A (pyIter v) (PIE X pins σ tg R) X.xe s1) X.xe s
theorem Qwu {M:Model} {A:Around} {E:Value→Shared→Prop} {s:Shared} {tg:Expr} {it:Addr} {u:Value} {o:Obj} {n:String} {vs:Array Value} {Q:Unit→Shared→Prop} (ho:s.heap.get? it=some o) (hc:o.cls=.type n) (hd:o.data=.fields vs)
  (hn:["enumerate","zip","dict_itemiterator","dict_reverseitemiterator","odict_iterator","itertools.zip_longest","itertools.pairwise"].contains n=false) (hQ:Q () s):wpAny M A (letOwnedTupleGo tg (.ref it) u) Q E s:=by
 unfold letOwnedTupleGo
 cases tg <;> first
  | exact wpAny_pure hQ
  | (cases u <;> first
    | exact wpAny_pure hQ
    | (refine wpAny_bind (wpAny_load ho ?_)
       rw [hc,hd]
       show wpAny M A (if (["enumerate","zip","dict_itemiterator","dict_reverseitemiterator","odict_iterator","itertools.zip_longest","itertools.pairwise"].contains n&&vs[0]?==some (rawInt _))=true then _ else _) Q E s
       rw [if_neg (by intro h;rw [hn,Bool.false_and] at h;cases h)]
       exact wpAny_pure hQ))
noncomputable def Itl (K:PySem.W.Frag) (a:Addr):It :=
 ⟨fun i H=>∃ xs x,SqL K H a xs∧xs[i]?=some x,fun i H x H'=>H'=H∧∀ xs,SqL K H a xs→xs[i]?=some x,fun i H=>∃ xs,SqL K H a xs∧xs.length≤i⟩
noncomputable def Itt (K:PySem.W.Frag) (a:Addr):It :=
 ⟨fun i H=>∃ xs x,SqT K H a xs∧xs[i]?=some x,fun i H x H'=>H'=H∧∀ xs,SqT K H a xs→xs[i]?=some x,fun i H=>∃ xs,SqT K H a xs∧xs.length≤i⟩
noncomputable def Itr (lo:Int) (n:Nat):It:=⟨fun i _=>i<n,fun i H x H'=>H'=H∧x=.int (lo+i),fun i _=>n≤i⟩
theorem Qux {P:Program} {w:World} {K:PySem.W.Frag} {tg:Expr} (a it:Addr):Turn P w K tg (Itl K a) [it] it (fun i h=>h.IsListIter it a i) where
 mem:=by simp
 obj:=fun i h st b hb=>by
  have e:b=it:=by simpa using hb
  subst e
  obtain ⟨o,e,c,d⟩:=st
  exact ⟨o,e,fun v z=>by rw [d] at z;cases z⟩
 keep:=fun i h h' st k=>st.at fun o e=>k it (by simp) o e
 item:=by
  intro X hP hw hK hc i pins s σ H E I hf st hg
  subst hP hw hK
  obtain ⟨xs,x,hq,hx⟩:=hg
  obtain ⟨its,rv,p,hz⟩:=I.list hq
  obtain ⟨u,hu,ru⟩:=rv.get hx
  obtain ⟨f0,f1,f2,f3,f4,f5⟩:=hf it (by simp)
  refine wpAny_pyNext_list_item st p.isList (x:=u) (by simpa using hu) fun h' st' sb=>?_
  have I1:Inv X pins σ H { s with heap:=h' }:=I.turned (t':=s.toks) (fun b o hb e=>(sb.2 b hb).trans e) f0 f1 f3 f4 f5
  obtain ⟨o,e,c,d⟩:=id st'
  exact ⟨u,rfl,Qwu (s:={ s with heap:=h' }) e c d (by decide) ⟨x,H,I1,ru,⟨rfl,fun ys hy=>by rw [I.list_inj hy hq];exact hx⟩,st',fun b hb=>(hf b hb).1⟩⟩
 done:=by
  intro X hP hw hK hc i pins s σ H E I hf st hg
  subst hP hw hK
  obtain ⟨xs,hq,hx⟩:=hg
  obtain ⟨its,rv,p,hz⟩:=I.list hq
  obtain ⟨f0,f1,f2,f3,f4,f5⟩:=hf it (by simp)
  have hl:=rv.length
  exact wpAny_pyNext_list_end (I.ok.hd hc) st p.isList (by simp;omega) fun h' eb=>⟨rfl,I.turned (t':=s.toks) (fun b o hb e=>eb b o hb e) f0 f1 f3 f4 f5⟩
 self:=fun _ _ _ _ _ st h=>wpAny_pyIter_listiter st h
theorem Qrn {P:Program} {w:World} {K:PySem.W.Frag} {tg:Expr} (a it:Addr):Turn P w K tg (Itt K a) [it] it (fun i h=>h.IsTupleIter it a i) where
 mem:=by simp
 obj:=fun i h st b hb=>by
  have e:b=it:=by simpa using hb
  subst e
  obtain ⟨o,e,c,d⟩:=st
  exact ⟨o,e,fun v z=>by rw [d] at z;cases z⟩
 keep:=fun i h h' st k=>st.at fun o e=>k it (by simp) o e
 item:=by
  intro X hP hw hK hc i pins s σ H E I hf st hg
  subst hP hw hK
  obtain ⟨xs,x,hq,hx⟩:=hg
  obtain ⟨its,rv,p,hz⟩:=I.tuple hq
  obtain ⟨u,hu,ru⟩:=rv.get hx
  obtain ⟨f0,f1,f2,f3,f4,f5⟩:=hf it (by simp)
  refine wpAny_pyNext_tuple_item st (show s.heap.IsTuple a its.toArray from p) (x:=u) (by simpa using hu) fun h' st' sb=>?_
  have I1:Inv X pins σ H { s with heap:=h' }:=I.turned (t':=s.toks) (fun b o hb e=>(sb.2 b hb).trans e) f0 f1 f3 f4 f5
  obtain ⟨o,e,c,d⟩:=id st'
  exact ⟨u,rfl,Qwu (s:={ s with heap:=h' }) e c d (by decide) ⟨x,H,I1,ru,⟨rfl,fun ys hy=>by rw [I.tuple_inj hy hq];exact hx⟩,st',fun b hb=>(hf b hb).1⟩⟩
 done:=by
  intro X hP hw hK hc i pins s σ H E I hf st hg
  subst hP hw hK
  obtain ⟨xs,hq,hx⟩:=hg
  obtain ⟨its,rv,p,hz⟩:=I.tuple hq
  obtain ⟨f0,f1,f2,f3,f4,f5⟩:=hf it (by simp)
  have hl:=rv.length
  exact wpAny_pyNext_tuple_end (I.ok.hd hc) st (show s.heap.IsTuple a its.toArray from p) (by simp;omega) fun h' eb=>⟨rfl,I.turned (t':=s.toks) (fun b o hb e=>eb b o hb e) f0 f1 f3 f4 f5⟩
 self:=fun _ _ _ _ _ st h=>wpAny_pyIter_tupleiter st h
theorem Qro {P:Program} {w:World} {K:PySem.W.Frag} {tg:Expr} (it:Addr) (lo:Int) (n:Nat):Turn P w K tg (Itr lo n) [it] it (fun i h=>IsRangeIter h it (lo+(i:Nat)*1) ((n:Int)-(i:Nat)) 1) where
 mem:=by simp
 obj:=fun i h st b hb=>by
  have e:b=it:=by simpa using hb
  subst e
  exact ⟨_,st,fun v z=>by
   have z':Data.fields _=Data.cell v:=z
   cases z'⟩
 keep:=fun i h h' st k=>k it (by simp) _ st
 item:=by
  intro X hP hw hK hc i pins s σ H E I hf st hg
  subst hP hw hK
  obtain ⟨f0,f1,f2,f3,f4,f5⟩:=hf it (by simp)
  have W:=Walks.range (prog:=X.prog) (w:=X.w) (I.ok.hd hc) it lo 1 n
  refine W.item i s _ _ hg st fun v h' tk hv st' kk=>?_
  obtain ⟨t,rfl⟩:=hv
  have I1:Inv X pins σ H { s with heap:=h',toks:=tk }:=I.turned (fun b o hb e=>kk b o (by simpa using hb) e) f0 f1 f3 f4 f5
  refine ⟨_,rfl,Qwu (s:={ s with heap:=h',toks:=tk }) (n := "range_iterator") st' rfl rfl (by decide) ⟨.int (lo+i),H,I1,⟨t,?_⟩,⟨rfl,rfl⟩,st',fun b hb=>(hf b hb).1⟩⟩
  rw [Int.mul_one]
 done:=by
  intro X hP hw hK hc i pins s σ H E I hf st hg
  subst hP hw hK
  obtain ⟨f0,f1,f2,f3,f4,f5⟩:=hf it (by simp)
  exact wpAny_pyNext_range_end (I.ok.hd hc) st (by have:n≤i:=hg;omega) fun h' eb=>⟨rfl,I.turned (t':=s.toks) (fun b o hb e=>eb b o hb e) f0 f1 f3 f4 f5⟩
 self:=fun _ _ _ _ _ st h=>wpAny_pyIter_rangeiter st h
section
variable {X:Cx} {tg:Expr}
theorem Qwv {pins:List (Addr×Obj)} {σ:St} {H:Hp} {s:Shared} {R:It→Hp→Prop} {E:Value→Shared→Prop} {lo hi:Int} {t u v:Tok} {tk:Nat} (I:Inv X pins σ H s) (h1:-(2^62)≤lo) (h2:lo<2^62) (h3:-(2^62)≤hi) (h4:hi<2^62)
  (q:R (Itr lo (hi-lo).toNat) H):wpAny (model X.prog X.w) X.A (pyIter (.ref s.heap.objs.size)) (PIE X pins σ tg R) E { s with heap:=s.heap.push { cls:=.type "range",data:=.fields #[.int lo t,.int hi u,.int 1 v] },toks:=tk }:=by
 refine wpAny_pyIter_range (IsRange.new ..) (small_one h1 h2 h3 h4) ?_
 have I1:Inv X pins σ H { s with heap:=s.heap.push { cls:=.type "range",data:=.fields #[.int lo t,.int hi u,.int 1 v] },toks:=tk }:=I.kept fun b o e=>Heap.get?_push_of_some _ e
 refine ⟨(s.heap.push { cls:=.type "range",data:=.fields #[.int lo t,.int hi u,.int 1 v] }).objs.size,[(s.heap.push { cls:=.type "range",data:=.fields #[.int lo t,.int hi u,.int 1 v] }).objs.size],_,_,H,rfl,
  I1.kept (t':=tk) fun b o e=>Heap.get?_push_of_some _ e,Qro _ lo (hi-lo).toNat,?_,fun b hb=>?_,q⟩
 ·have e1:lo+((0:Nat):Int)*1=lo:=by simp
  have e2:(((hi-lo).toNat:Nat):Int)-((0:Nat):Int)=Builtin.Range.rangeSize lo hi 1:=by rw [rangeSize_one];split <;> omega
  show IsRangeIter _ _ (lo+((0:Nat):Int)*1) ((((hi-lo).toNat:Nat):Int)-((0:Nat):Int)) 1
  rw [e1,e2]
  exact Heap.get?_push_size _ rfl
 ·have e:b=(s.heap.push { cls:=.type "range",data:=.fields #[.int lo t,.int hi u,.int 1 v] }).objs.size:=by simpa using hb
  subst e
  exact I1.fpOk (Nat.le_refl _) (I1.hok.fresh (Nat.le_refl _))
noncomputable def Q3j (ta:TA):TI:=fun σ H R=>ta σ H fun vs H1=>∃ j:Int,vs=[.int j] ∧ -(2^62)≤j∧j<2^62∧R (Itr 0 j.toNat) H1
theorem Quy {a:Expr} {ta:TA} {p pos:Pos} (hg:Gl X "range") (hm:X.mg "range" = none) (ha:PA X [a] ta) (hs:starEach [a] X.env=[(false,eval a X.env)]:=by rfl):PI X tg (.Call (.Name "range" p) [a] [] pos) (Q3j ta):=by
 intro pins s σ H R I h
 refine Call_ (Qk9 I hg hm boot_range (PyProof.Rows.callWith_type1 (thn (ha pos pins s σ H _ I h) fun us s1 ⟨vs,H1,I1,r1,q1⟩=>?_) hs rfl))
 obtain ⟨j,e,q1,q2,q⟩:=q1
 subst e
 cases r1 with
 | cons r rr =>
  cases rr
  obtain ⟨t,rfl⟩:=r
  exact call_range_1 (Qwv I1 (by omega) (by omega) q1 q2 (by simpa using q))
noncomputable def Qww (wi:TI) (g:TG) (tb:TS):TS:=fun D σ H=>wi σ H fun J H1=>∃ W:Nat→Nat→St→Hp→Prop,(∃ m,W 0 m σ H1)∧∀ i m σ H,W i m σ H →
 (J.stop i H∧D.nx σ H)∨(J.go i H∧∃ N:St→Hp→Prop,(∀ σ' H',N σ' H'→∃ m',m'<m∧W (i+1) m' σ' H')∧∀ x H',J.yld i H x H'→g x σ H' fun σ2 H2=>tb { D with nx:=N,ct:=N,bk:=D.nx } σ2 H2)
noncomputable def Qjb (fp:List Addr) (h:Heap):List (Addr×Obj):=fp.filterMap fun b=>(h.get? b).map fun o=>(b,o)
theorem Qb3 {fp:List Addr} {h:Heap} {b:Addr} {o:Obj} (hb:b∈fp) (e:h.get? b=some o):(b,o)∈Qjb fp h:=List.mem_filterMap.mpr ⟨b,hb,by rw [e];rfl⟩
theorem Quz {fp:List Addr} {h:Heap} {p:Addr×Obj} (hp:p∈Qjb fp h):p.1∈fp∧h.get? p.1=some p.2:=by
 obtain ⟨b,hb,e⟩:=List.mem_filterMap.mp hp
 cases q:h.get? b with
 | none=>rw [q] at e;cases e
 | some o =>
  rw [q] at e
  have e':(b,o)=p:=Option.some.inj e
  subst e'
  exact ⟨hb,q⟩
theorem Inv.pinned {pins:List (Addr×Obj)} {σ:St} {H:Hp} {s:Shared} {fp:List Addr} (I:Inv X pins σ H s) (hf:∀ b∈fp,Qhz X pins H b) (ho:∀ b∈fp,∃ o,s.heap.get? b=some o∧∀ v,o.data≠.cell v):Inv X (pins++Qjb fp s.heap) σ H s :=
 I.pins_of fun p hp=>(List.mem_append.mp hp).elim (fun z=>I.pin p (List.mem_append_right _ z)) fun z=>by
  obtain ⟨hb,e⟩:=Quz z
  obtain ⟨f0,f1,f2,_⟩:=hf p.1 hb
  obtain ⟨o,e',d⟩:=ho p.1 hb
  rw [e] at e';cases e'
  exact ⟨e,f0,f1,f2,d⟩
theorem Inv.unpinned {pins pl:List (Addr×Obj)} {σ:St} {H:Hp} {s:Shared} (I:Inv X (pins++pl) σ H s):Inv X pins σ H s:=I.pins_of fun p hp=>I.pin p (List.mem_append_right _ (List.mem_append_left _ hp))
theorem Q5f {iter:Expr} {body:List Stmt} {wi:TI} {g:TG} {tb:TS} {pos:Pos} (hp:PassesOwn (model X.prog X.w) X.A X.env X.xe) (hc:X.calm=true) (hi:PI X tg iter wi) (hg:PG X tg g) (hb:PSs X body tb)
  (hs:∀ x,foldedSetIterable iter X.env x=pure x:=by intro _;rfl):PS X (.For tg iter body [] pos) (Qww wi g tb):=by
 intro pins s σ H D I h
 refine wpAny_For (thn (hi pins s σ H _ I h) fun v s1 h1=>thn h1 fun itv s2 h2=>?_) hs
 obtain ⟨it,fp,tn,J,H2,e,I2,T,st2,f2,W,⟨m0,w0⟩,turn⟩:=h2
 subst e
 -- what stays true of the iterator's objects through the loop
 have stat:∀ {H':Hp},(∀ b∈fp,H' b=none)→∀ b∈fp,Qhz X pins H' b:=fun hn b hb=>⟨hn b hb,(f2 b hb).2⟩
 refine codeAny_forLoop_any (fun n s'=>∃ i σ' H',Inv X pins σ' H' s'∧tn i s'.heap∧(∀ b∈fp,H' b=none)∧W i n σ' H') ?_ m0 ⟨0,σ,H2,I2,st2,fun b hb=>(f2 b hb).1,w0⟩
 rintro n s3 ⟨i,σ3,H3,I3,st3,fr3,w3⟩
 rcases turn i n σ3 H3 w3 with ⟨stop,qn⟩ | ⟨go,N,hN,step⟩
 ·refine wpAny_passesOwn hp (thn (T.done X rfl rfl rfl hc i pins s3 σ3 H3 X.xe I3 (stat fr3) st3 stop) fun r s4 ⟨hr,I4⟩=>?_)
  subst hr
  exact wpAny_execs_nil ⟨σ3,H3,I4,qn⟩
 ·refine wpAny_passesOwn hp (thn (T.item X rfl rfl rfl hc i pins s3 σ3 H3 X.xe I3 (stat fr3) st3 go) fun r s4 ⟨u,hr,h4⟩=>?_)
  subst hr
  refine wpAny_passesOwn hp (thn h4 fun _ s5 ⟨x,H5,I5,r5,y5,st5,fr5⟩=>?_)
  have I5':=I5.pinned (stat fr5) (T.obj _ _ st5)
  refine wpAny_passesOwn hp (thn (hg _ s5 σ3 H5 x u _ I5' r5 (step x H5 y5)) fun _ s6 ⟨σ6,H6,I6,q6⟩=>?_)
  refine wpAny_passesOwn hp (thn (hb _ s6 σ6 H6 _ I6 q6) fun f s7 q7=>?_)
  have again:∀ {σ7:St} {H7:Hp},Inv X (pins++Qjb fp s5.heap) σ7 H7 s7→N σ7 H7→∃ m,m<n∧∃ i σ' H',Inv X pins σ' H' s7∧tn i s7.heap∧(∀ b∈fp,H' b=none)∧W i m σ' H':=fun {σ7 H7} I7 n7=>by
   obtain ⟨m',hm,w7⟩:=hN σ7 H7 n7
   refine ⟨m',hm,i+1,σ7,H7,I7.unpinned,T.keep _ _ _ st5 fun b hb o e=>(I7.pin (b,o) (List.mem_append_right _ (List.mem_append_right _ (Qb3 hb e)))).1,fun b hb=>?_,w7⟩
   obtain ⟨o,e,d⟩:=T.obj _ _ st5 b hb
   exact (I7.pin (b,o) (List.mem_append_right _ (List.mem_append_right _ (Qb3 hb e)))).2.1
  cases f with
  | next=>obtain ⟨σ7,H7,I7,n7⟩:=q7;exact again I7 n7
  | cont=>obtain ⟨σ7,H7,I7,n7⟩:=q7;exact again I7 n7
  | brk=>obtain ⟨σ7,H7,I7,q7⟩:=q7;exact ⟨σ7,H7,I7.unpinned,q7⟩
  | ret v=>obtain ⟨x7,σ7,H7,I7,r7,q7⟩:=q7;exact ⟨x7,σ7,H7,I7.unpinned,r7,q7⟩
end
theorem Qwx {K:PySem.W.Frag} {a:Addr} {xs:List V} {g:TG} {tb:TS} {D:Ends} {σ:St} {H:Hp} (Pv:Nat→St→Hp→Prop) (h0:Pv 0 σ H) (hl:∀ i σ H,i≤xs.length→Pv i σ H→SqL K H a xs)
  (hs:∀ i x σ H,xs[i]?=some x→Pv i σ H→g x σ H fun σ2 H2=>tb { D with nx:=Pv (i+1),ct:=Pv (i+1),bk:=D.nx } σ2 H2) (hd:∀ σ H,Pv xs.length σ H→D.nx σ H) :
  ∃ W:Nat→Nat→St→Hp→Prop,(∃ m,W 0 m σ H)∧∀ i m σ H,W i m σ H →
   ((Itl K a).stop i H∧D.nx σ H)∨((Itl K a).go i H∧∃ N:St→Hp→Prop,(∀ σ' H',N σ' H'→∃ m',m'<m∧W (i+1) m' σ' H')∧∀ x H',(Itl K a).yld i H x H'→g x σ H' fun σ2 H2=>tb { D with nx:=N,ct:=N,bk:=D.nx } σ2 H2):=by
 refine ⟨fun i m σ H=>m=xs.length-i∧i≤xs.length∧Pv i σ H,⟨xs.length,by simp,Nat.zero_le _,h0⟩,?_⟩
 rintro i m σ H ⟨rfl,hi,p⟩
 have q:=hl i σ H hi p
 by_cases hlt:i<xs.length
 ·refine .inr ⟨⟨xs,xs[i],q,by simp [hlt]⟩,Pv (i+1),fun σ' H' p'=>⟨xs.length-(i+1),by omega,rfl,hlt,p'⟩,fun x H' y=>?_⟩
  obtain ⟨e,y⟩:=y
  subst e
  exact hs i x σ _ (y xs q) p
 ·have e:i=xs.length:=by omega
  subst e
  exact .inl ⟨⟨xs,q,Nat.le_refl _⟩,hd σ H p⟩
noncomputable abbrev R2:=V→V→Hp→VK→Prop
noncomputable def OpR (X:Cx) (f:Value→Value→Sem Value) (r:R2):Prop :=
 ∀ (pins:List (Addr×Obj)) (s:Shared) (σ:St) (H:Hp) (x y:V) (v u:Value) (Q:VK),Inv X pins σ H s→RelV x v→RelV y u→r x y H Q →
  wpAny (model X.prog X.w) X.A (f v u) (EP X pins σ Q) X.xe s
noncomputable def UnR (X:Cx) (f:Value→Sem Value) (r:V→Hp→VK→Prop):Prop :=
 ∀ (pins:List (Addr×Obj)) (s:Shared) (σ:St) (H:Hp) (x:V) (v:Value) (Q:VK),Inv X pins σ H s→RelV x v→r x H Q →
  wpAny (model X.prog X.w) X.A (f v) (EP X pins σ Q) X.xe s
noncomputable def CallR (X:Cx) (f:Value) (r:List V→Hp→VK→Prop):Prop :=
 ∀ (pins:List (Addr×Obj)) (s:Shared) (σ:St) (H:Hp) (xs:List V) (us:List Value) (Q:VK),Inv X pins σ H s→Vals xs us→r xs H Q →
  wpAny (model X.prog X.w) X.A (call f us) (EP X pins σ Q) X.xe s
noncomputable abbrev tOp (r:R2) (ta tb:TE):TE:=fun σ H Q=>ta σ H fun x H1=>tb σ H1 fun y H2=>r x y H2 Q
noncomputable abbrev tUn (r:V→Hp→VK→Prop) (ta:TE):TE:=fun σ H Q=>ta σ H fun x H1=>r x H1 Q
noncomputable def rI (C:Int→Int→Prop) (g:Int→Int→V):R2:=fun x y H Q=>∃ i j,x=.int i∧y=.int j∧C i j∧Q (g i j) H
noncomputable def rI0 (g:Int→Int→V):R2:=fun x y H Q=>∃ i j,x=.int i∧y=.int j∧Q (g i j) H
noncomputable def rU (g:Int→V):V→Hp→VK→Prop:=fun x H Q=>∃ i,x=.int i∧Q (g i) H
section
variable {X:Cx} {a b c:Expr} {ta tb tc:TE} {pos:Pos}
theorem Q5g (ha:PE X a ta) (hb:PE X b tb) {pins:List (Addr×Obj)} {s:Shared} {σ:St} {H:Hp} {R:V→V→Hp→Prop} (I:Inv X pins σ H s)
  (h:ta σ H fun x H1=>tb σ H1 fun y H2=>R x y H2) {Q:Value→Shared→Prop} {f:Value→Value→Sem Value}
  (hf:∀ v u s2 x y H2,Inv X pins σ H2 s2→RelV x v→RelV y u→R x y H2→wpAny (model X.prog X.w) X.A (f v u) Q X.xe s2) :
  wpAny (model X.prog X.w) X.A (eval a X.env) (fun v s₁=>wpAny (model X.prog X.w) X.A (eval b X.env) (fun u s₂=>wpAny (model X.prog X.w) X.A (f v u) Q X.xe s₂) X.xe s₁) X.xe s:=by
 refine thn (ha pins s σ H _ I h) fun v s1 ⟨x,H1,I1,r1,q1⟩=>?_
 refine thn (hb pins s1 σ H1 _ I1 q1) fun u s2 ⟨y,H2,I2,r2,q2⟩=>?_
 exact hf v u s2 x y H2 I2 r1 r2 q2
theorem Q8q {op:Operator} {r:R2} (ho:OpR X (binaryOp op) r) (ha:PE X a ta) (hb:PE X b tb):PE X (.BinOp a op b pos) (tOp r ta tb):=by
 intro pins s σ H Q I h
 exact wpAny_BinOp (Q5g ha hb I h fun v u s2 x y H2 I2 rx ry q=>ho pins s2 σ H2 x y v u Q I2 rx ry q)
theorem Q8r {op:UnaryOp} {r:V→Hp→VK→Prop} (ho:UnR X (unaryOp op) r) (ha:PE X a ta):PE X (.UnaryOp op a pos) (tUn r ta):=by
 intro pins s σ H Q I h
 exact UnaryOp_ (thn (ha pins s σ H _ I h) fun v s1 ⟨x,H1,I1,r1,q1⟩=>ho pins s1 σ H1 x v Q I1 r1 q1)
theorem opI {f:Value→Value→Sem Value} {C:Int→Int→Prop} {g:Int→Int→Int}
  (rule:∀ (i j:Int) (t u:Tok) (s:Shared) (Q:Value→Shared→Prop) (E:Value→Shared→Prop),C i j→Q (.int (g i j) s.toks) { s with toks:=s.toks+1 }→wpAny (model X.prog X.w) X.A (f (.int i t) (.int j u)) Q E s) :
  OpR X f (rI C fun i j=>.int (g i j)):=by
 intro pins s σ H x y v u Q I rx ry h
 obtain ⟨i,j,rfl,rfl,hc,q⟩:=h
 obtain ⟨t,rfl⟩:=rx
 obtain ⟨t',rfl⟩:=ry
 exact rule i j t t' s _ _ hc ⟨.int (g i j),H,I.tok _,⟨_,rfl⟩,q⟩
theorem Q8s {f:Value→Value→Sem Value} {g:Int→Int→Int}
  (rule:∀ (i j:Int) (t u:Tok) (s:Shared) (Q:Value→Shared→Prop) (E:Value→Shared→Prop),Q (.int (g i j) s.toks) { s with toks:=s.toks+1 }→wpAny (model X.prog X.w) X.A (f (.int i t) (.int j u)) Q E s) :
  OpR X f (rI0 fun i j=>.int (g i j)):=by
 intro pins s σ H x y v u Q I rx ry h
 obtain ⟨i,j,rfl,rfl,q⟩:=h
 obtain ⟨t,rfl⟩:=rx
 obtain ⟨t',rfl⟩:=ry
 exact rule i j t t' s _ _ ⟨.int (g i j),H,I.tok _,⟨_,rfl⟩,q⟩
theorem Q5h {f:Value→Value→Sem Value} {g:Int→Int→Bool}
  (rule:∀ (i j:Int) (t u:Tok) (s:Shared) (Q:Value→Shared→Prop) (E:Value→Shared→Prop),Q (.bool (g i j)) s→wpAny (model X.prog X.w) X.A (f (.int i t) (.int j u)) Q E s) :
  OpR X f (rI0 fun i j=>.bl (g i j)):=by
 intro pins s σ H x y v u Q I rx ry h
 obtain ⟨i,j,rfl,rfl,q⟩:=h
 obtain ⟨t,rfl⟩:=rx
 obtain ⟨t',rfl⟩:=ry
 exact rule i j t t' s _ _ ⟨.bl (g i j),H,I,rfl,q⟩
noncomputable def Q5i (i j:Int):Prop:=0≤j∧j≤1000000∧i.natAbs<2^64
noncomputable def CMul (i j:Int):Prop:=(-(2^64)<i∧i<2^64)∨(-(2^64)<j∧j<2^64)
theorem CMul.ok {i j:Int} (h:CMul i j):IntMulOk i j:=by
 rcases h with ⟨h1,h2⟩ | ⟨h1,h2⟩
 ·exact .of_left (intBits_le_64 h1 h2)
 ·exact .of_right (intBits_le_64 h1 h2)
theorem Q5j:OpR X (binaryOp .Add) (rI0 fun i j=>.int (i+j)):=Q8s fun _ _ _ _ _ _ _ q=>add_int q
theorem Q5k:OpR X (binaryOp .Sub) (rI0 fun i j=>.int (i-j)):=Q8s fun _ _ _ _ _ _ _ q=>sub_int q
theorem Q5l:OpR X (binaryOp .Mult) (rI CMul fun i j=>.int (i*j)):=opI fun _ _ _ _ _ _ _ hc q=>mul_int q hc.ok
theorem Q0s:OpR X (binaryOp .Mod) (rI (fun _ j=>j≠0) fun i j=>.int (i.fmod j)):=opI fun _ _ _ _ _ _ _ hc q=>mod_int' hc q
theorem Q5m:OpR X (binaryOp .Pow) (rI Q5i fun i j=>.int (i^j.toNat)):=opI fun _ _ _ _ _ _ _ hc q=>pow_int_small hc.1 hc.2.1 hc.2.2 q
theorem unI {f:Value→Sem Value} {g:Int→Int}
  (rule:∀ (i:Int) (t:Tok) (s:Shared) (Q:Value→Shared→Prop) (E:Value→Shared→Prop),Q (.int (g i) s.toks) { s with toks:=s.toks+1 }→wpAny (model X.prog X.w) X.A (f (.int i t)) Q E s) :
  UnR X f (rU fun i=>.int (g i)):=by
 intro pins s σ H x v Q I rx h
 obtain ⟨i,rfl,q⟩:=h
 obtain ⟨t,rfl⟩:=rx
 exact rule i t s _ _ ⟨.int (g i),H,I.tok _,⟨_,rfl⟩,q⟩
theorem Q5n:UnR X (unaryOp .USub) (rU fun i=>.int (-i)):=unI fun _ _ _ _ _ q=>neg_int q
end
noncomputable def Q5o:V→V→Bool
 | .non,.non=>true | .non,.int _=>true | .int _,.non=>true | .non,.bl _=>true | .bl _,.non=>true | .non,.str _=>true | .str _,.non=>true
 | .int _,.int _=>true | .bl _,.bl _=>true | .str _,.str _=>true | .byt _,.byt _=>true
 | .int _,.str _=>true | .str _,.int _=>true | .bl _,.str _=>true | .str _,.bl _=>true
 | _,_=>false
noncomputable def rEq:R2:=fun x y H Q=>Q5o x y=true∧Q (.bl (decide (x=y))) H
noncomputable def rNe:R2:=fun x y H Q=>Q5o x y=true∧Q (.bl (!decide (x=y))) H
theorem Qta {i j:Int}:decide (V.int i=V.int j)=(i==j):=by
 rw [Bool.eq_iff_iff]
 simp
theorem Qwy {i j:Bool}:decide (V.bl i=V.bl j)=(i==j):=by
 rw [Bool.eq_iff_iff]
 simp
theorem Qtb {i j:Str}:decide (V.str i=V.str j)=(i==j):=by
 rw [Bool.eq_iff_iff]
 simp
theorem Qtc {i j:Array UInt8}:decide (V.byt i=V.byt j)=(i.toList==j.toList):=by
 rw [Bool.eq_iff_iff]
 cases i
 cases j
 simp
section
variable {X:Cx} {a b c:Expr} {ta tb tc:TE} {pos:Pos}
theorem Qa1 {pins:List (Addr×Obj)} {σ:St} {H:Hp} {s:Shared} {Q:VK} {k k':Bool} (I:Inv X pins σ H s) (q:Q (.bl k) H) (e:k=k'):EP X pins σ Q (.bool k') s:=by
 subst e
 exact ⟨.bl k,H,I,rfl,q⟩
theorem Q8t:OpR X (compareOp .Eq) rEq:=by
 intro pins s σ H x y v u Q I rx ry h
 obtain ⟨hs,q⟩:=h
 cases x with
 | non =>
  cases rx
  cases y with
  | non=>cases ry;exact PySem.EqNone.eq_none_none (Qa1 I q (by simp))
  | bl j=>cases ry;exact PySem.EqNone.eq_none_bool (Qa1 I q (by simp))
  | int j=>obtain ⟨t',rfl⟩:=ry;exact PySem.EqNone.eq_none_int (Qa1 I q (by simp))
  | str j=>obtain ⟨t',rfl⟩:=ry;exact PySem.EqNone.eq_none_str (Qa1 I q (by simp))
  | _=>exact absurd (show false=true from hs) Bool.false_ne_true
 | bl i =>
  cases rx
  cases y with
  | non=>cases ry;exact PySem.EqNone.eq_bool_none (Qa1 I q (by simp))
  | bl j=>cases ry;exact eq_bool (Qa1 I q Qwy)
  | str j=>obtain ⟨t',rfl⟩:=ry;exact PySem.EqMixed.eq_bool_str (Qa1 I q (by simp))
  | _=>exact absurd (show false=true from hs) Bool.false_ne_true
 | int i =>
  obtain ⟨t,rfl⟩:=rx
  cases y with
  | non=>cases ry;exact PySem.EqNone.eq_int_none (Qa1 I q (by simp))
  | int j=>obtain ⟨t',rfl⟩:=ry;exact eq_int (Qa1 I q Qta)
  | str j=>obtain ⟨t',rfl⟩:=ry;exact PySem.EqMixed.eq_int_str (Qa1 I q (by simp))
  | _=>exact absurd (show false=true from hs) Bool.false_ne_true
 | str i =>
  obtain ⟨t,rfl⟩:=rx
  cases y with
  | non=>cases ry;exact PySem.EqNone.eq_str_none (Qa1 I q (by simp))
  | bl j=>cases ry;exact PySem.EqMixed.eq_str_bool (Qa1 I q (by simp))
  | int j=>obtain ⟨t',rfl⟩:=ry;exact PySem.EqMixed.eq_str_int (Qa1 I q (by simp))
  | str j=>obtain ⟨t',rfl⟩:=ry;exact eq_str (Qa1 I q Qtb)
  | _=>exact absurd (show false=true from hs) Bool.false_ne_true
 | byt i =>
  obtain ⟨t,rfl⟩:=rx
  cases y with
  | byt j=>obtain ⟨t',rfl⟩:=ry;exact PySem.W.eq_bytes (Qa1 I q Qtc)
  | _=>exact absurd (show false=true from hs) Bool.false_ne_true
 | _=>cases y <;> exact absurd (show false=true from hs) Bool.false_ne_true
theorem Q8u:OpR X (compareOp .NotEq) rNe:=by
 intro pins s σ H x y v u Q I rx ry h
 obtain ⟨hs,q⟩:=h
 cases x with
 | non =>
  cases rx
  cases y with
  | non=>cases ry;exact PySem.EqNone.ne_none_none (Qa1 I q (by simp))
  | bl j=>cases ry;exact PySem.EqNone.ne_none_bool (Qa1 I q (by simp))
  | int j=>obtain ⟨t',rfl⟩:=ry;exact PySem.EqNone.ne_none_int (Qa1 I q (by simp))
  | str j=>obtain ⟨t',rfl⟩:=ry;exact PySem.EqNone.ne_none_str (Qa1 I q (by simp))
  | _=>exact absurd (show false=true from hs) Bool.false_ne_true
 | bl i =>
  cases rx
  cases y with
  | non=>cases ry;exact PySem.EqNone.ne_bool_none (Qa1 I q (by simp))
  | bl j=>cases ry;exact ne_bool (Qa1 I q (congrArg not Qwy))
  | str j=>obtain ⟨t',rfl⟩:=ry;exact PySem.EqMixed.ne_bool_str (Qa1 I q (by simp))
  | _=>exact absurd (show false=true from hs) Bool.false_ne_true
 | int i =>
  obtain ⟨t,rfl⟩:=rx
  cases y with
  | non=>cases ry;exact PySem.EqNone.ne_int_none (Qa1 I q (by simp))
  | int j=>obtain ⟨t',rfl⟩:=ry;exact ne_int (Qa1 I q (congrArg not Qta))
  | str j=>obtain ⟨t',rfl⟩:=ry;exact PySem.EqMixed.ne_int_str (Qa1 I q (by simp))
  | _=>exact absurd (show false=true from hs) Bool.false_ne_true
 | str i =>
  obtain ⟨t,rfl⟩:=rx
  cases y with
  | non=>cases ry;exact PySem.EqNone.ne_str_none (Qa1 I q (by simp))
  | bl j=>cases ry;exact PySem.EqMixed.ne_str_bool (Qa1 I q (by simp))
  | int j=>obtain ⟨t',rfl⟩:=ry;exact PySem.EqMixed.ne_str_int (Qa1 I q (by simp))
  | str j=>obtain ⟨t',rfl⟩:=ry;exact ne_str (Qa1 I q (congrArg not Qtb))
  | _=>exact absurd (show false=true from hs) Bool.false_ne_true
 | byt i =>
  obtain ⟨t,rfl⟩:=rx
  cases y with
  | byt j=>obtain ⟨t',rfl⟩:=ry;exact PySem.W.ne_bytes (Qa1 I q (congrArg not Qtc))
  | _=>exact absurd (show false=true from hs) Bool.false_ne_true
 | _=>cases y <;> exact absurd (show false=true from hs) Bool.false_ne_true
theorem Q8v:OpR X (compareOp .Lt) (rI0 fun i j=>.bl (decide (i<j))):=Q5h fun _ _ _ _ _ _ _ q=>lt_int q
theorem Q8w:OpR X (compareOp .Gt) (rI0 fun i j=>.bl (decide (j<i))):=Q5h fun _ _ _ _ _ _ _ q=>gt_int q
theorem Q8x:OpR X (compareOp .GtE) (rI0 fun i j=>.bl (decide (j≤i))):=Q5h fun _ _ _ _ _ _ _ q=>ge_int q
theorem Q5p:OpR X (compareOp .Is) (fun x y H Q=>y=.non∧Q (.bl (decide (x=.non))) H):=by
 intro pins s σ H x y v u Q I rx ry h
 obtain ⟨rfl,q⟩:=h
 cases ry
 refine is_none_gen (Qa1 I q ?_)
 cases x <;> first
  | (cases rx;rfl)
  | (obtain ⟨t,rfl⟩:=rx;rfl)
theorem Q0t:OpR X (compareOp .IsNot) (fun x y H Q=>y=.non∧Q (.bl (!decide (x=.non))) H):=by
 intro pins s σ H x y v u Q I rx ry h
 obtain ⟨rfl,q⟩:=h
 cases ry
 refine isnot_none_gen (Qa1 I q ?_)
 cases x <;> first
  | (cases rx;rfl)
  | (obtain ⟨t,rfl⟩:=rx;rfl)
theorem OpR.or {f:Value→Value→Sem Value} {r r':R2} (h:OpR X f r) (h':OpR X f r'):OpR X f (fun x y H Q=>r x y H Q∨r' x y H Q):=by
 intro pins s σ H x y v u Q I rx ry q
 rcases q with q | q
 ·exact h pins s σ H x y v u Q I rx ry q
 ·exact h' pins s σ H x y v u Q I rx ry q
theorem Qwz (b:Expr) {op:CmpOp} (h:op≠.In:=by decide) (h2:op≠.NotIn:=by decide):behindInMarks op b=false:=by
 have e1:(op==CmpOp.In)=false:=by cases op <;> first | rfl | exact absurd rfl h
 have e2:(op==CmpOp.NotIn)=false:=by cases op <;> first | rfl | exact absurd rfl h2
 cases b <;> simp [behindInMarks,e1,e2]
theorem Q0u {op:CmpOp} {r:R2} (ho:OpR X (compareOp op) r) (ha:PE X a ta) (hb:PE X b tb) (hm:behindInMarks op b=false):PE X (.Compare a [op] [b] pos) (tOp r ta tb):=by
 intro pins s σ H Q I h
 exact wpAny_Compare1 (Q5g ha hb I h fun v u s2 x y H2 I2 rx ry q=>ho pins s2 σ H2 x y v u Q I2 rx ry q) hm
noncomputable abbrev Q3k (t:TE):TT:=fun σ H Q=>t σ H fun x H'=>∃ k,x=.bl k∧Q k H'
theorem Q0v {op:CmpOp} {r:R2} (ho:OpR X (compareOp op) r) (ha:PE X a ta) (hb:PE X b tb) (hm:behindInMarks op b=false):PT X (.Compare a [op] [b] pos) (Q3k (tOp r ta tb)):=by
 intro pins s σ H Q I h
 refine wpAny_isTrue_Compare1 (thn (ha pins s σ H _ I h) fun v s1 ⟨x,H1,I1,r1,q1⟩=>thn (hb pins s1 σ H1 _ I1 q1) fun u s2 ⟨y,H2,I2,r2,q2⟩ =>
  thn (ho pins s2 σ H2 x y v u _ I2 r1 r2 q2) fun c s3 ⟨z,H3,I3,r3,k,e,q3⟩=>?_) hm
 subst e
 cases r3
 exact wpAny_truthy_bool ⟨H3,I3,q3⟩
theorem Qla:(sizeLine:Nat)<2^63:=by rw [sizeLine_eq];decide
theorem Qgo {x:V} {us:List Value} (r:Vals [x] us):∃ u,us=[u]∧RelV x u:=by
 cases r with
 | cons r1 r2=>cases r2;exact ⟨_,rfl,r1⟩
theorem Qm4 {x y:V} {us:List Value} (r:Vals [x,y] us):∃ u w',us=[u,w']∧RelV x u∧RelV y w':=by
 cases r with
 | cons r1 r2 =>
  cases r2 with
  | cons r3 r4=>cases r4;exact ⟨_,_,rfl,r1,r3⟩
theorem Qw0:CallR X (.builtin "abs") (fun xs H Q=>∃ i,xs=[.int i]∧Q (.int (if i<0 then -i else i)) H):=by
 intro pins s σ H xs us Q I r h
 obtain ⟨i,rfl,q⟩:=h
 obtain ⟨u,rfl,t,rfl⟩:=Qgo r
 exact call_abs_int fun u tk=>⟨.int (if i<0 then -i else i),H,I.tok _,⟨_,rfl⟩,q⟩
theorem Qu0 (hc:X.calm=true):CallR X (.builtin "max") (fun xs H Q=>∃ i j,xs=[.int i,.int j]∧Q (.int (if j>i then j else i)) H):=by
 intro pins s σ H xs us Q I r h
 obtain ⟨i,j,rfl,q⟩:=h
 obtain ⟨u,w',rfl,⟨t,rfl⟩,⟨t',rfl⟩⟩:=Qm4 r
 refine max_two_ints (I.ok.hd hc) fun h' tk k=>⟨_,H,I.kept k,?_,q⟩
 by_cases hj:j>i
 ·rw [if_pos hj,if_pos hj];exact ⟨_,rfl⟩
 ·rw [if_neg hj,if_neg hj];exact ⟨_,rfl⟩
theorem Qu1:CallR X (.type "int") (fun xs H Q=>(∃ i,xs=[.int i]∧Q (.int i) H)∨∃ k,xs=[.bl k]∧Q (.int (if k then 1 else 0)) H):=by
 intro pins s σ H xs us Q I r h
 rcases h with ⟨i,rfl,q⟩ | ⟨k,rfl,q⟩
 ·obtain ⟨u,rfl,t,rfl⟩:=Qgo r
  exact call_int_int ⟨.int i,H,I,⟨_,rfl⟩,q⟩
 ·obtain ⟨u,rfl,r1⟩:=Qgo r
  cases r1
  exact call_int_bool ⟨.int (if k then 1 else 0),H,I.tok _,⟨_,rfl⟩,q⟩
end
structure ObjM (h:Heap) (x dx C:Addr) (mA:Str→Option Value):Prop where
 obj:h.get? x=some (PySem.W.instObj C dx)
 ns:h.Ns1 dx mA
 ne:dx≠x
theorem Qu2 {h:Heap} {dx:Addr} {mA:Str→Option Value} (n:h.Ns1 dx mA):∃ od,h.get? dx=some od∧∀ name,PySem.W.lookIn name od=some (mA name):=by
 obtain ⟨o,es,ep,ho,hd,hk,_,hm⟩:=n
 refine ⟨o,ho,fun name=>?_⟩
 have e:=hm name
 unfold nsFind findBy at e
 rw [←Array.find?_toList] at e
 unfold PySem.W.lookIn
 rw [hd]
 dsimp only
 split
 ·rename_i y q
  rw [q] at e
  exact congrArg some e
 ·rename_i q
  rw [q] at e
  have a:es.toList.any (·.refKey)=false:=by
   rw [List.any_eq_false]
   intro y hy
   obtain ⟨z,t,hkey⟩:=hk y (Array.mem_toList_iff.mp hy)
   simp [DictEntry.refKey,hkey]
  have a':¬ es.toList.any (·.refKey)=true:=by rw [a];exact Bool.false_ne_true
  rw [if_neg a']
  exact congrArg some e
theorem ObjM.look {h:Heap} {x dx C:Addr} {mA:Str→Option Value} (I:ObjM h x dx C mA):∃ od,PySem.W.InstAt h x (PySem.W.instObj C dx) C (some od)∧∀ name,PySem.W.lookIn name od=some (mA name) :=
 let ⟨od,ho,hl⟩:=Qu2 I.ns
 ⟨od,⟨I.obj,rfl,rfl,ho⟩,hl⟩
section
variable {prog:Program} {w:World} {A:Around} {E:Value→Shared→Prop} {s:Shared} {K:PySem.W.Frag} {x dx C f:Addr} {mA:Str→Option Value} {name:Str} {v:Value}
end
section
variable {P:Program} {w:World} {H H':Hp} {h h':Heap} {a C dx:Addr} {fs fs':List (Str×V)}
theorem Q0w (hok:HOk P w H h) (e:H a=some (.ins C dx fs)):∃ mA,ObjM h a dx C mA∧(∀ f,RelO (fs.lookup f) (mA f))∧PySem.Within mA (fs.map (·.1))∧fs.length≤1000∧H dx=some (.own a):=by
 obtain ⟨d,z,ne,ob,mA,n,r,q⟩:=(show ObjOk P w H h a (.ins C dx fs) from hok a _ e)
 exact ⟨mA,⟨ob,n,ne⟩,r,q,z,d⟩
end
structure Cls (K:PySem.W.Frag) (C:Addr):Prop where
 pg:PySem.W.plainGet K C Str.empty=true
 hd:PySem.W.hasDictIn K C=true
 po:PySem.W.plainOver K C=true
 sa:PySem.W.findIn K (.ref C) "__setattr__" = some (some (.builtin "object.__setattr__"))
theorem Cls.get {K:PySem.W.Frag} {C:Addr} (c:Cls K C) (f:Str):PySem.W.plainGet K C f=true:=c.pg
structure Con (K:PySem.W.Frag) (C:Addr) (f:Str) (v:V) (u:Value):Prop where
 at_:PySem.W.findIn K (.ref C) f=some (some u)
 rel:RelV v u
 get:PySem.W.specialIn K u "__get__" = some none
 cp:PySem.W.copiedNames.contains f=false
structure Meth (K:PySem.W.Frag) (C:Addr) (m:Str) (f:Addr):Prop where
 at_:PySem.W.findIn K (.ref C) m=some (some (.ref f))
 fn:PySem.W.isFn K (.ref f)=true
 kp:PySem.W.keepIn K (.ref f)=true
section
variable {X:Cx} {pins:List (Addr×Obj)} {σ:St} {H:Hp} {s:Shared} {a C dx:Addr} {fs:List (Str×V)} {f:Str} {v:V} {A:Around} {E:Value→Shared→Prop}
end
section
variable {X:Cx} {o e value:Expr} {f:Str} {pos pos' tpos:Pos} {ta tv:TE}
end
section
variable {X:Cx} {pins:List (Addr×Obj)} {σ:St} {H:Hp} {s:Shared} {A:Around} {E:Value→Shared→Prop} {Q:Value→Shared→Prop} {c:Value} {b:Bool}
inductive TyOf (K:PySem.W.Frag) (H:Hp):V→Value→Prop where
 | non:TyOf K H .non (.type "NoneType")
 | bl (x:Bool):TyOf K H (.bl x) (.type "bool")
 | int (i:Int):TyOf K H (.int i) (.type "int")
 | str (x:Str):TyOf K H (.str x) (.type "str")
 | flt (x:UInt64):TyOf K H (.flt x) (.type "float")
 | lst {a:Addr} {xs:List V} (e:H a=some (.lst xs)):TyOf K H (.ref a) (.type "list")
 | frz {a:Addr} {o:Obj} {xs:List V} (e:H a=some (.frz o (.lst xs))):TyOf K H (.ref a) (.type "list")
 | tup {a:Addr} {xs:List V} (e:H a=some (.tup xs)):TyOf K H (.ref a) (.type "tuple")
 | dK {a:Addr} {kvs:List (Key×V)} (e:H a=some (.dK kvs)):TyOf K H (.ref a) (.type "dict")
 | dT {a:Addr} {kvs:List (List Key×V)} (e:H a=some (.dT kvs)):TyOf K H (.ref a) (.type "dict")
 | ins {a C dx:Addr} {fs:List (Str×V)} (e:H a=some (.ins C dx fs)) (cl:Cls K C) (ha:PySem.W.findIn K (.ref C) "__class__" = some (some (.builtin "object.__class__")))
   (hn:PySem.W.specialIn K (.builtin "object.__class__") "__get__" = some (some (.builtin "getset_descriptor.__get__"))) (htk:PySem.W.takesIn K (.builtin "object.__class__")=some true)
   (hm:PySem.W.mroIn K C (.type "object")=some true):TyOf K H (.ref a) (.ref C)
theorem Qu3 {x:V} {u t:Value} (I:Inv X pins σ H s) (rx:RelV x u) (ty:TyOf X.K H x t) (e:PySem.W.kitOne X.K t c=some b) (h:∀ tk,Q (.bool b) { s with toks:=tk }) :
  wpAny (model X.prog X.w) A (call (.builtin "isinstance") [u,c]) Q E s:=by
 cases ty with
 | non=>cases (show u=Value.none from rx);exact PySem.W.kia_one PySem.W.kitx_none I.kIn True.intro e (fun z=>nomatch z) h
 | bl y=>cases (show u=Value.bool y from rx);exact PySem.W.kia_one PySem.W.kitx_bool I.kIn True.intro e (fun z=>nomatch z) h
 | int i=>obtain ⟨t,q⟩:=(show ∃ t,u=Value.int i t from rx);cases q;exact PySem.W.kia_one PySem.W.kitx_int I.kIn True.intro e (fun z=>nomatch z) h
 | str y=>obtain ⟨t,q⟩:=(show ∃ t,u=Value.str y t from rx);cases q;exact PySem.W.kia_one PySem.W.kitx_str I.kIn True.intro e (fun z=>nomatch z) h
 | flt y=>obtain ⟨t,q⟩:=(show ∃ t,u=Value.float y t from rx);cases q;exact PySem.W.kia_one PySem.W.kitx_float I.kIn True.intro e (fun z=>nomatch z) h
 | @lst a xs ea =>
  cases (show u=Value.ref a from rx)
  obtain ⟨_,_,n,_,h1⟩:=(show ObjOk X.prog X.w H s.heap a (.lst xs) from I.hok a _ ea)
  exact PySem.W.kia_one PySem.W.kitx_list I.kIn ⟨_,h1,rfl⟩ e (fun z=>nomatch z) h
 | @frz a ob xs ea =>
  cases (show u=Value.ref a from rx)
  obtain ⟨_,_,_,n,_,h1⟩:=(show ObjOk X.prog X.w H s.heap a (.frz ob (.lst xs)) from I.hok a _ ea)
  exact PySem.W.kia_one PySem.W.kitx_list I.kIn ⟨_,h1,rfl⟩ e (fun z=>nomatch z) h
 | @tup a xs ea =>
  cases (show u=Value.ref a from rx)
  obtain ⟨_,_,_,p⟩:=(show ObjOk X.prog X.w H s.heap a (.tup xs) from I.hok a _ ea)
  obtain ⟨o,h1,h2,_⟩:=p
  exact PySem.W.kia_one PySem.W.kitx_tuple I.kIn ⟨o,h1,h2⟩ e (fun z=>nomatch z) h
 | @dK a kvs ea =>
  cases (show u=Value.ref a from rx)
  obtain ⟨_,_,vs,_,p⟩:=(show ObjOk X.prog X.w H s.heap a (.dK kvs) from I.hok a _ ea)
  obtain ⟨o,es,ep,h1,h2,_⟩:=p
  exact PySem.W.kia_one PySem.W.kitx_dict I.kIn ⟨o,h1,h2.1⟩ e (fun z=>nomatch z) h
 | @dT a kvs ea =>
  cases (show u=Value.ref a from rx)
  obtain ⟨_,_,xs,_,o,es,ep,h1,h2,_⟩:=(show ObjOk X.prog X.w H s.heap a (.dT kvs) from I.hok a _ ea)
  exact PySem.W.kia_one PySem.W.kitx_dict I.kIn ⟨o,h1,h2.1⟩ e (fun z=>nomatch z) h
 | @ins a C dx fs ea cl ha hn htk hm =>
  cases (show u=Value.ref a from rx)
  obtain ⟨mA,O,_⟩:=Q0w I.hok ea
  obtain ⟨od,J,_⟩:=O.look
  exact PySem.W.kia_one (PySem.W.kitx_own (cl.get _) cl.hd ha hn htk hm) I.kIn J e (fun z=>nomatch z) h
end
structure Room (k:Nat) (A:Around):Prop where
 hd:A.handled=none
 dp:A.depth+3*k+5<recursionLimit
 un:A.units+16*k+200<cLine
 gd:A.guards=some []
theorem Room.mono {j k:Nat} {A:Around} (r:Room k A) (h:j≤k):Room j A:=⟨r.hd,by have:=r.dp;omega,by have:=r.un;omega,r.gd⟩
theorem Room.deeper {k:Nat} {A:Around} (r:Room (k+1) A) (env:Env):Room k (A.deeper env) :=
 ⟨r.hd,by have:=r.dp;show A.depth+1+3*k+5<_;omega,by have:=r.un;show A.units+3+16*k+200<_;omega,r.gd⟩
theorem Room.depth {k:Nat} {A:Around} (r:Room k A):A.depth<recursionLimit:=by have:=r.dp;omega
theorem Room.units {k:Nat} {A:Around} (r:Room k A):A.units+64<cLine:=by have:=r.un;omega
noncomputable abbrev Qpq:TA:=fun _ H Q=>Q [] H
noncomputable abbrev Qgp (ta:TE) (tr:TA):TA:=fun σ H Q=>ta σ H fun x H1=>tr σ H1 fun xs H2=>Q (x::xs) H2
section
variable {X:Cx} {e:Expr} {es:List Expr} {te:TE} {t:TA} {pos:Pos}
theorem Qw1:PA X [] Qpq:=fun _ _ _ _ H Q I h=>Calls.spliced_nil ⟨[],H,I,.nil,h⟩
theorem Q0x (ha:PE X e te) (hr:PA X es t) (hs:starEach (e::es) X.env=(false,eval e X.env)::starEach es X.env:=by rfl):PA X (e::es) (Qgp te t):=by
 intro pos pins s σ H Q I h
 rw [hs]
 show wpAny _ _ (spliced ((false,eval e X.env)::backTo pos (starEach es X.env))) _ _ s
 refine Calls.spliced_cons (thn (ha pins s σ H _ I h) fun u s1 ⟨x,H1,I1,r1,q1⟩=>?_)
 exact thn (hr pos pins s1 σ H1 _ I1 q1) fun us s2 ⟨xs,H2,I2,r2,q2⟩=>⟨x::xs,H2,I2,.cons r1 r2,q2⟩
noncomputable abbrev tTup (t:TA):TE:=fun σ H Q=>t σ H fun xs H1=>xs.length≤sizeLine∧∀ p,H1 p=none→Q (.ref p) (upd H1 p (.tup xs))
noncomputable abbrev tLst (t:TA):TE:=fun σ H Q=>t σ H fun xs H1=>xs.length≤sizeLine∧∀ p,H1 p=none→Q (.ref p) (upd H1 p (.lst xs))
theorem Qw2 {x1} (h:PA X es t):PE X (.Tuple es x1 pos) (tTup t):=by
 intro pins s σ H Q I hq
 refine wpAny_Tuple_spliced (thn (h pos pins s σ H _ I hq) fun us s1 ⟨xs,H1,I1,r,z,q⟩=>⟨by rw [←r.length];exact z,?_⟩)
 have hf:H1 s1.heap.objs.size=none:=I1.hok.fresh (Nat.le_refl _)
 refine ⟨.ref s1.heap.objs.size,upd H1 s1.heap.objs.size (.tup xs),I1.laid (t':=s1.toks) (fun b u e=>Heap.get?_push_of_some _ e) (Nat.le_refl _) ?_,rfl,q _ hf⟩
 exact ⟨z,us,r,⟨_,Heap.get?_push_size _ rfl,rfl,_,rfl,rfl⟩⟩
theorem Qw3 (h:PA X es t):PE X (.List es pos) (tLst t):=by
 intro pins s σ H Q I hq
 refine wpAny_List_spliced (thn (h pos pins s σ H _ I hq) fun us s1 ⟨xs,H1,I1,r,z,q⟩=>⟨by rw [←r.length];exact z,?_⟩)
 have hf:H1 s1.heap.objs.size=none:=I1.hok.fresh (Nat.le_refl _)
 refine ⟨.ref s1.heap.objs.size,upd H1 s1.heap.objs.size (.lst xs),I1.laid (t':=s1.toks) (fun b u e=>Heap.get?_push_of_some _ e) (Nat.le_refl _) ?_,rfl,q _ hf⟩
 exact ⟨z,us,0,r,Heap.get?_push_size _ rfl⟩
end
noncomputable abbrev Sp:=List V→Hp→VK→XK→Prop
noncomputable abbrev CXT:=List Env→Hp→Shared→XK→Value→Shared→Prop
structure Env0 (P:Program) (w:World) (K:PySem.W.Frag) (mg:Str→Option Value) (base:Heap) (A:Around) (outer:List Env) (s:Shared) (H:Hp):Prop where
 frames:A.frames=some outer
 mod:Mod K mg base
 bs:∀ b o,base.get? b=some o→s.heap.get? b=some o∧H b=none
 bsz:base.objs.size≤s.heap.objs.size
 funs:s.heap.FunFrames base outer
 frf:(∀ b∈frs outer,H b=none)∧Qwj K H
 hok:HOk P w H s.heap
 bare:AllBare s.gens
noncomputable def CE (outer:List Env) (P:Program) (w:World) (H:Hp) (s:Shared) (Q:VK) (u:Value) (s':Shared):Prop :=
 ∃ v H',s'.os=s.os∧AllBare s'.gens∧Un (frs outer) [] H H' s.heap s'.heap∧HOk P w H' s'.heap∧RelV v u∧Q v H'
noncomputable def CR (CX:CXT) (outer:List Env) (P:Program) (w:World) (H:Hp) (s:Shared) (Q:VK) (E:XK) (r:Result) (s':Shared):Prop :=
 match r with
 | .ok (.ret u)=>CE outer P w H s Q u s'
 | .ok _=>False
 | .error e=>CX outer H s E e s'
structure FnOk (P:Program) (w:World) (K:PySem.W.Frag) (mg:Str→Option Value) (base:Heap) (CX:CXT) (k:Nat) (f:Addr) (fd:FuncData) (ps:List Str) (sp:Sp):Prop where
 len:∀ vs H Q E,sp vs H Q E→vs.length=ps.length
 run:∀ (A:Around) (outer:List Env) (s:Shared) (H:Hp) (args:Args) (us:List Value) (vs:List V) (Q:VK) (E:XK),Room k A→Env0 P w K mg base A outer s H→BindsTo s fd args (ps.zip us)→Vals vs us→sp vs H Q E →
  codeAny (model P w) A (.call (.ref f) args) (CR CX outer P w H s Q E) s
theorem FnOk.mono {P:Program} {w:World} {K:PySem.W.Frag} {mg:Str→Option Value} {base:Heap} {CX:CXT} {j k:Nat} {f:Addr} {fd:FuncData} {ps:List Str} {sp:Sp} (F:FnOk P w K mg base CX j f fd ps sp) (h:j≤k) :
  FnOk P w K mg base CX k f fd ps sp:=⟨F.len,fun A outer s H args us vs Q E hr=>F.run A outer s H args us vs Q E (hr.mono h)⟩
theorem Env0.in1 {P:Program} {w:World} {K:PySem.W.Frag} {mg:Str→Option Value} {base:Heap} {A:Around} {outer:List Env} {s:Shared} {H:Hp} (e:Env0 P w K mg base A outer s H) :
  Env0 P w K mg base A.in1 outer s H:=⟨e.frames,e.mod,e.bs,e.bsz,e.funs,e.frf,e.hok,e.bare⟩
section
variable {X:Cx} {pins:List (Addr×Obj)} {σ:St} {H:Hp} {s s':Shared}
theorem Inv.env0 (I:Inv X pins σ H s):Env0 X.prog X.w X.K X.mg X.base X.A X.stack s H :=
 ⟨I.ok.frames,I.ok.mod,I.bs,Nat.le_trans I.ok.bsz I.sz,I.stack,⟨I.stkFree,I.tab⟩,I.hok,I.bare⟩
theorem Inv.after {Q:VK} {u:Value} (I:Inv X pins σ H s) (h:CE X.stack X.prog X.w H s Q u s'):EP X pins σ Q u s':=by
 obtain ⟨v,H',os,bare,un,hok,r,q⟩:=h
 obtain ⟨hh,g,d,t,os'⟩:=s'
 obtain rfl:os'=s.os:=os
 exact ⟨v,H',I.call (h':=hh) (g':=g) (d':=d) (t':=t) (ch:=[]) un hok bare (fun b z=>absurd z (by simp)),r,q⟩
end
noncomputable abbrev Qm5 (sp:Sp) (dvs:List V) (E:XK) (t:TA):TE:=fun σ H Q=>t σ H fun vs H1=>sp (vs++dvs) H1 Q E
noncomputable def Binds (K:PySem.W.Frag) (fd:FuncData) (ps:List Str) (ds:List Value):Prop :=
 ∀ (s:Shared) (us:List Value),K.In s.heap→(us++ds).length=ps.length→BindsTo s fd ⟨us,[]⟩ (ps.zip (us++ds))
theorem Binds.all {K:PySem.W.Frag} {fd:FuncData} {ps:List Str} (h:∀ us:List Value,us.length=ps.length→bindArgs fd ⟨us,[]⟩=pure (ps.zip us)):Binds K fd ps []:=fun s us _ hl=>by
 rw [List.append_nil] at hl ⊢
 exact .of_eq (h us hl)
noncomputable def Qrp (CX:CXT) (X:Cx) (E:XK):Prop:=∀ (pins:List (Addr×Obj)) (σ:St) (H:Hp) (s:Shared) (e:Value) (s':Shared),Inv X pins σ H s→CX X.stack H s E e s'→X.xe e s'
section
variable {X:Cx} {CX:CXT} {k:Nat} {f C:Addr} {fd:FuncData} {ps:List Str} {sp:Sp} {dvs:List V} {ds:List Value} {E:XK} {x m:Str} {p pos apos:Pos} {e o:Expr} {es:List Expr} {ta:TE} {t:TA}
theorem Q5q {pins:List (Addr×Obj)} {σ:St} {H:Hp} {s:Shared} {Q:VK} {us:List Value} {vs:List V} (F:FnOk X.prog X.w X.K X.mg X.base CX k f fd ps sp) (hr:Room k X.A) (hb:Binds X.K fd ps ds) (hd:Vals dvs ds) (hx:Qrp CX X E)
  (I:Inv X pins σ H s) (r:Vals vs us) (h:sp (vs++dvs) H Q E):wpAny (model X.prog X.w) X.A (call (.ref f) us) (EP X pins σ Q) X.xe s:=by
 have r2:Vals (vs++dvs) (us++ds):=r.append hd
 have hl:(us++ds).length=ps.length:=by rw [←r2.length];exact F.len _ _ _ _ h
 refine wpAny_call (codeAny_mono (F.run X.A X.stack s H ⟨us,[]⟩ (us++ds) (vs++dvs) Q E hr I.env0 (hb s us I.kIn hl) r2 h) fun r s' hq=>?_)
 cases r with
 | error e=>exact hx pins σ H s e s' I hq
 | ok fl =>
  cases fl with
  | ret u=>exact I.after hq
  | next=>exact False.elim hq
  | brk=>exact False.elim hq
  | cont=>exact False.elim hq
theorem Q0y (F:FnOk X.prog X.w X.K X.mg X.base CX k f fd ps sp) (hr:Room k X.A) (hg:Gl X x) (hm:X.mg x=some (.ref f)) (hk:PySem.W.keepIn X.K (.ref f)=true) (hb:Binds X.K fd ps ds) (hd:Vals dvs ds) (hx:Qrp CX X E)
  (ha:PA X (e::es) t) (hdb:(x==("__debug__" : Str))=false:=by decide) (he:starEach (e::es) X.env=(false,eval e X.env)::starEach es X.env:=by rfl) (hpl:(backTo pos (starEach es X.env)).any (·.1)=false:=by rfl) :
  PE X (.Call (.Name x p) (e::es) [] pos) (Qm5 sp dvs E t):=by
 intro pins s σ H Q I h
 refine wpAny_Call_Name_kw (Qfy I hg hm ?_ hdb)
 refine PySem.W.callWith_K (h₀:=X.base) I.ok.mod.kin hk (thn (ha pos pins s σ H _ I h) fun us s1 ⟨vs,H1,I1,r,q⟩=>⟨I1.kIn,?_⟩) he hpl
 exact Q5q F hr hb hd hx I1 r q
structure Mk (K:PySem.W.Frag) (C f:Addr):Prop where
 makes:PySem.W.makesIn K C=true
 init:PySem.W.findIn K (.ref C) "__init__" = some (some (.ref f))
 fn:PySem.W.isFn K (.ref f)=true
 kp:PySem.W.keepIn K (.ref C)=true
end
noncomputable def PK (X:Cx) (kws:List Keyword) (t:TA):Prop :=
 ∀ (pos:Pos) (pins:List (Addr×Obj)) (s:Shared) (σ:St) (H:Hp) (Q:List V→Hp→Prop),Inv X pins σ H s→t σ H Q→wpAny (model X.prog X.w) X.A (evalAll ((backToKw pos (keywordEach kws X.env)).map (·.2))) (AP X pins σ Q) X.xe s
section
variable {X:Cx} {CX:CXT} {k:Nat} {f C:Addr} {fd:FuncData} {ps ks:List Str} {sp:Sp} {E:XK} {x m:Str} {p pos apos kpos:Pos} {e o:Expr} {es:List Expr} {kws:List Keyword} {te ta:TE} {t tk:TA} {nm:Option Str}
theorem Q5r:PK X [] Qpq:=fun _ _ _ _ H Q I h=>wpAny_evalAll_nil ⟨[],H,I,.nil,h⟩
theorem Qtd (ha:PE X e te) (hr:PK X kws t):PK X (⟨nm,e,kpos⟩::kws) (Qgp te t):=by
 intro pos pins s σ H Q I h
 show wpAny _ _ (evalAll ((do let v ← eval e X.env;standAt pos;pure v)::(backToKw pos (keywordEach kws X.env)).map (·.2))) _ _ s
 refine wpAny_evalAll_cons (wpAny_bind (thn (ha pins s σ H _ I h) fun u s1 ⟨x,H1,I1,r1,q1⟩=>wpAny_bind (wpAny_standAt (wpAny_pure ?_))))
 exact thn (hr pos pins s1 σ H1 _ I1 q1) fun us s2 ⟨xs,H2,I2,r2,q2⟩=>⟨x::xs,H2,I2,.cons r1 r2,q2⟩
structure KBinds (K:PySem.W.Frag) (fd:FuncData) (ps ks:List Str) (g:List Value→List Value→List Value) (gV:List V→List V→List V):Prop where
 to:∀ (s:Shared) (us ws:List Value),K.In s.heap→(g us ws).length=ps.length→BindsTo s fd ⟨us,ks.zip ws⟩ (ps.zip (g us ws))
 rel:∀ {vs:List V} {us:List Value} {zs:List V} {ws:List Value},Vals vs us→Vals zs ws→Vals (gV vs zs) (g us ws)
variable {g:List Value→List Value→List Value} {gV:List V→List V→List V}
end
structure FnScope (N P:List Str) (sc:Scope):Prop where
 kind:sc.kind=.function
 co:sc.isCoroutine=false
 gen:sc.isGenerator=false
 nd:N.Nodup
 pre:N.take P.length=P
 par:∀ x∈P,sc.names.lookup x=some .local∨sc.names.lookup x=some .cell
 nofree:∀ y∈sc.names,y.2≠.free
theorem Qm6 {kindOf:Str→Option NameKind} {x:Str}:∀ {binds:List (Str×Value)} {m:Str→Option Value},(∀ v,(x,v)∉binds)→bindL kindOf binds m x=m x
 | [],_,_=>rfl
 | (n,v)::r,m,h=>by
  unfold bindL
  rw [Qm6 fun w hw=>h w (List.mem_cons_of_mem _ hw)]
  split
  ·have:x≠n:=by rintro rfl;exact h v List.mem_cons_self
   simp [this]
  ·rfl
theorem Qm7 {kindOf:Str→Option NameKind} {x:Str}:∀ {binds:List (Str×Value)} {m:Str→Option Value},(∀ v,(x,v)∉binds)→bindC kindOf binds m x=m x
 | [],_,_=>rfl
 | (n,v)::r,m,h=>by
  unfold bindC
  rw [Qm7 fun w hw=>h w (List.mem_cons_of_mem _ hw)]
  split
  ·rfl
  ·have:x≠n:=by rintro rfl;exact h v List.mem_cons_self
   simp [this]
theorem Qeo {kindOf:Str→Option NameKind} {x:Str} {v:Value}:∀ {P:List Str} {vs:List Value} {i:Nat} {m:Str→Option Value},P.Nodup→P[i]?=some x→vs[i]?=some v→kindOf x=some .local →
  bindL kindOf (P.zip vs) m x=some v
 | [],_,_,_,_,h,_,_=>by simp at h
 | _::_,[],_,_,_,_,h,_=>by simp at h
 | p::P,w::vs,0,m,nd,h1,h2,hk=>by
  simp at h1 h2;subst h1;subst h2
  show bindL kindOf ((p,w)::P.zip vs) m p=_
  unfold bindL
  rw [Qm6 fun v hv=>(List.nodup_cons.mp nd).1 (List.of_mem_zip hv).1,if_pos hk]
  simp
 | p::P,w::vs,i+1,m,nd,h1,h2,hk=>by
  show bindL kindOf ((p,w)::P.zip vs) m x=_
  unfold bindL
  exact Qeo (i:=i) (List.nodup_cons.mp nd).2 (by simpa using h1) (by simpa using h2) hk
theorem Qjc {kindOf:Str→Option NameKind} {x:Str} {v:Value}:∀ {P:List Str} {vs:List Value} {i:Nat} {m:Str→Option Value},P.Nodup→P[i]?=some x→vs[i]?=some v→kindOf x≠some .local →
  bindC kindOf (P.zip vs) m x=some v
 | [],_,_,_,_,h,_,_=>by simp at h
 | _::_,[],_,_,_,_,h,_=>by simp at h
 | p::P,w::vs,0,m,nd,h1,h2,hk=>by
  simp at h1 h2;subst h1;subst h2
  show bindC kindOf ((p,w)::P.zip vs) m p=_
  unfold bindC
  rw [Qm7 fun v hv=>(List.nodup_cons.mp nd).1 (List.of_mem_zip hv).1,if_neg hk]
  simp
 | p::P,w::vs,i+1,m,nd,h1,h2,hk=>by
  show bindC kindOf ((p,w)::P.zip vs) m x=_
  unfold bindC
  exact Qjc (i:=i) (List.nodup_cons.mp nd).2 (by simpa using h1) (by simpa using h2) hk
noncomputable def Qbj (N:List Str) (vs:List V):St:=vs.map some++List.replicate (N.length-vs.length) none
noncomputable def Qhn (g:Str→Bool) (CX:CXT) (P:Program) (w:World) (K:PySem.W.Frag) (mg:Str→Option Value) (base:Heap) (N:List Str) (qual:Str) (scope:Scope) (f:Addr) (cd:Value) (A:Around) (outer:List Env) (s:Shared) (H:Hp) (E:XK):Cx where
 prog:=P
 w:=w
 K:=K
 mg:=mg
 base:=base
 A:=A.deeper (envOfC qual scope s.heap.objs.size f cd)
 N:=N
 s₀:=s
 H₀:=H
 env:=envOfC qual scope s.heap.objs.size f cd
 outer:=outer
 stack:=envOfC qual scope s.heap.objs.size f cd::outer
 ex:=[]
 calm:=true
 fn:=g
 pn:=[]
 xe:=fun e s'=>wpAny (model P w) (A.deeper (envOfC qual scope s.heap.objs.size f cd)) (leaving (envOfC qual scope s.heap.objs.size f cd) e) (fun _ s''=>CX outer H s E e s'') (fun e' s''=>CX outer H s E e' s'') s'
theorem Qih {sc:Scope} {n:Nat} {x:Str} (h:sc.names.lookup x=some .cell):∃ c,(cellsFrom n sc.names []).lookup x=some c:=by
 have q:=PySem.W.cellsFrom_some sc.names n [] (.inl h)
 exact Option.isSome_iff_exists.mp q
theorem Qu4 {g:Str→Bool} {CX:CXT} {P:Program} {w:World} {K:PySem.W.Frag} {mg:Str→Option Value} {base:Heap} {N ps:List Str} {qual:Str} {scope:Scope} {f:Addr} {cd:Value} {A:Around} {outer:List Env} {s s1:Shared} {H:Hp} {E:XK} {us:List Value} {vs:List V}
  (S:FnScope N ps scope) (hd:A.handled=none) (e0:Env0 P w K mg base A outer s H) (hl:vs.length=ps.length) (r:Vals vs us)
  (x:InCallC s s.heap.objs.size (bindL (envOfC qual scope s.heap.objs.size f cd).kindOf (ps.zip us) fun _=>none) (cellsFrom (s.heap.objs.size+1) scope.names []) (bindC (envOfC qual scope s.heap.objs.size f cd).kindOf (ps.zip us) fun _=>none) s1) :
  Inv (Qhn g CX P w K mg base N qual scope f cd A outer s H E) [] (Qbj N vs) H s1:=by
 have hpl:ps.length≤N.length:=by have:=congrArg List.length S.pre;rw [List.length_take] at this;omega
 obtain ⟨h1,tk,rfl,hk⟩:=x.done
 have noA:∀ b:Addr,b∉(Qhn g CX P w K mg base N qual scope f cd A outer s H E).ex:=fun b z=>absurd (show b∈([]:List Addr) from z) (by simp)
 refine ⟨⟨e0.mod,S.kind,rfl,rfl,Nat.le_refl _,fun y z c h1 h2=>?_,fun y hy=>?_,fun y c _ h=>?_,fun _=>hd,Around.frames_deeper e0.frames,.inr ⟨rfl,rfl⟩,fun b z=>absurd z (noA b),e0.bs,e0.bsz,fun b _ _=>noA b,fun b z=>absurd z (noA b),e0.funs,e0.frf⟩,
  rfl,e0.bare,Un.kept hk,⟨_,x.toInCall.ns,fun i y v h1 h2 h3=>?_⟩,fun y c h=>⟨_,x.cell y c h⟩,e0.hok.fresh (Nat.le_refl _),fun y c h=>?_,fun p hp=>absurd (show p∈([]:List (Addr×Obj)) from hp) (by simp),e0.hok.kept hk,?_⟩
 ·exact name_of_addr x.apart (PySem.mem_of_lookup h1) (PySem.mem_of_lookup h2)
 ·have hy:scope.names.lookup y=some .cell∨scope.names.lookup y=some .free:=hy
  rcases hy with hy | hy
  ·exact Qih hy
  ·exact absurd rfl (S.nofree _ (PySem.mem_of_lookup hy))
 ·exact Nat.le_of_lt (x.above y c (PySem.mem_of_lookup h))
 ·have hi:i<vs.length:=by
   unfold Qbj at h2
   by_cases hi:i<vs.length
   ·exact hi
   ·rw [List.getElem?_append_right (by simpa using hi)] at h2
    rw [List.getElem?_replicate] at h2
    split at h2 <;> cases h2
  have ha:vs[i]?=some v:=by
   unfold Qbj at h2
   rw [List.getElem?_append_left (by simpa using hi),List.getElem?_map] at h2
   cases e:vs[i]? with
   | none=>rw [e] at h2;cases h2
   | some a=>rw [e] at h2;cases h2;rfl
  obtain ⟨u,hu,rv⟩:=r.get ha
  have hp:ps[i]?=some y:=by
   rw [←S.pre,List.getElem?_take_of_lt (by omega)];exact h1
  have ndP:ps.Nodup:=by rw [←S.pre];exact S.nd.sublist (List.take_sublist _ _)
  refine ⟨u,rv,?_⟩
  rcases S.par y (List.mem_of_getElem? hp) with k | k
  ·exact .inl ⟨k,Qeo ndP hp hu k⟩
  ·obtain ⟨c,e⟩:=Qih (n:=s.heap.objs.size+1) k
   refine .inr ⟨.inl k,c,e,?_⟩
   have q:=x.cell y c e
   rw [Qjc ndP hp hu (by show scope.names.lookup y≠_;rw [k];decide)] at q
   exact q
 ·exact .inl (e0.hok.fresh (Nat.le_of_lt (x.above y c (PySem.mem_of_lookup h))))
 ·unfold Qbj
  show _=N.length
  rw [List.length_append,List.length_map,List.length_replicate]
  omega
theorem Q3l {g:Str→Bool} {CX:CXT} {P:Program} {w:World} {K:PySem.W.Frag} {mg:Str→Option Value} {base:Heap} {k:Nat} {f:Addr} {name qual:Str} {params:Arguments} {body:List Stmt} {scope:Scope} {dV kV doc pm cdv ct oc:Value} {an od:Option Addr}
  {osl:Array (Option Value)} {N ps:List Str} {sp:Sp} (lk:K.lookup f=some ⟨oc,od,.func (PySem.W.fnOf name qual params body scope dV kV doc pm an cdv ct),osl⟩) (hcd:PySem.W.codeIn K cdv qual=true) (S:FnScope N ps scope)
  (len:∀ vs H Q E,sp vs H Q E→vs.length=ps.length)
  (hbody:∀ (A:Around) (outer:List Env) (s:Shared) (H:Hp) (vs:List V) (Q:VK) (E:XK),Room k (A.deeper (envOfC qual scope s.heap.objs.size f cdv))→sp vs H Q E →
   ∃ t,PSs (Qhn g CX P w K mg base N qual scope f cdv A outer s H E) body t∧t { nx:=fun _ H'=>Q .non H',rt:=Q } (Qbj N vs) H) :
  FnOk P w K mg base CX (k+1) f (PySem.W.fnOf name qual params body scope dV kV doc pm an cdv ct) ps sp:=by
 refine ⟨len,fun A outer s H args us vs Q E hr e0 hb r hsp=>?_⟩
 have hl:=len _ _ _ _ hsp
 have KX:K.In s.heap:=e0.mod.kin.keeps fun b o e=>(e0.bs b o e).1
 have lim:s.heap.NoLimit:=e0.mod.nolimit.keeps fun b o e=>(e0.bs b o e).1
 have hkind:∀ y∈ps.zip us,scope.names.lookup y.1=some .local∨(scope.names.lookup y.1=some .cell∧((cellsFrom (s.heap.objs.size+1) scope.names []).lookup y.1).isSome=true):=fun ⟨n,v⟩ hy=>by
  rcases S.par n (List.of_mem_zip hy).1 with q | q
  ·exact .inl q
  ·exact .inr ⟨q,PySem.W.cellsFrom_some _ _ _ (.inl q)⟩
 refine codeAny_call_function hr.depth (KX _ _ lk) rfl S.co S.gen rfl (PySem.W.codeRec_of KX hcd) (hb _ _ _ _ ?_)
 refine wpAny_newFunctionEnv_cells S.kind hkind fun env he s1 x=>?_
 subst he
 refine ⟨lim.keeps x.toInCall.keep,codeAny_func ?_⟩
 obtain ⟨t,ht,hq⟩:=hbody A outer s H vs Q E (hr.deeper _) hsp
 have I:Inv (Qhn g CX P w K mg base N qual scope f cdv A outer s H E) [] (Qbj N vs) H s1:=Qu4 S hr.hd e0 hl r x
 refine wpAny_mono (ht [] s1 (Qbj N vs) H _ I hq) (fun fl s' hs=>?_) fun e s' hs=>hs
 have fin:∀ {σ':St} {H':Hp} {v:V} {u:Value},Inv (Qhn g CX P w K mg base N qual scope f cdv A outer s H E) [] σ' H' s'→RelV v u→Q v H'→CE outer P w H s Q u s' :=
  fun {σ' H' v u} J rv q=>⟨v,H',J.os,J.bare,J.base,J.hok,rv,q⟩
 cases fl with
 | ret u =>
  obtain ⟨v,σ',H',J,rv,q⟩:=hs
  exact fin J rv q
 | next =>
  obtain ⟨σ',H',J,q⟩:=hs
  exact fin (v:=V.non) (u:=Value.none) J rfl q
 | brk =>
  obtain ⟨_,_,_,q⟩:=hs
  exact False.elim q
 | cont =>
  obtain ⟨_,_,_,q⟩:=hs
  exact False.elim q
section
variable {X:Cx} {x:Str} {p pos:Pos} {e:Expr} {es:List Expr} {t:TA} {id T:String} {r:List V→Hp→VK→Prop}
noncomputable abbrev tCB (r:List V→Hp→VK→Prop) (t:TA):TE:=fun σ H Q=>t σ H fun vs H1=>r vs H1 Q
theorem Qw4 (hc:CallR X (.builtin id) r) (hg:Gl X x) (hm:X.mg x=none) (hv:bootBuiltins x=some (.builtin id)) (ha:PA X (e::es) t) (hn:x ≠ "__name__" := by decide) (hdb:(x==("__debug__" : Str))=false:=by decide)
  (he:starEach (e::es) X.env=(false,eval e X.env)::starEach es X.env:=by rfl) (hpl:(backTo pos (starEach es X.env)).any (·.1)=false:=by rfl):PE X (.Call (.Name x p) (e::es) [] pos) (tCB r t):=by
 intro pins s σ H Q I h
 refine wpAny_Call_Name_kw (Qk9 I hg hm hv ?_ hn hdb)
 exact PyProof.Rows.callWith_builtin1 (thn (ha pos pins s σ H _ I h) fun us s1 ⟨vs,H1,I1,r1,q1⟩=>hc pins s1 σ H1 vs us Q I1 r1 q1) he hpl
theorem Qu5 (hc:CallR X (.type T) r) (hg:Gl X x) (hm:X.mg x=none) (hv:bootBuiltins x=some (.type T)) (ha:PA X (e::es) t) (hn:x ≠ "__name__" := by decide) (hdb:(x==("__debug__" : Str))=false:=by decide)
  (he:starEach (e::es) X.env=(false,eval e X.env)::starEach es X.env:=by rfl) (hpl:(backTo pos (starEach es X.env)).any (·.1)=false:=by rfl):PE X (.Call (.Name x p) (e::es) [] pos) (tCB r t):=by
 intro pins s σ H Q I h
 refine wpAny_Call_Name_kw (Qk9 I hg hm hv ?_ hn hdb)
 exact PyProof.Rows.callWith_type1 (thn (ha pos pins s σ H _ I h) fun us s1 ⟨vs,H1,I1,r1,q1⟩=>hc pins s1 σ H1 vs us Q I1 r1 q1) he hpl
end
end L2
namespace HT
open PySem PyProof.Rows
noncomputable def lexLt:List Int→List Int→Bool
 | [],[]=>false
 | [],_::_=>true
 | _::_,[]=>false
 | x::xs,y::ys=>if x=y then lexLt xs ys else decide (x<y)
section
open PySem.SeqAt
open PySem.AutoSeq1 (wpAny_loadPart')
open PySem.MeetsSeq PySem.MeetsSeq2 PySem.MeetsSeq3
end
section
variable {prog:Program} {w:World} {A:Around} {E:Value→Shared→Prop} {s:Shared}
theorem cat_tup {t b:Addr} {vs ws:List Value} {Q:Value→Shared→Prop} (ht:IsTup s.heap t vs.toArray) (hb:IsTup s.heap b ws.toArray) (hv:vs≠[])
  (h1:ws=[]→Q (.ref t) s) (h2:ws≠[]→Q (.ref s.heap.objs.size) { s with heap:=s.heap.push { cls:=.type "tuple",data:=.seq (vs++ws).toArray } })
  (hsz:vs.length+ws.length≤sizeLine):wpAny (model prog w) A (binaryOp .Add (.ref t) (.ref b)) Q E s:=by
 obtain ⟨⟨cls,dd,data,sl⟩,ho,hc,n,hd⟩:=id ht
 obtain ⟨⟨cls2,dd2,data2,sl2⟩,ho2,hc2,n2,hd2⟩:=id hb
 simp only at hc hd hc2 hd2
 subst hc hd hc2 hd2
 have e:vs.toArray++ws.toArray=(vs++ws).toArray:=by simp
 by_cases hw:ws=[]
 ·exact concat_meets ⟨_,ho,rfl⟩ ⟨_,ho2,rfl⟩ noFill_tuple_add seq_tuple_add PySem.F.slot_tuple_add PySem.F.entry_tuple_add (PySem.F.args_tuple_add_2 _ _)
   (tuple_addW1 t b vs.toArray ws.toArray n n2 dd dd2 sl sl2 (by simpa using hv) (by simp [hw])) ⟨ho,ho2,h1 hw⟩
 ·refine concat_meets ⟨_,ho,rfl⟩ ⟨_,ho2,rfl⟩ noFill_tuple_add seq_tuple_add PySem.F.slot_tuple_add PySem.F.entry_tuple_add (PySem.F.args_tuple_add_2 _ _)
   (tuple_addW2 t b vs.toArray ws.toArray n n2 dd dd2 sl sl2 (by simpa using hv) (by simpa using hw) (by rw [List.size_toArray,List.size_toArray];exact hsz)) ⟨ho,ho2,?_⟩
  rw [e]
  exact h2 hw
noncomputable def sIx (n d:Nat):Option Int→Nat
 | none=>d
 | some v=>if v<0 then (v+(n:Int)).toNat else min v.toNat n
theorem sIx_le (n d:Nat) (hd:d≤n) (o:Option Int):sIx n d o≤n:=by
 cases o with
 | none=>exact hd
 | some v =>
  show (if v<0 then (v+(n:Int)).toNat else min v.toNat n)≤n
  by_cases hv:v<0
  ·rw [if_pos hv];omega
  ·rw [if_neg hv];exact Nat.min_le_right _ _
theorem clip_eq (v:Int) (n d:Nat):(if v<0 then max (v+(n:Int)) 0 else min v (n:Int))=((sIx n d (some v):Nat):Int):=by
 show (if v<0 then max (v+(n:Int)) 0 else min v (n:Int))=(((if v<0 then (v+(n:Int)).toNat else min v.toNat n):Nat):Int)
 by_cases hv:v<0
 ·simp only [if_pos hv];omega
 ·simp only [if_neg hv];omega
theorem adjust_gen (lo hi:Option Int) (n:Nat):Builtin.Slice.sliceAdjust lo hi 1 (n:Int)=(((sIx n 0 lo:Nat):Int),((sIx n n hi:Nat):Int)):=by
 have h1:¬ ((1:Int)<0):=by omega
 unfold Builtin.Slice.sliceAdjust
 simp only [h1,if_false]
 refine Prod.ext ?_ ?_
 ·cases lo with
  | none=>rfl
  | some v=>exact clip_eq v n 0
 ·cases hi with
  | none=>rfl
  | some v=>exact clip_eq v n n
theorem places_gen (i j:Nat):Builtin.Slice.slicePlaces (i:Int) (j:Int) 1=j-i:=by
 unfold Builtin.Slice.slicePlaces
 have h1:(1:Int)>0:=by omega
 simp only [h1,if_true,Int.ediv_one]
 split <;> omega
theorem slicePart_ {v:Value} {o:Option Int} {Q:Option Int→Shared→Prop} (p:IsPart v o) (h:Q o s):wpAny (model prog w) A (Builtin.Slice.slicePartIndex v) Q E s:=by
 cases p with
 | none=>exact slicePart_none h
 | int i t=>exact slicePart_int h
theorem sliceApplied_gen {sl:Addr} {vl vu:Value} {lo hi:Option Int} {n:Nat} {Q:Int×Int×Nat→Shared→Prop} (hs:s.heap.IsSliceOf sl vl vu .none) (pl:IsPart vl lo) (pu:IsPart vu hi)
  (h:Q (((sIx n 0 lo:Nat):Int),1,sIx n n hi-sIx n 0 lo) s):wpAny (model prog w) A (Builtin.Slice.sliceApplied (.ref sl) (pure (n:Int))) Q E s:=by
 obtain ⟨os,hos,hcs,hds⟩:=id hs
 unfold Builtin.Slice.sliceApplied Builtin.Slice.sliceFields
 refine wpAny_bind (wpAny_bind (wpAny_field hos hds (x:=vl) rfl (wpAny_bind (wpAny_field hos hds (x:=vu) rfl (wpAny_bind (wpAny_field hos hds (x:=.none) rfl (wpAny_pure ?_)))))))
 refine wpAny_bind (slicePart_none ?_)
 show wpAny _ _ (if ((1:Int)==0)=true then _ else _) _ _ s
 rw [if_neg (by decide)]
 refine wpAny_bind (slicePart_ pl (wpAny_bind (slicePart_ pu (wpAny_bind (wpAny_pure ?_)))))
 show wpAny _ _ (match Builtin.Slice.sliceAdjust lo hi 1 (n:Int) with | (lo,hi)=>pure (lo,(1:Int),Builtin.Slice.slicePlaces lo hi 1)) _ _ s
 rw [adjust_gen lo hi n]
 show wpAny _ _ (pure (((sIx n 0 lo:Nat):Int),(1:Int),Builtin.Slice.slicePlaces ((sIx n 0 lo:Nat):Int) ((sIx n n hi:Nat):Int) 1)) _ _ s
 rw [places_gen]
 exact wpAny_pure h
theorem pick_gen (xs:Array Value) (i k:Nat):((List.range k).filterMap fun (m:Nat)=>xs[((i:Int)+(m:Int)*1).toNat]?).toArray=((xs.toList.drop i).take k).toArray:=by
 have e:(fun (m:Nat)=>xs[((i:Int)+(m:Int)*1).toNat]?)=fun m=>xs[i+m]?:=by
  funext m
  have:((i:Int)+(m:Int)*1).toNat=i+m:=by omega
  rw [this]
 rw [e]
 have:=pick_run xs i k
 rw [List.filterMap_map] at this
 have e2:((fun x=>xs[x]?) ∘ fun x=>i+x)=fun m=>xs[i+m]?:=rfl
 rw [e2] at this
 rw [this]
theorem getItem_tuple_cut {t sl:Addr} {items:Array Value} {vl vu:Value} {lo hi:Option Int} {Q:Value→Shared→Prop} (ht:IsTup s.heap t items) (hs:s.heap.IsSliceOf sl vl vu .none) (pl:IsPart vl lo) (pu:IsPart vu hi)
  (hw:¬ (sIx items.size 0 lo=0∧sIx items.size items.size hi=items.size))
  (h:Q (.ref s.heap.objs.size) { s with heap:=s.heap.push { cls:=.type "tuple",data:=.seq ((items.toList.drop (sIx items.size 0 lo)).take (sIx items.size items.size hi-sIx items.size 0 lo)).toArray } })
  (hsz:items.size≤sizeLine):wpAny (model prog w) A (getItem (.ref t) (.ref sl)) Q E s:=by
 have htake:sizeOk (.seq ((items.toList.drop (sIx items.size 0 lo)).take (sIx items.size items.size hi-sIx items.size 0 lo)).toArray):=by
  show ((items.toList.drop (sIx items.size 0 lo)).take (sIx items.size items.size hi-sIx items.size 0 lo)).toArray.size≤sizeLine
  rw [List.size_toArray,List.length_take,List.length_drop,Array.length_toList]
  omega
 have hj:sIx items.size items.size hi≤items.size:=sIx_le _ _ (Nat.le_refl _) hi
 obtain ⟨os,hos,hcs,hds⟩:=id hs
 have hTs:s.TypeIs (.ref sl) "slice" := ⟨os,hos,hcs⟩
 unfold getItem
 try with_reducible refine wpAny_holding ?_
 first | refine wpAny_bind (wpAny_pure ?_) | skip
 refine wpAny_bind (wpAny_sequenceKey ht.typeIs (by decide) ?_)
 refine wpAny_bind (wpAny_callSpecial?_slot (name:=Str.ofString "__getitem__") ht.typeIs PyProof.Rows.slot_tuple_getitem
  (wpAny_call_entry PyProof.Rows.slot_tuple_getitem ht.typeIs entry_tuple_getitem ?_ (args_tuple_getitem _ _)))
 show wpAny _ _ (Builtin.Tuple.tupleItemsOf (.ref t) >>= _) _ _ s
 refine wpAny_bind (tupleItemsOf_ ht ?_)
 refine wpAny_bind (wpAny_typeOf hTs ?_)
 rw [if_pos (by decide)]
 refine wpAny_bind (sliceApplied_gen hs pl pu ?_)
 have hno:¬ ((((sIx items.size 0 lo:Nat):Int)==0&&(1:Int)==1&&(sIx items.size items.size hi-sIx items.size 0 lo)==items.size)=true):=by
  intro q
  rw [Bool.and_eq_true,Bool.and_eq_true] at q
  have q1:((sIx items.size 0 lo:Nat):Int)=0:=eq_of_beq q.1.1
  have q2:sIx items.size items.size hi-sIx items.size 0 lo=items.size:=eq_of_beq q.2
  exact hw ⟨by omega,by omega⟩
 show wpAny _ _ (if (((sIx items.size 0 lo:Nat):Int)==0&&(1:Int)==1&&(sIx items.size items.size hi-sIx items.size 0 lo)==items.size)=true then _ else _) _ _ s
 rw [if_neg hno,pick_gen]
 first
  | exact wpAny_bind (m:=Builtin.Tuple.tupleExact _) (wpAny_newObj_type (wpAny_pure ⟨_,rfl,wpAny_pure h⟩) htake)
  | exact wpAny_bind (m:=Builtin.Tuple.tupleExact _) (wpAny_newObj_type (wpAny_bind (wpAny_pure (wpAny_pure ⟨_,rfl,wpAny_pure h⟩))) htake)
  | exact wpAny_bind (wpAny_bind (m:=Builtin.Tuple.tupleExact _) (wpAny_newObj_type (wpAny_pure (wpAny_pure ⟨_,rfl,wpAny_pure h⟩)) htake))
  | exact wpAny_bind (wpAny_bind (m:=Builtin.Tuple.tupleExact _) (wpAny_newObj_type (wpAny_pure ⟨_,rfl,wpAny_pure h⟩) htake))
end
end HT
namespace L2
open PySem PySem.Spec PyProof.Rows
noncomputable abbrev TO:=St→Hp→(Option Int→Hp→Prop)→Prop
noncomputable def PO (X:Cx) (e:Option Expr) (t:TO):Prop :=
 ∀ (pins:List (Addr×Obj)) (s:Shared) (σ:St) (H:Hp) (Q:Option Int→Hp→Prop),Inv X pins σ H s→t σ H Q →
  wpAny (model X.prog X.w) X.A (evalPart e X.env) (fun u s'=>∃ o H',Inv X pins σ H' s'∧IsPart u o∧Q o H') X.xe s
noncomputable abbrev Qte (t:TE):TO:=fun σ H Q=>t σ H fun x H1=>∃ i,x=.int i∧Q (some i) H1
theorem Qlb {ns:List Int}:∀ {us:List Value},Vals (ns.map V.int) us→IntsAre us ns:=by
 induction ns with
 | nil=>intro us r;rw [List.map_nil] at r;cases r;exact .nil
 | cons n ns ih =>
  intro us r
  rw [List.map_cons] at r
  cases r with
  | cons r1 r2 =>
   obtain ⟨t,e⟩:=r1
   subst e
   exact .cons n t (ih r2)
section
variable {X:Cx} {e:Expr} {te:TE} {lo hi:Option Expr} {tl th:TO} {pos p2:Pos}
theorem Q0z (h:PE X e te):PO X (some e) (Qte te):=by
 intro pins s σ H Q I hw
 rw [evalPart_some]
 refine thn (h pins s σ H _ I hw) fun u s1 ⟨x,H1,I1,r1,q1⟩=>?_
 obtain ⟨i,rfl,q⟩:=q1
 obtain ⟨t,rfl⟩:=r1
 exact ⟨some i,H1,I1,.int i t,q⟩
noncomputable def SlR (X:Cx) (r:V→Option Int→Option Int→Hp→VK→Prop):Prop :=
 ∀ (pins:List (Addr×Obj)) (s:Shared) (σ:St) (H:Hp) (x:V) (v vl vu:Value) (lo hi:Option Int) (sl:Addr) (Q:VK),Inv X pins σ H s→RelV x v→s.heap.IsSliceOf sl vl vu .none→IsPart vl lo→IsPart vu hi→r x lo hi H Q →
  ∃ T id,typeLookup (.type T) "__getitem__" = pure (some (.builtin id))∧s.TypeIs v T∧wpAny (model X.prog X.w) X.A (getItem v (.ref sl)) (EP X pins σ Q) X.xe s
theorem SlR.or {r r':V→Option Int→Option Int→Hp→VK→Prop} (h:SlR X r) (h':SlR X r'):SlR X (fun x lo hi H Q=>r x lo hi H Q∨r' x lo hi H Q):=by
 intro pins s σ H x v vl vu lo hi sl Q I rx hs pl pu q
 rcases q with q | q
 ·exact h pins s σ H x v vl vu lo hi sl Q I rx hs pl pu q
 ·exact h' pins s σ H x v vl vu lo hi sl Q I rx hs pl pu q
noncomputable abbrev tSl (r:V→Option Int→Option Int→Hp→VK→Prop) (te:TE) (tl th:TO):TE:=fun σ H Q=>te σ H fun x H1=>tl σ H1 fun l H2=>th σ H2 fun u H3=>r x l u H3 Q
theorem Qw5 {r:V→Option Int→Option Int→Hp→VK→Prop} (hr:SlR X r) (he:PE X e te) (hl:PO X lo tl) (hu:PO X hi th):PE X (.Subscript e (.Slice lo hi none p2) pos) (tSl r te tl th):=by
 intro pins s σ H Q I h
 refine Subscript_ (thn (he pins s σ H _ I h) fun v s1 ⟨x,H1,I1,r1,q1⟩=>?_)
 refine wpAny_Slice (thn (hl pins s1 σ H1 _ I1 q1) fun vl s2 ⟨l,H2,I2,pl,q2⟩=>thn (hu pins s2 σ H2 _ I2 q2) fun vu s3 ⟨u,H3,I3,pu,q3⟩=>?_)
 rw [evalPart_none]
 refine wpAny_pure ?_
 have I4:Inv X pins σ H3 { s3 with heap:=s3.heap.push { cls:=.type "slice",data:=.fields #[vl,vu,.none] } }:=I3.kept (t':=s3.toks) fun b ob q=>Heap.get?_push_of_some _ q
 obtain ⟨T,id,hT,ht,hg⟩:=hr pins { s3 with heap:=s3.heap.push { cls:=.type "slice",data:=.fields #[vl,vu,.none] } } σ H3 x v vl vu l u s3.heap.objs.size Q I4 r1 (Heap.IsSliceOf.new ..) pl pu q3
 show wpAny (model X.prog X.w) X.A (subscriptTail e (.Slice lo hi none p2) v (.ref s3.heap.objs.size)) (EP X pins σ Q) X.xe { s3 with heap:=s3.heap.push { cls:=.type "slice",data:=.fields #[vl,vu,.none] } }
 exact tail_any (ops:=[.ref s3.heap.objs.size,v]) ht hT hg (by with_unfolding_all rfl)
noncomputable def Qh0 (xs:List V) (lo hi:Option Int):List V:=(xs.drop (HT.sIx xs.length 0 lo)).take (HT.sIx xs.length xs.length hi-HT.sIx xs.length 0 lo)
theorem Qgq (xs:List V) (lo hi:Option Int):(Qh0 xs lo hi).length≤xs.length:=by
 unfold Qh0
 rw [List.length_take,List.length_drop]
 omega
noncomputable def rSlT (K:PySem.W.Frag):V→Option Int→Option Int→Hp→VK→Prop:=fun x lo hi H Q=>∃ a xs,x=.ref a∧SqT K H a xs ∧
 ¬ (HT.sIx xs.length 0 lo=0∧HT.sIx xs.length xs.length hi=xs.length)∧∀ p,H p=none→Q (.ref p) (upd H p (.tup (Qh0 xs lo hi)))
theorem Q5s:SlR X (rSlT X.K):=by
 intro pins s σ H x v vl vu lo hi sl Q I rx hs pl pu h
 obtain ⟨a,xs,rfl,hx,hw,q⟩:=h
 cases rx
 obtain ⟨its,r,ht,hz⟩:=I.tuple hx
 have hlen:its.toArray.size=xs.length:=by rw [List.size_toArray];exact r.length.symm
 refine ⟨"tuple",_,PyProof.Rows.slot_tuple_getitem.lookup,ht.typeIs,?_⟩
 refine HT.getItem_tuple_cut ht hs pl pu (by rw [hlen];exact hw) ?_ (by rw [hlen];exact hz)
 rw [hlen]
 refine ⟨.ref s.heap.objs.size,_,I.laid (t':=s.toks) (o:=.tup (Qh0 xs lo hi)) (fun b ob q=>Heap.get?_push_of_some _ q) (Nat.le_refl _) ?_,rfl,q _ (I.hok.fresh (Nat.le_refl _))⟩
 exact ⟨Nat.le_trans (Qgq xs lo hi) hz,_,(r.drop (HT.sIx xs.length 0 lo)).take (HT.sIx xs.length xs.length hi-HT.sIx xs.length 0 lo),IsTupD.new _ _⟩
noncomputable def Q8y (K:PySem.W.Frag):R2:=fun x y H Q=>∃ a b xs ys,x=.ref a∧y=.ref b∧SqT K H a xs∧SqT K H b ys∧xs≠[]∧xs.length+ys.length≤sizeLine ∧
 (ys=[]→Q (.ref a) H)∧(ys≠[]→∀ p,H p=none→Q (.ref p) (upd H p (.tup (xs++ys))))
theorem Vals.nil_iff {xs:List V} {us:List Value} (r:Vals xs us):us=[]↔xs=[]:=by
 cases r with
 | nil=>simp
 | cons _ _=>simp
theorem Q00:OpR X (binaryOp .Add) (Q8y X.K):=by
 intro pins s σ H x y v u Q I rx ry h
 obtain ⟨a,b,xs,ys,rfl,rfl,ha,hb,hx,hz,q1,q2⟩:=h
 cases rx
 cases ry
 obtain ⟨its,r1,p1,_⟩:=I.tuple ha
 obtain ⟨its2,r2,p2,_⟩:=I.tuple hb
 refine HT.cat_tup p1 p2 (fun z=>hx (r1.nil_iff.mp z)) (fun z=>⟨.ref a,H,I,rfl,q1 (r2.nil_iff.mp z)⟩) (fun z=>?_) (by rw [←r1.length,←r2.length];exact hz)
 refine ⟨.ref s.heap.objs.size,_,I.laid (t':=s.toks) (o:=.tup (xs++ys)) (fun b ob q=>Heap.get?_push_of_some _ q) (Nat.le_refl _) ?_,rfl,q2 (fun w=>z (r2.nil_iff.mpr w)) _ (I.hok.fresh (Nat.le_refl _))⟩
 exact ⟨by rw [List.length_append];exact hz,_,r1.append r2,IsTupD.new _ _⟩
end
noncomputable def ixN (n:Nat) (i:Int):Option Nat:=if 0≤i then (if i<n then some i.toNat else none) else if -(n:Int)≤i then some (i+n).toNat else none
noncomputable def atI {α:Type} (xs:List α) (i:Int):Option α:=(ixN xs.length i).bind fun j=>xs[j]?
theorem Qtf {n:Nat} {i:Int} {j:Nat} (h:ixN n i=some j):seqIndex? i n=some j∧j<n ∧ -(n:Int)≤i∧i<n:=by
 unfold ixN at h
 by_cases h0:0≤i
 ·rw [if_pos h0] at h
  by_cases h1:i<n
  ·rw [if_pos h1] at h
   have e:i.toNat=j:=Option.some.inj h
   exact ⟨by rw [seqIndex_of h0 h1,e],by omega,by omega,h1⟩
  ·rw [if_neg h1] at h;cases h
 ·rw [if_neg h0] at h
  by_cases h1:-(n:Int)≤i
  ·rw [if_pos h1] at h
   have e:(i+n).toNat=j:=Option.some.inj h
   exact ⟨by rw [seqIndex_neg (by omega) h1,e],by omega,h1,by omega⟩
  ·rw [if_neg h1] at h;cases h
theorem Qn6 {α:Type} {xs:List α} {i:Int} {v:α} (h:atI xs i=some v):∃ j,seqIndex? i xs.length=some j∧xs[j]?=some v∧j<xs.length ∧ -(xs.length:Int)≤i∧i<xs.length:=by
 unfold atI at h
 cases e:ixN xs.length i with
 | none=>rw [e] at h;cases h
 | some j =>
  rw [e] at h
  obtain ⟨h1,h2,h3,h4⟩:=Qtf e
  exact ⟨j,h1,h,h2,h3,h4⟩
theorem Qfz {α:Type} {xs:List α} {j:Nat} {v:α} (h:xs[j]?=some v):atI xs (j:Int)=some v:=by
 have hj:j<xs.length:=(List.getElem?_eq_some_iff.mp h).1
 have e:ixN xs.length (j:Int)=some j:=by
  unfold ixN
  rw [if_pos (by omega),if_pos (by omega)];simp
 unfold atI;rw [e];exact h
noncomputable def Qkr (b:Expr):Prop:=∀ o i,subscripted b false o i=operate [o,i] (getItem o i)
noncomputable def IxR (X:Cx) (r:R2):Prop :=
 ∀ (value slice:Expr) (pins:List (Addr×Obj)) (s:Shared) (σ:St) (H:Hp) (x y:V) (v u:Value) (Q:VK),Inv X pins σ H s→RelV x v→RelV y u→r x y H Q →
  subscripted slice false v u=operate [v,u] (getItem v u)→wpAny (model X.prog X.w) X.A (subscriptTail value slice v u) (EP X pins σ Q) X.xe s
noncomputable def MtR (X:Cx) (id:String) (r:V→List V→Hp→VK→Prop):Prop :=
 ∀ (pins:List (Addr×Obj)) (s:Shared) (σ:St) (H:Hp) (x:V) (xs:List V) (v:Value) (us:List Value) (Q:VK),Inv X pins σ H s→RelV x v→Vals xs us→r x xs H Q →
  wpAny (model X.prog X.w) X.A (call (.builtin id) (v::us)) (EP X pins σ Q) X.xe s
section
variable {X:Cx} {a b:Expr} {ta tb:TE} {pos:Pos}
theorem IxR.or {r r':R2} (h:IxR X r) (h':IxR X r'):IxR X (fun x y H Q=>r x y H Q∨r' x y H Q):=by
 intro value slice pins s σ H x y v u Q I rx ry q hs
 rcases q with q | q
 ·exact h value slice pins s σ H x y v u Q I rx ry q hs
 ·exact h' value slice pins s σ H x y v u Q I rx ry q hs
theorem Q8z {r:R2} (hr:IxR X r) (ha:PE X a ta) (hb:PE X b tb) (hs:Qkr b):PE X (.Subscript a b pos) (tOp r ta tb):=by
 intro pins s σ H Q I h
 exact Subscript_ (Q5g ha hb I h fun v u s2 x y H2 I2 rx ry q=>hr a b pins s2 σ H2 x y v u Q I2 rx ry q (hs _ _))
noncomputable def Q80 (K:PySem.W.Frag):R2:=fun x y H Q=>∃ p xs i v,x=.ref p∧y=.int i∧SqL K H p xs∧atI xs i=some v∧Q v H
noncomputable def Q81 (K:PySem.W.Frag):R2:=fun x y H Q=>∃ p xs i v,x=.ref p∧y=.int i∧SqT K H p xs∧atI xs i=some v∧Q v H
noncomputable def Q82:R2:=fun x y H Q=>∃ z i c,x=.str z∧y=.int i∧z.length≤sizeLine∧atI z.cps.toList i=some c∧Q (.str ⟨#[c]⟩) H
theorem Q01:IxR X (Q80 X.K):=by
 intro value slice pins s σ H x y v u Q I rx ry h hs
 obtain ⟨p,xs,i,z,rfl,rfl,hq,he,q⟩:=h
 cases rx
 obtain ⟨t,rfl⟩:=ry
 obtain ⟨its,r,pl,hz⟩:=I.list hq
 obtain ⟨j,h1,h2,h3,h4,h5⟩:=Qn6 he
 obtain ⟨w,ew,rw'⟩:=r.get h2
 have hl:=r.length
 have hn:=Qla
 have fin:EP X pins σ Q w s:=⟨z,H,I,rw',q⟩
 by_cases h0:0≤i
 ·have hj:i.toNat=j:=by
   rw [seqIndex_of h0 h5] at h1
   exact Option.some.inj h1
  exact item_listR pl.isList h0 (by omega) (by rw [hj];simpa using ew) fin hs
 ·have hj:(i+(its.toArray.size:Int)).toNat=j:=by
   rw [seqIndex_neg (by omega) h4] at h1
   rw [List.size_toArray,←hl]
   exact Option.some.inj h1
  exact subscriptTail_builtinR (x:=w) pl.isList.typeIs slot_list_getitem.lookup
   (wpAny_getItem_list_neg (Q:=fun r s'=>r=w∧EP X pins σ Q r s') pl.isList (by omega) (by rw [List.size_toArray] <;> omega) (by omega) (by rw [hj];simpa using ew) ⟨rfl,fin⟩) hs
theorem Q5t:IxR X (Q81 X.K):=by
 intro value slice pins s σ H x y v u Q I rx ry h hs
 obtain ⟨p,xs,i,z,rfl,rfl,hq,he,q⟩:=h
 cases rx
 obtain ⟨t,rfl⟩:=ry
 obtain ⟨its,r,pl,hz⟩:=I.tuple hq
 obtain ⟨j,h1,h2,h3,h4,h5⟩:=Qn6 he
 obtain ⟨w,ew,rw'⟩:=r.get h2
 have hl:=r.length
 have hn:=Qla
 have fin:EP X pins σ Q w s:=⟨z,H,I,rw',q⟩
 exact subscriptTail_builtinR (x:=w) pl.typeIs slot_tuple_getitem.lookup
  (getItem_tuple (j:=j) (Q:=fun r s'=>r=w∧EP X pins σ Q r s') pl (by omega) (by omega) (by rw [List.size_toArray,←hl];exact h1) (by simpa using ew) ⟨rfl,fin⟩) hs
theorem Q5u:IxR X Q82:=by
 intro value slice pins s σ H x y v u Q I rx ry h hs
 obtain ⟨z,i,c,rfl,rfl,hz,he,q⟩:=h
 obtain ⟨t,rfl⟩:=rx
 obtain ⟨t',rfl⟩:=ry
 obtain ⟨j,h1,h2,h3,h4,h5⟩:=Qn6 he
 have hl:z.cps.toList.length=z.length:=by simp [Str.length]
 rw [hl] at h1 h4 h5
 have hn:=Qla
 exact tail_any (typeIs_str s z t) slot_str_getitem.lookup (getItem_str (c:=c) (by
  have e1:decide (i < -(2^63:Int))=false:=decide_eq_false (by omega)
  have e2:decide (i≥2^63)=false:=decide_eq_false (by omega)
  rw [e1,e2,Bool.or_false]) (by rw [h1];simpa using h2) ⟨.str ⟨#[c]⟩,H,I.tok _,⟨_,rfl⟩,q⟩) hs
noncomputable def rIx (K:PySem.W.Frag):R2:=fun x y H Q=>Q80 K x y H Q∨Q81 K x y H Q∨Q82 x y H Q
theorem Q5v:IxR X (rIx X.K):=Q01.or (Q5t.or Q5u)
theorem Qrq (its:List Value) (n j:Nat) (u:Value):Obj.mapSeq (·.setIfInBounds j u) { cls:=.type "list",data:=.seq its.toArray n }={ cls:=.type "list",data:=.seq (its.set j u).toArray n }:=by
 simp [Obj.mapSeq]
theorem Inv.lst {pins:List (Addr×Obj)} {σ:St} {H:Hp} {s:Shared} {p:Addr} {xs:List V} (I:Inv X pins σ H s) (h:H p=some (.lst xs)) :
  ∃ (its:List Value) (n:Nat),Vals xs its∧s.heap.get? p=some { cls:=.type "list",data:=.seq its.toArray n }∧xs.length≤sizeLine:=by
 obtain ⟨z,its,n,r,e⟩:=I.hok p _ h
 exact ⟨its,n,r,e,z⟩
theorem Inv.lstUpd {pins:List (Addr×Obj)} {σ:St} {H:Hp} {s:Shared} {p:Addr} {xs ys:List V} {its its':List Value} {n n':Nat} {f:Obj→Obj} (I:Inv X pins σ H s) (h:H p=some (.lst xs))
  (ho:s.heap.get? p=some { cls:=.type "list",data:=.seq its.toArray n }) (hf:f { cls:=.type "list",data:=.seq its.toArray n }={ cls:=.type "list",data:=.seq its'.toArray n' }) (r:Vals ys its') (hz:ys.length≤sizeLine) (t:Nat) :
  Inv X pins σ (upd H p (.lst ys)) { s with heap:=s.heap.update p f,toks:=t }:=by
 have e:(s.heap.update p f).get? p=some { cls:=.type "list",data:=.seq its'.toArray n' }:=by
  rw [Heap.get?_update_self f ho (by rw [hf] <;> rfl),hf]
 refine I.write (x:=p) (e:=p) (by rw [h];trivial) (.inl rfl) (fun b u hb q=>(Heap.get?_update_other _ _ (Ne.symm hb)).trans q) ⟨_,e⟩ ?_
 exact ⟨hz,its',n',r,e⟩
noncomputable def Qtg:V→V→V→Hp→(Hp→Prop)→Prop:=fun o i v H Q=>∃ p xs k j,o=.ref p∧i=.int k∧H p=some (.lst xs)∧ixN xs.length k=some j∧Q (upd H p (.lst (xs.set j v)))
theorem Qw6:Q8p X Qtg:=by
 intro pins s σ H o i v ov iv u Q I ro ri rv h
 obtain ⟨p,xs,k,j,rfl,rfl,hp,hj,q⟩:=h
 cases ro
 obtain ⟨t,rfl⟩:=ri
 obtain ⟨its,n,r,ho,hz⟩:=I.lst hp
 obtain ⟨h1,h2,h3,h4⟩:=Qtf hj
 have hl:=r.length
 have hn:=Qla
 have I':Inv X pins σ (upd H p (.lst (xs.set j v))) { s with heap:=s.heap.update p (Obj.mapSeq (·.setIfInBounds j u)) } :=
  I.lstUpd hp ho (Qrq its n j u) (r.set rv j) (by rw [List.length_set];exact hz) s.toks
 by_cases h0:0≤k
 ·have hk:k.toNat=j:=by
   rw [seqIndex_of h0 h4] at h1
   exact Option.some.inj h1
  exact PySem.W.ki_setAt ho h0 (by omega) (by rw [List.size_toArray,←hl];exact h4) (by rw [hk];exact ⟨_,I',q⟩)
 ·have hk:(k+(its.toArray.size:Int)).toNat=j:=by
   rw [seqIndex_neg (by omega) h3] at h1
   rw [List.size_toArray,←hl]
   exact Option.some.inj h1
  exact PySem.W.ki_setBack ho (by omega) (by rw [List.size_toArray,←hl];exact h3) (by omega) (by rw [hk];exact ⟨_,I',q⟩)
theorem Qn7 (lo hi:Option Int) (n:Nat):(sliceBounds lo hi none n).1=((HT.sIx n 0 lo:Nat):Int)∧(sliceBounds lo hi none n).2.1=((HT.sIx n n hi:Nat):Int)∧(sliceBounds lo hi none n).2.2=1:=by
 refine ⟨?_,?_,rfl⟩
 ·cases lo with
  | none=>simp [sliceBounds,HT.sIx]
  | some i =>
   simp only [sliceBounds,HT.sIx,Option.getD_none,show (1:Int)>0 by decide,if_true]
   by_cases h:i<0
   ·simp only [h,if_true] <;> omega
   ·simp only [h,if_false] <;> omega
 ·cases hi with
  | none=>simp [sliceBounds,HT.sIx]
  | some i =>
   simp only [sliceBounds,HT.sIx,Option.getD_none,show (1:Int)>0 by decide,if_true]
   by_cases h:i<0
   ·simp only [h,if_true] <;> omega
   ·simp only [h,if_false] <;> omega
theorem Qms (its:List Value) (lo hi:Option Int):slicePick its.toArray lo hi none=((its.drop (HT.sIx its.length 0 lo)).take (HT.sIx its.length its.length hi-HT.sIx its.length 0 lo)).toArray:=by
 obtain ⟨h1,h2,h3⟩:=Qn7 lo hi its.toArray.size
 unfold slicePick
 rw [h1,h2,h3]
 simp only [sliceRange_one,pick_run,List.size_toArray] <;> rfl
noncomputable def Q83 (K:PySem.W.Frag):V→Option Int→Option Int→Hp→VK→Prop:=fun x lo hi H Q=>∃ a xs,x=.ref a∧SqL K H a xs∧∀ p,H p=none→Q (.ref p) (upd H p (.lst (Qh0 xs lo hi)))
theorem Q02:SlR X (Q83 X.K):=by
 intro pins s σ H x v vl vu lo hi sl Q I rx hs pl pu h
 obtain ⟨a,xs,rfl,hx,q⟩:=h
 cases rx
 obtain ⟨its,r,ht,hz⟩:=I.list hx
 have hlen:=r.length
 refine ⟨"list",_,slot_list_getitem.lookup,ht.isList.typeIs,?_⟩
 refine wpAny_getItem_list_slice ht.isList hs pl pu .none (by simp) ?_ (by rw [List.size_toArray] <;> omega)
 rw [Qms,←hlen]
 refine ⟨.ref s.heap.objs.size,_,I.laid (t':=s.toks) (o:=.lst (Qh0 xs lo hi)) (fun b ob q=>Heap.get?_push_of_some _ q) (Nat.le_refl _) ?_,rfl,q _ (I.hok.fresh (Nat.le_refl _))⟩
 exact ⟨Nat.le_trans (Qgq xs lo hi) hz,_,0,(r.drop (HT.sIx xs.length 0 lo)).take (HT.sIx xs.length xs.length hi-HT.sIx xs.length 0 lo),Heap.get?_push_size _ rfl⟩
theorem Qn8:CallR X (.builtin "len") (fun xs H Q=>∃ p ys,xs=[.ref p]∧(SqL X.K H p ys∨SqT X.K H p ys)∧Q (.int ys.length) H):=by
 intro pins s σ H xs us Q I r h
 obtain ⟨p,ys,rfl,hq,q⟩:=h
 obtain ⟨u,rfl,rx⟩:=Qgo r
 cases rx
 have hn:=Qla
 rcases hq with hq | hq
 ·obtain ⟨its,r',pl,hz⟩:=I.list hq
  have hlen:=r'.length
  exact Calls.call_len_list pl.isList (by simp only [List.size_toArray] <;> omega) ⟨.int ys.length,H,I.tok _,⟨s.toks+1,by rw [List.size_toArray,hlen]⟩,q⟩
 ·obtain ⟨its,r',pl,hz⟩:=I.tuple hq
  have hlen:=r'.length
  exact len_tuple pl (by simp only [List.size_toArray] <;> omega) ⟨.int ys.length,H,I.tok _,⟨s.toks+1,by rw [List.size_toArray,hlen]⟩,q⟩
theorem CallR.or {f:Value} {r r':List V→Hp→VK→Prop} (h:CallR X f r) (h':CallR X f r'):CallR X f (fun xs H Q=>r xs H Q∨r' xs H Q):=by
 intro pins s σ H xs us Q I rs q
 rcases q with q | q
 ·exact h pins s σ H xs us Q I rs q
 ·exact h' pins s σ H xs us Q I rs q
theorem Qn9:CallR X (.type "list") (fun xs H Q=>∃ p ys,xs=[.ref p]∧(SqL X.K H p ys∨SqT X.K H p ys)∧∀ l,H l=none→Q (.ref l) (upd H l (.lst ys))):=by
 intro pins s σ H xs us Q I r h
 obtain ⟨p,ys,rfl,hq,q⟩:=h
 obtain ⟨u,rfl,rx⟩:=Qgo r
 cases rx
 have fin:∀ (its:List Value),Vals ys its→ys.length≤sizeLine→∀ (h':Heap) (c':Nat),(∀ b o',s.heap.get? b=some o'→h'.get? b=some o') →
   h'.get? s.heap.objs.size=some { cls:=.type "list",dict:=none,data:=.seq its.toArray c',slots:=#[] }→EP X pins σ Q (.ref s.heap.objs.size) { s with heap:=h' }:=fun its r' hz h' c' kp e =>
  ⟨.ref s.heap.objs.size,_,I.laid (t':=s.toks) kp (Nat.le_refl _) (show ObjOk X.prog X.w _ h' _ (.lst ys) from ⟨hz,its,c',r',e⟩),rfl,q _ (I.hok.fresh (Nat.le_refl _))⟩
 rcases hq with hq | hq
 ·obtain ⟨its,r',pl,hz⟩:=I.list hq
  have hlen:=r'.length
  obtain ⟨o,ho,hc,n,hd⟩:=pl.isList
  exact call_list_seq p (.inl rfl) ho hc hd (fun h' c' kp e=>fin its r' hz h' c' kp e) (by simp only [List.size_toArray] <;> omega)
 ·obtain ⟨its,r',pl,hz⟩:=I.tuple hq
  have hlen:=r'.length
  obtain ⟨o,ho,hc,n,hd⟩:=pl
  exact call_list_seq p (.inr rfl) ho hc hd (fun h' c' kp e=>fin its r' hz h' c' kp e) (by simp only [List.size_toArray] <;> omega)
theorem Qmt:CallR X (.type "tuple") (fun xs H Q=>∃ p ys,xs=[.ref p]∧((SqL X.K H p ys∧∀ l,H l=none→Q (.ref l) (upd H l (.tup ys)))∨(SqT X.K H p ys∧Q (.ref p) H))):=by
 intro pins s σ H xs us Q I r h
 obtain ⟨p,ys,rfl,h⟩:=h
 obtain ⟨u,rfl,rx⟩:=Qgo r
 cases rx
 rcases h with ⟨hq,q⟩ | ⟨hq,q⟩
 ·obtain ⟨its,r',pl,hz⟩:=I.list hq
  have hlen:=r'.length
  refine call_tuple_list pl.isList (fun h' kp=>?_) (by simp only [List.size_toArray] <;> omega)
  have I1:Inv X pins σ H { s with heap:=h' }:=I.kept (t':=s.toks) kp
  have I2:Inv X pins σ (upd H h'.objs.size (.tup ys)) { s with heap:=h'.push { cls:=.type "tuple",data:=.seq its.toArray } } :=
   I1.laid (t':=s.toks) (fun b o e=>Heap.get?_push_of_some _ e) (Nat.le_refl _) (show ObjOk X.prog X.w _ _ _ (.tup ys) from ⟨hz,its,r',IsTupD.new _ _⟩)
  exact ⟨.ref h'.objs.size,_,I2,rfl,q _ (I1.hok.fresh (Nat.le_refl _))⟩
 ·obtain ⟨its,r',pl,hz⟩:=I.tuple hq
  exact call_tuple_same pl ⟨.ref p,H,I,rfl,q⟩
noncomputable def tyV (K:PySem.W.Frag) (T:String) (x:V) (H:Hp):Prop:=match x with
 | .str _=>T = "str"
 | .int _=>T = "int"
 | .ref p=>(T = "list" ∧ ∃ xs,SqL K H p xs)∨(T = "tuple" ∧ ∃ o,K.lookup p=some o∧o.cls=.type "tuple" ∧ o.dict=none) ∨
   (T = "dict" ∧ ((∃ kvs,H p=some (.dK kvs))∨∃ kvs,H p=some (.dT kvs)))∨(T = "set" ∧ ∃ S n,H p=some (.set S n))
 | _=>False
theorem Q5w {pins:List (Addr×Obj)} {σ:St} {H:Hp} {s:Shared} {T:String} {x:V} {v:Value} (I:Inv X pins σ H s) (r:RelV x v) (ty:tyV X.K T x H) :
  s.TypeIs v T∧∀ a,v=.ref a→∃ ob,s.heap.get? a=some ob∧ob.dict=none:=by
 cases x with
 | str z =>
  obtain ⟨t,rfl⟩:=r
  cases (show T = "str" from ty)
  exact ⟨typeIs_str s z t,fun _ e=>nomatch e⟩
 | int i =>
  obtain ⟨t,rfl⟩:=r
  cases (show T = "int" from ty)
  exact ⟨typeIs_int s i t,fun _ e=>nomatch e⟩
 | ref p =>
  cases r
  rcases ty with ⟨rfl,xs,hq⟩ | ⟨rfl,o,hk,hc,hd⟩ | ⟨rfl,hk⟩ | ⟨rfl,S,n,hk⟩
  ·obtain ⟨its,_,pl,_⟩:=I.list hq
   refine ⟨pl.isList.typeIs,fun a e=>?_⟩
   cases e
   obtain ⟨o,n,e,c,hd,_⟩:=pl
   exact ⟨o,e,hd⟩
  ·refine ⟨⟨o,I.kIn p o hk,hc⟩,fun a e=>?_⟩
   cases e
   exact ⟨o,I.kIn _ o hk,hd⟩
  ·have z:∃ o,s.heap.get? p=some o∧o.ExactDict:=by
    rcases hk with ⟨kvs,hk⟩ | ⟨kvs,hk⟩
    ·obtain ⟨_,_,_,_,o,_,_,e,ex,_⟩:=I.hok p _ hk
     exact ⟨o,e,ex⟩
    ·obtain ⟨_,_,_,_,o,_,_,e,ex,_⟩:=I.hok p _ hk
     exact ⟨o,e,ex⟩
   obtain ⟨o,e,ex⟩:=z
   refine ⟨⟨o,e,ex.1⟩,fun a e2=>?_⟩
   cases e2
   exact ⟨o,e,ex.2.1⟩
  ·obtain ⟨o,_,_,_,e,ex,_⟩:=I.hok p _ hk
   refine ⟨⟨o,e,ex.1⟩,fun a e2=>?_⟩
   cases e2
   exact ⟨o,e,ex.2.1⟩
 | _=>exact False.elim ty
noncomputable abbrev tBM (K:PySem.W.Frag) (T:String) (r:V→List V→Hp→VK→Prop) (to:TE) (t:TA):TE:=fun σ H Q=>to σ H fun x H1=>tyV K T x H1∧t σ H1 fun xs H2=>r x xs H2 Q
variable {o e:Expr} {es:List Expr} {to:TE} {t:TA} {name:Str} {apos cpos:Pos} {T id:String} {r:V→List V→Hp→VK→Prop}
theorem Q84 (pa:PlainAttrs T) (slot:Slot T name id) (hty:typeOf (.builtin id)=pure (.type "method_descriptor")) (hm:MtR X id r) (ho:PE X o to) (ha:PA X (e::es) t)
  (hbase:attributeBase o name X.env (eval o X.env)=eval o X.env:=by rfl)
  (hfew:((backTo cpos (starEach (e::es) X.env)).all (fun x=>!x.1)&&(backToKw cpos (keywordEach [] X.env)).all (fun x=>x.1.isSome)
   && decide ((e::es).length+([]:List Keyword).length+(if ([]:List Keyword).isEmpty then 0 else 1)<30))=true:=by rfl)
  (hline:(apos.endLine==cpos.line)=true:=by rfl) (hs:starEach (e::es) X.env=(false,eval e X.env)::starEach es X.env:=by rfl) (hplain:(backTo cpos (starEach es X.env)).any (·.1)=false:=by rfl) :
  PE X (.Call (.Attribute o name apos) (e::es) [] cpos) (tBM X.K T r to t):=by
 intro pins s σ H Q I h
 refine wpAny_Call_method_late hbase hfew hline rfl (thn (ho pins s σ H _ I h) fun v s1 ⟨x,H1,I1,r1,ty,q1⟩=>?_)
 obtain ⟨h1,h2⟩:=Q5w I1 r1 ty
 refine ⟨T,id,pa,slot,hty,h1,h2,?_⟩
 have hA:=ha cpos pins s1 σ H1 _ I1 q1
 rw [hs] at hA ⊢
 refine Calls.callWith_builtin (by show (false||(backTo cpos (starEach es X.env)).any (·.1))=false;rw [hplain] <;> rfl) (Calls.evalArgs_plain ?_)
 exact thn hA fun us s2 ⟨vs,H2,I2,r2,q2⟩=>hm pins s2 σ H2 x vs v us Q I2 r1 r2 q2
end
noncomputable def MtM (X:Cx) (id:String) (r:V→List V→Hp→VK→Prop):Prop :=
 ∀ (pins:List (Addr×Obj)) (s:Shared) (σ:St) (H:Hp) (x:V) (xs:List V) (v:Value) (us:List Value) (Q:VK),Inv X pins σ H s→RelV x v→Vals xs us→r x xs H Q →
  wpAny (model X.prog X.w) X.A (call (.builtin id) (v::us)) (EP X pins σ Q) X.xe s
theorem Vals.one:∀ {x:V} {us:List Value},Vals [x] us→∃ u,us=[u]∧RelV x u
 | _,_,.cons r .nil=>⟨_,rfl,r⟩
theorem Vals.reverse {xs:List V} {us:List Value} (h:Vals xs us):Vals xs.reverse us.reverse:=by
 induction h with
 | nil=>exact .nil
 | cons r t ih=>rw [List.reverse_cons,List.reverse_cons];exact Vals.append ih (.cons r .nil)
theorem Vals.rep {xs:List V} {us:List Value} (h:Vals xs us):∀ k:Nat,Vals (List.replicate k xs).flatten (List.replicate k us).flatten
 | 0=>.nil
 | k+1=>by
  rw [List.replicate_succ,List.replicate_succ,List.flatten_cons,List.flatten_cons]
  exact Vals.append h (Vals.rep h k)
theorem Qjd (its:List Value):∀ (k:Nat) (acc:List Value),
  List.foldl (fun x1 x2=>x1++x2) acc.toArray (List.replicate k its.toArray)=(acc++(List.replicate k its).flatten).toArray
 | 0,acc=>by simp
 | k+1,acc=>by
  have e:acc.toArray++its.toArray=(acc++its).toArray:=by simp
  have e2:(acc++its)++(List.replicate k its).flatten=acc++(List.replicate (k+1) its).flatten:=by
   rw [List.replicate_succ,List.flatten_cons,List.append_assoc]
  rw [←e2,←Qjd its k (acc++its),←e,List.replicate_succ,List.foldl_cons]
section
variable {X:Cx} {pins:List (Addr×Obj)} {σ:St} {H:Hp} {s:Shared} {l b:Addr} {xs ys zs:List V}
theorem Inv.lset {its its':List Value} {n:Nat} {f:Array Value→Array Value} {t':Nat} (I:Inv X pins σ H s) (hH:H l=some (.lst xs))
  (e:s.heap.get? l=some { cls:=.type "list",data:=.seq its.toArray n }) (hf:f its.toArray=its'.toArray) (hv:Vals ys its') (hz:ys.length≤sizeLine) :
  Inv X pins σ (upd H l (.lst ys)) { s with heap:=s.heap.update l (Obj.mapSeq f),toks:=t' }:=by
 have q:=PySem.IsL.update e f
 rw [hf] at q
 refine I.write (x:=l) (e:=l) (by rw [hH];exact trivial) (.inl rfl) (fun b' u hb hu=>(Heap.get?_update_other s.heap (Obj.mapSeq f) (Ne.symm hb)).trans hu) ⟨_,q⟩ ?_
 exact ⟨hz,its',_,hv,q⟩
theorem Inv.lnew {its:List Value} {t':Nat} (I:Inv X pins σ H s) (hv:Vals ys its) (hz:ys.length≤sizeLine) :
  Inv X pins σ (upd H s.heap.objs.size (.lst ys)) { s with heap:=s.heap.push { cls:=.type "list",data:=.seq its.toArray },toks:=t' } :=
 I.laid (fun _ _ q=>Heap.get?_push_of_some _ q) (Nat.le_refl _) ⟨hz,its,0,hv,Heap.get?_push_size _ rfl⟩
theorem Inv.fresh (I:Inv X pins σ H s):H s.heap.objs.size=none:=I.hok.fresh (Nat.le_refl _)
theorem Inv.lstM (I:Inv X pins σ H s) (hH:H l=some (.lst xs)):xs.length≤sizeLine∧∃ (its:List Value) (n:Nat),Vals xs its∧xs.length=its.length∧s.heap.get? l=some { cls:=.type "list",data:=.seq its.toArray n }:=by
 obtain ⟨z,its,n,r,e⟩:=I.hok l _ hH
 exact ⟨z,its,n,r,r.length,e⟩
theorem Qpr {n:Nat} (h:n≤sizeLine):Builtin.List.listTooLong n=false:=by
 unfold Builtin.List.listTooLong
 exact decide_eq_false (by omega)
end
section
variable {X:Cx}
noncomputable def Qks:V→List V→Hp→VK→Prop:=fun x vs H Q=>∃ l xs y,x=.ref l∧vs=[y]∧H l=some (.lst xs)∧xs.length<sizeLine∧Q .non (upd H l (.lst (xs++[y])))
theorem Qje:MtM X "list.append" Qks:=by
 intro pins s σ H x vs v us Q I rx rv h
 obtain ⟨l,xs,y,rfl,rfl,hH,hz,q⟩:=h
 cases rx
 obtain ⟨u,rfl,ru⟩:=rv.one
 obtain ⟨z,its,n,r,hl,e⟩:=I.lstM hH
 refine call_meets F.slot_list_append ⟨_,e,rfl⟩ F.entry_list_append (F.args_list_append_2 _ _) (PySem.list_append l its.toArray n u (by rw [List.size_toArray];omega)) ⟨e,?_⟩
 refine ⟨.non,_,I.lset (its':=its++[u]) hH e (by simp) (r.append (.cons ru .nil)) ?_,rfl,q⟩
 rw [List.length_append,List.length_singleton]
 omega
noncomputable def Q03:V→List V→Hp→VK→Prop:=fun x vs H Q=>∃ l b xs zs,x=.ref l∧vs=[.ref b]∧H l=some (.lst xs)∧H b=some (.lst zs)∧xs.length+zs.length≤sizeLine∧Q .non (upd H l (.lst (xs++zs)))
theorem mt_extend:MtM X "list.extend" Q03:=by
 intro pins s σ H x vs v us Q I rx rv h
 obtain ⟨l,b,xs,zs,rfl,rfl,hH,hB,hz,q⟩:=h
 cases rx
 obtain ⟨u,rfl,ru⟩:=rv.one
 cases ru
 obtain ⟨z,its,n,r,hl,e⟩:=I.lstM hH
 obtain ⟨z2,its2,n2,r2,hl2,e2⟩:=I.lstM hB
 have hsz:its.toArray.size+its2.toArray.size≤sizeLine:=by rw [List.size_toArray,List.size_toArray];omega
 have hlong:¬ (!its.toArray.isEmpty&&Builtin.List.listTooLong (its.toArray.size+its2.toArray.size))=true:=by
  rw [Qpr hsz,Bool.and_false]
  exact Bool.false_ne_true
 refine call_meets F.slot_list_extend ⟨_,e,rfl⟩ F.entry_list_extend (F.args_list_extend_2 _ _)
  (AutoSeq1.list_extend_list_list_0 l its.toArray n b its2.toArray n2 hlong (by rw [List.size_toArray];omega) (by omega)) ⟨e,e2,?_⟩
 refine ⟨.non,_,I.lset (its':=its++its2) hH e (by simp) (r.append r2) ?_,rfl,q⟩
 rw [List.length_append]
 omega
noncomputable def Q85:R2:=fun x y H Q=>∃ l b xs zs,x=.ref l∧y=.ref b∧H l=some (.lst xs)∧H b=some (.lst zs)∧xs.length+zs.length≤sizeLine∧∀ p,H p=none→Q (.ref p) (upd H p (.lst (xs++zs)))
theorem Q5x:OpR X (binaryOp .Add) Q85:=by
 intro pins s σ H x y v u Q I rx ry h
 obtain ⟨l,b,xs,zs,rfl,rfl,hH,hB,hz,q⟩:=h
 cases rx
 cases ry
 obtain ⟨z,its,n,r,hl,e⟩:=I.lstM hH
 obtain ⟨z2,its2,n2,r2,hl2,e2⟩:=I.lstM hB
 refine PySem.P.add_list e e2 ?_ (by rw [List.size_toArray,List.size_toArray];omega)
 have ea:its.toArray++its2.toArray=(its++its2).toArray:=by simp
 rw [ea]
 exact ⟨.ref _,_,I.lnew (t':=s.toks) (r.append r2) (by rw [List.length_append];omega),rfl,q _ I.fresh⟩
noncomputable def Q86:R2:=fun x y H Q=>∃ l k xs,x=.ref l∧y=.int k∧H l=some (.lst xs) ∧ -(2^63)≤k∧k<2^63∧xs.length*k.toNat≤sizeLine ∧
 ∀ p,H p=none→Q (.ref p) (upd H p (.lst (List.replicate k.toNat xs).flatten))
theorem Qii {α:Type} (xs:List α) (k:Nat):(List.replicate k xs).flatten.length=k*xs.length:=by
 induction k with
 | zero=>simp
 | succ k ih=>rw [List.replicate_succ,List.flatten_cons,List.length_append,ih,Nat.succ_mul,Nat.add_comm]
theorem Q5y:OpR X (binaryOp .Mult) Q86:=by
 intro pins s σ H x y v u Q I rx ry h
 obtain ⟨l,k,xs,rfl,rfl,hH,h1,h2,hz,q⟩:=h
 cases rx
 obtain ⟨t,rfl⟩:=ry
 obtain ⟨z,its,n,r,hl,e⟩:=I.lstM hH
 have hlen:its.toArray.size*k.toNat≤sizeLine:=by rw [List.size_toArray,←hl];exact hz
 have hcap:¬ its.toArray.size*k.toNat>(2^63-1) / 8:=by
  have:(sizeLine:Nat)≤(2^63-1) / 8:=by decide
  omega
 have hfit:¬ (!Builtin.List.listFitsIndex k)=true:=by
  rw [fitsIndex_both h1 h2]
  exact Bool.false_ne_true
 have hlong:¬ Builtin.List.listTooLong (its.toArray.size*k.toNat)=true:=by
  rw [Qpr hlen]
  exact Bool.false_ne_true
 have hnew:List.foldl (fun x1 x2=>x1++x2) #[] (List.replicate (if its.toArray.isEmpty=true then 0 else k.toNat) its.toArray)=(List.replicate k.toNat its).flatten.toArray:=by
  have f0:∀ m:Nat,List.foldl (fun x1 x2=>x1++x2) #[] (List.replicate m its.toArray)=(List.replicate m its).flatten.toArray:=fun m=>by
   have:=Qjd its m []
   rw [List.nil_append] at this
   exact this
  rw [f0]
  cases its with
  | nil=>simp
  | cons a r'=>rw [if_neg (by simp)]
 refine wpAny_binaryOp_repeat_ref (T := "list") (U := "int") (by decide) ⟨_,e,rfl⟩ (fun s'=>typeIs_int s' k t) noFill_list_mul F.fills_int_mul F.slot_int_rmul repeat_list F.slot_int_index.lookup
  (call_meets F.slot_int_rmul (typeIs_int s k t) F.entry_int_rmul (F.args_int_rmul_2 _ _) (int___rmul___int_list k t l its.toArray n)
   ⟨e,rfl,⟨_,e,rfl⟩,call_meets F.slot_list_mul ⟨_,e,rfl⟩ F.entry_list_mul (F.args_list_mul_2 _ _) (AutoListH.list___mul___list_int_3 l its.toArray n k t hfit hcap hlong) ⟨e,?_⟩⟩)
 rw [hnew]
 exact ⟨.ref _,_,I.lnew (t':=s.toks) (r.rep k.toNat) (by rw [Qii,Nat.mul_comm];exact hz),rfl,q _ I.fresh⟩
end
section
variable {prog:Program} {w:World} {A:Around} {E:Value→Shared→Prop} {s:Shared}
end
section
variable {X:Cx}
end
end L2
namespace Att
open PySem PySem.W PySem.Calls PyProof.Rows
theorem ints_of_wellAll {P:Params} {h:Heap}:∀ (ns:List Int) (vs:List Value),WellAll P h vs (ns.map WData.int)→IntsAre vs ns:=by
 intro ns
 induction ns with
 | nil =>
  intro vs w
  rw [List.map_nil] at w
  cases w
  exact .nil
 | cons n ns ih =>
  intro vs w
  rw [List.map_cons] at w
  cases w with
  | cons a b =>
   cases a
   exact .cons _ _ (ih _ b)
theorem script_of {l:OpenLaw} {n:Nat} (hn:l.most=some n) {P:Params} {h:Heap} {args:List WData} {vals:List Value}
  (hpre:l.row.toRowW.claim.pre args=true) (hwl:WellAll P h vals args) :
  ∃ a vs ns,vals=[Value.ref a]∧args=[WData.list (ns.map WData.int)]∧h.get? a=some { cls:=.type "list",data:=.seq vs.toArray }∧IntsAre vs ns∧ns.length≤n:=by
 have hsh:WShape.hasAll [] args [.list .int]=true:=(pre_splitW hpre).1
 have hc:l.pre.holds [] { args:=args }=true:=(pre_splitW hpre).2
 obtain ⟨d,r,rfl,h1,h2⟩:=hasAllW_cons hsh
 obtain rfl:=hasAllW_nil h2
 obtain ⟨xs,rfl,h3⟩:=hasW_list h1
 obtain ⟨ns,rfl⟩:=items_int h3
 have hlen:ns.length≤n:=by
  unfold OpenLaw.pre at hc
  have h4:(WTm.not (.lt (.lit (.int (n:Int))) (.len (.arg 0)))).holds [] { args:=[.list (ns.map .int)] }=true:=by
   have h4:=(holds_andW hc).1
   rw [hn] at h4
   exact h4
  have h5:=condW_of h4 (w_not (w_lt w_lit (w_len_list (w_arg rfl))))
  rw [List.length_map] at h5
  refine Nat.le_of_not_lt fun q=>?_
  have q':(n:Int)<((ns.length:Nat):Int):=by omega
  first
   | (rw [decide_eq_true q'] at h5;exact absurd h5 (by decide))
   | (simp at h5;omega)
 cases hwl with
 | cons w1 w2 =>
  cases w2
  cases w1 with
  | list ho hall=>exact ⟨_,_,ns,rfl,rfl,ho,ints_of_wellAll ns _ hall,hlen⟩
theorem post_true (l:OpenLaw) (args:List WData):l.row.toRowW.claim.post args (.bool true) args=true :=
 postW_of (r:=l.row.toRowW) (X:=(true==true))
  (show WShape.has [] (.bool true) .bool=true by first | rfl | decide | simp [WShape.has,WShape.arms,WShape.armsAll])
  (show (WTm.eq .res (.lit (.bool true))).value [] { args:=args,res:=some (.bool true),after:=args }=some (.bool (true==true)) from w_eq_bool (w_res rfl) w_lit) rfl
theorem attach_call {l:OpenLaw} {n:Nat} {q:Program} {loose:List Str} {XP:(Str→Option Value)→Heap→Prop} {YP:World→Heap→Prop} {d:DefRec}
  (hn:l.most=some n) (hdf:d.params.defaults=[])
  (call:∀ (w:World) (s₀ s₁:Shared) (mg mb:Str→Option Value) (fa:Addr) (o:Obj) (pm cd doc:Value) (a:Addr) (vs:List Value) (ns:List Int),
   Ground q loose [] XP w s₀ mg mb s₁.heap→YP w s₁.heap →
   s₁.heap.get? fa=some o→o.data=.func (docDef d.name d.params d.body d.scope pm cd doc)→s₁.heap.CodeRec cd d.name→mg d.name=some (.ref fa) →
   s₁.heap.get? a=some { cls:=.type "list",data:=.seq vs.toArray }→IntsAre vs ns→ns.length≤n→s₁.gens = #[] →
   codeAny (model l.prog w) callerA (.call (.ref fa) ⟨[.ref a],[]⟩) (fun r s'=>r=.ok (.ret (.bool true))∧OldK s₁.heap s'.heap∧s'.os=s₁.os∧AllBare s'.gens) s₁) :
  WalkO q loose XP YP l.row.toRowW d [] (fun f vs=>PySem.call f vs):=by
 intro w s₀ s₁ mg mb G Y fa o pm cd doc dV kV ho hd hcd hD hmg hg args vals as hpre hlay hrd hwl hlo
 obtain rfl:dV=.none:=Dflts.none hD hdf
 obtain rfl:kV=.none:=Dflts.noKw hD
 obtain ⟨a,vs,ns,rfl,rfl,hobj,hints,hlen⟩:=script_of hn hpre hwl
 refine enter_call (codeAny_mono (call w s₀ s₁ mg mb fa o pm cd doc a vs ns G Y ho (fd_plain hd) hcd hmg hobj hints hlen hg) fun r s' hq=>?_)
 obtain ⟨rfl,h2,h3,h4⟩:=hq
 exact ⟨.inl ⟨.bool true,.bool true,[],rfl,fun _=>rfl,.bool true,post_true l _,fun _=>⟨List.Pairwise.nil,fun _ hm=>(nomatch hm)⟩⟩,h2,h3,h4⟩
section
variable {prog:Program} {w:World} {A:Around} {E:Value→Shared→Prop} {s:Shared} {K:Frag}
end
end Att
namespace L2
open PySem PySem.Spec PyProof.Rows
theorem Qm8:∀ {vs:List Value} {ns:List Int},IntsAre vs ns→Vals (ns.map V.int) vs
 | _,_,.nil=>.nil
 | _,_,.cons n t h=>.cons ⟨t,rfl⟩ (Qm8 h)
noncomputable def Q04 (H:Hp):Prop:=∀ b,H b=none∨∃ o xs,H b=some (.frz o (.lst xs))
theorem Qw7 {P:Program} {w:World} {K:PySem.W.Frag} {mg mb:Str→Option Value} {CX:CXT} {k:Nat} {fa a:Addr} {fd:FuncData} {x:Str} {sp:Sp} {s₁:Shared} {vs:List Value} {ns:List Int}
  (KX:K.In s₁.heap) (hns:s₁.heap.Ns mainGlobals mg) (hb:s₁.heap.Ns builtinsNs mb) (hbb:∀ x:Str,x ≠ "__name__" → mb x=bootBuiltins x) (hlim:s₁.heap.NoLimit) (hg:s₁.gens = #[])
  (ha:s₁.heap.get? a=some { cls:=.type "list",data:=.seq vs.toArray }) (hi:IntsAre vs ns) (hl:ns.length≤sizeLine) (hr:Room k callerA)
  (F:∀ base:Heap,K.In base→base.Ns mainGlobals mg→FnOk P w K mg base CX k fa fd [x] sp) (hbind:∀ (s:Shared) (u:Value),BindsTo s fd ⟨[u],[]⟩ [(x,u)])
  (hsp:∀ H:Hp,Q04 H→SqL K H a (ns.map V.int)→sp [.ref a] H (fun v _=>v=.bl true) fun _ _ _=>False)
  (hCX:∀ H e s',CX [] H s₁ (fun _ _ _=>False) e s'→False)
  (hbm:∃ bm ob,mg "__builtins__" = some (.ref bm)∧bm≠builtinsNs∧s₁.heap.get? bm=some ob∧ob.cls=.type "module" ∧ ob.dict=some builtinsNs∧ob.data=.plain) (hT:∀ a q,¬ Qwi K a q) :
  codeAny (model P w) callerA (.call (.ref fa) ⟨[.ref a],[]⟩) (fun r s'=>r=.ok (.ret (.bool true))∧OldK s₁.heap s'.heap∧s'.os=s₁.os∧AllBare s'.gens) s₁:=by
 have rv:=Qm8 hi
 have lenV:=hi.length
 -- from an abstract heap in which nothing but the script may be tracked
 have core:∀ H:Hp,Q04 H→SqL K H a (ns.map V.int)→HOk P w H s₁.heap→(∀ b,H b≠none→b=a)→(H a≠none→K.lookup a=none) →
   codeAny (model P w) callerA (.call (.ref fa) ⟨[.ref a],[]⟩) (fun r s'=>r=.ok (.ret (.bool true))∧OldK s₁.heap s'.heap∧s'.os=s₁.os∧AllBare s'.gens) s₁:=by
  intro H hO hS hok hA hK
  have base_of:∀ {b:Addr} {o:Obj},s₁.heap.get? b=some o→H b=none→(Qn4 s₁.heap H).get? b=some o:=fun e n=>Qwh e n
  have noA:∀ {b:Addr} {o:Obj} {es:Array DictEntry} {ep:Nat},s₁.heap.get? b=some o→o.data=.dict es ep→H b=none:=fun {b o es ep} e d=>by
   cases q:H b with
   | none=>rfl
   | some u =>
    have e':b=a:=hA b (by rw [q];simp)
    subst e'
    rw [ha] at e;cases e
    have d':Data.seq vs.toArray _=Data.dict es ep:=d
    cases d'
  have noS:∀ {b:Addr} {o:Obj},s₁.heap.get? b=some o→o.data=.plain→H b=none:=fun {b o} e d=>by
   cases q:H b with
   | none=>rfl
   | some u =>
    have e':b=a:=hA b (by rw [q];simp)
    subst e'
    rw [ha] at e;cases e
    cases (show Data.seq vs.toArray _=Data.plain from d)
  have nsK:∀ {b:Addr} {m:Str→Option Value},s₁.heap.Ns b m→(Qn4 s₁.heap H).Ns b m:=fun {b m} ⟨o,es,ep,e,d,r⟩=>⟨o,es,ep,base_of e (noA e d),d,r⟩
  have hKb:K.In (Qn4 s₁.heap H):=fun b o e=>base_of (KX b o e) (by
   cases q:H b with
   | none=>rfl
   | some u =>
    have e':b=a:=hA b (by rw [q];simp)
    subst e'
    rw [hK (by rw [q];simp)] at e;cases e)
  have hM:Mod K mg (Qn4 s₁.heap H):=⟨hKb,nsK hns,⟨mb,nsK hb,hbb⟩,let ⟨mc,h1,h2⟩:=hlim;⟨mc,nsK h1,h2⟩,let ⟨bm,ob,b1,b2,b3,b4,b5,b6⟩:=hbm;⟨bm,ob,b1,b2,base_of b3 (noS b3 b6),b4,b5,b6⟩⟩
  have e0:Env0 P w K mg (Qn4 s₁.heap H) callerA [] s₁ H:=⟨rfl,hM,fun b o e=>Q0h e,Nat.le_of_eq (Quv _ _),trivial,⟨fun b hb=>absurd (show b∈([]:List Addr) from hb) (by simp),fun a q z=>(hT a q z).elim⟩,hok,.of_eq hg⟩
  refine codeAny_mono ((F _ hKb (nsK hns)).run callerA [] s₁ H ⟨[.ref a],[]⟩ [.ref a] [.ref a] _ _ hr e0 (hbind s₁ (.ref a)) (.cons rfl .nil) (hsp H hO hS)) fun r s' h=>?_
  cases r with
  | error e=>exact (hCX H e s' h).elim
  | ok fl =>
   cases fl with
   | next=>exact False.elim h
   | brk=>exact False.elim h
   | cont=>exact False.elim h
   | ret u =>
    obtain ⟨v,H',os,bare,un,hok',r',q⟩:=h
    have q':v=.bl true:=q
    subst q'
    obtain rfl:u=Value.bool true:=r'
    refine ⟨rfl,OldK.of_keep fun b o e=>?_,os,bare⟩
    cases q:H b with
    | none=>exact un.keep b o e q (by intro z;exact absurd (show b∈([]:List Addr) from z) (by simp)) (by simp)
    | some u =>
     rcases hO b with z | ⟨ob,xs,z⟩
     ·rw [q] at z;cases z
     ·have z2:=un.frzs b ob _ z
      obtain ⟨e1,_⟩:=hok b _ z
      obtain ⟨e2,_⟩:=hok' b _ z2
      rw [e] at e1;cases e1
      exact e2
 cases hk:K.lookup a with
 | some o =>
  -- the script is one of the module's own objects
  have e:=KX a o hk
  rw [ha] at e
  cases e
  refine core (fun _=>none) (fun _=>.inl rfl) (.inr ⟨_,vs.toArray,_,hk,rfl,rfl,rfl,by rw [List.size_toArray,lenV];exact hl,by simpa using rv⟩) (fun b u z=>by have z':(none:Option HO)=some u:=z;cases z') (fun b z=>absurd rfl z) fun z=>absurd rfl z
 | none =>
  refine core (fun b=>if b=a then some (.frz { cls:=.type "list",data:=.seq vs.toArray } (.lst (ns.map V.int))) else none) (fun b=>?_) (.inl (.inr ⟨{ cls:=.type "list",data:=.seq vs.toArray },if_pos rfl⟩)) (fun b u z=>?_) (fun b z=>?_) fun _=>hk
  ·by_cases hb:b=a
   ·exact .inr ⟨_,_,if_pos hb⟩
   ·exact .inl (if_neg hb)
  ·by_cases hb:b=a
   ·have z':=(if_pos hb).symm.trans z
    cases z'
    subst hb
    exact ⟨ha,by rw [List.length_map];exact hl,vs,_,rv,ha⟩
   ·have z':=(if_neg hb).symm.trans z
    cases z'
  ·by_cases hb:b=a
   ·exact hb
   ·exact absurd (if_neg hb) z
noncomputable abbrev KOf {K:PySem.W.Frag} {h:Heap} (_:K.In h):PySem.W.Frag:=K
theorem Q05 {l:PySem.W.OpenLaw} {n k:Nat} {q:Program} {loose:List Str} {XP:(Str→Option Value)→Heap→Prop} {YP:World→Heap→Prop} {d:DefRec} {K:Params→PySem.W.Frag} {CX:World→CXT} {sp:World→Sp} {x:Str}
  (hn:l.most=some n) (hn2:n≤sizeLine) (hdf:d.params.defaults=[]) (hr:Room k callerA)
  (hY:∀ (w:World) (h:Heap),YP w h→(K w.params).In h)
  (F:∀ (w:World) (mg:Str→Option Value) (fa:Addr) (h:Heap),(K w.params).In h→h.Ns mainGlobals mg→mg d.name=some (.ref fa) →
   ∃ fd:FuncData,(∀ (s:Shared) (u:Value),BindsTo s fd ⟨[u],[]⟩ [(x,u)]) ∧
    ∀ base:Heap,(K w.params).In base→base.Ns mainGlobals mg→FnOk l.prog w (K w.params) mg base (CX w) k fa fd [x] (sp w))
  (hsp:∀ (w:World) (H:Hp) (a:Addr) (ns:List Int),ns.length≤n→Q04 H→SqL (K w.params) H a (ns.map V.int)→sp w [.ref a] H (fun v _=>v=.bl true) fun _ _ _=>False)
  (hCX:∀ (w:World) (H:Hp) (s:Shared) (e:Value) (s':Shared),CX w [] H s (fun _ _ _=>False) e s'→False) (hT:∀ (w:World) a q,¬ Qwi (K w.params) a q) :
  PySem.W.WalkO q loose XP YP l.row.toRowW d [] (fun f vs=>PySem.call f vs):=by
 refine Att.attach_call hn hdf fun w s₀ s₁ mg mb fa o pm cd doc a vs ns G Y ho hd hcd hmg hobj hints hlen hg=>?_
 have KX:=hY w _ Y
 obtain ⟨fd,hb,hF⟩:=F w mg fa _ KX G.T.g hmg
 exact Qw7 KX G.T.g G.T.b G.T.builtins G.T.nolimit hg hobj hints (Nat.le_trans hlen hn2) hr hF hb (fun H hO hS=>hsp w H a ns hlen hO hS) (fun H e s'=>hCX w H s₁ e s') G.T.bmain (hT w)
theorem Qw8 {l:PySem.W.OpenLaw} {n k:Nat} {q:Program} {loose:List Str} {XP:(Str→Option Value)→Heap→Prop} {YP:World→Heap→Prop} {d:DefRec} {K:Params→PySem.W.Frag} {CX:CXT} {sp:PySem.W.Frag→Sp} {x:Str}
  (hn:l.most=some n) (hn2:n≤sizeLine) (hdf:d.params.defaults=[]) (hr:Room k callerA)
  (hY:∀ (w:World) (h:Heap),YP w h→(K w.params).In h)
  (F:∀ (w:World) (mg:Str→Option Value) (fa:Addr) (h:Heap),(K w.params).In h→h.Ns mainGlobals mg→mg d.name=some (.ref fa) →
   ∃ fd:FuncData,(∀ (s:Shared) (u:Value),BindsTo s fd ⟨[u],[]⟩ [(x,u)]) ∧
    ∀ base:Heap,(K w.params).In base→base.Ns mainGlobals mg→FnOk l.prog w (K w.params) mg base CX k fa fd [x] (sp (K w.params)))
  (hsp:∀ (K:PySem.W.Frag) (H:Hp) (a:Addr) (ns:List Int),ns.length≤n→Q04 H→SqL K H a (ns.map V.int)→sp K [.ref a] H (fun v _=>v=.bl true) fun _ _ _=>False)
  (hCX:∀ (H:Hp) (s:Shared) (e:Value) (s':Shared),CX [] H s (fun _ _ _=>False) e s'→False) (hT:∀ (w:World) a q,¬ Qwi (K w.params) a q) :
  PySem.W.WalkO q loose XP YP l.row.toRowW d [] (fun f vs=>PySem.call f vs) :=
 Q05 (K:=K) (CX:=fun _=>CX) (sp:=fun w=>sp (K w.params)) hn hn2 hdf hr hY F (fun w H a ns h1 h2 h3=>hsp (K w.params) H a ns h1 h2 h3) (fun _ H s e s'=>hCX H s e s') hT
noncomputable def Q06 (s:Stmt) (j:Nat):Stmt:=match s with
 | .ClassDef _ _ _ body _ _ _ _ _ _ _=>body.getD j (.Pass ⟨0,0,0,0⟩)
 | _=>.Pass ⟨0,0,0,0⟩
noncomputable def Qa3 (s:Stmt):Arguments:=match s with
 | .FunctionDef _ a _ _ _ _ _ _ _ _=>a
 | _=>{ posonlyargs:=[],args:=[],vararg:=none,kwonlyargs:=[],kw_defaults:=[],kwarg:=none,defaults:=[] }
noncomputable def Q9 (s:Stmt):List Stmt:=match s with
 | .FunctionDef _ _ b _ _ _ _ _ _ _=>b
 | _=>[]
noncomputable def Qf (s:Stmt):Scope:=match s with
 | .FunctionDef _ _ _ _ _ _ sc _ _ _=>sc
 | _=>{ kind:=.function,names:=[],isGenerator:=false,isCoroutine:=false }
noncomputable abbrev CX0:CXT:=fun _ _ _ _ _ _=>False
noncomputable abbrev E0:XK:=fun _ _ _=>False
theorem Q87 {X:Cx}:Qrp CX0 X E0:=fun _ _ _ _ _ _ _ h=>h.elim
structure Fun (K:PySem.W.Frag) (x qual:Str) (st:Stmt) (f:Addr) (fd:FuncData):Prop where
 ex:∃ (oc:Value) (od:Option Addr) (kV doc pm:Value) (an:Option Addr) (cdv ct:Value) (osl:Array (Option Value)),
  fd=PySem.W.fnOf x qual (Qa3 st) (Q9 st) (Qf st) .none kV doc pm an cdv ct∧K.lookup f=some ⟨oc,od,.func fd,osl⟩∧PySem.W.codeIn K cdv qual=true
 kp:PySem.W.keepIn K (.ref f)=true
section
variable {P:Program} {w:World} {K:PySem.W.Frag} {mg:Str→Option Value} {base:Heap}
theorem Fun.ok {x qual:Str} {st:Stmt} {f:Addr} {fd:FuncData} {N ps:List Str} {k:Nat} {sp:Sp} (F:Fun K x qual st f fd) (S:FnScope N ps (Qf st)) (len:∀ vs H Q E,sp vs H Q E→vs.length=ps.length)
  (hbody:∀ (cdv:Value) (A:Around) (outer:List Env) (s:Shared) (H:Hp) (vs:List V) (Q:VK) (E:XK),Room k (A.deeper (envOfC qual (Qf st) s.heap.objs.size f cdv))→sp vs H Q E →
   ∃ t,PSs (Qhn (fun _=>true) CX0 P w K mg base N qual (Qf st) f cdv A outer s H E).nox (Q9 st) t∧t { nx:=fun _ H'=>Q .non H',rt:=Q } (Qbj N vs) H):FnOk P w K mg base CX0 (k+1) f fd ps sp:=by
 obtain ⟨oc,od,kV,doc,pm,an,cdv,ct,osl,rfl,lk,hcd⟩:=F.ex
 refine Q3l (g:=fun _=>true) lk hcd S len fun A outer s H vs Q E hr hsp=>?_
 obtain ⟨t,h,q⟩:=hbody cdv A outer s H vs Q E hr hsp
 exact ⟨t,h.nox,q⟩
theorem Fun.binds {x qual:Str} {st:Stmt} {f:Addr} {fd:FuncData} {ps:List Str} (F:Fun K x qual st f fd)
  (h:∀ (kV doc pm:Value) (an:Option Addr) (cdv ct:Value) (us:List Value),us.length=ps.length→bindArgs (PySem.W.fnOf x qual (Qa3 st) (Q9 st) (Qf st) .none kV doc pm an cdv ct) ⟨us,[]⟩=pure (ps.zip us)):Binds K fd ps []:=by
 obtain ⟨oc,od,kV,doc,pm,an,cdv,ct,osl,rfl,lk,hcd⟩:=F.ex
 exact .all (h kV doc pm an cdv ct)
theorem Qw9 {x qual:Str} {st:Stmt} {f:Addr} {oc:Value} {od an:Option Addr} {osl:Array (Option Value)} {kV doc pm cdv ct:Value} (l:K.lookup f=some ⟨oc,od,.func (PySem.W.fnOf x qual (Qa3 st) (Q9 st) (Qf st) .none kV doc pm an cdv ct),osl⟩)
  (c:PySem.W.codeIn K cdv qual=true) (k:PySem.W.keepIn K (.ref f)=true):Fun K x qual st f (PySem.W.fnOf x qual (Qa3 st) (Q9 st) (Qf st) .none kV doc pm an cdv ct):=⟨⟨oc,od,kV,doc,pm,an,cdv,ct,osl,rfl,l,c⟩,k⟩
end
section
variable {X:Cx}
theorem pv (i:Nat) {x:Str} {pos:Pos} (hN:X.N[i]?=some x:=by rfl) (hv:Vis X.env.scope x:=by first | exact Or.inl rfl | exact Or.inr (Or.inl rfl) | exact Or.inr (Or.inr rfl)) (hd:(x==("__debug__" : Str))=false:=by decide)
  (hcd:(x==("__classdict__" : Str))=false:=by decide):PE X (.Name x pos) (Qmq i):=Q4v hN hv hd hcd
end
theorem Q88 {A B:Prop} (h:B):if false=true then A else B:=by
 rw [if_neg Bool.false_ne_true]
 exact h
theorem ite2 {c A B:Prop} [Decidable c] (h1:c→A) (h2:¬ c→B):if c then A else B:=by
 by_cases h:c
 ·rw [if_pos h]
  exact h1 h
 ·rw [if_neg h]
  exact h2 h
noncomputable def Same (H H':Hp):Prop:=∀ b o,H b=some o→H' b=some o
theorem Same.refl (H:Hp):Same H H:=fun _ _ h=>h
theorem Same.trans {H H1 H2:Hp} (a:Same H H1) (b:Same H1 H2):Same H H2:=fun c o h=>b c o (a c o h)
theorem Same.free {H H':Hp} (e:Same H H') {l:Addr} (h:H' l=Option.none):H l=Option.none:=by
 cases q:H l with
 | none=>rfl
 | some o =>
  rw [e l o q] at h
  cases h
theorem Same.seq {K:PySem.W.Frag} {H H':Hp} {a:Addr} {xs:List V} (e:Same H H') (h:SqL K H a xs):SqL K H' a xs:=by
 rcases h with (h | ⟨o,h⟩) | h
 ·exact .inl (.inl (e _ _ h))
 ·exact .inl (.inr ⟨o,e _ _ h⟩)
 ·exact .inr h
structure LamT where
 qual:Str
 params:Arguments
 body:Expr
 scope:Scope
 caps:List Str
 ps:List Str
noncomputable def Qxa:List (Nat×LamT):=[]
section
variable {κ:Type} [DecidableEq κ]
theorem RelO.isSome_eq {o:Option V} {u:Option Value} (r:RelO o u):o.isSome=u.isSome:=by
 cases o with
 | none=>cases u with
  | none=>rfl
  | some _=>exact (show False from r).elim
 | some _=>cases u with
  | none=>exact (show False from r).elim
  | some _=>rfl
end
section
variable {P:Program} {w:World} {H:Hp} {h:Heap} {a:Addr}
end
section
variable {X:Cx} {pins:List (Addr×Obj)} {σ:St} {H:Hp} {s:Shared} {a:Addr} {y v:V} {u r:Value} {o:Option V} {A:Around} {E:Value→Shared→Prop}
end
section
variable {X:Cx} {pins:List (Addr×Obj)} {σ:St} {H:Hp} {s:Shared} {a:Addr} {kvs:List (Key×V)} {k:Key} {u:Value} {A:Around} {E:Value→Shared→Prop}
end
section
variable {X:Cx} {o i e value:Expr} {pos pos' tpos:Pos} {td ty tv:TE}
end
section
variable {X:Cx} {pos:Pos}
end
structure M1 (X:Cx) (o:Expr) (m:Str) (apos:Pos) (e:Expr) (cpos:Pos):Prop where
 base:attributeBase o m X.env (eval o X.env)=eval o X.env
 few:((backTo cpos (starEach [e] X.env)).all (fun x=>!x.1)&&(backToKw cpos (keywordEach [] X.env)).all (fun x=>x.1.isSome)
  && decide (([e]:List Expr).length+([]:List Keyword).length+(if ([]:List Keyword).isEmpty then 0 else 1)<30))=true
 line:(apos.endLine==cpos.line)=true
 trees:backTo cpos (starEach [e] X.env)=[(false,eval e X.env)]
structure M2 (X:Cx) (o:Expr) (m:Str) (apos:Pos) (e f:Expr) (cpos:Pos):Prop where
 base:attributeBase o m X.env (eval o X.env)=eval o X.env
 few:((backTo cpos (starEach [e,f] X.env)).all (fun x=>!x.1)&&(backToKw cpos (keywordEach [] X.env)).all (fun x=>x.1.isSome)
  && decide (([e,f]:List Expr).length+([]:List Keyword).length+(if ([]:List Keyword).isEmpty then 0 else 1)<30))=true
 line:(apos.endLine==cpos.line)=true
 trees:backTo cpos (starEach [e,f] X.env)=[(false,eval e X.env),(false,eval f X.env)]
section
variable {X:Cx} {pins:List (Addr×Obj)} {σ:St} {H:Hp} {s:Shared} {a:Addr} {y d:V} {u r:Value} {o:Option V} {A:Around} {E:Value→Shared→Prop}
end
section
variable {X:Cx} {o e f:Expr} {apos cpos:Pos} {td ty tx:TE}
end
section
variable {X:Cx} {pins:List (Addr×Obj)} {σ:St} {H:Hp} {s:Shared} {a:Addr} {kvs:List (Key×V)} {A:Around} {E:Value→Shared→Prop}
end
section
variable {X:Cx} {pins:List (Addr×Obj)} {σ:St} {H:Hp} {s:Shared} {a:Addr} {y:V} {u:Value} {A:Around} {E:Value→Shared→Prop}
end
noncomputable def Qij (env:Env):List (Str×NameKind)→List (Str×Addr)→List (Str×Addr)
 | [],acc=>acc
 | (n,k)::r,acc=>if k==.free then Qij env r ((n,(env.cells.lookup n).getD 0)::acc) else Qij env r acc
theorem Qh1 {env:Env}:∀ (names:List (Str×NameKind)) (acc:List (Str×Addr)),(∀ x∈names,x.2=.free→∃ c,env.cells.lookup x.1=some c) →
  (forIn names acc (fun (x:Str×NameKind) (cs:List (Str×Addr))=>(if (x.2==.free)=true then do let a ← cellOf env x.1;pure (ForInStep.yield ((x.1,a)::cs)) else pure (ForInStep.yield cs):Sem (ForInStep (List (Str×Addr))))))=(pure (Qij env names acc):Sem (List (Str×Addr)))
 | [],acc,_=>by rw [List.forIn_nil];rfl
 | (n,k)::r,acc,h=>by
  have hr:∀ x∈r,x.2=.free→∃ c,env.cells.lookup x.1=some c:=fun x hx=>h x (List.mem_cons_of_mem _ hx)
  rw [List.forIn_cons]
  unfold Qij
  by_cases hk:(k==NameKind.free)=true
  ·obtain ⟨c,hc⟩:=h (n,k) List.mem_cons_self (by simpa using hk)
   have hc':env.cells.lookup n=some c:=hc
   rw [if_pos hk]
   simp only [hk,if_true,cellOf,hc',pure_bind,Option.getD_some]
   exact Qh1 r _ hr
  ·rw [if_neg hk]
   simp only [hk,if_false,pure_bind,Bool.false_eq_true]
   exact Qh1 r _ hr
theorem Qlc {env:Env} {scope:Scope} (h:∀ x∈scope.names,x.2=.free→∃ c,env.cells.lookup x.1=some c):closureFor scope env=pure (Qij env scope.names []):=by
 have q:=Qh1 (env:=env) scope.names [] h
 unfold closureFor
 simp only [bind_pure_comp] at q ⊢
 have e:(fun (x:Str×NameKind) (r:List (Str×Addr))=>(if (x.2==NameKind.free)=true then (fun a=>ForInStep.yield ((x.1,a)::r)) <$> cellOf env x.1 else pure (ForInStep.yield r):Sem (ForInStep (List (Str×Addr)))))=(fun (x:Str×NameKind) (cs:List (Str×Addr))=>(match x with | (name,kind)=>if (kind==NameKind.free)=true then (fun a=>ForInStep.yield ((name,a)::cs)) <$> cellOf env name else pure (ForInStep.yield cs):Sem (ForInStep (List (Str×Addr))))):=by
  funext x cs
  obtain ⟨n,k⟩:=x
  rfl
 rw [e] at q
 simpa using q
theorem Qch {env:Env} {x:Str} {c:Addr}:∀ (names:List (Str×NameKind)) (acc:List (Str×Addr)),(∀ y∈names,y.2=.free→∃ c,env.cells.lookup y.1=some c)→(Qij env names acc).lookup x=some c →
  acc.lookup x=some c∨env.cells.lookup x=some c
 | [],acc,_,h=>.inl h
 | (n,k)::r,acc,hf,h=>by
  have hr:∀ x∈r,x.2=.free→∃ c,env.cells.lookup x.1=some c:=fun x hx=>hf x (List.mem_cons_of_mem _ hx)
  unfold Qij at h
  by_cases hk:(k==NameKind.free)=true
  ·rw [if_pos hk] at h
   obtain ⟨d,hd⟩:=hf (n,k) List.mem_cons_self (by simpa using hk)
   have hd':env.cells.lookup n=some d:=hd
   rcases Qch r _ hr h with q | q
   ·rw [List.lookup_cons,hd'] at q
    by_cases hx:(x==n)=true
    ·rw [hx] at q
     have e:x=n:=by simpa using hx
     subst e
     simp only [Option.getD_some] at q
     exact .inr (hd'.trans q)
    ·have hx':(x==n)=false:=by simpa using hx
     rw [hx'] at q
     exact .inl q
   ·exact .inr q
  ·rw [if_neg hk] at h
   exact Qch r _ hr h
theorem Qik {env:Env} {x:Str}:∀ (names:List (Str×NameKind)) (acc:List (Str×Addr)),((x,NameKind.free)∈names∨∃ c,acc.lookup x=some c)→∃ c,(Qij env names acc).lookup x=some c
 | [],acc,h=>by
  rcases h with h | h
  ·cases h
  ·exact h
 | (n,k)::r,acc,h=>by
  unfold Qij
  by_cases hk:(k==NameKind.free)=true
  ·rw [if_pos hk]
   refine Qik r _ ?_
   by_cases hx:(x==n)=true
   ·exact .inr ⟨_,by rw [List.lookup_cons,hx]⟩
   ·have hx':(x==n)=false:=by simpa using hx
    rcases h with h | ⟨c,h⟩
    ·rcases List.mem_cons.mp h with e | h
     ·cases e;simp at hx
     ·exact .inl h
    ·exact .inr ⟨c,by rw [List.lookup_cons,hx'];exact h⟩
  ·rw [if_neg hk]
   refine Qik r _ ?_
   rcases h with h | h
   ·rcases List.mem_cons.mp h with e | h
    ·cases e;simp at hk
    ·exact .inl h
   ·exact .inr h
theorem Qck {x:Str} {c:Addr}:∀ (names:List (Str×NameKind)) (n:Nat) (acc:List (Str×Addr)),(cellsFrom n names acc).lookup x=some c→acc.lookup x=some c∨(n≤c∧(x,NameKind.cell)∈names)
 | [],_,_,h=>.inl h
 | (y,k)::r,n,acc,h=>by
  unfold cellsFrom at h
  by_cases hk:(k==NameKind.cell)=true
  ·rw [if_pos hk] at h
   have hk':k=.cell:=by simpa using hk
   rcases Qck r _ _ h with q | ⟨q1,q2⟩
   ·rw [List.lookup_cons] at q
    by_cases hx:(x==y)=true
    ·rw [hx] at q
     cases q
     exact .inr ⟨Nat.le_refl _,by rw [show x=y by simpa using hx,hk'];exact List.mem_cons_self⟩
    ·rw [show (x==y)=false by simpa using hx] at q
     exact .inl q
   ·exact .inr ⟨by omega,List.mem_cons_of_mem _ q2⟩
  ·rw [if_neg hk] at h
   rcases Qck r _ _ h with q | ⟨q1,q2⟩
   ·exact .inl q
   ·exact .inr ⟨q1,List.mem_cons_of_mem _ q2⟩
theorem Qdt {x:Str} {c:Addr}:∀ (names:List (Str×NameKind)) (n:Nat) (acc:List (Str×Addr)),(x,NameKind.cell)∈names→(cellsFrom n names acc).lookup x=some c→n≤c
 | [],_,_,h,_=>by cases h
 | (y,k)::r,n,acc,hm,h=>by
  unfold cellsFrom at h
  by_cases hk:(k==NameKind.cell)=true
  ·rw [if_pos hk] at h
   by_cases hx:(x==y)=true
   ·rcases Qck r _ _ h with q | ⟨q1,q2⟩
    ·rw [List.lookup_cons,hx] at q
     cases q
     exact Nat.le_refl _
    ·omega
   ·rcases List.mem_cons.mp hm with e | hm
    ·cases e;simp at hx
    ·have:=Qdt r _ _ hm h
     omega
  ·rw [if_neg hk] at h
   rcases List.mem_cons.mp hm with e | hm
   ·cases e;simp at hk
   ·exact Qdt r _ _ hm h
theorem Qfj:∀ (names:List (Str×NameKind)) (n:Nat) (acc:List (Str×Addr)),(∀ x c,acc.lookup x=some c→c<n)→(∀ x y c,acc.lookup x=some c→acc.lookup y=some c→x=y) →
  ∀ x y c,(cellsFrom n names acc).lookup x=some c→(cellsFrom n names acc).lookup y=some c→x=y
 | [],_,_,_,hi=>hi
 | (z,k)::r,n,acc,hb,hi=>by
  unfold cellsFrom
  by_cases hk:(k==NameKind.cell)=true
  ·rw [if_pos hk]
   refine Qfj r (n+1) _ (fun x c h=>?_) (fun x y c h1 h2=>?_)
   ·rw [List.lookup_cons] at h
    by_cases hx:(x==z)=true
    ·rw [hx] at h;cases h;exact Nat.lt_succ_self _
    ·rw [show (x==z)=false by simpa using hx] at h
     exact Nat.lt_succ_of_lt (hb x c h)
   ·rw [List.lookup_cons] at h1 h2
    by_cases hx:(x==z)=true
    ·rw [hx] at h1;cases h1
     by_cases hy:(y==z)=true
     ·rw [show x=z by simpa using hx,show y=z by simpa using hy]
     ·rw [show (y==z)=false by simpa using hy] at h2
      exact absurd (hb y n h2) (Nat.lt_irrefl _)
    ·rw [show (x==z)=false by simpa using hx] at h1
     by_cases hy:(y==z)=true
     ·rw [hy] at h2;cases h2
      exact absurd (hb x n h1) (Nat.lt_irrefl _)
     ·rw [show (y==z)=false by simpa using hy] at h2
      exact hi x y c h1 h2
  ·rw [if_neg hk]
   exact Qfj r n acc hb hi
theorem Qdh {names:List (Str×NameKind)}:∀ (names:List (Str×NameKind)) (h:Heap) (acc:List (Str×Addr)),(∀ x c,acc.lookup x=some c→∃ v,h.IsCell c v)→∀ x c,(cellsFrom h.objs.size names acc).lookup x=some c→∃ v,(pushCells h names).IsCell c v
 | [],_,_,hi=>hi
 | (z,k)::r,h,acc,hi=>by
  unfold cellsFrom pushCells
  by_cases hk:(k==NameKind.cell)=true
  ·rw [if_pos hk,if_pos hk]
   have q:=Qdh (names:=names) r (h.push { cls:=.type "cell",data:=.cell none }) ((z,h.objs.size)::acc) (fun x c hx=>by
    rw [List.lookup_cons] at hx
    by_cases hz:(x==z)=true
    ·rw [hz] at hx;cases hx
     exact ⟨none,⟨_,Heap.get?_push_size _ rfl,rfl⟩⟩
    ·rw [show (x==z)=false by simpa using hz] at hx
     obtain ⟨v,w⟩:=hi x c hx
     exact ⟨v,w.keeps fun b o e=>Heap.get?_push_of_some _ e⟩)
   rwa [Heap.size_push] at q
  ·rw [if_neg hk,if_neg hk]
   exact Qdh (names:=names) r h acc hi
theorem Qj9 {M:Model} {A:Around} {E:Value→Shared→Prop} {s:Shared} {scope:Scope} {globals:Addr} {cl:List (Str×Addr)} {qual:Str} {env:Env} {Q:Env→Shared→Prop}
  (hQ:Q { scope:=scope,locals:=s.heap.objs.size,globals:=globals,cells:=cellsFrom (s.heap.objs.size+1) scope.names cl,qual:=qual,func:=none,code:=env.code,frame:=env.frame,builtins:=env.builtins } { s with heap:=pushCells (s.heap.push { cls:=.type "dict",data:=.dict #[] }) scope.names }) :
  wpAny M A (newFunctionEnv scope globals cl [] qual none .none (some env)) Q E s:=by
 simp only [newFunctionEnv,Option.isSome_some,if_true]
 refine wpAny_bind (wpAny_alloc ?_)
 refine wpAny_bind (wpAny_layCells _ (fun name kind cells=>by cases hkc:kind==NameKind.cell <;> simp [hkc]) _ _ _ _ ?_)
 rw [show ({ s with heap:=s.heap.push { cls:=.type "dict",data:=.dict #[] } }:Shared).heap.objs.size=s.heap.objs.size+1 from Heap.size_push ..]
 simp only [List.forIn_nil,pure_bind]
 exact wpAny_pure hQ
theorem Qil {prog:Program} {w:World} {A:Around} {R:Result→Shared→Prop} {s:Shared} {elt target iter:Expr} {ifs:List Expr} {scope:Scope} {pos:Pos} {it acc:Value} {env:Env} (I:Nat→Shared→Prop)
  (turn:∀ n s,I n s→wpAny (model prog w) A (pyNext it) (fun r s1=>match r with
   | none=>R (.ok .next) s1
   | some v=>wpAny (model prog w) A (letOwnedTupleGo target it v) (fun _ s1'=>wpAny (model prog w) A (assign target env v) (fun _ s2 =>
     wpAny (model prog w) A (forIn ifs true fun c r=>if r=true then do let ok ← isTrue c env (eval c env);pure (ForInStep.yield ok) else pure (ForInStep.yield r)) (fun ok s3 =>
      if ok=true then wpAny (model prog w) A (eval elt env) (fun x s4 =>
       wpAny (model prog w) A (call (.builtin "list.append") [acc,x]) (fun _ s5=>∃ m,m<n∧I m s5) (fun _ _=>False) s4) (fun _ _=>False) s3
      else ∃ m,m<n∧I m s3) (fun _ _=>False) s2) (fun _ _=>False) s1') (fun _ _=>False) s1) (fun _ _=>False) s)
  (n:Nat) (h:I n s) :
  codeAny (model prog w) A (.compLoop (.ListComp elt [⟨target,iter,ifs,0⟩] scope pos) 0 it acc env) R s:=by
 refine codeAny_loop rfl I (fun n s hI=>?_) n h
 show wpAny _ A ((compTurn (.ListComp elt [⟨target,iter,ifs,0⟩] scope pos) 0 it acc env).onRaise (fun x=>do noteFrame x env;theTreesLotGoes x)) _ _ s
 refine wpAny_noted ?_
 rw [compTurn_list]
 refine wpAny_bind (wpAny_standAt (wpAny_bind (wpAny_mono (turn n s hI) (fun r s1 h1=>?_) fun _ _ h'=>h'.elim)))
 cases r with
 | none=>exact wpAny_pure h1
 | some v =>
  refine wpAny_bind (wpAny_mono h1 (fun _ s1' h1'=>wpAny_bind (wpAny_mono h1' (fun _ s2 h2=>wpAny_bind (wpAny_mono h2 (fun ok s3 h3=>?_) fun _ _ h'=>h'.elim)) fun _ _ h'=>h'.elim)) fun _ _ h'=>h'.elim)
  cases ok with
  | false=>exact wpAny_pure ⟨rfl,h3⟩
  | true =>
   exact wpAny_bind (wpAny_bind (wpAny_mono h3 (fun x s4 h4=>wpAny_bind (wpAny_mono h4 (fun _ s5 h5=>wpAny_pure (wpAny_pure ⟨rfl,h5⟩)) fun _ _ h'=>h'.elim)) fun _ _ h'=>h'.elim))
noncomputable def Qag (X:Cx) (scope:Scope) (N:List Str) (s:Shared) (H:Hp) (fp:List Addr):Cx where
 prog:=X.prog
 w:=X.w
 K:=X.K
 mg:=X.mg
 base:=X.base
 A:=X.A
 N:=N
 s₀:=s
 H₀:=H
 env:={ scope:=relabel scope X.env,locals:=s.heap.objs.size,globals:=X.env.globals,cells:=cellsFrom (s.heap.objs.size+1) scope.names (Qij X.env scope.names []),qual:=X.env.qual,func:=none,code:=X.env.code,frame:=X.env.frame,builtins:=X.env.builtins }
 outer:=X.stack
 stack:=X.stack
 ex:=fp
 fn:=fun x=>decide ((x,NameKind.cell)∈scope.names)
 calm:=X.calm
 pn:=[]
 xe:=fun _ _=>False
noncomputable def Qd4 (js:List (Option Nat)) (σ:St):St:=js.map fun o=>match o with | none=>none | some j=>(σ[j]?).join
noncomputable def Qim (X:Cx) (scope:Scope) (N:List Str) (js:List (Option Nat)):Bool :=
 (N.length==js.length)&&(N.zip js).all fun p=>match p.2 with
  | none=>true
  | some j=>X.N[j]?==some p.1&&(scope.names.lookup p.1==some .free&&(X.env.scope.names.lookup p.1==some .cell||X.env.scope.names.lookup p.1==some .free))
noncomputable def scOk (X:Cx) (scope:Scope):Bool :=
 scope.names.all fun p=>(p.2 != .free||(X.env.scope.names.lookup p.1==some .cell||X.env.scope.names.lookup p.1==some .free))&&scope.names.lookup p.1==some p.2
section
variable {X:Cx} {pins:List (Addr×Obj)} {σ:St} {H:Hp} {s:Shared} {scope:Scope}
theorem scOk.get (h:scOk X scope=true) {p:Str×NameKind} (hp:p∈scope.names):(p.2=.free→X.env.scope.names.lookup p.1=some .cell∨X.env.scope.names.lookup p.1=some .free)∧scope.names.lookup p.1=some p.2:=by
 have q:=List.all_eq_true.mp h p hp
 rw [Bool.and_eq_true] at q
 refine ⟨fun e=>?_,by simpa using q.2⟩
 have q1:=q.1
 rw [e] at q1
 simpa using q1
theorem scOk.cells (I:Inv X pins σ H s) (h:scOk X scope=true):∀ x∈scope.names,x.2=.free→∃ c,X.env.cells.lookup x.1=some c:=fun x hx e=>I.ok.has x.1 ((scOk.get h hx).1 e)
theorem scOk.one (h:scOk X scope=true) {x:Str} {k j:NameKind} (e:(x,k)∈scope.names) (e':(x,j)∈scope.names):k=j:=by
 have q1:=(scOk.get h e).2
 have q2:=(scOk.get h e').2
 exact Option.some.inj (q1.symm.trans q2)
theorem Qjf (I:Inv X pins σ H s) (h:scOk X scope=true) {n:Nat} {x:Str} {c:Addr} (e:(cellsFrom n scope.names (Qij X.env scope.names [])).lookup x=some c):X.env.cells.lookup x=some c∨(n≤c∧(x,NameKind.cell)∈scope.names):=by
 rcases Qck _ _ _ e with q | q
 ·rcases Qch _ _ (scOk.cells I h) q with z | z
  ·cases z
  ·exact .inl z
 ·exact .inr q
theorem Qc5 {env:Env} {x:Str} {k:NameKind}:∀ {names:List (Str×NameKind)},(names.map fun (n,k)=>if (k==NameKind.free&&env.scope.kind==.function&&env.kindOf n==some .cell) then (n,NameKind.cell) else (n,k)).lookup x=some k →
  names.lookup x=some k∨(k=.cell∧names.lookup x=some .free)
 | [],h=>by cases h
 | (n,j)::r,h=>by
  rw [List.map_cons] at h
  replace h:List.lookup x ((if (j==NameKind.free&&env.scope.kind==.function&&env.kindOf n==some .cell)=true then (n,NameKind.cell) else (n,j))::_)=some k:=h
  by_cases hc:(j==NameKind.free&&env.scope.kind==.function&&env.kindOf n==some .cell)=true
  ·rw [if_pos hc,List.lookup_cons] at h
   rw [List.lookup_cons]
   by_cases hx:(x==n)=true
   ·rw [hx] at h ⊢
    cases h
    simp only [Bool.and_eq_true] at hc
    exact .inr ⟨rfl,by rw [show j=.free by simpa using hc.1.1]⟩
   ·rw [show (x==n)=false by simpa using hx] at h ⊢
    exact Qc5 h
  ·rw [if_neg hc,List.lookup_cons] at h
   rw [List.lookup_cons]
   by_cases hx:(x==n)=true
   ·rw [hx] at h ⊢
    exact .inl h
   ·rw [show (x==n)=false by simpa using hx] at h ⊢
    exact Qc5 h
theorem Qf0 {env:Env} {x:Str}:∀ {names:List (Str×NameKind)},names.lookup x=some .free →
  (names.map fun (n,k)=>if (k==NameKind.free&&env.scope.kind==.function&&env.kindOf n==some .cell) then (n,NameKind.cell) else (n,k)).lookup x=some .cell ∨
  (names.map fun (n,k)=>if (k==NameKind.free&&env.scope.kind==.function&&env.kindOf n==some .cell) then (n,NameKind.cell) else (n,k)).lookup x=some .free
 | [],h=>by cases h
 | (n,j)::r,h=>by
  rw [List.map_cons]
  show List.lookup x ((if (j==NameKind.free&&env.scope.kind==.function&&env.kindOf n==some .cell)=true then (n,NameKind.cell) else (n,j))::_)=some .cell∨List.lookup x ((if (j==NameKind.free&&env.scope.kind==.function&&env.kindOf n==some .cell)=true then (n,NameKind.cell) else (n,j))::_)=some .free
  rw [List.lookup_cons] at h
  by_cases hx:(x==n)=true
  ·rw [hx] at h
   cases h
   by_cases hc:(NameKind.free==NameKind.free&&env.scope.kind==.function&&env.kindOf n==some .cell)=true
   ·rw [if_pos hc,List.lookup_cons,hx];exact .inl rfl
   ·rw [if_neg hc,List.lookup_cons,hx];exact .inr rfl
  ·rw [show (x==n)=false by simpa using hx] at h
   by_cases hc:(j==NameKind.free&&env.scope.kind==.function&&env.kindOf n==some .cell)=true
   ·rw [if_pos hc,List.lookup_cons,show (x==n)=false by simpa using hx];exact Qf0 h
   ·rw [if_neg hc,List.lookup_cons,show (x==n)=false by simpa using hx];exact Qf0 h
theorem Q07 {N:List Str} {fp:List Addr} (I:Inv X pins σ H s) (hk:scope.kind=.function) (h:scOk X scope=true) (hf:∀ b∈fp,Qhz X pins H b) (ho:∀ b∈fp,∃ o,s.heap.get? b=some o∧∀ v,o.data≠.cell v):(Qag X scope N s H fp).Ok where
 mod:=I.ok.mod
 kind:=hk
 glob:=I.ok.glob
 blt:=I.ok.blt
 above:=Nat.le_refl _
 inj:=fun x y c h1 h2=>Qfj _ _ _ (fun z c hz=>by
   rcases Qch _ _ (scOk.cells I h) hz with q | q
   ·cases q
   ·obtain ⟨v,w⟩:=I.cell z c q
    exact Nat.lt_succ_of_lt w.lt) (fun y z c h1 h2=>by
   rcases Qch _ _ (scOk.cells I h) h1 with q | q
   ·cases q
   ·rcases Qch _ _ (scOk.cells I h) h2 with q' | q'
    ·cases q'
    ·exact I.ok.inj y z c q q') x y c h1 h2
 has:=fun x hx=>by
  have key:(x,NameKind.cell)∈scope.names∨(x,NameKind.free)∈scope.names:=by
   rcases hx with hx | hx
   ·rcases Qc5 hx with q | ⟨_,q⟩
    ·exact .inl (PySem.mem_of_lookup q)
    ·exact .inr (PySem.mem_of_lookup q)
   ·rcases Qc5 hx with q | ⟨q,_⟩
    ·exact .inr (PySem.mem_of_lookup q)
    ·cases q
  rcases key with q | q
  ·have e:scope.names.lookup x=some .cell:=(scOk.get h q).2
   exact Option.isSome_iff_exists.mp (PySem.W.cellsFrom_some scope.names _ _ (.inl e))
  ·obtain ⟨c,hc⟩:=Qik (env:=X.env) scope.names [] (.inl q)
   exact Option.isSome_iff_exists.mp (PySem.W.cellsFrom_some scope.names _ _ (.inr (by rw [hc];rfl)))
 cab:=fun x c hx hc=>Nat.le_of_succ_le (Qdt _ _ _ (of_decide_eq_true hx) hc)
 hd:=I.ok.hd
 frames:=I.ok.frames
 stk:=.inl rfl
 exf:=fun b hb=>by
  obtain ⟨o,e,d⟩:=ho b hb
  refine ⟨Nat.ne_of_lt (Heap.lt_size e),fun x c hc z=>?_⟩
  rcases Qjf I h hc with q | ⟨q,_⟩
  ·exact (hf b hb).2.2.2.2.1 x c q z
  ·rw [z] at q
   exact absurd (Nat.lt_of_lt_of_le (Heap.lt_size e) (Nat.le_of_succ_le q)) (Nat.lt_irrefl _)
 bs:=I.bs
 bsz:=Nat.le_trans I.ok.bsz I.sz
 noex:=fun b o e hb=>by
  rcases (hf b hb).2.2.2.1 with q | q
  ·exact I.ok.noex b o e q
  ·exact absurd (Nat.lt_of_lt_of_le (Heap.lt_size e) (Nat.le_trans I.ok.bsz q)) (Nat.lt_irrefl _)
 exfs:=fun b hb hs=>by
  rcases List.mem_cons.mp (I.stkSub b hs) with q | q
  ·exact (hf b hb).2.1 q
  ·exact (hf b hb).2.2.1 q
 funs:=I.stack
 frf:=⟨I.stkFree,I.tab⟩
theorem Qps {N:List Str} {js:List (Option Nat)} {fp:List Addr} (I:Inv X pins σ H s) (hk:scope.kind=.function) (h:scOk X scope=true) (hc:Qim X scope N js=true) (hf:∀ b∈fp,Qhz X pins H b) (ho:∀ b∈fp,∃ o,s.heap.get? b=some o∧∀ v,o.data≠.cell v) :
  Inv (Qag X scope N s H fp) [] (Qd4 js σ) H { s with heap:=pushCells (s.heap.push { cls:=.type "dict",data:=.dict #[] }) scope.names }:=by
 have kp:∀ b o,s.heap.get? b=some o→(pushCells (s.heap.push { cls:=.type "dict",data:=.dict #[] }) scope.names).get? b=some o:=fun b o e=>pushCells_keeps _ _ _ _ (Heap.get?_push_of_some _ e)
 have hcap:N.length=js.length∧∀ p∈N.zip js,∀ j,p.2=some j→X.N[j]?=some p.1∧scope.names.lookup p.1=some .free∧(X.env.scope.names.lookup p.1=some .cell∨X.env.scope.names.lookup p.1=some .free):=by
  unfold Qim at hc
  rw [Bool.and_eq_true] at hc
  refine ⟨by simpa using hc.1,fun p hp j e=>?_⟩
  have q:=List.all_eq_true.mp hc.2 p hp
  rw [e] at q
  simpa using q
 refine ⟨Q07 I hk h hf ho,rfl,I.bare,Un.kept kp,?_,fun x c e=>?_,I.hok.fresh (Nat.le_refl _),fun x c e=>?_,fun p hp=>absurd (show p∈([]:List (Addr×Obj)) from hp) (by simp),I.hok.kept kp,?_⟩
 ·refine ⟨fun _=>none,(Heap.Ns.new s.heap (.type "dict")).keeps (pushCells_keeps _ _),fun i x v h1 h2 h3=>?_⟩
  obtain ⟨o,ho1,ho2⟩:∃ o,js[i]?=some o∧(match o with | none=>none | some j=>(σ[j]?).join)=some v:=by
   unfold Qd4 at h2
   rw [List.getElem?_map] at h2
   cases e:js[i]? with
   | none=>rw [e] at h2;cases h2
   | some o=>rw [e] at h2;exact ⟨o,rfl,Option.some.inj h2⟩
  cases o with
  | none=>cases ho2
  | some j =>
   have hz:(x,some j)∈N.zip js:=List.mem_of_getElem? (i:=i) (by rw [List.getElem?_zip_eq_some];exact ⟨h1,ho1⟩)
   obtain ⟨q1,q2,q3⟩:=hcap.2 _ hz j rfl
   have hσ:σ[j]?=some (some v):=by
    have ho2:(σ[j]?).join=some v:=ho2
    cases e:σ[j]? with
    | none=>rw [e] at ho2;cases ho2
    | some w=>rw [e] at ho2;exact congrArg some ho2
   obtain ⟨m,hn,hl⟩:=I.loc
   obtain ⟨u,r,l⟩:=hl j x v q1 hσ (by rcases q3 with z | z;exact .inr (.inl z);exact .inr (.inr z))
   refine ⟨u,r,.inr ⟨Qf0 q2,?_⟩⟩
   have fin:∀ c,X.env.cells.lookup x=some c→s.heap.IsCell c (some u)→∃ c,(cellsFrom (s.heap.objs.size+1) scope.names (Qij X.env scope.names [])).lookup x=some c∧(pushCells (s.heap.push { cls:=.type "dict",data:=.dict #[] }) scope.names).IsCell c (some u):=fun c hc hv=>by
    obtain ⟨d,hd⟩:=Qik (env:=X.env) scope.names [] (.inl (PySem.mem_of_lookup q2))
    obtain ⟨c',hc'⟩:=Option.isSome_iff_exists.mp (PySem.W.cellsFrom_some scope.names (s.heap.objs.size+1) (Qij X.env scope.names []) (.inr (by rw [hd];rfl)))
    refine ⟨c',hc',?_⟩
    rcases Qjf I h hc' with z | ⟨_,z⟩
    ·rw [hc] at z;cases z
     exact hv.keeps kp
    ·have:=scOk.one h z (PySem.mem_of_lookup q2)
     cases this
   rcases l with ⟨hk,_⟩ | ⟨_,c,hc,hv⟩
   ·have hk:X.env.scope.names.lookup x=some .local:=hk
    rcases q3 with z | z <;> (rw [z] at hk;cases hk)
   ·exact fin c hc hv
 ·have q:=Qdh (names:=[]) scope.names (s.heap.push { cls:=.type "dict",data:=.dict #[] }) (Qij X.env scope.names []) (fun y d hd=>by
   rcases Qch _ _ (scOk.cells I h) hd with z | z
   ·cases z
   ·obtain ⟨v,w⟩:=I.cell y d z
    exact ⟨v,w.keeps fun b o e=>Heap.get?_push_of_some _ e⟩)
  rw [Heap.size_push] at q
  exact q x c e
 ·rcases Qjf I h e with q | ⟨q,_⟩
  ·rcases I.freeC x c q with z | ⟨_,z⟩
   ·exact .inl z
   ·refine .inr ⟨?_,z⟩
    show decide ((x,NameKind.cell)∈scope.names)=false
    refine decide_eq_false fun hx=>?_
    have h1:=Qdt _ _ _ hx e
    obtain ⟨v,w⟩:=I.cell x c q
    exact absurd (Nat.lt_of_lt_of_le (Nat.lt_succ_of_lt w.lt) h1) (Nat.lt_irrefl _)
  ·exact .inl (I.hok.fresh (Nat.le_of_succ_le q))
 ·show (Qd4 js σ).length=N.length
  unfold Qd4
  rw [List.length_map,hcap.1]
end
noncomputable def Q3m (J:It) (l:Addr) (σ:St) (H1:Hp) (g:TG) (tc:TT) (te:TE) (Q:VK):Prop:=∃ W:Nat→Nat→List V→St→Hp→Prop,
 (∃ m,W 0 m [] σ (upd H1 l (.lst [])))∧∀ i m ys σ2 H2,W i m ys σ2 H2 →
  (J.stop i H2∧Q (.ref l) H2) ∨
  (J.go i H2∧∀ x H3,J.yld i H2 x H3→g x σ2 H3 fun σ4 H4=>tc σ4 H4 fun b H5 =>
   if b=true then te σ4 H5 fun y H6=>H6 l=some (.lst ys)∧ys.length<sizeLine∧∃ m',m'<m∧W (i+1) m' (ys++[y]) σ4 (upd H6 l (.lst (ys++[y])))
   else ∃ m',m'<m∧W (i+1) m' ys σ4 H5)
noncomputable abbrev Qm9 (wi:TI) (js:List (Option Nat)) (g:TG) (tc:TT) (te:TE):TE:=fun σ H Q=>wi σ H fun J H1=>∀ l,H1 l=none→Q3m J l (Qd4 js σ) H1 g tc te Q
noncomputable def PTs (X:Cx) (ifs:List Expr) (t:TT):Prop :=
 ∀ (pins:List (Addr×Obj)) (s:Shared) (σ:St) (H:Hp) (Q:Bool→Hp→Prop),Inv X pins σ H s→t σ H Q →
  wpAny (model X.prog X.w) X.A (forIn ifs true fun c r=>if r=true then do let ok ← isTrue c X.env (eval c X.env);pure (ForInStep.yield ok) else pure (ForInStep.yield r)) (TP X pins σ Q) X.xe s
noncomputable abbrev Q89:TT:=fun _ H Q=>Q true H
theorem Q08 {X:Cx}:PTs X [] Q89:=fun pins s σ H Q I h=>wpAny_tests_nil ⟨H,I,h⟩
theorem Q09 {X:Cx} {c:Expr} {t:TT} (h:PT X c t):PTs X [c] t:=fun pins s σ H Q I q=>wpAny_tests_one (h pins s σ H Q I q)
theorem Qxb {X:Cx} {tg elt iter:Expr} {ifs:List Expr} {scope:Scope} {pos:Pos} {N:List Str} {js:List (Option Nat)} {wi:TI} {g:TG} {tc:TT} {te:TE} (hcalm:X.calm=true)
  (hi:PI X tg iter wi) (hg:∀ s H fp,PG (Qag X scope N s H fp) tg g) (hc:∀ s H fp,PTs (Qag X scope N s H fp) ifs tc) (he:∀ s H fp,PE (Qag X scope N s H fp) elt te)
  (hk:scope.kind=.function:=by rfl) (h1:scOk X scope=true:=by rfl) (h2:Qim X scope N js=true:=by rfl)
  (hs:∀ x,foldedSetIterable iter X.env x=pure x:=by intro _;rfl):PE X (.ListComp elt [⟨tg,iter,ifs,0⟩] scope pos) (Qm9 wi js g tc te):=by
 intro pins s σ H Q I h
 rw [eval_ListComp]
 refine wpAny_comprehension_free (use:=none) rfl hs (Qlc (scOk.cells I h1)) hk (fun x hx hl=>by rw [(scOk.get h1 hx).2,hl]) ?_
 refine thn (hi pins s σ H _ I h) fun v s1 h1'=>thn h1' fun itv s2 h2'=>?_
 obtain ⟨it,fp,tn,J,H2,e,I2,T,st2,f2,q⟩:=h2'
 subst e
 refine wpAny_newObj_type ?_
 have hl:H2 s2.heap.objs.size=none:=I2.hok.fresh (Nat.le_refl _)
 obtain ⟨W,⟨m0,w0⟩,turn⟩:=q _ hl
 have I3:Inv X pins σ (upd H2 s2.heap.objs.size (.lst [])) { s2 with heap:=s2.heap.push { cls:=.type "list",data:=.seq ([]:List Value).toArray } }:=I2.lnew (t':=s2.toks) (ys:=[]) .nil (Nat.zero_le _)
 generalize hs3:({ s2 with heap:=s2.heap.push { cls:=.type "list",data:=.seq ([]:List Value).toArray } }:Shared)=s3 at I3
 generalize hH3:upd H2 s2.heap.objs.size (.lst [])=H3 at I3 w0
 generalize hl':s2.heap.objs.size=l at turn hH3 hl
 have kp3:∀ b o,s2.heap.get? b=some o→s3.heap.get? b=some o:=fun b o e=>by rw [←hs3];exact Heap.get?_push_of_some _ e
 have ob3:∀ b∈fp,∃ o,s3.heap.get? b=some o∧∀ v,o.data≠.cell v:=fun b hb=>by
  obtain ⟨o,e,d⟩:=T.obj _ _ st2 b hb
  exact ⟨o,kp3 b o e,d⟩
 have f3:∀ b∈fp,Qhz X pins H3 b:=fun b hb=>by
  obtain ⟨o,e,d⟩:=T.obj _ _ st2 b hb
  refine ⟨?_,(f2 b hb).2⟩
  rw [←hH3,Qz (Nat.ne_of_lt (by rw [←hl'];exact Heap.lt_size e))]
  exact (f2 b hb).1
 refine Qj9 ?_
 have I4:=Qps (N:=N) (js:=js) I3 hk h1 h2 f3 ob3
 have st4:tn 0 (pushCells (s3.heap.push { cls:=.type "dict",data:=.dict #[] }) scope.names):=T.keep _ _ _ st2 fun b hb o e=>pushCells_keeps _ _ _ _ (Heap.get?_push_of_some _ (kp3 b o e))
 have fr4:∀ b∈fp,H3 b=none:=fun b hb=>(f3 b hb).1
 have fpX:∀ {H':Hp},(∀ b∈fp,H' b=none)→∀ b∈fp,Qhz (Qag X scope N s3 H3 fp) [] H' b:=fun hn b hb=>by
  have ok:=I4.ok
  refine ⟨hn b hb,(ok.exf b hb).1,ok.exfs b hb,.inl hb,(ok.exf b hb).2,fun p hp=>absurd (show p∈([]:List (Addr×Obj)) from hp) (by simp)⟩
 -- the block's end
 have fin:∀ {σ':St} {H':Hp} {s':Shared},Inv (Qag X scope N s3 H3 fp) [] σ' H' s'→Q (.ref l) H'→compPost (model X.prog X.w) X.A X.xe none (EP X pins σ Q) (.ref l) s3.heap.objs.size (.ok .next) s':=fun {σ' H' s'} I' q'=>by
  obtain ⟨m,hn,_⟩:=id I'.loc
  refine ⟨m,hn,fun h' hsb=>⟨.ref l,H',?_,rfl,q'⟩⟩
  have hfr:H' s3.heap.objs.size=none:=I'.free
  refine I3.call' (s':={ s' with heap:=h' }) (ch:=fp) I'.os ⟨fun b o e n hb hx=>?_,fun b o e n hb hx=>?_,I'.base.free,fun b o e hx=>?_,I'.base.tups,I'.base.frzs,I'.base.tbls⟩ (fun b u e=>?_) I'.bare (fun b hb=>⟨(f3 b hb).2.2.2.1,(f3 b hb).2.1,(f3 b hb).2.2.2.2.1,(f3 b hb).2.2.2.2.2⟩)
  ·exact (hsb.2 b (Nat.ne_of_lt (Heap.lt_size e))).trans (I'.base.keep b o e n hb hx)
  ·obtain ⟨sl,z⟩:=I'.base.slot b o e n hb hx
   exact ⟨sl,(hsb.2 b (Nat.ne_of_lt (Heap.lt_size e))).trans z⟩
  ·obtain ⟨o',z⟩:=I'.base.there b o e hx
   exact ⟨o',(hsb.2 b (Nat.ne_of_lt (Heap.lt_size e))).trans z⟩
  ·refine (I'.hok b u e).stay (fun c w' hc z=>(hsb.2 c ?_).trans z) (fun _ z=>z) fun _ _ z=>z
   rintro rfl
   rcases hc with rfl | hc
   ·rw [hfr] at e;cases e
   ·rw [hfr] at hc;cases hc
 have loop:codeAny (model X.prog X.w) X.A (.compLoop (.ListComp elt [⟨tg,iter,ifs,0⟩] scope pos) 0 (.ref it) (.ref l) (Qag X scope N s3 H3 fp).env) (compPost (model X.prog X.w) X.A X.xe none (EP X pins σ Q) (.ref l) s3.heap.objs.size)
   { s3 with heap:=pushCells (s3.heap.push { cls:=.type "dict",data:=.dict #[] }) scope.names }:=by
  refine Qil (fun n s'=>∃ i ys σ' H',Inv (Qag X scope N s3 H3 fp) [] σ' H' s'∧tn i s'.heap∧(∀ b∈fp,H' b=none)∧W i n ys σ' H') ?_ m0 ⟨0,[],Qd4 js σ,H3,I4,st4,fr4,w0⟩
  rintro n s5 ⟨i,ys,σ5,H5,I5,st5,fr5,w5⟩
  rcases turn i n ys σ5 H5 w5 with ⟨stop,qn⟩ | ⟨go,step⟩
  ·refine thn (T.done (Qag X scope N s3 H3 fp) rfl rfl rfl hcalm i [] s5 σ5 H5 _ I5 (fpX fr5) st5 stop) fun r s6 ⟨hr,I6⟩=>?_
   subst hr
   exact fin I6 qn
  ·refine thn (T.item (Qag X scope N s3 H3 fp) rfl rfl rfl hcalm i [] s5 σ5 H5 _ I5 (fpX fr5) st5 go) fun r s6 ⟨u,hr,h6⟩=>?_
   subst hr
   refine thn h6 fun _ s7 ⟨x,H7,I7,r7,y7,st7,fr7⟩=>?_
   have I7':=I7.pinned (fpX fr7) (T.obj _ _ st7)
   have again:∀ {σ8:St} {H8:Hp} {s8:Shared} {ys8:List V},Inv (Qag X scope N s3 H3 fp) ([]++Qjb fp s7.heap) σ8 H8 s8→(∃ m',m'<n∧W (i+1) m' ys8 σ8 H8) →
     ∃ m,m<n∧∃ i ys σ' H',Inv (Qag X scope N s3 H3 fp) [] σ' H' s8∧tn i s8.heap∧(∀ b∈fp,H' b=none)∧W i m ys σ' H':=fun {σ8 H8 s8 ys8} I8 ⟨m',hm,w8⟩=>by
    refine ⟨m',hm,i+1,ys8,σ8,H8,I8.unpinned,T.keep _ _ _ st7 fun b hb o e=>(I8.pin (b,o) (List.mem_append_right _ (List.mem_append_right _ (Qb3 hb e)))).1,fun b hb=>?_,w8⟩
    obtain ⟨o,e,d⟩:=T.obj _ _ st7 b hb
    exact (I8.pin (b,o) (List.mem_append_right _ (List.mem_append_right _ (Qb3 hb e)))).2.1
   refine thn (hg s3 H3 fp _ s7 σ5 H7 x u _ I7' r7 (step x H7 y7)) fun _ s8 ⟨σ8,H8,I8,q8⟩=>?_
   refine thn (hc s3 H3 fp _ s8 σ8 H8 _ I8 q8) fun ok s9 ⟨H9,I9,q9⟩=>?_
   cases ok with
   | false =>
    rw [if_neg Bool.false_ne_true] at q9 ⊢
    exact again I9 q9
   | true =>
    rw [if_pos rfl] at q9 ⊢
    refine thn (he s3 H3 fp _ s9 σ8 H9 _ I9 q9) fun y s10 ⟨vy,H10,I10,r10,a10,z10,q10⟩=>?_
    refine thn (Qje (X:=Qag X scope N s3 H3 fp) _ s10 σ8 H10 (.ref l) [vy] (.ref l) [y] (fun _ H'=>∃ m',m'<n∧W (i+1) m' (ys++[vy]) σ8 H') I10 rfl (.cons r10 .nil) ⟨l,ys,vy,rfl,rfl,a10,z10,q10⟩) fun _ s11 ⟨_,H11,I11,_,q11⟩=>?_
    exact again I11 q11
 first
  | exact codeAny_compStart_list loop (T.self _ 0 _ _ _ st4 loop)
  | (rw [← hs3] at loop st4
     exact codeAny_compStart_list loop (T.self _ 0 _ _ _ st4 loop))
section
variable {X:Cx}
theorem Qpt:CallR X (.builtin "isinstance") (fun xs H Q=>∃ x T t b,xs=[x,.ty T]∧TyOf X.K H x t∧PySem.W.kitOne X.K t (.type T)=some b∧Q (.bl b) H):=by
 intro pins s σ H xs us Q I r h
 obtain ⟨x,T,t,b,rfl,ty,e,q⟩:=h
 obtain ⟨u,w',rfl,rx,ry⟩:=Qm4 r
 obtain rfl:w'=Value.type T:=ry
 exact Qu3 I rx ty e fun tk=>⟨.bl b,H,I.tok _,rfl,q⟩
noncomputable def Qpu:V→Bool
 | .bl b=>b
 | .int i=>i != 0
 | _=>false
noncomputable def Qpv:V→Bool
 | .bl _=>true
 | .int _=>true
 | .non=>true
 | _=>false
theorem Qxc {A:Around} {s:Shared} {x:V} {v:Value} {Q:Bool→Shared→Prop} {E:Value→Shared→Prop} (r:RelV x v) (f:Qpv x=true) (h:Q (Qpu x) s):wpAny (model X.prog X.w) A (truthy v) Q E s:=by
 cases x with
 | bl b=>cases r;exact wpAny_truthy_bool h
 | int i=>obtain ⟨t,rfl⟩:=r;exact truthy_int h
 | non=>cases r;exact truthy_none h
 | _=>exact absurd (show false=true from f) Bool.false_ne_true
theorem Qrr {α:Type} (f:α→Bool) (d:α) (xs:List α):((List.range xs.length).all fun i=>f (xs.getD i d))=xs.all f:=by
 rw [Bool.eq_iff_iff,List.all_eq_true,List.all_eq_true]
 constructor
 ·intro h x hx
  obtain ⟨i,hi,rfl⟩:=List.getElem_of_mem hx
  have:=h i (List.mem_range.mpr hi)
  rwa [List.getD_eq_getElem?_getD,List.getElem?_eq_getElem hi,Option.getD_some] at this
 ·intro h i hi
  have hi:=List.mem_range.mp hi
  rw [List.getD_eq_getElem?_getD,List.getElem?_eq_getElem hi,Option.getD_some]
  exact h _ (List.getElem_mem hi)
theorem Qxd (hc:X.calm=true):CallR X (.builtin "all") (fun xs H Q=>∃ p ys,xs=[.ref p]∧SqL X.K H p ys∧ys.all Qpv=true∧Q (.bl (ys.all Qpu)) H):=by
 intro pins s σ H xs us Q I r h
 obtain ⟨p,ys,rfl,hq,hf,q⟩:=h
 obtain ⟨u,rfl,rx⟩:=Qgo r
 cases rx
 obtain ⟨its,r',pl,hz⟩:=I.list hq
 have hlt:p<s.heap.objs.size:=by obtain ⟨_,e,_⟩:=pl.isList;exact Heap.lt_size e
 have hlen:=r'.length
 refine call_all_walk (wpAny_pyIter_list pl.isList ?_)
 refine ⟨s.heap.objs.size,[s.heap.objs.size,p],[s.heap.objs.size],its.toArray.size,_,_,fun i=>Qpu (ys.getD i .non),rfl,Walks.list (A:=X.A.in1) (I.ok.hd hc) _ p (Nat.ne_of_lt hlt) its.toArray,
  ⟨⟨_,Heap.get?_push_size _ rfl,rfl,rfl⟩,pl.isList.push _⟩,fun i v s' Q' E' hP hQ=>?_,fun h' tk hk=>?_⟩
 ·have hi:its[i]?=some v:=by simpa using hP
  have hy:∃ y,ys[i]?=some y:=by
   have:=(List.getElem?_eq_some_iff.mp hi).1
   exact ⟨ys[i],List.getElem?_eq_getElem (by omega)⟩
  obtain ⟨y,hy⟩:=hy
  obtain ⟨v',hv',rv⟩:=r'.get hy
  rw [hi] at hv';cases hv'
  refine Qxc (X:=X) rv (List.all_eq_true.mp hf y (List.mem_of_getElem? hy)) ?_
  have hQ:Q' (Qpu (ys.getD i V.non)) s':=hQ
  rw [List.getD_eq_getElem?_getD,hy,Option.getD_some] at hQ
  exact hQ
 ·rw [List.size_toArray,←hlen,Qrr]
  exact ⟨.bl _,H,I.kept fun b x e=>hk b x (fun hm=>by rw [List.mem_singleton.mp hm] at e;exact Nat.lt_irrefl _ (Heap.lt_size e)) (Heap.get?_push_of_some _ e),rfl,q⟩
theorem Qu6 (hc:X.calm=true):CallR X (.builtin "max") (fun xs H Q=>∃ (p:Addr) (ns:List Int),xs=[.ref p]∧SqL X.K H p (ns.map V.int)∧ns≠[]∧∀ M,M∈ns→(∀ a∈ns,a≤M)→Q (.int M) H):=by
 intro pins s σ H xs us Q I r h
 obtain ⟨p,ns,rfl,hq,hne,q⟩:=h
 obtain ⟨u,rfl,rx⟩:=Qgo r
 cases rx
 obtain ⟨its,r',pl,hz⟩:=I.list hq
 have hi:IntsAre its ns:=Qlb r'
 obtain ⟨xs,e⟩:=hi.allInts.items
 have hns:ns=xs.toList.map (·.1):=by rw [←hi.numsOf,←nums_intItems,←e]
 have hsz:0<xs.size:=by
  have h3:0<ns.length:=List.length_pos_iff.mpr hne
  rw [hns,List.length_map,Array.length_toList] at h3;exact h3
 have hl:=pl.isList
 rw [e] at hl
 refine max_intList (I.ok.hd hc) hl hsz fun v h' tk hv hk=>?_
 obtain ⟨t,rfl⟩:=intItems_at hv
 obtain ⟨h1,h2⟩:=argBest_gt (numAt xs) (xs.size-1)
 refine ⟨.int _,H,I.kept hk,⟨t,rfl⟩,q _ ?_ fun a ha=>?_⟩
 ·rw [hns,numAt_eq];exact getD_mem (by rw [List.length_map,Array.length_toList];omega)
 ·rw [hns] at ha
  obtain ⟨j,hj,rfl⟩:=mem_getD ha
  rw [List.length_map,Array.length_toList] at hj
  rw [←numAt_eq];exact h2 j (by omega)
theorem Qu7 (hc:X.calm=true):CallR X (.builtin "sum") (fun xs H Q=>∃ (p:Addr) (ns:List Int),xs=[.ref p]∧SqL X.K H p (ns.map V.int)∧Q (.int ns.sum) H):=by
 intro pins s σ H xs us Q I r h
 obtain ⟨p,ns,rfl,hq,q⟩:=h
 obtain ⟨u,rfl,rx⟩:=Qgo r
 cases rx
 obtain ⟨its,r',pl,hz⟩:=I.list hq
 have hi:IntsAre its ns:=Qlb r'
 obtain ⟨xs,hx⟩:=hi.allInts.items
 have hl':s.heap.IsList p (intItems xs):=hx ▸ pl.isList
 refine sum_intListG (I.ok.hd hc) hl' fun h' tk t' hk=>?_
 have e1:ns=xs.toList.map (·.1):=by
  rw [←nums_intItems,←hx]
  exact (show numsOf its.toArray.toList=ns from hi.numsOf).symm
 have e2:preSum (numAt xs) xs.size=ns.sum:=by
  rw [preSum_eq,List.take_of_length_le (by simp),e1]
 rw [e2]
 exact ⟨.int _,H,I.kept hk,⟨t',rfl⟩,q⟩
end
open PySem.AutoSeq1 (wpAny_loadPart')
theorem Same.upd {H:Hp} {a:Addr} {o:HO} (h:H a=none):Same H (upd H a o):=fun b u e=>by rw [Qz (Qbw e h)];exact e
theorem Qrs (l:Addr) (items:Array Value) (n:Nat) (x:Int) (u:Tok) (dd:Option Addr) (sl:Array (Option Value)) (h0:¬ (x < -(2^63)||x≥2^63)=true) (h1:¬ (items.isEmpty||x==1)=true) (h2:¬ (x≤0||items.isEmpty)=true) (h3:¬ items.size*x>(2^63-1) / 8) (h4:¬ Builtin.Tuple.tupleTooMany (items.size*x)=true)
  (hz:(List.foldl (fun x1 x2=>x1++x2) #[] (List.replicate x.toNat items)).size≤sizeLine) :
  Meets (Builtin.«tuple.__mul__» ⟨[.ref l,.int x u],[]⟩) (fun _ R s=>s.heap.get? l=some { cls:=.type "tuple",dict:=dd,data:=.seq items n,slots:=sl }∧R (.ok (.ret (Value.ref s.heap.objs.size))) { s with heap:=s.heap.push { cls:=Value.type "tuple",data:=Data.seq (List.foldl (fun x1 x2=>x1++x2) #[] (List.replicate x.toNat items)) },toks:=s.toks }) :=
 .of_wp fun prog w A R s h=>by
  obtain ⟨hp,g,d,tk,os⟩:=s;obtain ⟨hl,h⟩:=h;have f1:=AutoSeq1.idx_int
  wp_walk using wpAny_loadPart' hl
  rw [if_neg h0]
  wp_walk using wpAny_loadPart' hl
  rw [if_neg h3]
  wp_walk using wpAny_loadPart' hl
  exact ⟨_,rfl,h⟩
theorem Qpw (l:Addr) (items:Array Value) (n:Nat) (x:Int) (u:Tok) (dd:Option Addr) (sl:Array (Option Value)) (h0:¬ (x < -(2^63)||x≥2^63)=true) (h1:(items.isEmpty||x==1)=true) :
  Meets (Builtin.«tuple.__mul__» ⟨[.ref l,.int x u],[]⟩) (fun _ R s=>s.heap.get? l=some { cls:=.type "tuple",dict:=dd,data:=.seq items n,slots:=sl }∧R (.ok (.ret (Value.ref l))) s) :=
 .of_wp fun prog w A R s h=>by
  obtain ⟨hp,g,d,tk,os⟩:=s;obtain ⟨hl,h⟩:=h;have f1:=AutoSeq1.idx_int
  wp_walk using wpAny_loadPart' hl
  rw [if_neg h0]
  wp_walk using wpAny_loadPart' hl
  exact ⟨_,rfl,h⟩
theorem Qld (a:Int) (t:Tok) (l:Addr) (items:Array Value) (n:Nat) (dd:Option Addr) (sl:Array (Option Value)) :
  Meets (Builtin.«int.__rmul__» ⟨[.int a t,.ref l],[]⟩) (fun _ R s=>s.heap.get? l=some { cls:=.type "tuple",dict:=dd,data:=.seq items n,slots:=sl }∧R (.ok (.ret Value.notImplemented)) s) :=
 .of_wp fun prog w A R s h=>by obtain ⟨hp,g,d,tk,os⟩:=s;obtain ⟨hl,h⟩:=h;wp_walk;exact ⟨_,rfl,h⟩
theorem Qjg:fillsNumberSlot (.type "tuple") "mul" = pure false :=
 PySem.fillsNumberSlot_seq (id := "tuple.__mul__") (r:=some (.builtin "tuple.__rmul__")) F.slot_tuple_mul.lookup (by decide +kernel) F.slot_tuple_rmul.lookup (by decide +kernel)
theorem Qoa:seqRepeat? (.type "tuple")=pure (some (.builtin "tuple.__mul__")):=by
 unfold seqRepeat?
 rw [PySem.seqSlot_of (T := "tuple") (name := "__mul__") (id := "tuple.__mul__") F.slot_tuple_mul.lookup (by decide +kernel),PySem.seqSlot_of (T := "tuple") (name := "__rmul__") (id := "tuple.__rmul__") F.slot_tuple_rmul.lookup (by decide +kernel)]
 rfl
section
variable {X:Cx}
noncomputable def Q3n (K:PySem.W.Frag):R2:=fun x y H Q=>∃ a b xs ys,x=.ref a∧y=.ref b∧H a=some (.tup xs)∧H b=some (.tup ys)∧xs.length+ys.length≤sizeLine∧∀ p H',Same H H'→H' p=some (.tup (xs++ys))→(p=a∨p=b∨H p=none)→Q (.ref p) H'
theorem Q1a:OpR X (binaryOp .Add) (Q3n X.K):=by
 intro pins s σ H x y v u Q I rx ry h
 obtain ⟨a,b,xs,ys,rfl,rfl,ha,hb,hz,q⟩:=h
 by_cases hx:xs=[]
 ·cases rx
  cases ry
  subst hx
  obtain ⟨its,r1,⟨⟨cls,dd,data,sl⟩,e1,hc,n,hd⟩,_⟩:=I.tuple (SqT.of ha)
  obtain ⟨its2,r2,⟨⟨cls2,dd2,data2,sl2⟩,e2,hc2,n2,hd2⟩,_⟩:=I.tuple (SqT.of hb)
  simp only at hc hd hc2 hd2
  subst hc hd hc2 hd2
  cases r1
  exact concat_meets ⟨_,e1,rfl⟩ ⟨_,e2,rfl⟩ noFill_tuple_add seq_tuple_add PySem.F.slot_tuple_add PySem.F.entry_tuple_add (PySem.F.args_tuple_add_2 _ _)
   (tuple_addW0 a b _ _ n n2 dd dd2 sl sl2 rfl) ⟨e1,e2,⟨.ref b,H,I,rfl,q b H (Same.refl H) hb (.inr (.inl rfl))⟩⟩
 ·refine Q00 pins s σ H _ _ v u Q I rx ry ⟨a,b,xs,ys,rfl,rfl,SqT.of ha,SqT.of hb,hx,hz,fun e=>q a H (Same.refl H) (by rw [ha,e,List.append_nil]) (.inl rfl),fun _ p hp=>q p _ (Same.upd hp) Qp (.inr (.inr hp))⟩
noncomputable def Q9a (K:PySem.W.Frag):V→Option Int→Option Int→Hp→VK→Prop:=fun x lo hi H Q=>∃ a xs,x=.ref a∧H a=some (.tup xs)∧∀ p H',Same H H'→H' p=some (.tup (Qh0 xs lo hi))→(p=a∨H p=none)→Q (.ref p) H'
theorem Q1b:SlR X (Q9a X.K):=by
 intro pins s σ H x v vl vu lo hi sl Q I rx hs pl pu h
 obtain ⟨a,xs,rfl,hx,q⟩:=h
 by_cases hw:HT.sIx xs.length 0 lo=0∧HT.sIx xs.length xs.length hi=xs.length
 ·cases rx
  obtain ⟨its,r,ht,hz⟩:=I.tuple (SqT.of (K:=X.K) hx)
  have hlen:its.toArray.size=xs.length:=by rw [List.size_toArray];exact r.length.symm
  refine ⟨"tuple",_,PyProof.Rows.slot_tuple_getitem.lookup,ht.typeIs,?_⟩
  have hcut:Qh0 xs lo hi=xs:=by
   unfold Qh0
   rw [hw.1,hw.2,List.drop_zero,Nat.sub_zero,List.take_length]
  obtain ⟨os,hos,hcs,hds⟩:=id hs
  have hTs:s.TypeIs (.ref sl) "slice" := ⟨os,hos,hcs⟩
  unfold getItem
  try with_reducible refine wpAny_holding ?_
  first | refine wpAny_bind (wpAny_pure ?_) | skip
  refine wpAny_bind (wpAny_sequenceKey ht.typeIs (by decide) ?_)
  refine wpAny_bind (wpAny_callSpecial?_slot (name:=Str.ofString "__getitem__") ht.typeIs PyProof.Rows.slot_tuple_getitem
   (wpAny_call_entry PyProof.Rows.slot_tuple_getitem ht.typeIs entry_tuple_getitem ?_ (args_tuple_getitem _ _)))
  show wpAny _ _ (Builtin.Tuple.tupleItemsOf (.ref a) >>= _) _ _ s
  refine wpAny_bind (tupleItemsOf_ ht ?_)
  refine wpAny_bind (wpAny_typeOf hTs ?_)
  rw [if_pos (by decide)]
  refine wpAny_bind (HT.sliceApplied_gen hs pl pu ?_)
  rw [hlen,hw.1,hw.2]
  show wpAny _ _ (if ((((0:Nat):Int)==0&&(1:Int)==1&&(xs.length-0)==xs.length)=true) then _ else _) _ _ s
  rw [if_pos (by simp)]
  have fin:EP X pins σ Q (.ref a) s:=⟨.ref a,H,I,rfl,q a H (Same.refl H) (by rw [hcut];exact hx) (.inl rfl)⟩
  refine wpAny_bind (wpAny_bind (wpAny_typeOf ht.typeIs (wpAny_pure ?_)))
  rw [if_pos (by decide)]
  exact wpAny_bind (wpAny_rule (wpAny_pure ⟨_,rfl,wpAny_pure fin⟩))
 ·exact Q5s pins s σ H _ v vl vu lo hi sl Q I rx hs pl pu ⟨a,xs,rfl,SqT.of hx,hw,fun p hp=>q p _ (Same.upd hp) Qp (.inr hp)⟩
end
open PySem.AutoSeq1 (wpAny_loadPart')
section
variable {X:Cx}
noncomputable def Q3o:R2:=fun x y H Q=>∃ a k xs,x=.ref a∧y=.int k∧H a=some (.tup xs)∧xs≠[]∧1≤k∧k<2^31∧xs.length*k.toNat≤sizeLine∧∀ p H',Same H H'→H' p=some (.tup (List.replicate k.toNat xs).flatten)→(p=a∨H p=none)→Q (.ref p) H'
theorem Q1c:OpR X (binaryOp .Mult) Q3o:=by
 intro pins s σ H x y v u Q I rx ry h
 obtain ⟨a,k,xs,rfl,rfl,hH,hne,h1,h2,hz,q⟩:=h
 cases rx
 obtain ⟨t,rfl⟩:=ry
 obtain ⟨its,r,⟨⟨cls,dd,data,sl⟩,e,hc,n,hd⟩,_⟩:=I.tuple (SqT.of (K:=X.K) hH)
 simp only at hc hd
 subst hc hd
 have hl:=r.length
 have hn0:its≠[]:=fun z=>hne (r.nil_iff.mp z)
 have hem:its.toArray.isEmpty=false:=by
  cases its with
  | nil=>exact absurd rfl hn0
  | cons _ _=>rfl
 have h0:¬ (decide (k < -(2^63))||decide (k≥2^63))=true:=by
  simp only [Bool.or_eq_true,decide_eq_true_eq]
  omega
 refine wpAny_binaryOp_repeat_ref (T := "tuple") (U := "int") (by decide) ⟨_,e,rfl⟩ (fun s'=>typeIs_int s' k t) Qjg F.fills_int_mul F.slot_int_rmul Qoa F.slot_int_index.lookup
  (call_meets F.slot_int_rmul (typeIs_int s k t) F.entry_int_rmul (F.args_int_rmul_2 _ _) (Qld k t a its.toArray n dd sl) ⟨e,rfl,⟨_,e,rfl⟩,?_⟩)
 by_cases hk:k=1
 ·subst hk
  refine call_meets F.slot_tuple_mul ⟨_,e,rfl⟩ F.entry_tuple_mul (F.args_tuple_mul_2 _ _) (Qpw a its.toArray n 1 t dd sl h0 (by simp)) ⟨e,?_⟩
  exact ⟨.ref a,H,I,rfl,q a H (Same.refl H) (by rw [hH];simp) (.inl rfl)⟩
 ·have hlen:its.toArray.size*k.toNat≤sizeLine:=by rw [List.size_toArray,←hl];exact hz
  have hki:(its.toArray.size:Int)*k=((its.toArray.size*k.toNat:Nat):Int):=by
   rw [Int.natCast_mul,Int.toNat_of_nonneg (by omega)]
  have hs:sizeLine=16777216:=sizeLine_eq
  have hnew:List.foldl (fun x1 x2=>x1++x2) #[] (List.replicate k.toNat its.toArray)=(List.replicate k.toNat its).flatten.toArray:=by
   have:=Qjd its k.toNat []
   rw [List.nil_append] at this
   exact this
  refine call_meets F.slot_tuple_mul ⟨_,e,rfl⟩ F.entry_tuple_mul (F.args_tuple_mul_2 _ _) (Qrs a its.toArray n k t dd sl h0 (by rw [hem];simpa using hk) (by rw [hem];simp;omega)
   (by rw [hki];omega) (by rw [hki];unfold Builtin.Tuple.tupleTooMany;rw [decide_eq_true_eq];omega) (by rw [hnew,List.size_toArray,Qii,←hl,Nat.mul_comm];exact hz)) ⟨e,?_⟩
  rw [hnew]
  have I2:Inv X pins σ (upd H s.heap.objs.size (.tup (List.replicate k.toNat xs).flatten)) { s with heap:=s.heap.push { cls:=.type "tuple",data:=.seq (List.replicate k.toNat its).flatten.toArray },toks:=s.toks } :=
   I.laid (fun b o e=>Heap.get?_push_of_some _ e) (Nat.le_refl _) ⟨by rw [Qii,Nat.mul_comm];exact hz,_,r.rep k.toNat,IsTupD.new _ _⟩
  exact ⟨.ref _,_,I2,rfl,q _ _ (Same.upd I.fresh) Qp (.inr I.fresh)⟩
theorem Qpx (n:Nat):Builtin.Slice.slicePlaces ((n:Int)-1) (-1) (-1)=n:=by
 unfold Builtin.Slice.slicePlaces
 rw [if_neg (by decide)]
 by_cases h:(n:Int)-1 > -1
 ·rw [if_pos h]
  simp only [Int.neg_neg,Int.ediv_one]
  omega
 ·rw [if_neg h]
  omega
theorem Qhr {α β:Type} {f:α→Option β} {g:α→β}:∀ (l:List α),(∀ m∈l,f m=some (g m))→l.filterMap f=l.map g
 | [],_=>rfl
 | m::r,h=>by
  rw [List.filterMap_cons,h m List.mem_cons_self,List.map_cons,Qhr r fun z hz=>h z (List.mem_cons_of_mem _ hz)]
theorem Qin {prog:Program} {w:World} {A:Around} {E:Value→Shared→Prop} {s:Shared} {sl:Addr} {t:Tok} {n:Nat} {Q:Int×Int×Nat→Shared→Prop} (hs:s.heap.IsSliceOf sl .none .none (.int (-1) t))
  (h:Q ((n:Int)-1,-1,n) s):wpAny (model prog w) A (Builtin.Slice.sliceApplied (.ref sl) (pure (n:Int))) Q E s:=by
 obtain ⟨os,hos,hcs,hds⟩:=id hs
 unfold Builtin.Slice.sliceApplied Builtin.Slice.sliceFields
 refine wpAny_bind (wpAny_bind (wpAny_field hos hds (x:=.none) rfl (wpAny_bind (wpAny_field hos hds (x:=.none) rfl (wpAny_bind (wpAny_field hos hds (x:=.int (-1) t) rfl (wpAny_pure ?_)))))))
 refine wpAny_bind (HT.slicePart_ (.int (-1) t) ?_)
 show wpAny _ _ (if ((-1:Int)==0)=true then _ else _) _ _ s
 rw [if_neg (by decide)]
 refine wpAny_bind (HT.slicePart_ .none (wpAny_bind (HT.slicePart_ .none (wpAny_bind (wpAny_pure ?_)))))
 show wpAny _ _ (pure (((n:Int)-1),(-1:Int),Builtin.Slice.slicePlaces ((n:Int)-1) (-1) (-1))) _ _ s
 rw [Qpx]
 exact wpAny_pure h
theorem Qu8 (xs:List Value):((List.range xs.length).filterMap fun (m:Nat)=>xs.toArray[(((xs.length:Int)-1)+(m:Int)*(-1)).toNat]?).toArray=xs.reverse.toArray:=by
 congr 1
 apply List.ext_getElem?
 intro i
 have e:(List.range xs.length).filterMap (fun (m:Nat)=>xs.toArray[(((xs.length:Int)-1)+(m:Int)*(-1)).toNat]?)=(List.range xs.length).map (fun m=>xs.getD (xs.length-1-m) .none):=by
  apply Qhr
  intro m hm
  have hm:=List.mem_range.mp hm
  have q:(((xs.length:Int)-1)+(m:Int)*(-1)).toNat=xs.length-1-m:=by omega
  rw [q]
  simp only [List.getElem?_toArray,Function.comp]
  rw [List.getD_eq_getElem?_getD,List.getElem?_eq_getElem (by omega)]
  rfl
 rw [e]
 by_cases hi:i<xs.length
 ·rw [List.getElem?_map,List.getElem?_range hi,List.getElem?_reverse hi]
  simp only [Option.map_some]
  rw [List.getD_eq_getElem?_getD,List.getElem?_eq_getElem (by omega)]
  rfl
 ·rw [List.getElem?_eq_none (by simp;omega),List.getElem?_eq_none (by simp;omega)]
noncomputable def Q9b (x:V) (H2:Hp) (Q:VK):Prop:=∃ a xs,x=.ref a∧H2 a=some (.tup xs)∧∀ p H',Same H2 H'→H' p=some (.tup xs.reverse)→Q (.ref p) H'
noncomputable abbrev Q9c (te ts:TE):TE:=fun σ H Q=>te σ H fun x H1=>ts σ H1 fun y H2=>y=.int (-1)∧Q9b x H2 Q
theorem Q5z {e st:Expr} {te ts:TE} {pos p2:Pos} (he:PE X e te) (hst:PE X st ts):PE X (.Subscript e (.Slice none none (some st) p2) pos) (Q9c te ts):=by
 intro pins s σ H Q I h
 refine Subscript_ (thn (he pins s σ H _ I h) fun v s1 ⟨x,H1,I1,r1,q1⟩=>?_)
 refine wpAny_Slice ?_
 rw [evalPart_none]
 refine wpAny_pure (wpAny_pure ?_)
 rw [evalPart_some]
 refine thn (hst pins s1 σ H1 _ I1 q1) fun vs s3 ⟨y,H3,I3,r3,q3⟩=>?_
 obtain ⟨rfl,a,xs,rfl,hx,q⟩:=q3
 obtain ⟨t,rfl⟩:=r3
 cases r1
 have I4:Inv X pins σ H3 { s3 with heap:=s3.heap.push { cls:=.type "slice",data:=.fields #[.none,.none,.int (-1) t] } }:=I3.kept (t':=s3.toks) fun b ob q=>Heap.get?_push_of_some _ q
 generalize hs4:({ s3 with heap:=s3.heap.push { cls:=.type "slice",data:=.fields #[.none,.none,.int (-1) t] } }:Shared)=s4 at I4
 have hs:s4.heap.IsSliceOf s3.heap.objs.size .none .none (.int (-1) t):=by rw [←hs4];exact Heap.IsSliceOf.new ..
 obtain ⟨its,r,ht,hz⟩:=I4.tuple (SqT.of (K:=X.K) hx)
 have hlen:its.length=xs.length:=r.length.symm
 have hg:wpAny (model X.prog X.w) X.A (getItem (.ref a) (.ref s3.heap.objs.size)) (EP X pins σ Q) X.xe s4:=by
  obtain ⟨os,hos,hcs,hds⟩:=id hs
  have hTs:s4.TypeIs (.ref s3.heap.objs.size) "slice" := ⟨os,hos,hcs⟩
  unfold getItem
  try with_reducible refine wpAny_holding ?_
  first | refine wpAny_bind (wpAny_pure ?_) | skip
  refine wpAny_bind (wpAny_sequenceKey ht.typeIs (by decide) ?_)
  refine wpAny_bind (wpAny_callSpecial?_slot (name:=Str.ofString "__getitem__") ht.typeIs PyProof.Rows.slot_tuple_getitem
   (wpAny_call_entry PyProof.Rows.slot_tuple_getitem ht.typeIs entry_tuple_getitem ?_ (args_tuple_getitem _ _)))
  show wpAny _ _ (Builtin.Tuple.tupleItemsOf (.ref a) >>= _) _ _ s4
  refine wpAny_bind (tupleItemsOf_ ht ?_)
  refine wpAny_bind (wpAny_typeOf hTs ?_)
  rw [if_pos (by decide)]
  rw [show ((its.toArray.size:Nat):Int)=(its.length:Int) by rw [List.size_toArray]]
  refine wpAny_bind (Qin hs ?_)
  have hno:¬ ((((its.length:Int)-1)==0&&(-1:Int)==1&&its.length==its.toArray.size)=true):=by simp
  show wpAny _ _ (if ((((its.length:Int)-1)==0&&(-1:Int)==1&&its.length==its.toArray.size)=true) then _ else _) _ _ s4
  rw [if_neg hno,Qu8]
  have fin:EP X pins σ Q (.ref s4.heap.objs.size) { s4 with heap:=s4.heap.push { cls:=.type "tuple",data:=.seq its.reverse.toArray } }:=by
   refine ⟨.ref s4.heap.objs.size,_,I4.laid (t':=s4.toks) (o:=.tup xs.reverse) (fun b ob q=>Heap.get?_push_of_some _ q) (Nat.le_refl _) ?_,rfl,q _ _ (Same.upd I4.fresh) Qp⟩
   exact ⟨by rw [List.length_reverse];exact hz,_,r.reverse,IsTupD.new _ _⟩
  have htake:sizeOk (.seq its.reverse.toArray):=by
   show its.reverse.toArray.size≤sizeLine
   rw [List.size_toArray,List.length_reverse,hlen]
   exact hz
  first
   | exact wpAny_bind (m:=Builtin.Tuple.tupleExact _) (wpAny_newObj_type (wpAny_pure ⟨_,rfl,wpAny_pure fin⟩) htake)
   | exact wpAny_bind (m:=Builtin.Tuple.tupleExact _) (wpAny_newObj_type (wpAny_bind (wpAny_pure (wpAny_pure ⟨_,rfl,wpAny_pure fin⟩))) htake)
   | exact wpAny_bind (wpAny_bind (m:=Builtin.Tuple.tupleExact _) (wpAny_newObj_type (wpAny_pure (wpAny_pure ⟨_,rfl,wpAny_pure fin⟩)) htake))
   | exact wpAny_bind (wpAny_bind (m:=Builtin.Tuple.tupleExact _) (wpAny_newObj_type (wpAny_pure ⟨_,rfl,wpAny_pure fin⟩) htake))
 rw [←hs4] at hg ht ⊢
 exact tail_any (ops:=[.ref a,.ref s3.heap.objs.size]) ht.typeIs PyProof.Rows.slot_tuple_getitem.lookup hg (by with_unfolding_all rfl)
end
section
variable {X:Cx}
theorem Qu9 {j:Int} (h0:0<j) (h:j<2^64):j.natAbs.log2<9000:=by
 have h1:j.natAbs≠0:=by omega
 have h2:j.natAbs.log2<64:=(Nat.log2_lt h1).mpr (by omega)
 omega
noncomputable def CDv (i j:Int):Prop:=0<j∧j<2^64
theorem Qxe:CallR X (.builtin "divmod") (fun xs H Q=>∃ i j,xs=[.int i,.int j]∧CDv i j∧∀ p,H p=none→Q (.ref p) (upd H p (.tup [.int (i / j),.int (i%j)]))):=by
 intro pins s σ H xs us Q I r h
 obtain ⟨i,j,rfl,⟨h1,h2⟩,q⟩:=h
 obtain ⟨u,w',rfl,⟨t,rfl⟩,⟨t',rfl⟩⟩:=Qm4 r
 refine divmod_int (by omega) ?_ (.inl (PyProof.noPylong_of_log2 (Qu9 h1 h2)))
 rw [Int.fdiv_eq_ediv_of_nonneg i (by omega),Int.fmod_eq_emod_of_nonneg i (by omega)]
 have hn:H s.heap.objs.size=none:=I.hok.fresh (Nat.le_refl _)
 refine ⟨.ref s.heap.objs.size,_,?_,rfl,q _ hn⟩
 refine I.laid (fun b o e=>Heap.get?_push_of_some _ e) (Nat.le_refl _) ⟨by simp only [List.length_cons,List.length_nil];rw [sizeLine_eq];decide,[.int (i / j) s.toks,.int (i%j) (s.toks+1)],.cons ⟨_,rfl⟩ (.cons ⟨_,rfl⟩ .nil),?_⟩
 exact ⟨_,Heap.get?_push_size s.heap rfl,rfl,0,rfl,rfl⟩
noncomputable def Qna (K:PySem.W.Frag):R2:=fun x y H Q=>(rI0 fun i j=>.int (i+j)) x y H Q∨Q85 x y H Q∨Q3n K x y H Q
theorem uAdd:OpR X (binaryOp .Add) (Qna X.K):=Q5j.or (Q5x.or Q1a)
noncomputable def Q3p:R2:=fun x y H Q=>(rI CMul fun i j=>.int (i*j)) x y H Q∨Q86 x y H Q∨Q3o x y H Q
theorem uMul:OpR X (binaryOp .Mult) Q3p:=Q5l.or (Q5y.or Q1c)
noncomputable abbrev Qva (K:PySem.W.Frag) (tl:TE):TI:=fun σ H R=>tl σ H fun x H1=>∃ a,x=.ref a∧(((∃ xs,SqL K H1 a xs)∧R (Itl K a) H1)∨((∃ xs,SqT K H1 a xs)∧R (Itt K a) H1))
theorem Q50 {tg l:Expr} {tl:TE} (hl:PE X l tl):PI X tg l (Qva X.K tl):=by
 intro pins s σ H R I h
 refine thn (hl pins s σ H _ I h) fun v s1 ⟨x,H1,I1,r1,q1⟩=>?_
 obtain ⟨a,e,q⟩:=q1
 subst e
 cases r1
 rcases q with ⟨⟨xs,hq⟩,q⟩ | ⟨⟨xs,hq⟩,q⟩
 ·obtain ⟨its,rv,p,hz⟩:=I1.list hq
  refine wpAny_pyIter_list p.isList ?_
  refine ⟨s1.heap.objs.size,[s1.heap.objs.size],_,_,H1,rfl,I1.kept (t':=s1.toks) fun b o e=>Heap.get?_push_of_some _ e,Qux a _,⟨_,Heap.get?_push_size _ rfl,rfl,rfl⟩,fun b hb=>?_,q⟩
  have e:b=s1.heap.objs.size:=by simpa using hb
  subst e
  exact I1.fpOk (Nat.le_refl _) (I1.hok.fresh (Nat.le_refl _))
 ·obtain ⟨its,rv,p,hz⟩:=I1.tuple hq
  refine wpAny_pyIter_tuple (show s1.heap.IsTuple a its.toArray from p) ?_
  refine ⟨s1.heap.objs.size,[s1.heap.objs.size],_,_,H1,rfl,I1.kept (t':=s1.toks) fun b o e=>Heap.get?_push_of_some _ e,Qrn a _,⟨_,Heap.get?_push_size _ rfl,rfl,rfl⟩,fun b hb=>?_,q⟩
  have e:b=s1.heap.objs.size:=by simpa using hb
  subst e
  exact I1.fpOk (Nat.le_refl _) (I1.hok.fresh (Nat.le_refl _))
noncomputable def Q1d (K:PySem.W.Frag):V→Option Int→Option Int→Hp→VK→Prop:=fun x lo hi H Q=>Q83 K x lo hi H Q∨Q9a K x lo hi H Q
theorem uSl:SlR X (Q1d X.K):=Q02.or Q1b
end
structure Dfn (K:PySem.W.Frag) (mg:Str→Option Value) (x:Str) (st:Stmt):Prop where
 ex:∃ f fd,Fun K x x st f fd∧mg x=some (.ref f)
noncomputable def Has (P:Program) (w:World) (K:PySem.W.Frag) (mg:Str→Option Value) (base:Heap) (x:Str) (ps:List Str) (k:Nat) (sp:Sp):Prop :=
 ∃ f fd,PySem.W.keepIn K (.ref f)=true∧mg x=some (.ref f)∧Binds K fd ps []∧FnOk P w K mg base CX0 k f fd ps sp
noncomputable def Q7 (x:Str) (st:Stmt) (ps:List Str):Prop:=∀ (kV doc pm:Value) (an:Option Addr) (cdv ct:Value) (us:List Value),us.length=ps.length→bindArgs (PySem.W.fnOf x x (Qa3 st) (Q9 st) (Qf st) .none kV doc pm an cdv ct) ⟨us,[]⟩=pure (ps.zip us)
section
variable {P:Program} {w:World} {K:PySem.W.Frag} {mg:Str→Option Value} {base:Heap}
theorem Q51 {x:Str} {st:Stmt} {N ps:List Str} {k:Nat} {sp:Sp} (d:Dfn K mg x st) (S:FnScope N ps (Qf st)) (bd:Q7 x st ps) (len:∀ vs H Q E,sp vs H Q E→vs.length=ps.length)
  (hbody:∀ (f:Addr) (cdv:Value) (A:Around) (outer:List Env) (s:Shared) (H:Hp) (vs:List V) (Q:VK) (E:XK),Room k (A.deeper (envOfC x (Qf st) s.heap.objs.size f cdv))→sp vs H Q E →
   ∃ t,PSs (Qhn (fun _=>true) CX0 P w K mg base N x (Qf st) f cdv A outer s H E).nox (Q9 st) t∧t { nx:=fun _ H'=>Q .non H',rt:=Q } (Qbj N vs) H):Has P w K mg base x ps (k+1) sp:=by
 obtain ⟨f,fd,F,m⟩:=d.ex
 exact ⟨f,fd,F.kp,m,F.binds bd,F.ok S len fun cdv A outer s H vs Q E hr hs=>hbody f cdv A outer s H vs Q E hr hs⟩
end
theorem Qxf {X:Cx} {x:Str} {ps:List Str} {k:Nat} {sp:Sp} {e:Expr} {es:List Expr} {t:TA} {p pos:Pos} (h:Has X.prog X.w X.K X.mg X.base x ps k sp) (hr:Room k X.A) (ha:PA X (e::es) t) (hg:Gl X x:=by rfl)
  (hdb:(x==("__debug__" : Str))=false:=by decide) (he:starEach (e::es) X.env=(false,eval e X.env)::starEach es X.env:=by rfl) (hpl:(backTo pos (starEach es X.env)).any (·.1)=false:=by rfl) :
  PE X (.Call (.Name x p) (e::es) [] pos) (Qm5 sp [] E0 t):=by
 obtain ⟨f,fd,kp,m,b,F⟩:=h
 exact Q0y F hr hg m kp b .nil Q87 ha hdb he hpl
inductive T where
 | non | bl (b:Bool) | int (i:Int) | str (x:Str) | tup (ts:List T) | lst (ts:List T) | dct (ks:List Key) (ts:List T) | dtt (ks:List (List Int)) (ts:List T) | clo (k:Nat) (ts:List T)
noncomputable def kIs (ks:List Int):List Key:=ks.map Sum.inl
noncomputable def CellsAt (H:Hp):List Addr→List V→Prop
 | [],vs=>vs=[]
 | c::cs,vs=>∃ v r oc u w,vs=v::r∧H c=some (.frz oc w)∧oc.data=.cell (some u)∧RelV v u∧CellsAt H cs r
noncomputable def CloAt (H:Hp) (f:Addr) (l:LamT) (us:List V):Prop:=∃ cs c' pm ctv,cs.Nodup∧cs.length=l.caps.length∧H f=some (.frz (PySem.W.kla_obj "<lambda>" l.qual l.params l.body l.scope (l.caps.zip cs) pm c' ctv) (.own f))∧H c'=some (.cod l.qual)∧CellsAt H cs us
theorem CellsAt.mono {H H':Hp} (h:Same H H'):∀ {cs:List Addr} {vs:List V},CellsAt H cs vs→CellsAt H' cs vs
 | [],_,r=>r
 | c::cs,_,r=>by
  obtain ⟨v,w,oc,u,w',e,a,b,d,q⟩:=r
  exact ⟨v,w,oc,u,w',e,h _ _ a,b,d,CellsAt.mono h q⟩
theorem CloAt.mono {H H':Hp} (h:Same H H') {f:Addr} {l:LamT} {us:List V} (r:CloAt H f l us):CloAt H' f l us:=by
 obtain ⟨cs,c',pm,ctv,a,b,c,d,e⟩:=r
 exact ⟨cs,c',pm,ctv,a,b,h _ _ c,h _ _ d,e.mono h⟩
mutual
noncomputable def Is (H:Hp):V→T→Prop
 | v,.non=>v=.non
 | v,.bl b=>v=.bl b
 | v,.int i=>v=.int i
 | v,.str x=>v=.str x
 | v,.tup ts=>ts.length≤100000∧∃ a vs,v=.ref a∧H a=some (.tup vs)∧IsL H vs ts
 | v,.lst ts=>ts.length≤100000∧∃ a vs,v=.ref a∧H a=some (.lst vs)∧IsL H vs ts
 | v,.dct ks ts=>∃ a vs,v=.ref a∧H a=some (.dK (ks.zip vs))∧ks.length=vs.length∧IsL H vs ts
 | v,.dtt ks ts=>ks.length≤100000∧∃ a vs,v=.ref a∧H a=some (.dT ((ks.map kIs).zip vs))∧ks.length=vs.length∧IsL H vs ts
 | v,.clo k ts=>∃ f us l,v=.ref f∧Qxa.lookup k=some l∧CloAt H f l us∧IsL H us ts
noncomputable def IsL (H:Hp):List V→List T→Prop
 | vs,[]=>vs=[]
 | vs,t::ts=>∃ v r,vs=v::r∧Is H v t∧IsL H r ts
end
mutual
theorem Is.mono {H H':Hp} (h:Same H H'):∀ {v:V} {t:T},Is H v t→Is H' v t
 | v,.non,r=>by unfold Is at r ⊢;exact r
 | v,.bl b,r=>by unfold Is at r ⊢;exact r
 | v,.int i,r=>by unfold Is at r ⊢;exact r
 | v,.str x,r=>by unfold Is at r ⊢;exact r
 | v,.tup ts,r=>by
  unfold Is at r ⊢
  obtain ⟨z,a,vs,e,ha,q⟩:=r
  exact ⟨z,a,vs,e,h _ _ ha,IsL.mono h q⟩
 | v,.lst ts,r=>by
  unfold Is at r ⊢
  obtain ⟨z,a,vs,e,ha,q⟩:=r
  exact ⟨z,a,vs,e,h _ _ ha,IsL.mono h q⟩
 | v,.dct ks ts,r=>by
  unfold Is at r ⊢
  obtain ⟨a,vs,e,ha,l,q⟩:=r
  exact ⟨a,vs,e,h _ _ ha,l,IsL.mono h q⟩
 | v,.dtt ks ts,r=>by
  unfold Is at r ⊢
  obtain ⟨z,a,vs,e,ha,l,q⟩:=r
  exact ⟨z,a,vs,e,h _ _ ha,l,IsL.mono h q⟩
 | v,.clo l ts,r=>by
  unfold Is at r ⊢
  obtain ⟨f,us,l,e,k,c,q⟩:=r
  exact ⟨f,us,l,e,k,c.mono h,IsL.mono h q⟩
theorem IsL.mono {H H':Hp} (h:Same H H'):∀ {vs:List V} {ts:List T},IsL H vs ts→IsL H' vs ts
 | vs,[],r=>by unfold IsL at r ⊢;exact r
 | vs,t::ts,r=>by
  unfold IsL at r ⊢
  obtain ⟨v,w,e,a,b⟩:=r
  exact ⟨v,w,e,Is.mono h a,IsL.mono h b⟩
end
theorem IsL.nil {H:Hp}:IsL H [] []:=by unfold IsL;rfl
theorem IsL.cons {H:Hp} {v:V} {t:T} {vs:List V} {ts:List T} (a:Is H v t) (b:IsL H vs ts):IsL H (v::vs) (t::ts):=by unfold IsL;exact ⟨v,vs,rfl,a,b⟩
theorem IsL.cons_inv {H:Hp} {vs:List V} {t:T} {ts:List T} (r:IsL H vs (t::ts)):∃ v w,vs=v::w∧Is H v t∧IsL H w ts:=by unfold IsL at r;exact r
theorem IsL.nil_inv {H:Hp} {vs:List V} (r:IsL H vs []):vs=[]:=by unfold IsL at r;exact r
theorem IsL.length {H:Hp}:∀ {ts:List T} {vs:List V},IsL H vs ts→vs.length=ts.length
 | [],vs,r=>by rw [r.nil_inv];rfl
 | t::ts,vs,r=>by
  obtain ⟨v,w,rfl,_,q⟩:=r.cons_inv
  rw [List.length_cons,List.length_cons,q.length]
theorem IsL.get {H:Hp}:∀ {ts:List T} {vs:List V} {i:Nat} {v:V},IsL H vs ts→vs[i]?=some v→∃ t,ts[i]?=some t∧Is H v t
 | [],vs,i,v,r,e=>by rw [r.nil_inv] at e;simp at e
 | t::ts,vs,0,v,r,e=>by
  obtain ⟨x,w,rfl,a,q⟩:=r.cons_inv
  rw [List.getElem?_cons_zero] at e ⊢
  cases e
  exact ⟨t,rfl,a⟩
 | t::ts,vs,i+1,v,r,e=>by
  obtain ⟨x,w,rfl,a,q⟩:=r.cons_inv
  rw [List.getElem?_cons_succ] at e ⊢
  exact IsL.get q e
theorem IsL.getT {H:Hp}:∀ {ts:List T} {vs:List V} {i:Nat} {t:T},IsL H vs ts→ts[i]?=some t→∃ v,vs[i]?=some v∧Is H v t
 | [],vs,i,v,r,e=>by simp at e
 | t::ts,vs,0,v,r,e=>by
  obtain ⟨x,w,rfl,a,q⟩:=r.cons_inv
  rw [List.getElem?_cons_zero] at e ⊢
  cases e
  exact ⟨x,rfl,a⟩
 | t::ts,vs,i+1,v,r,e=>by
  obtain ⟨x,w,rfl,a,q⟩:=r.cons_inv
  rw [List.getElem?_cons_succ] at e ⊢
  exact IsL.getT q e
theorem IsL.append {H:Hp}:∀ {ts us:List T} {vs ws:List V},IsL H vs ts→IsL H ws us→IsL H (vs++ws) (ts++us)
 | [],us,vs,ws,r,q=>by rw [r.nil_inv];exact q
 | t::ts,us,vs,ws,r,q=>by
  obtain ⟨x,w,rfl,a,r⟩:=r.cons_inv
  exact .cons a (r.append q)
theorem IsL.reverse {H:Hp}:∀ {ts:List T} {vs:List V},IsL H vs ts→IsL H vs.reverse ts.reverse
 | [],vs,r=>by rw [r.nil_inv];exact .nil
 | t::ts,vs,r=>by
  obtain ⟨x,w,rfl,a,r⟩:=r.cons_inv
  rw [List.reverse_cons,List.reverse_cons]
  exact r.reverse.append (.cons a .nil)
theorem IsL.flat {H:Hp}:∀ (k:Nat) {ts:List T} {vs:List V},IsL H vs ts→IsL H (List.replicate k vs).flatten (List.replicate k ts).flatten
 | 0,ts,vs,r=>by simpa using IsL.nil
 | k+1,ts,vs,r=>by
  rw [List.replicate_succ,List.replicate_succ,List.flatten_cons,List.flatten_cons]
  exact r.append (IsL.flat k r)
theorem IsL.one {H:Hp} {v:V} {t:T} (a:Is H v t):IsL H [v] [t]:=.cons a .nil
theorem Is.int {H:Hp} {i:Int}:Is H (.int i) (.int i):=by unfold Is;rfl
theorem Is.bl {H:Hp} {b:Bool}:Is H (.bl b) (.bl b):=by unfold Is;rfl
theorem Is.non {H:Hp}:Is H .non .non:=by unfold Is;rfl
theorem Is.str {H:Hp} {x:Str}:Is H (.str x) (.str x):=by unfold Is;rfl
theorem Is.tup {H:Hp} {a:Addr} {vs:List V} {ts:List T} (h:H a=some (.tup vs)) (r:IsL H vs ts) (z:ts.length≤100000):Is H (.ref a) (.tup ts):=by unfold Is;exact ⟨z,a,vs,rfl,h,r⟩
theorem Is.lst {H:Hp} {a:Addr} {vs:List V} {ts:List T} (h:H a=some (.lst vs)) (r:IsL H vs ts) (z:ts.length≤100000):Is H (.ref a) (.lst ts):=by unfold Is;exact ⟨z,a,vs,rfl,h,r⟩
theorem Is.int_inv {H:Hp} {v:V} {i:Int} (r:Is H v (.int i)):v=.int i:=by unfold Is at r;exact r
theorem Is.tup_inv {H:Hp} {v:V} {ts:List T} (r:Is H v (.tup ts)):∃ a vs,v=.ref a∧H a=some (.tup vs)∧IsL H vs ts:=by unfold Is at r;exact r.2
theorem Is.tup_len {H:Hp} {v:V} {ts:List T} (r:Is H v (.tup ts)):ts.length≤100000:=by unfold Is at r;exact r.1
theorem Is.lst_len {H:Hp} {v:V} {ts:List T} (r:Is H v (.lst ts)):ts.length≤100000:=by unfold Is at r;exact r.1
theorem Is.lst_inv {H:Hp} {v:V} {ts:List T} (r:Is H v (.lst ts)):∃ a vs,v=.ref a∧H a=some (.lst vs)∧IsL H vs ts:=by unfold Is at r;exact r.2
theorem IsL.ints {H:Hp}:∀ (ns:List Int),IsL H (ns.map V.int) (ns.map T.int)
 | []=>.nil
 | n::ns=>.cons Is.int (IsL.ints ns)
theorem IsL.ints_inv {H:Hp}:∀ {ns:List Int} {vs:List V},IsL H vs (ns.map T.int)→vs=ns.map V.int
 | [],vs,r=>r.nil_inv
 | n::ns,vs,r=>by
  obtain ⟨x,w,rfl,a,r⟩:=r.cons_inv
  rw [a.int_inv,r.ints_inv]
  rfl
theorem Qcu {n:Nat} (h:n≤100000):n≤sizeLine:=by rw [sizeLine_eq];omega
noncomputable def del (H:Hp) (p:Addr):Hp:=fun b=>if b=p then none else H b
noncomputable def tyT:T→String
 | .non => "NoneType" | .bl _ => "bool" | .int _ => "int" | .str _ => "str" | .tup _ => "tuple" | .lst _ => "list" | .dct _ _ => "dict" | .dtt _ _ => "dict" | .clo _ _ => "function"
noncomputable def Qio:T→Bool
 | .clo _ _=>true
 | _=>false
theorem Is.tyOf {K:PySem.W.Frag} {H:Hp} {v:V} {t:T} (r:Is H v t) (hc:Qio t=false):TyOf K H v (.type (tyT t)):=by
 cases t with
 | non=>unfold Is at r;subst r;exact .non
 | bl b=>unfold Is at r;subst r;exact .bl b
 | int i=>unfold Is at r;subst r;exact .int i
 | str x=>unfold Is at r;subst r;exact .str x
 | tup ts=>obtain ⟨a,vs,rfl,h,_⟩:=r.tup_inv;exact .tup h
 | lst ts=>obtain ⟨a,vs,rfl,h,_⟩:=r.lst_inv;exact .lst h
 | dct ks ts=>unfold Is at r;obtain ⟨a,vs,rfl,h,_⟩:=r;exact .dK h
 | dtt ks ts=>unfold Is at r;obtain ⟨_,a,vs,rfl,h,_⟩:=r;exact .dT h
 | clo l ts=>cases hc
noncomputable def Qnb (a c:String):Bool:=a==c||(a == "bool" && c == "int")
theorem Q1e (K:PySem.W.Frag):∀ a∈["NoneType","bool","int","str","tuple","list","dict"],∀ c∈["int","bool","tuple","list","dict","str"],PySem.W.kitOne K (.type a) (.type c)=some (Qnb a c):=by
 intro a ha c hc
 simp only [List.mem_cons,List.not_mem_nil,or_false] at ha hc
 rcases ha with rfl | rfl | rfl | rfl | rfl | rfl | rfl <;> rcases hc with rfl | rfl | rfl | rfl | rfl | rfl <;> rfl
theorem Qvb {X:Cx}:CallR X (.builtin "isinstance") (fun xs H Q=>∃ x c t,xs=[x,.ty c]∧Is H x t∧Qio t=false∧c∈["int","bool","tuple","list","dict","str"]∧Q (.bl (Qnb (tyT t) c)) H):=by
 intro pins s σ H xs us Q I r h
 obtain ⟨x,c,t,e,ty,nc,hc,q⟩:=h
 refine Qpt pins s σ H xs us Q I r ⟨x,c,_,_,e,ty.tyOf nc,Q1e X.K (tyT t) ?_ c hc,q⟩
 cases t <;> first | (cases nc;done) | simp [tyT]
noncomputable def Qae:Expr→Bool
 | .Starred _ _=>false
 | _=>true
theorem Qcl {e:Expr} {es:List Expr} {env:Env} (h:Qae e=true):starEach (e::es) env=(false,eval e env)::starEach es env:=by
 cases e <;> first | rfl | exact absurd h Bool.false_ne_true
theorem paC {X:Cx} {e:Expr} {es:List Expr} {te:TE} {t:TA} (ha:PE X e te) (hr:PA X es t) (hs:Qae e=true:=by rfl):PA X (e::es) (Qgp te t):=Q0x ha hr (Qcl hs)
noncomputable def frp (H H':Hp):Hp:=fun b=>if (H b).isSome=true then none else H' b
theorem Qkt {H H':Hp} {b:Addr} {o:HO} (h:H b=none) (e:H' b=some o):frp H H' b=some o:=by unfold frp;rw [h];exact e
theorem Qle {H H':Hp} {b:Addr} {o:HO} (e:frp H H' b=some o):H b=none∧H' b=some o:=by
 unfold frp at e
 by_cases h:(H b).isSome=true
 ·rw [if_pos h] at e;cases e
 ·rw [if_neg h] at e
  refine ⟨?_,e⟩
  cases q:H b with
  | none=>rfl
  | some u=>rw [q] at h;simp at h
theorem Qjh {H H1 H2:Hp} (h:Same H1 H2):Same (frp H H1) (frp H H2):=fun b o e=>by
 obtain ⟨a,c⟩:=Qle e
 exact Qkt a (h b o c)
theorem Qxg {H H1 H2:Hp} (h:Same H H1):Same (frp H1 H2) (frp H H2):=fun b o e=>by
 obtain ⟨a,c⟩:=Qle e
 exact Qkt (h.free a) c
noncomputable abbrev tTh (t:T):TE:=fun _ H Q=>∀ v H',Same H H'→Is (frp H H') v t→Q v H'
noncomputable abbrev Qob (ts:List T):TA:=fun _ H Q=>∀ vs H',Same H H'→IsL (frp H H') vs ts→Q vs H'
section
variable {X:Cx} {e a b:Expr} {es:List Expr} {t:T} {ts:List T} {pos:Pos}
theorem PE.weak {te te':TE} (h:PE X e te) (q:∀ σ H Q,te' σ H Q→te σ H Q):PE X e te':=fun pins s σ H Q I hq=>h pins s σ H Q I (q _ _ _ hq)
theorem PA.weak {ta ta':TA} (h:PA X es ta) (q:∀ σ H Q,ta' σ H Q→ta σ H Q):PA X es ta':=fun pos pins s σ H Q I hq=>h pos pins s σ H Q I (q _ _ _ hq)
theorem Q52 {x j pos}:PE X (.Constant (.str x) j pos) (tTh (.str x)):=Qwk.weak fun _ H _ q=>q _ H (Same.refl H) Is.str
theorem Q1f:PA X [] (Qob []):=Qw1.weak fun _ H _ q=>q [] H (Same.refl H) .nil
theorem Qxh (ha:PE X e (tTh t)) (hr:PA X es (Qob ts)) (hs:Qae e=true:=by rfl):PA X (e::es) (Qob (t::ts)) :=
 (paC ha hr hs).weak fun σ H Q q v H1 s1 r1 vs H2 s2 r2=>q (v::vs) H2 (s1.trans s2) (.cons (r1.mono (Qjh s2)) (r2.mono (Qxg s1)))
theorem th_tup {x1} (h:PA X es (Qob ts)) (hz:Nat.ble ts.length 1000=true:=by rfl):PE X (.Tuple es x1 pos) (tTh (.tup ts)) :=
 (Qw2 h).weak fun σ H Q q vs H1 s1 r1=>by
  have hl:=r1.length
  have hz:=Nat.le_of_ble_eq_true hz
  refine ⟨by rw [hl,sizeLine_eq];omega,fun p hp=>q _ _ (s1.trans (Same.upd hp)) (.tup (Qkt (s1.free hp) Qp) (r1.mono (Qjh (Same.upd hp))) (by omega))⟩
theorem Q53 (h:PA X es (Qob ts)) (hz:Nat.ble ts.length 1000=true:=by rfl):PE X (.List es pos) (tTh (.lst ts)) :=
 (Qw3 h).weak fun σ H Q q vs H1 s1 r1=>by
  have hl:=r1.length
  have hz:=Nat.le_of_ble_eq_true hz
  refine ⟨by rw [hl,sizeLine_eq];omega,fun p hp=>q _ _ (s1.trans (Same.upd hp)) (.lst (Qkt (s1.free hp) Qp) (r1.mono (Qjh (Same.upd hp))) (by omega))⟩
end
structure Wk (J:It) (xs:List V) (P:Hp→Prop):Prop where
 go:∀ i H,i<xs.length→P H→J.go i H
 yld:∀ i H x H',i<xs.length→P H→J.yld i H x H'→H'=H∧xs[i]?=some x
 stop:∀ i H,xs.length≤i→P H→J.stop i H
 mono:∀ H H',Same H H'→P H→P H'
section
variable {X:Cx}
noncomputable def Q54 (K:PySem.W.Frag):List V→Hp→VK→Prop:=fun xs H Q=>∃ p ys,xs=[.ref p]∧(SqL K H p ys∨SqT K H p ys)∧Q (.int ys.length) H
theorem kLen (K:PySem.W.Frag) (hK:X.K=K):CallR X (.builtin "len") (Q54 K):=by subst hK;exact Qn8
noncomputable def Q55 (K:PySem.W.Frag):List V→Hp→VK→Prop:=fun xs H Q=>∃ p ys,xs=[.ref p]∧SqL K H p ys∧ys.all Qpv=true∧Q (.bl (ys.all Qpu)) H
theorem kAll (K:PySem.W.Frag) (hK:X.K=K) (hc:X.calm=true):CallR X (.builtin "all") (Q55 K):=by subst hK;exact Qxd hc
noncomputable def Qxi (K:PySem.W.Frag):List V→Hp→VK→Prop:=fun xs H Q=>∃ (p:Addr) (ns:List Int),xs=[.ref p]∧SqL K H p (ns.map V.int)∧ns≠[]∧∀ M,M∈ns→(∀ a∈ns,a≤M)→Q (.int M) H
theorem Q9d (K:PySem.W.Frag) (hK:X.K=K) (hc:X.calm=true):CallR X (.builtin "max") (Qxi K):=by subst hK;exact Qu6 hc
noncomputable def Qxj (K:PySem.W.Frag):List V→Hp→VK→Prop:=fun xs H Q=>∃ (p:Addr) (ns:List Int),xs=[.ref p]∧SqL K H p (ns.map V.int)∧Q (.int ns.sum) H
theorem Q9e (K:PySem.W.Frag) (hK:X.K=K) (hc:X.calm=true):CallR X (.builtin "sum") (Qxj K):=by subst hK;exact Qu7 hc
noncomputable def Qoc (K:PySem.W.Frag):List V→Hp→VK→Prop:=fun xs H Q=>∃ p ys,xs=[.ref p]∧(SqL K H p ys∨SqT K H p ys)∧∀ l,H l=none→Q (.ref l) (upd H l (.lst ys))
theorem Q1g (K:PySem.W.Frag) (hK:X.K=K):CallR X (.type "list") (Qoc K):=by subst hK;exact Qn9
noncomputable def Qrt (K:PySem.W.Frag):List V→Hp→VK→Prop:=fun xs H Q=>∃ p ys,xs=[.ref p]∧((SqL K H p ys∧∀ l,H l=none→Q (.ref l) (upd H l (.tup ys)))∨(SqT K H p ys∧Q (.ref p) H))
theorem Q56 (K:PySem.W.Frag) (hK:X.K=K):CallR X (.type "tuple") (Qrt K):=by subst hK;exact Qmt
noncomputable def Q3q:List V→Hp→VK→Prop:=fun xs H Q=>∃ x c t,xs=[x,.ty c]∧Is H x t∧Qio t=false∧c∈["int","bool","tuple","list","dict","str"]∧Q (.bl (Qnb (tyT t) c)) H
theorem Q9f:CallR X (.builtin "isinstance") Q3q:=Qvb
theorem kAdd (K:PySem.W.Frag) (hK:X.K=K):OpR X (binaryOp .Add) (Qna K):=by subst hK;exact uAdd
theorem kIx (K:PySem.W.Frag) (hK:X.K=K):IxR X (rIx K):=by subst hK;exact Q5v
theorem kSl (K:PySem.W.Frag) (hK:X.K=K):SlR X (Q1d K):=by subst hK;exact uSl
theorem kSeq (K:PySem.W.Frag) (hK:X.K=K) {tg l:Expr} {tl:TE} (hl:PE X l tl):PI X tg l (Qva K tl):=by subst hK;exact Q50 hl
theorem kTup (K:PySem.W.Frag) (hK:X.K=K) {es:List Expr} {k:Nat} {t:TGs} {n:Nat} {pos:Pos} (hc:X.calm=true) (h:PGs X es t)
  (hn:(assignEach es X.env).length=n:=by rfl) (hst:(assignEach es X.env).findIdx? (·.1)=none:=by rfl):PG X (.Tuple es k pos) (Q0r K n t):=by subst hK;exact Q48 hc h hn hst
theorem kBm (K:PySem.W.Frag) (hK:X.K=K) {T:String} {o e:Expr} {es:List Expr} {to:TE} {t:TA} {name:Str} {apos cpos:Pos} {id:String} {r:V→List V→Hp→VK→Prop} (pa:PlainAttrs T) (slot:Slot T name id) (hty:typeOf (.builtin id)=pure (.type "method_descriptor")) (hm:MtR X id r) (ho:PE X o to) (ha:PA X (e::es) t)
  (hbase:attributeBase o name X.env (eval o X.env)=eval o X.env:=by rfl)
  (hfew:((backTo cpos (starEach (e::es) X.env)).all (fun x=>!x.1)&&(backToKw cpos (keywordEach [] X.env)).all (fun x=>x.1.isSome)
   && decide ((e::es).length+([]:List Keyword).length+(if ([]:List Keyword).isEmpty then 0 else 1)<30))=true:=by rfl)
  (hline:(apos.endLine==cpos.line)=true:=by rfl) (hs:starEach (e::es) X.env=(false,eval e X.env)::starEach es X.env:=by rfl) (hplain:(backTo cpos (starEach es X.env)).any (·.1)=false:=by rfl) :
  PE X (.Call (.Attribute o name apos) (e::es) [] cpos) (tBM K T r to t):=by
 subst hK
 exact Q84 pa slot hty hm ho ha hbase hfew hline hs hplain
end
noncomputable def Tups (H H':Hp):Prop:=∀ a xs,H a=some (.tup xs)→H' a=some (.tup xs)
noncomputable def MkT (xs:List V) (H:Hp) (Q:VK):Prop:=xs.length≤sizeLine∧∀ p,H p=none→Q (.ref p) (upd H p (.tup xs))
noncomputable def MkL (xs:List V) (H:Hp) (Q:VK):Prop:=xs.length≤sizeLine∧∀ p,H p=none→Q (.ref p) (upd H p (.lst xs))
noncomputable abbrev Q3r (t:TA):TE:=fun σ H Q=>t σ H fun xs H1=>MkT xs H1 Q
noncomputable abbrev Q3s (t:TA):TE:=fun σ H Q=>t σ H fun xs H1=>MkL xs H1 Q
structure QE (X:Cx) (e:Expr) (t:TE):Prop where
 h:PE X e t
structure QT (X:Cx) (e:Expr) (t:TT):Prop where
 h:PT X e t
structure QW (X:Cx) (e:Expr) (t:TT):Prop where
 h:PW X e t
structure QA (X:Cx) (es:List Expr) (t:TA):Prop where
 h:PA X es t
structure QS (X:Cx) (st:Stmt) (t:TS):Prop where
 h:PS X st t
structure QB (X:Cx) (st:List Stmt) (t:TS):Prop where
 h:PSs X st t
structure QI (X:Cx) (tg it:Expr) (t:TI):Prop where
 h:PI X tg it t
structure QG (X:Cx) (tg:Expr) (t:TG):Prop where
 h:PG X tg t
structure QGs (X:Cx) (tg:List Expr) (t:TGs):Prop where
 h:PGs X tg t
structure QC (X:Cx) (ifs:List Expr) (t:TT):Prop where
 h:PTs X ifs t
structure QO (X:Cx) (e:Option Expr) (t:TO):Prop where
 h:PO X e t
structure QOp (X:Cx) (f:Value→Value→Sem Value) (r:R2):Prop where
 h:OpR X f r
structure QUn (X:Cx) (f:Value→Sem Value) (r:V→Hp→VK→Prop):Prop where
 h:UnR X f r
structure QCl (X:Cx) (f:Value) (r:List V→Hp→VK→Prop):Prop where
 h:CallR X f r
structure QIx (X:Cx) (r:R2):Prop where
 h:IxR X r
structure QSl (X:Cx) (r:V→Option Int→Option Int→Hp→VK→Prop):Prop where
 h:SlR X r
structure QMt (X:Cx) (id:String) (r:V→List V→Hp→VK→Prop):Prop where
 h:MtR X id r
section
variable {X:Cx} {e a b:Expr} {es rest:List Expr} {te ta tb:TE} {t:TA} {tt uu tA tB':TT} {pos p p2:Pos} {x:Str}
theorem Qcm (i:Nat) (hN:X.N[i]?=some x:=by rfl) (hv:Vis X.env.scope x:=by first | exact Or.inl rfl | exact Or.inr (Or.inl rfl) | exact Or.inr (Or.inr rfl)) (hd:(x==("__debug__" : Str))=false:=by decide)
  (hcd:(x==("__classdict__" : Str))=false:=by decide):QE X (.Name x pos) (Qmq i):=⟨pv i hN hv hd hcd⟩
theorem Qlf {i j}:QE X (.Constant (.int i) j pos) (tC (.int i)):=⟨Q4w⟩
theorem Qxk {b j}:QE X (.Constant (.bool b) j pos) (tC (.bl b)):=⟨Q8j⟩
theorem Q3t {j}:QE X (.Constant .none j pos) (tC .non):=⟨Q4x⟩
theorem Q3u {x j}:QE X (.Constant (.str x) j pos) (tC (.str x)):=⟨Qwk⟩
theorem Q57 {v:V} (h:∃ u,X.mg x=some u∧RelV v u) (hg:Gl X x:=by rfl) (hd:(x==("__debug__" : Str))=false:=by decide):QE X (.Name x pos) (tC v):=by
 obtain ⟨u,m,r⟩:=h
 exact ⟨Qn5 hg m r hd⟩
theorem Qpy (T:String) (hm:X.mg x=none) (hv:bootBuiltins x=some (.type T)) (hg:Gl X x:=by rfl) (hn:x ≠ "__name__" := by decide) (hd:(x==("__debug__" : Str))=false:=by decide):QE X (.Name x pos) (tC (.ty T)):=⟨Q0j (v:=.ty T) hg hm hv rfl hn hd⟩
theorem Q1h {op:Operator} {r:R2} (ho:QOp X (binaryOp op) r) (ha:QE X a ta) (hb:QE X b tb):QE X (.BinOp a op b pos) (tOp r ta tb):=⟨Q8q ho.h ha.h hb.h⟩
theorem Q9g {op:UnaryOp} {r:V→Hp→VK→Prop} (ho:QUn X (unaryOp op) r) (ha:QE X a ta):QE X (.UnaryOp op a pos) (tUn r ta):=⟨Q8r ho.h ha.h⟩
theorem Q9h (ha:QE X a ta):QE X (.UnaryOp .Not a pos) (Q3h ta):=⟨Q44 ha.h⟩
theorem Q9i {op} (ha:QE X a ta):QE X (.BoolOp op [a] pos) ta:=⟨Q42 ha.h⟩
theorem Q9j (ha:QE X a ta) (hb:QE X (.BoolOp .And (b::rest) pos) tb):QE X (.BoolOp .And (a::b::rest) pos) (Q3g ta tb):=⟨Q43 ha.h hb.h⟩
theorem q_if {c:Expr} (hc:QT X c tA) (ha:QE X a ta) (hb:QE X b tb):QE X (.IfExp c a b pos) (tIf tA ta tb):=⟨Qwm hc.h ha.h hb.h⟩
theorem Q9k {op:CmpOp} {r:R2} (ho:QOp X (compareOp op) r) (ha:QE X a ta) (hb:QE X b tb) (hm:behindInMarks op b=false):QE X (.Compare a [op] [b] pos) (tOp r ta tb):=⟨Q0u ho.h ha.h hb.h hm⟩
theorem Qru {op:CmpOp} {r:R2} (ho:QOp X (compareOp op) r) (ha:QE X a ta) (hb:QE X b tb) (hm:behindInMarks op b=false):QT X (.Compare a [op] [b] pos) (Q3k (tOp r ta tb)):=⟨Q0v ho.h ha.h hb.h hm⟩
theorem Qxl (ha:QE X e te) (he:∀ whole,isTrue e X.env whole=(do let v ← whole;standAt e.pos;holding [v] (truthy v)):=by intro _;rfl):QT X e (tB te):=⟨Q4y ha.h he⟩
theorem Qxm (ha:QT X a tA):QT X (.UnaryOp .Not a pos) (Q8l tA):=⟨Q41 ha.h⟩
theorem Q9l (ha:QW X e tA):QT X e tA:=⟨ha.h.pt⟩
theorem Q1i (ha:QT X a tA):QW X (.BoolOp .And [a] pos) tA:=⟨Q0k ha.h⟩
theorem Qxn (ha:QT X a tA):QW X (.BoolOp .Or [a] pos) tA:=⟨Q4z ha.h⟩
theorem Q58 (ha:QT X a tA) (hb:QW X (.BoolOp .And (b::rest) pos) tB'):QW X (.BoolOp .And (a::b::rest) pos) (Q8k tA tB'):=⟨Q40 ha.h hb.h⟩
theorem Q3v (ha:QT X a tA) (hb:QW X (.BoolOp .Or (b::rest) pos) tB'):QW X (.BoolOp .Or (a::b::rest) pos) (tOr tA tB'):=⟨Q8m ha.h hb.h⟩
theorem Qbk:QA X [] Qpq:=⟨Qw1⟩
theorem Q5 (ha:QE X e te) (hr:QA X es t) (hs:Qae e=true:=by rfl):QA X (e::es) (Qgp te t):=⟨paC ha.h hr.h hs⟩
theorem Q3w {x1} (h:QA X es t):QE X (.Tuple es x1 pos) (Q3r t):=⟨Qw2 h.h⟩
theorem Qpz (h:QA X es t):QE X (.List es pos) (Q3s t):=⟨Qw3 h.h⟩
variable {ts:List T} {u:T}
theorem Qhs {x j}:QE X (.Constant (.str x) j pos) (tTh (.str x)):=⟨Q52⟩
theorem Q9m:QA X [] (Qob []):=⟨Q1f⟩
theorem Qfk (ha:QE X e (tTh u)) (hr:QA X es (Qob ts)) (hs:Qae e=true:=by rfl):QA X (e::es) (Qob (u::ts)):=⟨Qxh ha.h hr.h hs⟩
theorem Q9n (h:QA X es (Qob ts)) (hz:Nat.ble ts.length 1000=true:=by rfl):QE X (.List es pos) (tTh (.lst ts)):=⟨Q53 h.h hz⟩
theorem q_fn {ps:List Str} {k:Nat} {sp:Sp} (h:Has X.prog X.w X.K X.mg X.base x ps k sp) (hr:Room k X.A) (ha:QA X (e::es) t) (hg:Gl X x:=by rfl)
  (hdb:(x==("__debug__" : Str))=false:=by decide) (he:Qae e=true:=by rfl) (hpl:(backTo pos (starEach es X.env)).any (·.1)=false:=by rfl):QE X (.Call (.Name x p) (e::es) [] pos) (Qm5 sp [] E0 t):=⟨Qxf h hr ha.h hg hdb (Qcl he) hpl⟩
theorem Qip {id:String} {r:List V→Hp→VK→Prop} (hc:QCl X (.builtin id) r) (hm:X.mg x=none) (hv:bootBuiltins x=some (.builtin id)) (ha:QA X (e::es) t) (hg:Gl X x:=by rfl) (hn:x ≠ "__name__" := by decide) (hdb:(x==("__debug__" : Str))=false:=by decide)
  (he:Qae e=true:=by rfl) (hpl:(backTo pos (starEach es X.env)).any (·.1)=false:=by rfl):QE X (.Call (.Name x p) (e::es) [] pos) (tCB r t):=⟨Qw4 hc.h hg hm hv ha.h hn hdb (Qcl he) hpl⟩
theorem Q9o {T:String} {r:List V→Hp→VK→Prop} (hc:QCl X (.type T) r) (hm:X.mg x=none) (hv:bootBuiltins x=some (.type T)) (ha:QA X (e::es) t) (hg:Gl X x:=by rfl) (hn:x ≠ "__name__" := by decide) (hdb:(x==("__debug__" : Str))=false:=by decide)
  (he:Qae e=true:=by rfl) (hpl:(backTo pos (starEach es X.env)).any (·.1)=false:=by rfl):QE X (.Call (.Name x p) (e::es) [] pos) (tCB r t):=⟨Qu5 hc.h hg hm hv ha.h hn hdb (Qcl he) hpl⟩
theorem Qp0 (K:PySem.W.Frag) (hK:X.K=K) {T:String} {o:Expr} {to:TE} {name:Str} {apos cpos:Pos} {id:String} {r:V→List V→Hp→VK→Prop} (pa:PlainAttrs T) (slot:Slot T name id) (hty:typeOf (.builtin id)=pure (.type "method_descriptor")) (hm:QMt X id r) (ho:QE X o to) (ha:QA X (e::es) t)
  (hbase:attributeBase o name X.env (eval o X.env)=eval o X.env:=by rfl)
  (hfew:((backTo cpos (starEach (e::es) X.env)).all (fun x=>!x.1)&&(backToKw cpos (keywordEach [] X.env)).all (fun x=>x.1.isSome)
   && decide ((e::es).length+([]:List Keyword).length+(if ([]:List Keyword).isEmpty then 0 else 1)<30))=true:=by rfl)
  (hline:(apos.endLine==cpos.line)=true:=by rfl) (hs:Qae e=true:=by rfl) (hplain:(backTo cpos (starEach es X.env)).any (·.1)=false:=by rfl) :
  QE X (.Call (.Attribute o name apos) (e::es) [] cpos) (tBM K T r to t):=⟨kBm K hK pa slot hty hm.h ho.h ha.h hbase hfew hline (Qcl hs) hplain⟩
theorem Q59 {r:R2} (hr:QIx X r) (ha:QE X a ta) (hb:QE X b tb) (hs:Qkr b:=by exact fun _ _=>rfl):QE X (.Subscript a b pos) (tOp r ta tb):=⟨Q8z hr.h ha.h hb.h hs⟩
theorem q_sl {r:V→Option Int→Option Int→Hp→VK→Prop} {lo hi:Option Expr} {tl th:TO} (hr:QSl X r) (he:QE X e te) (hl:QO X lo tl) (hu:QO X hi th):QE X (.Subscript e (.Slice lo hi none p2) pos) (tSl r te tl th):=⟨Qw5 hr.h he.h hl.h hu.h⟩
theorem Q9p {st:Expr} {ts:TE} (he:QE X e te) (hst:QE X st ts):QE X (.Subscript e (.Slice none none (some st) p2) pos) (Q9c te ts):=⟨Q5z he.h hst.h⟩
theorem Qxo (h:QE X e te):QO X (some e) (Qte te):=⟨Q0z h.h⟩
variable {tg:Expr}
theorem Qxp (K:PySem.W.Frag) (hK:X.K=K) (hl:QE X e te):QI X tg e (Qva K te):=⟨kSeq K hK hl.h⟩
theorem Q6a (hm:X.mg "range" = none) (ha:QA X [a] t) (hg:Gl X "range" := by rfl) (hs:Qae a=true:=by rfl):QI X tg (.Call (.Name "range" p) [a] [] pos) (Q3j t):=⟨Quy hg hm ha.h (Qcl hs)⟩
theorem Qad {i:Nat} (hN:X.N.Nodup) (hi:X.N[i]?=some x:=by rfl) (hx:Loc X.env.scope x:=by first | exact Or.inl rfl | exact Or.inr rfl) (hf:X.fn x=true∨X.env.scope.names.lookup x=some .local:=by first | exact .inl rfl | exact .inr rfl | exact .inl (by decide +kernel)):QG X (.Name x pos) (Qgi i):=⟨Q0p hN hi hx hf⟩
theorem Qod:QGs X [] Q47:=⟨Q0q⟩
theorem Qe4 {es:List Expr} {t:TG} {u:TGs} (h1:QG X e t) (h2:QGs X es u) (hs:(assignEach (e::es) X.env).map (·.2)=assign e X.env::(assignEach es X.env).map (·.2):=by rfl):QGs X (e::es) (Qwq t u):=⟨Qwr h1.h h2.h hs⟩
theorem Qoe (K:PySem.W.Frag) (hK:X.K=K) {es:List Expr} {k:Nat} {t:TGs} {n:Nat} (hc:X.calm=true) (h:QGs X es t) (hn:(assignEach es X.env).length=n:=by rfl) (hst:(assignEach es X.env).findIdx? (·.1)=none:=by rfl):QG X (.Tuple es k pos) (Q0r K n t):=⟨kTup K hK hc h.h hn hst⟩
theorem Qrv {o i:Expr} {to ti:TE} (ho:QE X o to) (hi:QE X i ti)
  (ha:∀ v,assign (.Subscript o i pos) X.env v=(do
   let ov ← holding [v] (eval o X.env)
   let iv ← holding [v,ov] (eval i X.env)
   standAt pos
   holding [v,ov,iv] (setItem ov iv v)
   release [v,ov,iv] []):=by intro _;rfl):QG X (.Subscript o i pos) (Q49 to ti Qtg):=⟨Q5a ho.h hi.h Qw6 ha⟩
theorem q_c0:QC X [] Q89:=⟨Q08⟩
theorem q_c1 (h:QT X e tt):QC X [e] tt:=⟨Q09 h.h⟩
theorem Q6b {elt iter:Expr} {ifs:List Expr} {scope:Scope} (N:List Str) (js:List (Option Nat)) {wi:TI} {g:TG} {tc:TT} (hcalm:X.calm=true)
  (hi:QI X tg iter wi) (hg:∀ s H fp,QG (Qag X scope N s H fp) tg g) (hc:∀ s H fp,QC (Qag X scope N s H fp) ifs tc) (he:∀ s H fp,QE (Qag X scope N s H fp) elt te)
  (hk:scope.kind=.function:=by rfl) (h1:scOk X scope=true:=by rfl) (h2:Qim X scope N js=true:=by rfl)
  (hs:∀ x,foldedSetIterable iter X.env x=pure x:=by intro _;rfl):QE X (.ListComp elt [⟨tg,iter,ifs,0⟩] scope pos) (Qm9 wi js g tc te):=⟨Qxb hcalm hi.h (fun s H fp=>(hg s H fp).h) (fun s H fp=>(hc s H fp).h) (fun s H fp=>(he s H fp).h) hk h1 h2 hs⟩
variable {st:Stmt} {sts:List Stmt} {t1 t2:TS}
theorem Qrw:QB X [] Q3i:=⟨Q0l⟩
theorem Qeg (h1:QS X st t1) (h2:QB X sts t2):QB X (st::sts) (Qwn t1 t2):=⟨Qwo h1.h h2.h⟩
theorem Qh2 (h1:QS X st t1):QB X [st] t1:=⟨Q0m h1.h⟩
theorem Qh3 (he:QE X e te) (hs:swapsWith e none pos.line X.env=pure false:=by rfl):QS X (.Expr e pos) (Qwp te):=⟨Q0n he.h hs⟩
theorem Qlg (he:QE X e te):QS X (.Return (some e) pos) (Q0o te):=⟨Q45 he.h⟩
theorem Qxq {c:Expr} {bs cs:List Stmt} (hc:QT X c tt) (ha:QB X bs t1) (hb:QB X cs t2):QS X (.If c bs cs pos) (Q8n tt t1 t2):=⟨Q8o hc.h ha.h hb.h⟩
theorem Q3x {iter:Expr} {body:List Stmt} {wi:TI} {g:TG} (hp:PassesOwn (model X.prog X.w) X.A X.env X.xe) (hc:X.calm=true) (hi:QI X tg iter wi) (hg:QG X tg g) (hb:QB X body t1)
  (hs:∀ x,foldedSetIterable iter X.env x=pure x:=by intro _;rfl):QS X (.For tg iter body [] pos) (Qww wi g t1):=⟨Q5f hp hc hi.h hg.h hb.h hs⟩
theorem Qay {i:Nat} (hN:X.N.Nodup) (he:QE X e te) (hi:X.N[i]?=some x:=by rfl) (hx:Loc X.env.scope x:=by first | exact Or.inl rfl | exact Or.inr rfl) (hs:swapsWith e (some (.Name x p2)) pos.line X.env=pure false:=by rfl) (hf:X.fn x=true∨X.env.scope.names.lookup x=some .local:=by first | exact .inl rfl | exact .inr rfl) :
  QS X (.Assign [.Name x p2] e pos) (Qmr te (Qgi i)):=⟨Q5c hN hi hx he.h hs hf⟩
theorem Qlh {g:TG} (he:QE X e te) (hg:QG X tg g) (hs:swapsWithSole [tg] e pos.line X.env=pure false:=by rfl) (hw:swappedStores [tg] e X.env=pure none:=by rfl)
  (h1:(assignEach [tg] X.env).map (·.2)=[assign tg X.env]:=by rfl):QS X (.Assign [tg] e pos) (Qmr te g):=⟨Q5b he.h hg.h hs hw h1⟩
theorem Q9q (i j:Nat) {y:Str} {px py pt:Pos} {kt k2 pt2} (hN:X.N.Nodup) (hij:i≠j) (ha:QA X [a,b] t) (hi:X.N[i]?=some x:=by rfl) (hj:X.N[j]?=some y:=by rfl)
  (hx:X.env.scope.names.lookup x=some .local:=by rfl) (hy:X.env.scope.names.lookup y=some .local:=by rfl) (hc:X.calm=true:=by rfl)
  (hw:swappedStores [.Tuple [.Name x px,.Name y py] kt pt] (.Tuple [a,b] k2 pt2) X.env=pure (some [x,y]):=by rfl)
  (hs:swapsWithSole [.Tuple [.Name x px,.Name y py] kt pt] (.Tuple [a,b] k2 pt2) pos.line X.env=pure false:=by rfl) :
  QS X (.Assign [.Tuple [.Name x px,.Name y py] kt pt] (.Tuple [a,b] k2 pt2) pos) (Q5d i j t):=⟨Q5e hc hN hi hj hij hx hy ha.h hw hs⟩
theorem Q1j {c:Expr} {body:List Stmt} (hp:PassesOwn (model X.prog X.w) X.A X.env X.xe) (hc:QT X c tt) (hb:QB X body t1):QS X (.While c body [] pos) (Qws tt t1):=⟨Qwt hp hc.h hb.h⟩
theorem Qth (K:PySem.W.Frag) (hK:X.K=K):QOp X (binaryOp .Add) (Qna K):=⟨kAdd K hK⟩
theorem Q9r:QOp X (binaryOp .Sub) (rI0 fun i j=>.int (i-j)):=⟨Q5k⟩
theorem Q9s:QOp X (binaryOp .Pow) (rI Q5i fun i j=>.int (i^j.toNat)):=⟨Q5m⟩
theorem Q3y:QUn X (unaryOp .USub) (rU fun i=>.int (-i)):=⟨Q5n⟩
theorem o_eq:QOp X (compareOp .Eq) rEq:=⟨Q8t⟩
theorem Q9t:QOp X (compareOp .NotEq) rNe:=⟨Q8u⟩
theorem Q9u:QOp X (compareOp .Lt) (rI0 fun i j=>.bl (decide (i<j))):=⟨Q8v⟩
theorem o_gt:QOp X (compareOp .Gt) (rI0 fun i j=>.bl (decide (j<i))):=⟨Q8w⟩
theorem o_ge:QOp X (compareOp .GtE) (rI0 fun i j=>.bl (decide (j≤i))):=⟨Q8x⟩
noncomputable def Q9v:R2:=fun x y H Q=>y=.non∧Q (.bl (decide (x=.non))) H
noncomputable def Q3z:R2:=fun x y H Q=>y=.non∧Q (.bl (!decide (x=.non))) H
theorem Q9w:QOp X (compareOp .Is) Q9v:=⟨Q5p⟩
theorem Q6c:QOp X (compareOp .IsNot) Q3z:=⟨Q0t⟩
theorem Q6d (K:PySem.W.Frag) (hK:X.K=K):QIx X (rIx K):=⟨kIx K hK⟩
theorem o_sl (K:PySem.W.Frag) (hK:X.K=K):QSl X (Q1d K):=⟨kSl K hK⟩
theorem Qfq:QMt X "list.append" Qks:=⟨Qje⟩
theorem Q6e:QCl X (.builtin "isinstance") Q3q:=⟨Q9f⟩
theorem Qep (K:PySem.W.Frag) (hK:X.K=K):QCl X (.builtin "len") (Q54 K):=⟨kLen K hK⟩
theorem Qxr (K:PySem.W.Frag) (hK:X.K=K) (hc:X.calm=true:=by rfl):QCl X (.builtin "all") (Q55 K):=⟨kAll K hK hc⟩
theorem Q30 (K:PySem.W.Frag) (hK:X.K=K) (hc:X.calm=true:=by rfl):QCl X (.builtin "sum") (Qxj K):=⟨Q9e K hK hc⟩
theorem Q6f (K:PySem.W.Frag) (hK:X.K=K) (hc:X.calm=true:=by rfl):QCl X (.builtin "max") (Qxi K):=⟨Q9d K hK hc⟩
noncomputable def Q31:List V→Hp→VK→Prop:=fun xs H Q=>∃ i j,xs=[.int i,.int j]∧Q (.int (if j>i then j else i)) H
theorem Q6g (hc:X.calm=true:=by rfl):QCl X (.builtin "max") Q31:=⟨Qu0 hc⟩
noncomputable def Q9x:List V→Hp→VK→Prop:=fun xs H Q=>∃ i,xs=[.int i]∧Q (.int (if i<0 then -i else i)) H
theorem Q9y:QCl X (.builtin "abs") Q9x:=⟨Qw0⟩
noncomputable def Q9z:List V→Hp→VK→Prop:=fun xs H Q=>∃ i j,xs=[.int i,.int j]∧CDv i j∧∀ p,H p=none→Q (.ref p) (upd H p (.tup [.int (i / j),.int (i%j)]))
theorem Q90:QCl X (.builtin "divmod") Q9z:=⟨Qxe⟩
noncomputable def Q32:List V→Hp→VK→Prop:=fun xs H Q=>(∃ i,xs=[.int i]∧Q (.int i) H)∨∃ k,xs=[.bl k]∧Q (.int (if k then 1 else 0)) H
theorem Qxs:QCl X (.type "int") Q32:=⟨Qu1⟩
theorem Q6h (K:PySem.W.Frag) (hK:X.K=K):QCl X (.type "list") (Qoc K):=⟨Q1g K hK⟩
theorem Qce (K:PySem.W.Frag) (hK:X.K=K):QCl X (.type "tuple") (Qrt K):=⟨Q56 K hK⟩
end
section
variable {P:Program} {w:World} {K:PySem.W.Frag} {mg:Str→Option Value} {base:Heap}
theorem Q91 {x:Str} {st:Stmt} {N ps:List Str} {k:Nat} {sp:Sp} (d:Dfn K mg x st) (S:FnScope N ps (Qf st)) (bd:Q7 x st ps) (len:∀ vs H Q E,sp vs H Q E→vs.length=ps.length)
  (hbody:∀ (f:Addr) (cdv:Value) (A:Around) (outer:List Env) (s:Shared) (H:Hp) (vs:List V) (Q:VK) (E:XK),Room k (A.deeper (envOfC x (Qf st) s.heap.objs.size f cdv))→sp vs H Q E →
   ∃ t,QB (Qhn (fun _=>true) CX0 P w K mg base N x (Qf st) f cdv A outer s H E).nox (Q9 st) t∧t { nx:=fun _ H'=>Q .non H',rt:=Q } (Qbj N vs) H):Has P w K mg base x ps (k+1) sp :=
 Q51 d S bd len fun f cdv A outer s H vs Q E hr hs=>let ⟨t,a,b⟩:=hbody f cdv A outer s H vs Q E hr hs;⟨t,a.h,b⟩
end
open Classical in
noncomputable def dls (H:Hp) (S:Addr→Prop):Hp:=fun b=>if S b then none else H b
theorem Qb4 {H:Hp} {S:Addr→Prop} {b:Addr} (h:¬ S b):dls H S b=H b:=by unfold dls;rw [if_neg h]
theorem Qal {H:Hp} {S:Addr→Prop} {b:Addr} {o:HO} (e:dls H S b=some o):¬ S b∧H b=some o:=by
 unfold dls at e
 by_cases h:S b
 ·rw [if_pos h] at e;cases e
 ·rw [if_neg h] at e;exact ⟨h,e⟩
theorem Qxt (H:Hp) (S:Addr→Prop):Same (dls H S) H:=fun b o e=>(Qal e).2
theorem Qbl {S:Addr→Prop} {H H':Hp} (s:Same H H'):Same (dls H S) (dls H' S):=fun b o e=>by
 obtain ⟨n,e⟩:=Qal e
 rw [Qb4 n];exact s b o e
theorem Qc6 {S S':Addr→Prop} {H:Hp} (h:∀ b,S b→S' b):Same (dls H S') (dls H S):=fun b o e=>by
 obtain ⟨n,e⟩:=Qal e
 rw [Qb4 fun z=>n (h b z)];exact e
noncomputable def Q6i:HO→Bool
 | .lst _=>true
 | .dT _=>true
 | _=>false
noncomputable def Pen (H:Hp) (S:Addr→Prop):Prop:=∀ b,S b→∃ o,H b=some o∧Q6i o=true
theorem Pen.mono {H H':Hp} {S:Addr→Prop} (h:Pen H S) (s:Same H H'):Pen H' S:=fun b hb=>by
 obtain ⟨xs,e,p⟩:=h b hb
 exact ⟨xs,s _ _ e,p⟩
theorem Pen.new {H:Hp} {S:Addr→Prop} {q:Addr} (h:Pen H S) (hq:H q=none):¬ S q:=fun z=>by
 obtain ⟨xs,e,_⟩:=h q z
 rw [hq] at e;cases e
theorem Qxu {H:Hp} {S:Addr→Prop} (h:Pen H S):Tups H (dls H S):=fun a ys e=>by
 rw [Qb4 fun z=>by
  obtain ⟨xs,e',p⟩:=h a z
  rw [e] at e';cases e';cases p]
 exact e
section
variable {K:PySem.W.Frag} {H:Hp} {S:Addr→Prop} {x y:V} {ts us:List T} {Q:VK}
theorem Qvc {H':Hp} {a:Addr} {vs:List V} (hp:Pen H' S) (e:H' a=some (.tup vs)):dls H' S a=some (.tup vs):=Qxu hp a vs e
theorem Qg6 {a:Addr} {vs:List V} (hp:Pen H S) (e:H a=some (.tup vs)) (r:IsL (dls H S) vs ts) (z:ts.length≤100000):Is (dls H S) (.ref a) (.tup ts):=.tup (Qvc hp e) r z
noncomputable def Q92 (ts:List T) (lo hi:Option Int):List T:=(ts.drop (HT.sIx ts.length 0 lo)).take (HT.sIx ts.length ts.length hi-HT.sIx ts.length 0 lo)
theorem Q6j (hp:Pen H S) (ix:Is (dls H S) x (.tup ts)) (iy:Is (dls H S) y (.tup us)) (hz:ts.length+us.length≤100000) (k:∀ z H',Same H H'→Is (dls H' S) z (.tup (ts++us))→Q z H'):Qna K x y H Q:=by
 obtain ⟨a,vs,rfl,ha,r⟩:=ix.tup_inv
 obtain ⟨b,ws,rfl,hb,r2⟩:=iy.tup_inv
 refine .inr (.inr ⟨a,b,vs,ws,rfl,rfl,(Qal ha).2,(Qal hb).2,Qcu (by rw [r.length,r2.length];exact hz),fun q H' s' e' _=>k _ H' s' (Qg6 (hp.mono s') e' ((r.append r2).mono (Qbl s')) (by rw [List.length_append];exact hz))⟩)
theorem Q6k {vs:List V} (hp:Pen H S) (r:IsL (dls H S) vs ts) (hz:ts.length≤100000) (k:∀ z H',Same H H'→Is (dls H' S) z (.tup ts)→Q z H'):MkT vs H Q :=
 ⟨Qcu (by rw [r.length];exact hz),fun q hq=>k _ _ (Same.upd hq) (Qg6 (hp.mono (Same.upd hq)) Qp (r.mono (Qbl (Same.upd hq))) hz)⟩
theorem Q6l {vs:List V} (hp:Pen H S) (r:IsL (dls H S) vs ts) (hz:ts.length≤100000) (k:∀ l H',Same H H'→H l=none→H' l=some (.lst vs)→Is (dls H' S) (.ref l) (.lst ts)→Q (.ref l) H'):MkL vs H Q :=
 ⟨Qcu (by rw [r.length];exact hz),fun q hq=>k _ _ (Same.upd hq) hq Qp (.lst (by rw [Qb4 (hp.new hq),Qp]) (r.mono (Qbl (Same.upd hq))) hz)⟩
theorem Q6m (hp:Pen H S) (it:Is (dls H S) x (.tup ts)) (k:∀ z H',Same H H'→Is (dls H' S) z (.tup ts.reverse)→Q z H'):Q9b x H Q:=by
 obtain ⟨a,vs,rfl,ha,r⟩:=it.tup_inv
 exact ⟨a,vs,rfl,(Qal ha).2,fun q H' s' e'=>k _ _ s' (Qg6 (hp.mono s') e' (r.reverse.mono (Qbl s')) (by rw [List.length_reverse];exact it.tup_len))⟩
noncomputable def Sm (D:Hp) (x:V):Prop:=∃ t,Is D x t
end
structure Raw (fs:List Addr) (g:Heap) (H:Hp) (h h':Heap):Prop where
 keep:∀ b o,h.get? b=some o→((∃ u,g.get? b=some u)∨H b≠none)→b∉fs→h'.get? b=some o
 slot:∀ b o,h.get? b=some o→((∃ u,g.get? b=some u)∨H b≠none)→∃ sl,h'.get? b=some { o with slots:=sl }
 size:h.objs.size≤h'.objs.size
theorem Raw.refl (fs:List Addr) (g:Heap) (H:Hp) (h:Heap):Raw fs g H h h:=⟨fun _ _ e _ _=>e,fun _ o e _=>⟨o.slots,e⟩,Nat.le_refl _⟩
theorem Raw.trans {fs:List Addr} {g:Heap} {H:Hp} {h h1 h2:Heap} (a:Raw fs g H h h1) (b:Raw fs g H h1 h2):Raw fs g H h h2 where
 keep:=fun c o e p q=>b.keep c o (a.keep c o e p q) p q
 slot:=fun c o e p=>by
  obtain ⟨sl,e1⟩:=a.slot c o e p
  obtain ⟨sl',e2⟩:=b.slot c _ e1 p
  exact ⟨sl',e2⟩
 size:=Nat.le_trans a.size b.size
noncomputable def XObj (H:Hp) (h:Heap) (g:Heap) (e:Addr) (cls:Value) (dx:Option Addr):Prop :=
 g.get? e=none∧H e=none∧∃ oe vs,h.get? e=some oe∧oe.cls=cls∧oe.dict=dx∧oe.data=.fields vs∧1<vs.size ∧
  (vs[1]?=some .none∨∃ T oT ts,vs[1]?=some (.ref T)∧T≠e∧g.get? T=none∧H T=none∧h.get? T=some oT∧oT.data=.fields ts∧3<ts.size)
section
variable {M:Model} {A:Around} {E:Value→Shared→Prop} {s:Shared} {H:Hp} {g:Heap} {e L:Addr} {cls:Value} {dx:Option Addr} {env:Env} {outer:List Env} {base:Heap} {Q:Unit→Shared→Prop}
theorem Qof {fs:List Addr} {h:Heap} {a:Addr} {f:Obj→Obj} (ha:g.get? a=none) (hH:H a=none):Raw fs g H h (h.update a f):=by
 have ne:∀ b,((∃ u,g.get? b=some u)∨H b≠none)→a≠b:=fun b p z=>by
  subst z
  rcases p with p | p
  ·obtain ⟨u,q⟩:=p
   rw [ha] at q;cases q
  ·exact p hH
 refine ⟨fun b o e p _=>?_,fun b o e p=>⟨o.slots,?_⟩,?_⟩
 ·rw [Heap.get?_update_other _ _ (ne b p)];exact e
 ·rw [Heap.get?_update_other _ _ (ne b p)];exact e
 ·exact Nat.le_of_eq (by rw [Heap.size_update])
theorem Qxv {fs:List Addr} {h:Heap} {o:Obj}:Raw fs g H h (h.push o) :=
 ⟨fun _ _ e _ _=>Heap.get?_push_of_some _ e,fun _ u e _=>⟨u.slots,Heap.get?_push_of_some _ e⟩,by rw [Heap.size_push];omega⟩
theorem Qvd {fs:List Addr} {h h':Heap} (x:Heap.SlotsOnly fs h h'):Raw fs g H h h' :=
 ⟨fun b o e _ q=>(x.2.1 b q).trans e,fun b o e _=>x.2.2 b o e,Nat.le_of_eq x.1.symm⟩
theorem Qnc {hd0:Value} {nx:Bool} (hfr:A.frames=some (env::outer)) (hl:s.heap.FunFrames base (env::outer)) (hf:env.frame=some L) (fresh:∀ b,s.heap.objs.size≤b→H b=none) (hn:∀ b o,g.get? b=some o→b<s.heap.objs.size)
  (X:XObj H s.heap g e cls dx) (h:∀ h',XObj H h' g e cls dx→Raw (frs (env::outer)) g H s.heap h'→Q () { s with heap:=h' }) :
  wpAny M A (do let a ← frameOf env;let pl ← entryPlaceOf L nx;let b ← EntryCells.newEntry hd0 a .none (rawInt L) .none pl;setField (.ref e) 1 b) Q E s:=by
 obtain ⟨hne,hHe,oe,vs,he,hc,hdx,hd,hsz,_⟩:=X
 have nofr:e∉frs (env::outer):=fun hm=>by
  obtain ⟨_,o,ho,hnf⟩:=hl.mem hm
  rw [he] at ho;cases ho;exact hnf vs hd
 refine wpAny_bind (wpAny_frameOf_fun hfr hl hf fun h1 hs1=>wpAny_bind (wpAny_entryPlaceOf fun pl hpl=>?_))
 unfold EntryCells.newEntry newFields
 refine wpAny_bind (wpAny_newObj_type ?_ (hpl.sizeOk5 _ _ _ _ _))
 have he1:h1.get? e=some oe:=(hs1.2.1 e nofr).trans he
 have sz1:h1.objs.size=s.heap.objs.size:=hs1.1
 generalize hob:({ cls:=.type "traceback",dict:=none,data:=.fields ([hd0,.ref L,.none,rawInt L,.none]++(if pl.isEmpty then List.replicate 6 Value.none else pl)).toArray }:Obj)=ob
 have he2:(h1.push ob).get? e=some oe:=Heap.get?_push_of_some _ he1
 have hTe:h1.objs.size≠e:=Nat.ne_of_gt (Heap.lt_size he1)
 have dd:=Obj.data_mapFields hd (·.setIfInBounds 1 (Value.ref h1.objs.size))
 refine wpAny_setField he2 hd hsz (h _ ?_ (((Qvd hs1).trans Qxv).trans (Qof hne hHe)))
 refine ⟨hne,hHe,_,_,Heap.get?_update_self _ he2 (Obj.isFreed_of_fields dd),(Obj.cls_mapFields _ _).trans hc,?_,dd,by simpa using hsz,.inr ⟨h1.objs.size,ob,_,by simp [hsz],hTe,?_,fresh _ (by omega),?_,by rw [←hob],?_⟩⟩
 ·rw [←hdx]
  cases oe
  subst hd
  rfl
 ·cases z:g.get? h1.objs.size with
  | none=>rfl
  | some o=>exact absurd (hn _ _ z) (by rw [sz1];exact Nat.lt_irrefl _)
 ·rw [Heap.get?_update_other _ _ (Ne.symm hTe)]
  exact Heap.get?_push_size h1 (by rw [←hob];rfl)
 ·simp only [List.size_toArray,List.length_append,List.length_cons,List.length_nil]
  omega
theorem Qp1 (hfr:A.frames=some (env::outer)) (hl:s.heap.FunFrames base (env::outer)) (hf:env.frame=some L) (fresh:∀ b,s.heap.objs.size≤b→H b=none) (hn:∀ b o,g.get? b=some o→b<s.heap.objs.size)
  (X:XObj H s.heap g e cls dx) (h:∀ h',XObj H h' g e cls dx→Raw (frs (env::outer)) g H s.heap h'→Q () { s with heap:=h' }) :
  wpAny M A (noteFrame (.ref e) env) Q E s:=by
 obtain ⟨hne,hHe,oe,vs,he,hc,hdx,hd,hsz,h1⟩:=id X
 unfold noteFrame
 simp only [hf]
 rcases h1 with h1 | ⟨T,oT,ts,h1,hTe,hnT,hHT,hT,hdT,h3⟩
 ·refine wpAny_bind (wpAny_field he hd h1 ?_)
  rw [if_neg (by decide)]
  exact Qnc hfr hl hf fresh hn X h
 ·refine wpAny_bind (wpAny_field he hd h1 ?_)
  rw [if_pos (by simp)]
  refine wpAny_bind (wpAny_field hT hdT (Array.getElem?_eq_getElem h3) ?_)
  by_cases hz:(ts[3]==rawInt L)=true
  ·rw [if_pos hz]
   exact wpAny_pure (h _ X (Raw.refl _ _ _ _))
  ·rw [if_neg hz]
   refine wpAny_bind (wpAny_setField hT hdT h3 ?_)
   have rw1:Raw (frs (env::outer)) g H s.heap (s.heap.update T (Obj.mapFields (·.setIfInBounds 3 Value.none))):=Qof hnT hHT
   have oth:∀ b,b≠T→(s.heap.update T (Obj.mapFields (·.setIfInBounds 3 Value.none))).get? b=s.heap.get? b:=fun b hb=>Heap.get?_update_other _ _ (Ne.symm hb)
   have dT:=Obj.data_mapFields hdT (·.setIfInBounds 3 Value.none)
   refine Qnc (s:={ s with heap:=s.heap.update T (Obj.mapFields (·.setIfInBounds 3 Value.none)) }) hfr (hl.of_keeps fun b o hb hnf=>⟨o,(oth b ?_).trans hb,rfl⟩) hf (fun b hb=>fresh b (Nat.le_trans rw1.size hb)) (fun b o q=>Nat.lt_of_lt_of_le (hn b o q) rw1.size)
    ⟨hne,hHe,oe,vs,(oth e (Ne.symm hTe)).trans he,hc,hdx,hd,hsz,.inr ⟨T,_,_,h1,hTe,hnT,hHT,Heap.get?_update_self _ hT (Obj.isFreed_of_fields dT),dT,by simpa using h3⟩⟩ fun h' x r=>h h' x (rw1.trans r)
   intro z
   rw [z,hT] at hb
   cases hb
   exact hnf ts hdT
theorem Qh4 {fs:List Addr} (X:XObj H s.heap g e cls dx) (h:∀ h',XObj H h' g e cls dx→Raw fs g H s.heap h'→Q () { s with heap:=h' }):wpAny M A (setFlight (.ref e) none) Q E s:=by
 obtain ⟨hne,hHe,oe,vs,he,hc,hdx,hd,hsz,h1⟩:=id X
 unfold setFlight
 rcases h1 with h1 | ⟨T,oT,ts,h1,hTe,hnT,hHT,hT,hdT,h3⟩
 ·refine wpAny_bind (wpAny_field he hd h1 ?_)
  rw [if_neg (by decide)]
  exact wpAny_pure (h _ X (Raw.refl _ _ _ _))
 ·refine wpAny_bind (wpAny_field he hd h1 ?_)
  rw [if_pos (by simp)]
  have dT:=Obj.data_mapFields hdT (·.setIfInBounds 3 Value.none)
  refine wpAny_setField hT hdT h3 (h _ ⟨hne,hHe,oe,vs,?_,hc,hdx,hd,hsz,.inr ⟨T,_,_,h1,hTe,hnT,hHT,Heap.get?_update_self _ hT (Obj.isFreed_of_fields dT),dT,by simpa using h3⟩⟩ (Qof hnT hHT))
  rw [Heap.get?_update_other _ _ hTe]
  exact he
theorem Qve (hfr:A.frames=some (env::outer)) (hl:s.heap.FunFrames base (env::outer)) (hf:env.frame=some L) (fresh:∀ b,s.heap.objs.size≤b→H b=none) (hn:∀ b o,g.get? b=some o→b<s.heap.objs.size)
  (X:XObj H s.heap g e cls dx) (h:∀ h',XObj H h' g e cls dx→Raw (frs (env::outer)) g H s.heap h'→Q () { s with heap:=h' }) :
  wpAny M A (leaving env (.ref e)) Q E s:=by
 unfold leaving
 exact wpAny_bind (Qp1 hfr hl hf fresh hn X fun h1 x1 r1=>Qh4 x1 fun h2 x2 r2=>h h2 x2 (r1.trans r2))
end
noncomputable def CXE (P:Program) (w:World):CXT:=fun outer H s E e s'=>∃ a cls dx H',e=.ref a∧s'.os=s.os∧AllBare s'.gens∧Un (frs outer) [] H H' s.heap s'.heap∧HOk P w H' s'.heap∧XObj H' s'.heap s.heap a cls dx∧E cls dx H'
noncomputable abbrev XR:=Value→Option Addr→St→Hp→Prop
noncomputable def Qe5 (X:Cx) (R:XR):Prop:=∀ (pins:List (Addr×Obj)) (σ:St) (H:Hp) (s:Shared) (e:Value) (s':Shared),Inv X pins σ H s→CXE X.prog X.w X.stack H s (fun cls dx H'=>R cls dx σ H') e s'→X.xe e s'
section
variable {P:Program} {w:World} {H H0:Hp} {h h' h0 g:Heap} {fs fs':List Addr}
theorem Raw.hok (r:Raw fs g H h h') (ok:HOk P w H h) (hf:∀ b∈fs,H b=none):HOk P w H h':=fun a o e=>by
 have ht:∀ b u,H b=some u→((∃ u,g.get? b=some u)∨H b≠none)∧b∉fs:=fun b u q=>⟨.inr (by rw [q];simp),fun z=>by rw [hf b z] at q;cases q⟩
 refine (ok a o e).stay (fun b u hb q=>?_) (fun _ q=>q) fun _ _ q=>q
 rcases hb with rfl | hb
 ·exact r.keep _ u q (ht _ _ e).1 (ht _ _ e).2
 ·exact r.keep _ u q (ht _ _ hb).1 (ht _ _ hb).2
theorem Raw.un (r:Raw fs' g H h h') (u:Un fs [] H0 H h0 h) (hg:∀ b o,h0.get? b=some o→∃ v,g.get? b=some v) (hs:∀ b∈fs',b∈fs∨h0.objs.size≤b):Un fs [] H0 H h0 h' where
 keep:=fun b o e n hb hx=>r.keep b o (u.keep b o e n hb hx) (.inl (hg b o e)) fun z=>by
  rcases hs b z with z | z
  ·exact hb z
  ·exact absurd (Nat.lt_of_lt_of_le (Heap.lt_size e) z) (Nat.lt_irrefl _)
 slot:=fun b o e n hb hx=>by
  obtain ⟨sl,q⟩:=u.slot b o e n hb hx
  obtain ⟨sl',q'⟩:=r.slot b _ q (.inl (hg b o e))
  exact ⟨sl',q'⟩
 free:=u.free
 there:=fun b o e hx=>by
  obtain ⟨o',q⟩:=u.there b o e hx
  obtain ⟨sl',q'⟩:=r.slot b _ q (.inl (hg b o e))
  exact ⟨_,q'⟩
 tups:=u.tups
 frzs:=u.frzs
 tbls:=u.tbls
theorem XObj.mono {e:Addr} {cls:Value} {dx:Option Addr} {g':Heap} (x:XObj H h g e cls dx) (hg:∀ b o,g'.get? b=some o→∃ v,g.get? b=some v):XObj H h g' e cls dx:=by
 have nn:∀ b,g.get? b=none→g'.get? b=none:=fun b q=>by
  cases z:g'.get? b with
  | none=>rfl
  | some o =>
   obtain ⟨v,q'⟩:=hg b o z
   rw [q] at q';cases q'
 obtain ⟨h1,h2,oe,vs,a1,a2,a3,a4,a5,a6⟩:=x
 refine ⟨nn _ h1,h2,oe,vs,a1,a2,a3,a4,a5,a6.imp (fun z=>z) fun ⟨T,oT,ts,b1,b2,b3,b4⟩=>⟨T,oT,ts,b1,b2,nn _ b3,b4⟩⟩
end
section
variable {X:Cx} {pins:List (Addr×Obj)} {σ:St} {H H':Hp} {s s':Shared} {e:Addr} {cls:Value} {dx:Option Addr}
theorem Inv.thrown (I:Inv X pins σ H s) (os:s'.os=s.os) (bare:AllBare s'.gens) (un:Un (frs X.stack) [] H H' s.heap s'.heap) (hok:HOk X.prog X.w H' s'.heap):Inv X pins σ H' s' :=
 I.call' (ch:=[]) os un hok bare fun b z=>absurd z (by simp)
end
theorem Q93 {g:Str→Bool} {P:Program} {w:World} {K:PySem.W.Frag} {mg:Str→Option Value} {base:Heap} {N:List Str} {qual:Str} {scope:Scope} {f:Addr} {cd:Value} {A:Around} {outer:List Env} {s0:Shared} {H0:Hp} {E:XK} :
  Qe5 (Qhn g (CXE P w) P w K mg base N qual scope f cd A outer s0 H0 E) (fun cls dx _ H=>E cls dx H):=by
 intro pins σ H s e s' I h
 obtain ⟨a,cls,dx,H',rfl,os,bare,un,hok,xo,hE⟩:=h
 have J:=I.thrown os bare un hok
 show wpAny _ _ (leaving _ _) _ _ _
 refine Qve (base:=base) (outer:=outer) J.ok.frames J.stack rfl (fun b hb=>J.hok.fresh hb) (fun b o q=>?_) xo fun h' x' r'=>?_
 ·obtain ⟨o',q'⟩:=un.there b o q (by simp)
  exact Heap.lt_size q'
 ·have hg:∀ b o,s0.heap.get? b=some o→∃ v,s.heap.get? b=some v:=fun b o q=>I.base.there b o q (by intro z;exact absurd (show b∈([]:List Addr) from z) (by simp))
  refine ⟨a,cls,dx,H',rfl,J.os,J.bare,r'.un J.base hg (fun b hb=>?_),r'.hok hok J.stkFree,x'.mono hg,hE⟩
  rcases List.mem_cons.mp (J.stkSub b hb) with z | z
  ·rw [z];exact .inr J.ok.above
  ·exact .inl z
noncomputable def Qrx (K:PySem.W.Frag) (mg:Str→Option Value) (x:Str) (cdv:Value):Prop:=∃ f oc od fd osl,mg x=some (.ref f)∧K.lookup f=some ⟨oc,od,.func fd,osl⟩∧fd.code=cdv
noncomputable def HasE (P:Program) (w:World) (K:PySem.W.Frag) (mg:Str→Option Value) (base:Heap) (x:Str) (ps:List Str) (k:Nat) (sp:Sp):Prop :=
 ∃ f fd,PySem.W.keepIn K (.ref f)=true∧mg x=some (.ref f)∧Binds K fd ps []∧FnOk P w K mg base (CXE P w) k f fd ps sp
section
variable {P:Program} {w:World} {K:PySem.W.Frag} {mg:Str→Option Value} {base:Heap}
theorem Q6n {g:Str→Bool} {x:Str} {st:Stmt} {N ps:List Str} {k:Nat} {sp:Sp} (d:Dfn K mg x st) (S:FnScope N ps (Qf st)) (bd:Q7 x st ps) (len:∀ vs H Q E,sp vs H Q E→vs.length=ps.length)
  (hbody:∀ (X:Cx) (f:Addr) (cdv:Value) (A:Around) (outer:List Env) (s:Shared) (H:Hp) (vs:List V) (Q:VK) (E:XK),X=Qhn g (CXE P w) P w K mg base N x (Qf st) f cdv A outer s H E→Qrx K mg x cdv→Qe5 (Qhn g (CXE P w) P w K mg base N x (Qf st) f cdv A outer s H E) (fun cls dx _ H=>E cls dx H) →
   Room k (A.deeper (envOfC x (Qf st) s.heap.objs.size f cdv))→sp vs H Q E →
   ∃ t,QB (Qhn g (CXE P w) P w K mg base N x (Qf st) f cdv A outer s H E) (Q9 st) t∧t { nx:=fun _ H'=>Q .non H',rt:=Q } (Qbj N vs) H):HasE P w K mg base x ps (k+1) sp:=by
 obtain ⟨f,fd,F,m⟩:=d.ex
 refine ⟨f,fd,F.kp,m,F.binds bd,?_⟩
 obtain ⟨oc,od,kV,doc,pm,an,cdv,ct,osl,rfl,lk,hcd⟩:=F.ex
 refine Q3l (g:=g) lk hcd S len fun A outer s H vs Q E hr hsp=>?_
 obtain ⟨t,h,q⟩:=hbody _ f cdv A outer s H vs Q E rfl ⟨f,_,_,_,_,m,lk,rfl⟩ Q93 hr hsp
 exact ⟨t,h.h,q⟩
theorem HasE.mono {x:Str} {ps:List Str} {j k:Nat} {sp:Sp} (h:HasE P w K mg base x ps j sp) (hj:j≤k):HasE P w K mg base x ps k sp:=by
 obtain ⟨f,fd,a,b,c,d⟩:=h
 exact ⟨f,fd,a,b,c,d.mono hj⟩
end
noncomputable abbrev Qxw (sp:Sp) (R:XR) (t:TA):TE:=fun σ H Q=>t σ H fun vs H1=>sp vs H1 Q (fun cls dx H2=>R cls dx σ H2)
section
variable {X:Cx} {x:Str} {ps:List Str} {k:Nat} {sp:Sp} {e:Expr} {es:List Expr} {t:TA} {p pos cpos np:Pos} {R:XR}
theorem Q94 (h:HasE X.prog X.w X.K X.mg X.base x ps k sp) (pz:Qe5 X R) (hr:Room k X.A) (ha:QA X (e::es) t) (hg:Gl X x:=by rfl)
  (hdb:(x==("__debug__" : Str))=false:=by decide) (he:starEach (e::es) X.env=(false,eval e X.env)::starEach es X.env:=by rfl) (hpl:(backTo pos (starEach es X.env)).any (·.1)=false:=by rfl) :
  QE X (.Call (.Name x p) (e::es) [] pos) (Qxw sp R t):=by
 obtain ⟨f,fd,kp,m,b,F⟩:=h
 refine ⟨fun pins s σ H Q I hq=>?_⟩
 refine wpAny_Call_Name_kw (Qfy I hg m ?_ hdb)
 refine PySem.W.callWith_K (h₀:=X.base) I.ok.mod.kin kp (thn (ha.h pos pins s σ H _ I hq) fun us s1 ⟨vs,H1,I1,r,q⟩=>⟨I1.kIn,?_⟩) he hpl
 have hl:(us++[]).length=ps.length:=by rw [List.append_nil,←r.length];exact F.len _ _ _ _ q
 have r2:Vals vs (us++[]):=by rw [List.append_nil];exact r
 refine wpAny_call (codeAny_mono (F.run X.A X.stack s1 H1 ⟨us,[]⟩ (us++[]) vs Q _ hr I1.env0 (b s1 us I1.kIn hl) r2 q) fun rr s' hq'=>?_)
 cases rr with
 | error ev=>exact pz pins σ H1 s1 ev s' I1 hq'
 | ok fl =>
  cases fl with
  | ret u=>exact I1.after hq'
  | next=>exact False.elim hq'
  | brk=>exact False.elim hq'
  | cont=>exact False.elim hq'
theorem Q95 {st:Stmt} {t:TS} (h:QS X.nox st t):QS X st t:=⟨fun pins s σ H D I hw=>wpAny_mono (h.h pins s σ H D (I.wish _) hw) (fun _ _ q=>q.unwish) fun _ _ z=>False.elim z⟩
end
theorem Qxx {K:PySem.W.Frag} {h:Heap} {C:Addr} {bmB:List Value} {newId:String} (X:K.In h) (q:PySem.W.excIn K C bmB newId=true) :
  ∃ bm N nm qn bs hdct sn sub ab col dd k0 k1 k2 k3 k5 mN,h.get? C=some (excClassObj nm qn C N bs bm hdct sn sub ab col dd k0 k1 k2 k3 k5 newId)∧h.Ns N mN∧mN "__init__" = none∧OwnTail h bmB bm:=by
 unfold PySem.W.excIn at q
 split at q
 ·rename_i d0 c0 sl0 look
  split at q
  ·rename_i C' bm a0 a1 a2 a3 nid a5 eqm eqs
   simp only [Bool.and_eq_true,beq_iff_eq,Bool.not_eq_true'] at q
   obtain ⟨⟨⟨⟨⟨rfl,rfl⟩,q1⟩,q2⟩,q3⟩,q4⟩:=q
   obtain ⟨nm,bs,mro,ns,qn,hd,sn,sub,ab,col,del⟩:=c0
   dsimp only at eqm q1 q3 q4
   subst eqm q1
   obtain ⟨sll⟩:=sl0
   simp only at eqs
   subst eqs
   exact ⟨bm,ns,nm,qn,bs,hd,sn,sub,ab,col,d0,a0,a1,a2,a3,a5,_,X _ _ look,.of_isNs (PySem.W.isNs_of_in X q3),PySem.W.nsMap_none_of_in X q3 q4,PySem.W.tail_of_in X q2⟩
  ·cases q
 ·cases q
section
variable {X:Cx} {x:Str} {e:Expr} {es:List Expr} {t:TA} {pos cpos np:Pos} {R:XR} {C:Addr} {B newId initId:String} {bmB:List Value}
theorem Q1k (pz:Qe5 X R) (hc:X.calm=true) (F:ExcBaseFacts B newId initId bmB) (hC:PySem.W.excIn X.K C bmB newId=true) (hm:X.mg x=some (.ref C)) (ha:QA X (e::es) t) (hg:Gl X x:=by rfl)
  (hdb:(x==("__debug__" : Str))=false:=by decide) (he:starEach (e::es) X.env=(false,eval e X.env)::starEach es X.env:=by rfl) (hpl:(backTo cpos (starEach es X.env)).any (·.1)=false:=by rfl) :
  QS X (.Raise (some (.Call (.Name x np) (e::es) [] cpos)) none pos) (fun _ σ H=>t σ H fun vs H1=>vs.length≤sizeLine∧R (.ref C) none σ H1):=by
 refine ⟨fun pins s σ H D I hw=>?_⟩
 obtain ⟨bm,N,nm,qn,bs,hdct,sn,sub,ab,col,dd,k0,k1,k2,k3,k5,mN,oC,oN,ni,TL⟩:=Qxx I.ok.mod.kin hC
 refine wpAny_Raise_call_subT (C:=C) (nm:=nm) (q:=qn) (N:=N) (bs:=bs) (bm:=bm) (hdct:=hdct) (sn:=sn) (sub:=sub) (ab:=ab) (col:=col) (dd:=dd) (k0:=k0) (k1:=k1) (k2:=k2) (k3:=k3) (k5:=k5) F (mN:=mN) (TL.hasType F.hasBase) (I.ok.hd hc) ?_ ni (Qfy I hg hm ⟨rfl,?_⟩ hdb)
 ·rw [he]
  show (false||(backTo cpos (starEach es X.env)).any (·.1))=false
  rw [hpl];rfl
 ·have h2:=ha.h cpos pins s σ H _ I hw
  rw [he] at h2 ⊢
  refine Calls.evalArgs_plain (wpAny_mono h2 (fun us s2 ⟨vs,H1,I1,r,z,q⟩=>⟨rfl,by rw [←r.length];exact z,I1.bk _ _ oC,oN.keeps I1.bk,TL.keeps I1.bk,fun h' ea hm2=>?_⟩) fun _ _ y=>y)
  have hHe:H1 ea=none:=by
   cases z2:H1 ea with
   | none=>rfl
   | some o =>
    have:=I1.hok.lt z2
    have hk:∃ o',s2.heap.get? ea=some o':=by
     have ok:=I1.hok ea o z2
     cases o with
     | lst xs=>obtain ⟨_,_,_,_,e1⟩:=ok;exact ⟨_,e1⟩
     | tup xs=>obtain ⟨_,_,_,o,e1,_⟩:=ok;exact ⟨_,e1⟩
     | dK kvs=>obtain ⟨_,_,_,_,o,_,_,e1,_⟩:=ok;exact ⟨_,e1⟩
     | dT kvs=>obtain ⟨_,_,_,_,o,_,_,e1,_⟩:=ok;exact ⟨_,e1⟩
     | set S n=>obtain ⟨o,_,_,_,e1,_⟩:=ok;exact ⟨_,e1⟩
     | ins C dx fs=>obtain ⟨_,_,_,e1,_⟩:=ok;exact ⟨_,e1⟩
     | own y=>exact ok
     | xd fs=>obtain ⟨_,⟨_,_,_,e1,_⟩,_⟩:=ok;exact ⟨_,e1⟩
     | rng lo hi=>obtain ⟨_,_,_,e1⟩:=ok;exact ⟨_,e1⟩
     | frz ob u=>exact ⟨_,ok.1⟩
     | cod q=>obtain ⟨_,_,_,_,ec,e1,_⟩:=ok;cases ec;exact ⟨_,e1⟩
     | tbl q=>obtain ⟨_,e1,_⟩:=ok;exact ⟨_,e1⟩
     | _=>first | exact ok.2.1 | exact ⟨_,ok⟩ | (obtain ⟨_,e1,_⟩:=ok;exact ⟨_,e1⟩)
    obtain ⟨o',e1⟩:=hk
    rw [hm2.new] at e1;cases e1
  obtain ⟨tt,ht,_,_⟩:=hm2.there
  exact pz pins σ H1 s2 (.ref ea) { s2 with heap:=h' } I1 ⟨ea,.ref C,none,H1,rfl,rfl,I1.bare,Un.kept hm2.keeps,I1.hok.kept hm2.keeps,⟨hm2.new,hHe,_,_,ht,rfl,rfl,rfl,by simp,.inl rfl⟩,q⟩
end
structure RoomH (k:Nat) (A:Around):Prop where
 dp:A.depth+3*k+5<recursionLimit
 un:A.units+16*k+200<cLine
theorem RoomH.deeper {k:Nat} {A:Around} (r:RoomH (k+1) A) (env:Env):RoomH k (A.deeper env) :=
 ⟨by have:=r.dp;show A.depth+1+3*k+5<_;omega,by have:=r.un;show A.units+3+16*k+200<_;omega⟩
theorem RoomH.depth {k:Nat} {A:Around} (r:RoomH k A):A.depth<recursionLimit:=by have:=r.dp;omega
theorem Room.mark {k:Nat} {A:Around} (r:Room k A) (h:Option Value):RoomH k (A.mark h):=⟨r.dp,r.un⟩
structure FnOkH (P:Program) (w:World) (K:PySem.W.Frag) (mg:Str→Option Value) (base:Heap) (CX:CXT) (k:Nat) (f:Addr) (fd:FuncData) (ps:List Str) (sp:Sp):Prop where
 len:∀ vs H Q E,sp vs H Q E→vs.length=ps.length
 run:∀ (A:Around) (outer:List Env) (s:Shared) (H:Hp) (args:Args) (us:List Value) (vs:List V) (Q:VK) (E:XK),RoomH k A→Env0 P w K mg base A outer s H→BindsTo s fd args (ps.zip us)→Vals vs us→sp vs H Q E →
  codeAny (model P w) A (.call (.ref f) args) (CR CX outer P w H s Q E) s
noncomputable def Qnd (CX:CXT) (P:Program) (w:World) (K:PySem.W.Frag) (mg:Str→Option Value) (base:Heap) (N:List Str) (qual:Str) (scope:Scope) (f:Addr) (cd:Value) (A:Around) (outer:List Env) (s:Shared) (H:Hp) (E:XK):Cx where
 prog:=P
 w:=w
 K:=K
 mg:=mg
 base:=base
 A:=A.deeper (envOfC qual scope s.heap.objs.size f cd)
 N:=N
 s₀:=s
 H₀:=H
 env:=envOfC qual scope s.heap.objs.size f cd
 outer:=outer
 stack:=envOfC qual scope s.heap.objs.size f cd::outer
 ex:=[]
 calm:=false
 fn:=fun _=>true
 pn:=[]
 xe:=fun e s'=>wpAny (model P w) (A.deeper (envOfC qual scope s.heap.objs.size f cd)) (leaving (envOfC qual scope s.heap.objs.size f cd) e) (fun _ s''=>CX outer H s E e s'') (fun e' s''=>CX outer H s E e' s'') s'
theorem Qry {CX:CXT} {P:Program} {w:World} {K:PySem.W.Frag} {mg:Str→Option Value} {base:Heap} {N ps:List Str} {qual:Str} {scope:Scope} {f:Addr} {cd:Value} {A:Around} {outer:List Env} {s s1:Shared} {H:Hp} {E:XK} {us:List Value} {vs:List V}
  (S:FnScope N ps scope) (e0:Env0 P w K mg base A outer s H) (hl:vs.length=ps.length) (r:Vals vs us)
  (x:InCallC s s.heap.objs.size (bindL (envOfC qual scope s.heap.objs.size f cd).kindOf (ps.zip us) fun _=>none) (cellsFrom (s.heap.objs.size+1) scope.names []) (bindC (envOfC qual scope s.heap.objs.size f cd).kindOf (ps.zip us) fun _=>none) s1) :
  Inv (Qnd CX P w K mg base N qual scope f cd A outer s H E) [] (Qbj N vs) H s1:=by
 have hpl:ps.length≤N.length:=by have:=congrArg List.length S.pre;rw [List.length_take] at this;omega
 obtain ⟨h1,tk,rfl,hk⟩:=x.done
 have noA:∀ b:Addr,b∉(Qnd CX P w K mg base N qual scope f cd A outer s H E).ex:=fun b z=>absurd (show b∈([]:List Addr) from z) (by simp)
 refine ⟨⟨e0.mod,S.kind,rfl,rfl,Nat.le_refl _,fun y z c h1 h2=>?_,fun y hy=>?_,fun y c _ h=>?_,fun z=>(Bool.false_ne_true z).elim,Around.frames_deeper e0.frames,.inr ⟨rfl,rfl⟩,fun b z=>absurd z (noA b),e0.bs,e0.bsz,fun b _ _=>noA b,fun b z=>absurd z (noA b),e0.funs,e0.frf⟩,
  rfl,e0.bare,Un.kept hk,⟨_,x.toInCall.ns,fun i y v h1 h2 h3=>?_⟩,fun y c h=>⟨_,x.cell y c h⟩,e0.hok.fresh (Nat.le_refl _),fun y c h=>?_,fun p hp=>absurd (show p∈([]:List (Addr×Obj)) from hp) (by simp),e0.hok.kept hk,?_⟩
 ·exact name_of_addr x.apart (PySem.mem_of_lookup h1) (PySem.mem_of_lookup h2)
 ·have hy:scope.names.lookup y=some .cell∨scope.names.lookup y=some .free:=hy
  rcases hy with hy | hy
  ·exact Qih hy
  ·exact absurd rfl (S.nofree _ (PySem.mem_of_lookup hy))
 ·exact Nat.le_of_lt (x.above y c (PySem.mem_of_lookup h))
 ·have hi:i<vs.length:=by
   unfold Qbj at h2
   by_cases hi:i<vs.length
   ·exact hi
   ·rw [List.getElem?_append_right (by simpa using hi)] at h2
    rw [List.getElem?_replicate] at h2
    split at h2 <;> cases h2
  have ha:vs[i]?=some v:=by
   unfold Qbj at h2
   rw [List.getElem?_append_left (by simpa using hi),List.getElem?_map] at h2
   cases e:vs[i]? with
   | none=>rw [e] at h2;cases h2
   | some a=>rw [e] at h2;cases h2;rfl
  obtain ⟨u,hu,rv⟩:=r.get ha
  have hp:ps[i]?=some y:=by
   rw [←S.pre,List.getElem?_take_of_lt (by omega)];exact h1
  have ndP:ps.Nodup:=by rw [←S.pre];exact S.nd.sublist (List.take_sublist _ _)
  refine ⟨u,rv,?_⟩
  rcases S.par y (List.mem_of_getElem? hp) with k | k
  ·exact .inl ⟨k,Qeo ndP hp hu k⟩
  ·obtain ⟨c,e⟩:=Qih (n:=s.heap.objs.size+1) k
   refine .inr ⟨.inl k,c,e,?_⟩
   have q:=x.cell y c e
   rw [Qjc ndP hp hu (by show scope.names.lookup y≠_;rw [k];decide)] at q
   exact q
 ·exact .inl (e0.hok.fresh (Nat.le_of_lt (x.above y c (PySem.mem_of_lookup h))))
 ·unfold Qbj
  show _=N.length
  rw [List.length_append,List.length_map,List.length_replicate]
  omega
theorem Q6o {CX:CXT} {P:Program} {w:World} {K:PySem.W.Frag} {mg:Str→Option Value} {base:Heap} {k:Nat} {f:Addr} {name qual:Str} {params:Arguments} {body:List Stmt} {scope:Scope} {dV kV doc pm cdv ct oc:Value} {an od:Option Addr}
  {osl:Array (Option Value)} {N ps:List Str} {sp:Sp} (lk:K.lookup f=some ⟨oc,od,.func (PySem.W.fnOf name qual params body scope dV kV doc pm an cdv ct),osl⟩) (hcd:PySem.W.codeIn K cdv qual=true) (S:FnScope N ps scope)
  (len:∀ vs H Q E,sp vs H Q E→vs.length=ps.length)
  (hbody:∀ (A:Around) (outer:List Env) (s:Shared) (H:Hp) (vs:List V) (Q:VK) (E:XK),RoomH k (A.deeper (envOfC qual scope s.heap.objs.size f cdv))→sp vs H Q E →
   ∃ t,PSs (Qnd CX P w K mg base N qual scope f cdv A outer s H E) body t∧t { nx:=fun _ H'=>Q .non H',rt:=Q } (Qbj N vs) H) :
  FnOkH P w K mg base CX (k+1) f (PySem.W.fnOf name qual params body scope dV kV doc pm an cdv ct) ps sp:=by
 refine ⟨len,fun A outer s H args us vs Q E hr e0 hb r hsp=>?_⟩
 have hl:=len _ _ _ _ hsp
 have KX:K.In s.heap:=e0.mod.kin.keeps fun b o e=>(e0.bs b o e).1
 have lim:s.heap.NoLimit:=e0.mod.nolimit.keeps fun b o e=>(e0.bs b o e).1
 have hkind:∀ y∈ps.zip us,scope.names.lookup y.1=some .local∨(scope.names.lookup y.1=some .cell∧((cellsFrom (s.heap.objs.size+1) scope.names []).lookup y.1).isSome=true):=fun ⟨n,v⟩ hy=>by
  rcases S.par n (List.of_mem_zip hy).1 with q | q
  ·exact .inl q
  ·exact .inr ⟨q,PySem.W.cellsFrom_some _ _ _ (.inl q)⟩
 refine codeAny_call_function hr.depth (KX _ _ lk) rfl S.co S.gen rfl (PySem.W.codeRec_of KX hcd) (hb _ _ _ _ ?_)
 refine wpAny_newFunctionEnv_cells S.kind hkind fun env he s1 x=>?_
 subst he
 refine ⟨lim.keeps x.toInCall.keep,codeAny_func ?_⟩
 obtain ⟨t,ht,hq⟩:=hbody A outer s H vs Q E (hr.deeper _) hsp
 have I:Inv (Qnd CX P w K mg base N qual scope f cdv A outer s H E) [] (Qbj N vs) H s1:=Qry S e0 hl r x
 refine wpAny_mono (ht [] s1 (Qbj N vs) H _ I hq) (fun fl s' hs=>?_) fun e s' hs=>hs
 have fin:∀ {σ':St} {H':Hp} {v:V} {u:Value},Inv (Qnd CX P w K mg base N qual scope f cdv A outer s H E) [] σ' H' s'→RelV v u→Q v H'→CE outer P w H s Q u s' :=
  fun {σ' H' v u} J rv q=>⟨v,H',J.os,J.bare,J.base,J.hok,rv,q⟩
 cases fl with
 | ret u =>
  obtain ⟨v,σ',H',J,rv,q⟩:=hs
  exact fin J rv q
 | next =>
  obtain ⟨σ',H',J,q⟩:=hs
  exact fin (v:=V.non) (u:=Value.none) J rfl q
 | brk =>
  obtain ⟨_,_,_,q⟩:=hs
  exact False.elim q
 | cont =>
  obtain ⟨_,_,_,q⟩:=hs
  exact False.elim q
section
variable {X:Cx} {pins p2:List (Addr×Obj)} {σ σ0:St} {H H0:Hp} {s s0:Shared} {h':Heap} {R:XR}
theorem Inv.ns_in (I:Inv X pins σ H s):∃ o,s.heap.get? X.env.locals=some o:=by
 obtain ⟨m,⟨o,_,_,ho,_⟩,_⟩:=I.loc
 exact ⟨o,ho⟩
theorem Inv.cell_in (I:Inv X pins σ H s) {x:Str} {c:Addr} (e:X.env.cells.lookup x=some c):∃ o,s.heap.get? c=some o:=by
 obtain ⟨v,o,ho,_⟩:=I.cell x c e
 exact ⟨o,ho⟩
theorem Inv.old_in (I:Inv X pins σ H s) {b:Addr} {o:Obj} (e:X.s₀.heap.get? b=some o) (hx:b∉X.ex):∃ v,s.heap.get? b=some v:=I.base.there b o e hx
theorem Inv.raw (I:Inv X pins σ H s) (I0:Inv X pins σ0 H0 s0) (r:Raw (frs X.stack) s0.heap H s.heap h'):Inv X pins σ H { s with heap:=h' }:=by
 have sub:∀ b,b∉X.fs→b≠X.env.locals→b∉frs X.stack:=fun b h1 h2 z=>(List.mem_cons.mp (I.stkSub b z)).elim h2 h1
 have cellK:∀ x c v,X.env.cells.lookup x=some c→s.heap.IsCell c v→h'.IsCell c v:=fun x c v e ⟨o,ho,hd⟩=>by
  obtain ⟨sl,q⟩:=r.slot c o ho (.inl (I0.cell_in e))
  exact ⟨_,q,hd⟩
 refine ⟨I.ok,I.os,I.bare,⟨fun b o e n hb hx=>?_,fun b o e n hb hx=>?_,I.base.free,fun b o e hx=>?_,I.base.tups,I.base.frzs,I.base.tbls⟩,?_,fun x c e=>?_,I.free,I.freeC,fun p hp=>?_,r.hok I.hok I.stkFree,I.len⟩
 ·refine r.keep b o (I.base.keep b o e n hb hx) (.inl (I0.old_in e hx)) (sub b hb ?_)
  exact Nat.ne_of_lt (Nat.lt_of_lt_of_le (Heap.lt_size e) I.ok.above)
 ·obtain ⟨sl,q⟩:=I.base.slot b o e n hb hx
  obtain ⟨sl',q'⟩:=r.slot b _ q (.inl (I0.old_in e hx))
  exact ⟨sl',q'⟩
 ·obtain ⟨o',q⟩:=I.base.there b o e hx
  obtain ⟨sl',q'⟩:=r.slot b _ q (.inl (I0.old_in e hx))
  exact ⟨_,q'⟩
 ·obtain ⟨m,⟨o,es,ep,ho,rest⟩,hl⟩:=I.loc
  obtain ⟨sl,q⟩:=r.slot _ o ho (.inl I0.ns_in)
  refine ⟨m,⟨_,es,ep,q,rest⟩,fun i x v e1 e2 e3=>?_⟩
  obtain ⟨u,rv,l⟩:=hl i x v e1 e2 e3
  refine ⟨u,rv,?_⟩
  rcases l with l | ⟨k,c,e,z⟩
  ·exact .inl l
  ·exact .inr ⟨k,c,e,cellK x c _ e z⟩
 ·obtain ⟨v,z⟩:=I.cell x c e
  exact ⟨v,cellK x c v e z⟩
 ·obtain ⟨e,n,ne,nf,d⟩:=I.pin p hp
  exact ⟨r.keep p.1 p.2 e (.inl ⟨_,(I0.pin p hp).1⟩) (sub _ nf ne),n,ne,nf,d⟩
noncomputable def Qrz (a:Addr) (cls:Value) (dx:Option Addr):HO:=.ext fun h=>∃ o vs,h.get? a=some o∧o.cls=cls∧o.dict=dx∧o.data=.fields vs
theorem Inv.track {a:Addr} {cls:Value} {dx:Option Addr} (I:Inv X pins σ H s) (I0:Inv X pins σ0 H0 s0) (x:XObj H s.heap s0.heap a cls dx):Inv X pins σ (upd H a (Qrz a cls dx)) s:=by
 obtain ⟨hn,hH,oe,vs,he,hc,hdx,hd,_⟩:=x
 have ne:∀ b o,s0.heap.get? b=some o→b≠a:=fun b o e z=>by rw [z,hn] at e;cases e
 have neH:∀ b u,H b=some u→b≠a:=fun b u e z=>by rw [z,hH] at e;cases e
 obtain ⟨oL,hL⟩:=I0.ns_in
 refine ⟨I.ok,I.os,I.bare,⟨I.base.keep,I.base.slot,fun b o e n hx=>?_,I.base.there,fun b xs e=>?_,fun b o u e=>?_,fun b ps e=>?_⟩,I.loc,I.cell,?_,fun x c e=>?_,fun p hp=>?_,fun b u e=>?_,I.len⟩
 ·obtain ⟨v,q⟩:=I0.old_in e hx
  rw [Qz (ne _ _ q)]
  exact I.base.free b o e n hx
 ·have q:=I.base.tups b xs e
  rw [Qz (neH _ _ q)];exact q
 ·have q:=I.base.frzs b o u e
  rw [Qz (neH _ _ q)];exact q
 ·have q:=I.base.tbls b ps e
  rw [Qz (neH _ _ q)];exact q
 ·rw [Qz (ne _ _ hL)];exact I.free
 ·obtain ⟨o,q⟩:=I0.cell_in e
  rw [Qz (ne _ _ q)];exact I.freeC x c e
 ·obtain ⟨e,n,r⟩:=I.pin p hp
  exact ⟨e,by rw [Qz (ne _ _ (I0.pin p hp).1)];exact n,r⟩
 ·by_cases hb:b=a
  ·subst hb
   rw [Qp] at e
   cases e
   refine ⟨⟨oe,vs,he,hc,hdx,hd⟩,⟨oe,he⟩,fun h1 h2 ⟨o,vs',q,r1,r2,r3⟩ k=>⟨o,vs',k o q,r1,r2,r3⟩⟩
  ·rw [Qz hb] at e
   exact (I.hok b u e).stay (fun _ _ _ q=>q) (fun c q=>by rw [Qz (neH _ _ q)];exact q) (fun c xs q=>by rw [Qz (neH _ _ q)];exact q) fun c xs q=>by rw [Qz (neH _ _ q)];exact q
noncomputable def Qli (X:Cx) (pins:List (Addr×Obj)) (R:XR):Cx:={ X with
 pn:=X.pn++pins
 xe:=fun e s'=>∃ a cls dx σ' H' H1 s1,e=.ref a∧Inv X pins σ' H1 s1∧Inv X pins σ' H' s'∧XObj H' s'.heap s1.heap a cls dx∧(∀ b o,s1.heap.get? b=some o→b<s'.heap.objs.size)∧R cls dx σ' H' }
theorem Inv.toTry (I:Inv X pins σ H s):Inv (Qli X pins R) [] σ H s :=
 ⟨⟨I.ok.mod,I.ok.kind,I.ok.glob,I.ok.blt,I.ok.above,I.ok.inj,I.ok.has,I.ok.cab,I.ok.hd,I.ok.frames,I.ok.stk,I.ok.exf,I.ok.bs,I.ok.bsz,I.ok.noex,I.ok.exfs,I.ok.funs,I.ok.frf⟩,
  I.os,I.bare,I.base,I.loc,I.cell,I.free,I.freeC,fun p hp=>I.pin p (by rw [List.append_nil] at hp;exact hp),I.hok,I.len⟩
theorem Inv.ofTry (I:Inv (Qli X pins R) p2 σ H s):Inv X pins σ H s :=
 ⟨⟨I.ok.mod,I.ok.kind,I.ok.glob,I.ok.blt,I.ok.above,I.ok.inj,I.ok.has,I.ok.cab,I.ok.hd,I.ok.frames,I.ok.stk,I.ok.exf,I.ok.bs,I.ok.bsz,I.ok.noex,I.ok.exfs,I.ok.funs,I.ok.frf⟩,
  I.os,I.bare,I.base,I.loc,I.cell,I.free,I.freeC,fun p hp=>I.pin p (List.mem_append_left _ hp),I.hok,I.len⟩
theorem Q1l:Qe5 (Qli X pins R) R:=by
 intro p2 σ H s e s' I h
 obtain ⟨a,cls,dx,H',rfl,os,bare,un,hok,xo,hR⟩:=h
 have J:=I.thrown os bare un hok
 refine ⟨a,cls,dx,σ,H',H,s,rfl,I.ofTry,J.ofTry,xo,fun b o q=>?_,hR⟩
 obtain ⟨o',q'⟩:=un.there b o q (by simp)
 exact Heap.lt_size q'
noncomputable def Qlj (X:Cx) (pins:List (Addr×Obj)) (e:Addr):Cx:={ X with A:=X.A.mark (some (.ref e)),calm:=false,pn:=X.pn++pins,xe:=fun _ _=>False }
theorem Inv.toHan {e:Addr} (I:Inv X pins σ H s):Inv (Qlj X pins e) [] σ H s :=
 ⟨⟨I.ok.mod,I.ok.kind,I.ok.glob,I.ok.blt,I.ok.above,I.ok.inj,I.ok.has,I.ok.cab,fun z=>(Bool.false_ne_true z).elim,I.ok.frames,I.ok.stk,I.ok.exf,I.ok.bs,I.ok.bsz,I.ok.noex,I.ok.exfs,I.ok.funs,I.ok.frf⟩,
  I.os,I.bare,I.base,I.loc,I.cell,I.free,I.freeC,fun p hp=>I.pin p (by rw [List.append_nil] at hp;exact hp),I.hok,I.len⟩
theorem Inv.ofHan {e:Addr} (I:Inv (Qlj X pins e) p2 σ H s) (ok:X.Ok):Inv X pins σ H s :=
 ⟨ok,I.os,I.bare,I.base,I.loc,I.cell,I.free,I.freeC,fun p hp=>I.pin p (List.mem_append_left _ hp),I.hok,I.len⟩
end
section
variable {X:Cx} {pins:List (Addr×Obj)} {σ:St} {H:Hp} {s:Shared} {M:Model} {A:Around} {E:Value→Shared→Prop} {Q:Unit→Shared→Prop} {i:Nat} {x:Str} {v:V}
theorem Qvf (I:Inv X pins σ H s) (hN:X.N.Nodup) (hi:X.N[i]?=some x) (hl:X.env.scope.names.lookup x=some .local) (hv:σ[i]?=some (some v)) (h:∀ s',Inv X pins (σ.set i none) H s'→Q () s'):wpAny M A (unbindName X.env x) Q E s:=by
 obtain ⟨m,hn,hm⟩:=id I.loc
 have hcls:(X.env.scope.kind==.class||(X.env.scope.kind==.module&&X.env.locals != X.env.globals))=false:=by rw [I.ok.kind];rfl
 obtain ⟨u,_,lk⟩:=hm i x v hi hv (.inl hl)
 have mv:m x=some u:=by
  rcases lk with ⟨_,e⟩ | ⟨k,_⟩
  ·exact e
  ·rcases k with k | k
   ·have k:X.env.scope.names.lookup x=some .cell:=k
    rw [hl] at k;cases k
   ·have k:X.env.scope.names.lookup x=some .free:=k
    rw [hl] at k;cases k
 obtain ⟨oL,_,_,hoL,_⟩:=id hn
 refine wpAny_unbindName_local hl hn mv hcls fun h' u' hn' hs=>h _ ?_
 have oth:∀ b o,X.s₀.heap.get? b=some o→h'.get? b=s.heap.get? b:=fun b o e=>hs.2 b (Nat.ne_of_lt (Nat.lt_of_lt_of_le (Heap.lt_size e) I.ok.above))
 have tracked:HOk X.prog X.w H h':=fun b ob e=>by
  refine (I.hok b ob e).stay (fun c w' hc q=>(hs.2 c ?_).trans q) (fun _ q=>q) fun _ _ q=>q
  rintro rfl
  rcases hc with rfl | hc
  ·rw [I.free] at e;cases e
  ·rw [I.free] at hc;cases hc
 refine ⟨I.ok,I.os,I.bare,⟨fun b o e n hb hx=>(oth b o e).trans (I.base.keep b o e n hb hx),fun b o e n hb hx=>?_,I.base.free,fun b o e hx=>?_,I.base.tups,I.base.frzs,I.base.tbls⟩,⟨_,hn',fun j y v' e1 e2 e3=>?_⟩,fun y c e=>?_,I.free,I.freeC,fun p hp=>?_,tracked,by simpa using I.len⟩
 ·obtain ⟨sl,e1⟩:=I.base.slot b o e n hb hx
  exact ⟨sl,(oth b o e).trans e1⟩
 ·obtain ⟨o',e1⟩:=I.base.there b o e hx
  exact ⟨o',(oth b o e).trans e1⟩
 ·have hj:j≠i:=fun z=>by
   have hlt:i<σ.length:=(List.getElem?_eq_some_iff.mp hv).1
   rw [z,List.getElem?_set_self hlt] at e2
   cases e2
  rw [List.getElem?_set_ne (Ne.symm hj)] at e2
  obtain ⟨u2,r2,q⟩:=hm j y v' e1 e2 e3
  refine ⟨u2,r2,?_⟩
  rcases q with ⟨k,e⟩ | ⟨k,c,e,z⟩
  ·refine .inl ⟨k,?_⟩
   have:y≠x:=fun e=>hj (Qk8 hN e1 (e ▸ hi))
   simp [this,e]
  ·exact .inr ⟨k,c,e,z.sameBut hs (I.cne y c e)⟩
 ·obtain ⟨w',z⟩:=I.cell y c e
  exact ⟨w',z.sameBut hs (I.cne y c e)⟩
 ·obtain ⟨e,n,ne,nf,d⟩:=I.pin p hp
  exact ⟨(hs.2 p.1 ne).trans e,n,ne,nf,d⟩
end
theorem Qr0 {K:PySem.W.Frag} {M:Model} {A:Around} {E:Value→Shared→Prop} {h:Heap} {g:Array GenState} {d:Drawn} {t:Nat} {os:OsState} {e C0 C1:Addr} {oe:Obj} {bmB:List Value} {newId:String} {Q:Bool→Shared→Prop} (X:K.In h)
  (q0:PySem.W.excIn K C0 bmB newId=true) (hb:bmB.contains (.type "BaseException")=true) (q1:PySem.W.mroIn K C1 (.ref C0)=some true) (he:h.get? e=some oe) (hcls:oe.cls=.ref C1) (hq:Q true ⟨h,g,d,t,os⟩) :
  wpAny M A (excMatches (.ref e) (.ref C0)) Q E ⟨h,g,d,t,os⟩:=by
 obtain ⟨bm,N,nm,qn,bs,hdct,sn,sub,ab,col,dd,k0,k1,k2,k3,k5,mN,oC,oN,ni,TL⟩:=Qxx X q0
 have cB:(Value.ref C0::bm).contains (.type "BaseException")=true:=by rw [List.contains_cons,TL.hasType hb,Bool.or_true]
 have L1:=PySem.W.looks_mroIn (M:=M) X q1
 have f:=tc_notTuple
 unfold excMatches
 repeat (first | (with_reducible refine wpAny_loadPart_at he ?_;rw [hcls]) | with_reducible refine wpAny_loadPart_at oC ?_ | with_reducible refine L1.at ?_ | (with_reducible refine wpAny_isSubtype_exc oC ?_;rw [cB]) | wp_step)
 exact hq
noncomputable def Q96 (i:Nat) (K:PySem.W.Frag) (C0:Addr) (tb:XR→TS) (th:TS):TS:=fun D σ H=>∃ R:XR,tb R D σ H∧∀ cls dx σ' H' a,R cls dx σ' H'→H' a=none→σ'.length=σ.length →
 (∃ C1,cls=.ref C1∧PySem.W.mroIn K C1 (.ref C0)=some true)∧th { nx:=fun σ2 H2=>D.nx (σ2.set i none) H2,rt:=D.rt,bk:=fun σ2 H2=>D.bk (σ2.set i none) H2,ct:=fun σ2 H2=>D.ct (σ2.set i none) H2 } (σ'.set i (some (.ref a))) (upd H' a (Qrz a cls dx))
section
variable {X:Cx} {body suite:List Stmt} {b0:Stmt} {x n:Str} {np hpos pos:Pos} {tb:XR→TS} {th:TS} {i:Nat} {C0:Addr} {bmB:List Value} {newId:String}
theorem Q97 (hb:∀ (pins:List (Addr×Obj)) (R:XR),Qe5 (Qli X pins R) R→QB (Qli X pins R) body (tb R)) (hs:∀ (pins:List (Addr×Obj)) (e:Addr),QB (Qlj X pins e) (b0::suite) th)
  (hN:X.N.Nodup) (hC:PySem.W.excIn X.K C0 bmB newId=true) (hB:bmB.contains (.type "BaseException")=true) (hm:X.mg x=some (.ref C0)) (hi:X.N[i]?=some n:=by rfl) (hl:X.env.scope.names.lookup n=some .local:=by rfl) (hg:Gl X x:=by rfl)
  (hst:∃ env outer L,X.stack=env::outer∧X.env=env∧env.frame=some L:=by exact ⟨_,_,_,rfl,rfl,rfl⟩)
  (hdb:(x==("__debug__" : Str))=false:=by decide):QS X (.Try body [.ExceptHandler (some (.Name x np)) (some n) (b0::suite) hpos] [] [] pos) (Q96 i X.K C0 tb th):=by
 refine ⟨fun pins s σ H D I hw=>?_⟩
 obtain ⟨R,hwb,hwh⟩:=hw
 obtain ⟨env0,outer,L,est,eenv,efr⟩:=hst
 have body_ok:=(hb pins R Q1l).h [] s σ H D I.toTry hwb
 refine wpAny_Try_except (wpAny_mono body_ok (fun f s1 q=>?_) fun ev s1 q=>?_)
 ·have q':SP X pins D f s1:=by
   cases f with
   | next=>obtain ⟨σ',H',J,z⟩:=q;exact ⟨σ',H',J.ofTry,z⟩
   | brk=>obtain ⟨σ',H',J,z⟩:=q;exact ⟨σ',H',J.ofTry,z⟩
   | cont=>obtain ⟨σ',H',J,z⟩:=q;exact ⟨σ',H',J.ofTry,z⟩
   | ret u=>obtain ⟨v,σ',H',J,r,z⟩:=q;exact ⟨v,σ',H',J.ofTry,r,z⟩
  cases f with
  | next=>exact wpAny_execs_nil q'
  | brk=>exact q'
  | cont=>exact q'
  | ret u=>exact q'
 ·obtain ⟨a,cls,dx,σ',H',H1,s2,rfl,I0,J,xo,hlt,hR⟩:=q
  have frJ:X.A.frames=some (env0::outer):=by rw [J.ok.frames,est]
  have stJ:s1.heap.FunFrames X.base (env0::outer):=by rw [←est];exact J.stack
  rw [←est] at stJ
  rw [eenv]
  refine Qp1 (base:=X.base) (outer:=outer) frJ (by rw [←est];exact stJ) efr (fun b hb=>J.hok.fresh hb) hlt xo fun h3 x3 r3=>?_
  rw [←est] at r3
  have J3:=J.raw I0 r3
  refine Qh4 (s:={ s1 with heap:=h3 }) (fs:=frs X.stack) x3 fun h4 x4 r4=>?_
  have J4:=J3.raw I0 r4
  obtain ⟨⟨C1,rfl,hmro⟩,hsuite⟩:=hwh cls dx σ' H' a hR x4.2.1 (J.len.trans I.len.symm)
  obtain ⟨hn,hH,oe,vs,he,hc,hdx,hd,_⟩:=id x4
  rw [←eenv]
  have ld:∀ (E':Value→Shared→Prop) (Q':Value→Shared→Prop),Q' (.ref C0) { s1 with heap:=h4 }→wpAny (model X.prog X.w) (X.A.mark (some (.ref a))) (eval (.Name x np) X.env) Q' E' { s1 with heap:=h4 }:=fun E' Q' hq=>Qfy (X:=Qlj X pins a) (J4.toHan) hg hm hq hdb
  refine wpAny_handleBy_cons (codeAny_handlers_test (ld _ _ (Qr0 (h:=h4) J4.kIn hC hB hmro he hc ?_))) (by intro z;cases z)
  refine codeAny_handlers_suite_as ?_
  refine Qh4 (s:={ s1 with heap:=h4 }) (fs:=frs X.stack) x4 fun h5 x5 r5=>?_
  have J5:=J4.raw I0 r5
  have J6:=J5.track I0 x5
  refine Qfp (X:=Qlj X pins a) J6.toHan hN hi (.inl hl) (v:=.ref a) rfl (fun s6 I6=>?_) (.inr hl)
  refine wpAny_mono ((hs pins a).h [] s6 _ _ _ I6 hsuite) (fun f s7 q7=>?_) fun _ _ z=>False.elim z
  have fin:∀ {σ7:St} {H7:Hp} {P:Prop},Inv (Qlj X pins a) [] σ7 H7 s7→(∀ s9,Inv X pins (σ7.set i none) H7 s9→SP X pins D f s9) →
    wpAny (model X.prog X.w) X.A (do bindName X.env n .none;unbindBehindTheSuite X.env n hpos) (fun _ s9=>SP X pins D f s9) X.xe s7:=fun {σ7 H7 P} I7 k=>by
   have K7:=I7.ofHan I.ok
   have hlen:i<σ7.length:=by
    rw [K7.len]
    exact (List.getElem?_eq_some_iff.mp hi).1
   refine wpAny_bind (wpAny_bindName (Qfp K7 hN hi (.inl hl) (v:=.non) rfl (fun s8 I8=>?_) (.inr hl)))
   unfold unbindBehindTheSuite
   refine wpAny_onRaise (Qvf I8 hN hi hl (v:=.non) (List.getElem?_set_self hlen) fun s9 I9=>k s9 ?_)
   rw [List.set_set] at I9
   exact I9
  cases f with
  | next =>
   obtain ⟨σ7,H7,I7,z⟩:=q7
   exact fin (P:=True) I7 fun s9 I9=>⟨_,_,I9,z⟩
  | brk =>
   obtain ⟨σ7,H7,I7,z⟩:=q7
   exact fin (P:=True) I7 fun s9 I9=>⟨_,_,I9,z⟩
  | cont =>
   obtain ⟨σ7,H7,I7,z⟩:=q7
   exact fin (P:=True) I7 fun s9 I9=>⟨_,_,I9,z⟩
  | ret u =>
   obtain ⟨v,σ7,H7,I7,r,z⟩:=q7
   exact fin (P:=True) I7 fun s9 I9=>⟨v,_,_,I9,r,z⟩
end
end L2
namespace PySem.SeqAt
open PySem PySem.Spec PyProof PyProof.Rows
theorem sub_tuple_dict:isSubtype (.type "tuple") (.type "dict")=pure false:=by rw [isSubtype_type];kernel_rfl
theorem sub_dict_tuple:isSubtype (.type "dict") (.type "tuple")=pure false:=by rw [isSubtype_type];kernel_rfl
theorem sub_dict_dict:isSubtype (.type "dict") (.type "dict")=pure true:=by rw [isSubtype_type];kernel_rfl
theorem dict_ne_declines_tuple (l b:Addr) (da:Data) (items2:Array Value) (n2:Nat) (dd dd2:Option Addr) (sl sl2:Array (Option Value)) :
  Meets (Builtin.«dict.__ne__» ⟨[.ref l,.ref b],[]⟩) (fun _ R s=>s.heap.get? l=some { cls:=.type "dict",dict:=dd,data:=da,slots:=sl }∧s.heap.get? b=some { cls:=.type "tuple",dict:=dd2,data:=.seq items2 n2,slots:=sl2 }∧R (.ok (.ret .notImplemented)) s) :=
 .of_wp fun prog w A R s h=>by obtain ⟨hp,g,d,tk,os⟩:=s;obtain ⟨hl,hb,h⟩:=h;have f1:=sub_tuple_dict;have f2:=sub_dict_dict;wp_walk using wpAny_loadPart' hl,wpAny_loadPart' hb;exact ⟨_,rfl,h⟩
theorem tuple_ne_declines_dict (l b:Addr) (da:Data) (items:Array Value) (n:Nat) (dd dd2:Option Addr) (sl sl2:Array (Option Value)) :
  Meets (Builtin.«tuple.__ne__» ⟨[.ref l,.ref b],[]⟩) (fun _ R s=>s.heap.get? l=some { cls:=.type "tuple",dict:=dd,data:=.seq items n,slots:=sl }∧s.heap.get? b=some { cls:=.type "dict",dict:=dd2,data:=da,slots:=sl2 }∧R (.ok (.ret .notImplemented)) s) :=
 .of_wp fun prog w A R s h=>by obtain ⟨hp,g,d,tk,os⟩:=s;obtain ⟨hl,hb,h⟩:=h;have f1:=sub_dict_tuple;wp_walk using wpAny_loadPart' hl,wpAny_loadPart' hb;exact ⟨_,rfl,h⟩
theorem dict_eq_declines_tuple (l b:Addr) (da:Data) (items2:Array Value) (n2:Nat) (dd dd2:Option Addr) (sl sl2:Array (Option Value)) :
  Meets (Builtin.«dict.__eq__» ⟨[.ref l,.ref b],[]⟩) (fun _ R s=>s.heap.get? l=some { cls:=.type "dict",dict:=dd,data:=da,slots:=sl }∧s.heap.get? b=some { cls:=.type "tuple",dict:=dd2,data:=.seq items2 n2,slots:=sl2 }∧R (.ok (.ret .notImplemented)) s) :=
 .of_wp fun prog w A R s h=>by obtain ⟨hp,g,d,tk,os⟩:=s;obtain ⟨hl,hb,h⟩:=h;have f1:=sub_tuple_dict;have f2:=sub_dict_dict;wp_walk using wpAny_loadPart' hl,wpAny_loadPart' hb;exact ⟨_,rfl,h⟩
theorem tuple_eq_declines_dict (l b:Addr) (da:Data) (items:Array Value) (n:Nat) (dd dd2:Option Addr) (sl sl2:Array (Option Value)) :
  Meets (Builtin.«tuple.__eq__» ⟨[.ref l,.ref b],[]⟩) (fun _ R s=>s.heap.get? l=some { cls:=.type "tuple",dict:=dd,data:=.seq items n,slots:=sl }∧s.heap.get? b=some { cls:=.type "dict",dict:=dd2,data:=da,slots:=sl2 }∧R (.ok (.ret .notImplemented)) s) :=
 .of_wp fun prog w A R s h=>by obtain ⟨hp,g,d,tk,os⟩:=s;obtain ⟨hl,hb,h⟩:=h;have f1:=sub_dict_tuple;wp_walk using wpAny_loadPart' hl,wpAny_loadPart' hb;exact ⟨_,rfl,h⟩
section
variable {A:Around} {s:Shared}
theorem RcNeAt.dict_tuple {l b:Addr} {o:Obj} {items2:Array Value} (ho:s.heap.get? l=some o) (hc:o.cls=.type "dict") (hb:s.heap.IsTuple b items2) (hu:A.units<cLine):RcNeAt A s (.ref l) (.ref b) true:=fun prog w E Q h=>by
 obtain ⟨⟨cls2,dd2,data2,sl2⟩,ho2,hc2,n2,hd2⟩:=id hb
 obtain ⟨cls,dd,data,sl⟩:=o
 simp only at hc hc2 hd2
 subst hc hc2 hd2
 have hne:l≠b:=fun z=>by subst z;rw [ho] at ho2;have e:(Value.type "dict")=.type "tuple" := congrArg (·.cls) (Option.some.inj ho2);exact absurd e (by decide)
 exact (rc_ne_decline_or (k:=false) ⟨_,ho,rfl⟩ ⟨_,ho2,rfl⟩ (by decide) sub_tuple_dict F.slot_dict_ne F.slot_tuple_ne_refl
  (fun _ hq=>call_meets F.slot_dict_ne ⟨_,ho,rfl⟩ F.entry_dict_ne (F.args_dict_ne_2 _ _) (dict_ne_declines_tuple l b data items2 n2 dd dd2 sl sl2) ⟨ho,ho2,hq⟩)
  (fun _ hq=>call_meets F.slot_tuple_ne_refl ⟨_,ho2,rfl⟩ F.entry_tuple_ne (F.args_tuple_ne_2 _ _) (tuple_ne_declines_dict b l data items2 n2 dd2 dd sl2 sl) ⟨ho2,ho,hq⟩)
  (fun _ hq=>wpAny_isSame_ref_other hne ho ho2 (by simp) hq) (.inr hu) h)
theorem RcAt.dict_tuple {l b:Addr} {o:Obj} {items2:Array Value} (ho:s.heap.get? l=some o) (hc:o.cls=.type "dict") (hb:s.heap.IsTuple b items2) (hu:A.units<cLine):RcAt A s (.ref l) (.ref b) false:=fun prog w E Q h=>by
 obtain ⟨⟨cls2,dd2,data2,sl2⟩,ho2,hc2,n2,hd2⟩:=id hb
 obtain ⟨cls,dd,data,sl⟩:=o
 simp only at hc hc2 hd2
 subst hc hc2 hd2
 have hne:l≠b:=fun z=>by subst z;rw [ho] at ho2;have e:(Value.type "dict")=.type "tuple" := congrArg (·.cls) (Option.some.inj ho2);exact absurd e (by decide)
 exact (rc_eq_decline_or (k:=false) ⟨_,ho,rfl⟩ ⟨_,ho2,rfl⟩ (by decide) sub_tuple_dict F.slot_dict_eq F.slot_tuple_eq_refl
  (fun _ hq=>call_meets F.slot_dict_eq ⟨_,ho,rfl⟩ F.entry_dict_eq (F.args_dict_eq_2 _ _) (dict_eq_declines_tuple l b data items2 n2 dd dd2 sl sl2) ⟨ho,ho2,hq⟩)
  (fun _ hq=>call_meets F.slot_tuple_eq_refl ⟨_,ho2,rfl⟩ F.entry_tuple_eq (F.args_tuple_eq_2 _ _) (tuple_eq_declines_dict b l data items2 n2 dd2 dd sl2 sl) ⟨ho2,ho,hq⟩)
  (fun _ hq=>wpAny_isSame_ref_other hne ho ho2 (by simp) hq) (.inr hu) h)
end
end PySem.SeqAt
namespace L2
open PySem PySem.Spec PyProof.Rows
mutual
noncomputable def eqT:T→T→Bool
 | .non,.non=>true
 | .bl a,.bl b=>a==b
 | .int a,.int b=>a==b
 | .bl a,.int b=>(if a then 1 else 0)==b
 | .int a,.bl b=>a==(if b then 1 else 0)
 | .str a,.str b=>a==b
 | .tup a,.tup b=>eqL a b
 | .lst a,.lst b=>eqL a b
 | _,_=>false
noncomputable def eqL:List T→List T→Bool
 | [],[]=>true
 | x::xs,y::ys=>eqT x y&&eqL xs ys
 | _,_=>false
end
noncomputable def Qm:Nat→T→Bool
 | _,.non=>true
 | _,.bl _=>true
 | _,.int _=>true
 | _,.str _=>true
 | n+1,.tup ts=>ts.all (Qm n)
 | n+1,.lst ts=>ts.all (Qm n)
 | _,_=>false
theorem Qiq:eqL [] []=true:=by unfold eqL;rfl
theorem Qfr (x y:T) (xs ys:List T):eqL (x::xs) (y::ys)=(eqT x y&&eqL xs ys):=by rw [eqL]
theorem Qg7:∀ {xs ys:List T},xs.length≠ys.length→eqL xs ys=false
 | [],[],h=>absurd rfl h
 | [],_::_,_=>by unfold eqL;rfl
 | _::_,[],_=>by unfold eqL;rfl
 | x::xs,y::ys,h=>by rw [Qfr,Qg7 (xs:=xs) (ys:=ys) (by simpa using h),Bool.and_false]
theorem Qne:∀ {xs ys:List T} {e:Nat→Bool},(∀ (j:Nat) a b,xs[j]?=some a→ys[j]?=some b→e j=eqT a b)→((List.range (min xs.length ys.length)).all e&&(xs.length==ys.length))=eqL xs ys
 | [],[],e,_=>by rw [Qiq];rfl
 | [],y::ys,e,_=>by rw [Qg7 (by simp)];simp
 | x::xs,[],e,_=>by rw [Qg7 (by simp)];simp
 | x::xs,y::ys,e,h=>by
  rw [Qfr,←Qne (xs:=xs) (ys:=ys) (e:=fun j=>e (j+1)) fun j a b p q=>h (j+1) a b p q,List.length_cons,List.length_cons,Nat.succ_min_succ,List.range_succ_eq_map,List.all_cons,List.all_map,←h 0 x y rfl rfl,Bool.and_assoc]
  congr 2
  simp
theorem Qlk:∀ (n:Nat) (t:T),Qm n t=true→eqT t t=true
 | _,.non,_=>by rw [eqT]
 | _,.bl b,_=>by rw [eqT];simp
 | _,.int i,_=>by rw [eqT];simp
 | _,.str x,_=>by rw [eqT];simp
 | n+1,.tup ts,h=>by
  have h:ts.all (Qm n)=true:=by rw [Qm] at h;exact h
  have go:∀ ts:List T,ts.all (Qm n)=true→eqL ts ts=true:=fun ts=>by
   induction ts with
   | nil=>intro _;exact Qiq
   | cons x xs ih =>
    intro h
    rw [List.all_cons,Bool.and_eq_true] at h
    rw [Qfr,Qlk n x h.1,ih h.2]
    rfl
  rw [eqT];exact go ts h
 | n+1,.lst ts,h=>by
  have h:ts.all (Qm n)=true:=by rw [Qm] at h;exact h
  have go:∀ ts:List T,ts.all (Qm n)=true→eqL ts ts=true:=fun ts=>by
   induction ts with
   | nil=>intro _;exact Qiq
   | cons x xs ih =>
    intro h
    rw [List.all_cons,Bool.and_eq_true] at h
    rw [Qfr,Qlk n x h.1,ih h.2]
    rfl
  rw [eqT];exact go ts h
 | 0,.tup _,h=>by simp [Qm] at h
 | 0,.lst _,h=>by simp [Qm] at h
 | 0,.dct _ _,h=>by simp [Qm] at h
 | 0,.clo _ _,h=>by simp [Qm] at h
 | _+1,.dct _ _,h=>by simp [Qm] at h
 | _+1,.clo _ _,h=>by simp [Qm] at h
 | 0,.dtt _ _,h=>by simp [Qm] at h
 | _+1,.dtt _ _,h=>by simp [Qm] at h
theorem Q33 {H:Hp}:∀ (n:Nat) {v:V} {t t':T},Is H v t→Is H v t'→Qm n t=true→Qm n t'=true→eqT t t'=true:=by
 intro n
 induction n with
 | zero =>
  intro v t t' i j h h'
  cases t <;> first | (simp [Qm] at h;done) | skip
  all_goals (cases t' <;> first | (simp [Qm] at h';done) | skip)
  all_goals (unfold Is at i j;rw [i] at j;first | (cases j;simp [eqT];done) | cases j)
 | succ n ih =>
  intro v t t' i j h h'
  have go:∀ (ts us:List T) (vs:List V),IsL H vs ts→IsL H vs us→ts.all (Qm n)=true→us.all (Qm n)=true→eqL ts us=true:=by
   intro ts
   induction ts with
   | nil =>
    intro us vs q1 q2 _ _
    rw [q1.nil_inv] at q2
    cases us with
    | nil=>exact Qiq
    | cons y ys=>obtain ⟨_,_,z,_⟩:=q2.cons_inv;cases z
   | cons x xs ihx =>
    intro us vs q1 q2 a1 a2
    obtain ⟨v,r,rfl,c1,c2⟩:=q1.cons_inv
    cases us with
    | nil=>have:=q2.nil_inv;cases this
    | cons y ys =>
     obtain ⟨v',r',z,d1,d2⟩:=q2.cons_inv
     cases z
     rw [List.all_cons,Bool.and_eq_true] at a1 a2
     rw [Qfr,ihx ys r c2 d2 a1.2 a2.2,Bool.and_true]
     exact ih c1 d1 a1.1 a2.1
  cases t with
  | dct _ _=>simp [Qm] at h
  | clo _ _=>simp [Qm] at h
  | dtt _ _=>simp [Qm] at h
  | tup ts =>
   obtain ⟨a,vs,rfl,ha,q⟩:=i.tup_inv
   cases t' with
   | tup us =>
    obtain ⟨a',vs',e,ha',q'⟩:=j.tup_inv
    cases e
    rw [ha] at ha'
    cases ha'
    rw [eqT]
    exact go ts us vs q q' (by simpa only [Qm] using h) (by simpa only [Qm] using h')
   | lst us =>
    obtain ⟨a',vs',e,ha',q'⟩:=j.lst_inv
    cases e
    rw [ha] at ha'
    cases ha'
   | dct _ _=>simp [Qm] at h'
   | clo _ _=>simp [Qm] at h'
   | dtt _ _=>simp [Qm] at h'
   | _=>unfold Is at j;cases j
  | lst ts =>
   obtain ⟨a,vs,rfl,ha,q⟩:=i.lst_inv
   cases t' with
   | lst us =>
    obtain ⟨a',vs',e,ha',q'⟩:=j.lst_inv
    cases e
    rw [ha] at ha'
    cases ha'
    rw [eqT]
    exact go ts us vs q q' (by simpa only [Qm] using h) (by simpa only [Qm] using h')
   | tup us =>
    obtain ⟨a',vs',e,ha',q'⟩:=j.tup_inv
    cases e
    rw [ha] at ha'
    cases ha'
   | dct _ _=>simp [Qm] at h'
   | clo _ _=>simp [Qm] at h'
   | dtt _ _=>simp [Qm] at h'
   | _=>unfold Is at j;cases j
  | _ =>
   cases t' with
   | dct _ _=>simp [Qm] at h'
   | clo _ _=>simp [Qm] at h'
   | dtt _ _=>simp [Qm] at h'
   | tup us =>
    obtain ⟨a',vs',e,ha',q'⟩:=j.tup_inv
    unfold Is at i
    rw [i] at e;cases e
   | lst us =>
    obtain ⟨a',vs',e,ha',q'⟩:=j.lst_inv
    unfold Is at i
    rw [i] at e;cases e
   | _=>unfold Is at i j;rw [i] at j;first | (cases j;simp [eqT];done) | cases j
inductive Shp (P:Program) (w:World) (H:Hp) (h:Heap):T→Value→Prop
 | non:Shp P w H h .non .none
 | bl (b):Shp P w H h (.bl b) (.bool b)
 | int (i t):Shp P w H h (.int i) (.int i t)
 | str (x t):Shp P w H h (.str x) (.str x t)
 | tup {a vs ts its}:Is H (.ref a) (.tup ts)→IsL H vs ts→Vals vs its→h.IsTuple a its.toArray→Shp P w H h (.tup ts) (.ref a)
 | lst {a vs ts its}:Is H (.ref a) (.lst ts)→IsL H vs ts→Vals vs its→h.IsList a its.toArray→Shp P w H h (.lst ts) (.ref a)
 | dct {ks ts u}:Shp P w H h (.dct ks ts) u
 | clo {l ts u}:Shp P w H h (.clo l ts) u
 | dtt {ks ts u}:Shp P w H h (.dtt ks ts) u
theorem Is.shp {P:Program} {w:World} {H:Hp} {h:Heap} {v:V} {u:Value}:∀ {t:T},Is H v t→RelV v u→HOk P w H h→Shp P w H h t u
 | .non,i,r,_=>by unfold Is at i;subst i;cases r;exact .non
 | .bl b,i,r,_=>by unfold Is at i;subst i;cases r;exact .bl b
 | .int n,i,r,_=>by unfold Is at i;subst i;obtain ⟨t,rfl⟩:=r;exact .int n t
 | .str x,i,r,_=>by unfold Is at i;subst i;obtain ⟨t,rfl⟩:=r;exact .str x t
 | .tup ts,i,r,ok=>by
  obtain ⟨a,vs,rfl,ha,q⟩:=i.tup_inv
  cases r
  obtain ⟨_,its,rv,p⟩:=ok a _ ha
  exact .tup i q rv p.tup
 | .lst ts,i,r,ok=>by
  obtain ⟨a,vs,rfl,ha,q⟩:=i.lst_inv
  cases r
  obtain ⟨_,its,n,rv,p⟩:=ok a _ ha
  exact .lst i q rv ⟨_,p,rfl,n,rfl⟩
 | .dct ks ts,_,_,_=>.dct
 | .clo l ts,_,_,_=>.clo
 | .dtt ks ts,_,_,_=>.dtt
section
variable {P:Program} {w:World} {H:Hp}
noncomputable def eAt (ts us:List T) (j:Nat):Bool:=eqT (ts.getD j .non) (us.getD j .non)
theorem Qnf (ts us:List T):((List.range (min ts.length us.length)).all (eAt ts us)&&(ts.length==us.length))=eqL ts us :=
 Qne fun j a b p q=>by unfold eAt;rw [List.getD_eq_getElem?_getD,List.getD_eq_getElem?_getD,p,q];rfl
theorem Qp2 {s:Shared} {A:Around} {n:Nat} {ts us:List T} {vs ws:List V} {its its2:List Value} (i1:IsL H vs ts) (i2:IsL H ws us) (r1:Vals vs its) (r2:Vals ws its2) (ok:HOk P w H s.heap) (h1:ts.all (Qm n)=true) (h2:us.all (Qm n)=true)
  (ih:∀ (t t':T) (u u':Value),Qm n t=true→Qm n t'=true→Shp P w H s.heap t u→Shp P w H s.heap t' u'→SeqAt.EqAt A s u u' (eqT t t')) :
  ∀ (j:Nat) (g1:j<its.toArray.size) (g2:j<its2.toArray.size),SeqAt.EqAt A s its.toArray[j] its2.toArray[j] (eAt ts us j):=by
 intro j g1 g2
 have g1':j<its.length:=by simpa using g1
 have g2':j<its2.length:=by simpa using g2
 have l1:j<vs.length:=by rw [r1.length];exact g1'
 have l2:j<ws.length:=by rw [r2.length];exact g2'
 obtain ⟨u,hu,ru⟩:=r1.get (List.getElem?_eq_getElem l1)
 obtain ⟨u',hu',ru'⟩:=r2.get (List.getElem?_eq_getElem l2)
 obtain ⟨t,ht,it⟩:=i1.get (List.getElem?_eq_getElem l1)
 obtain ⟨t',ht',it'⟩:=i2.get (List.getElem?_eq_getElem l2)
 have e1:its.toArray[j]=u:=by
  rw [List.getElem?_eq_getElem g1'] at hu
  simpa using hu
 have e2:its2.toArray[j]=u':=by
  rw [List.getElem?_eq_getElem g2'] at hu'
  simpa using hu'
 have e3:eAt ts us j=eqT t t':=by unfold eAt;rw [List.getD_eq_getElem?_getD,List.getD_eq_getElem?_getD,ht,ht'];rfl
 rw [e1,e2,e3]
 exact ih t t' u u' (List.all_eq_true.mp h1 t (List.mem_of_getElem? ht)) (List.all_eq_true.mp h2 t' (List.mem_of_getElem? ht')) (it.shp ru ok) (it'.shp ru' ok)
theorem Qir {ts:List T} {vs:List V} {its:List Value} (i:IsL H vs ts) (r:Vals vs its):its.toArray.size=ts.length:=by
 rw [List.size_toArray,←r.length,i.length]
open SeqAt in
theorem Qxy {s:Shared} {A:Around} {n:Nat} {ts us:List T} {a b:Addr} {vs ws:List V} {its its2:List Value} (i1:IsL H vs ts) (i2:IsL H ws us) (r1:Vals vs its) (r2:Vals ws its2) (ok:HOk P w H s.heap) (h1:ts.all (Qm n)=true) (h2:us.all (Qm n)=true)
  (hl:s.heap.IsTuple a its.toArray) (hb:s.heap.IsTuple b its2.toArray) (hu:A.units<cLine) (ih:∀ (t t':T) (u u':Value),Qm n t=true→Qm n t'=true→Shp P w H s.heap t u→Shp P w H s.heap t' u'→EqAt A.in1 s u u' (eqT t t')) :
  RcAt A s (.ref a) (.ref b) (eqL ts us)∧RcNeAt A s (.ref a) (.ref b) (!eqL ts us):=by
 have key:=Qp2 i1 i2 r1 r2 ok h1 h2 ih
 have l1:=Qir i1 r1
 have l2:=Qir i2 r2
 have k1:=RcAt.tuples hl hb hu key
 have k2:=RcNeAt.tuples hl hb hu key
 rw [l1,l2,Qnf] at k1 k2
 exact ⟨k1,k2⟩
open SeqAt in
theorem Qxz {s:Shared} {A:Around} {n:Nat} {ts us:List T} {a b:Addr} {vs ws:List V} {its its2:List Value} (i1:IsL H vs ts) (i2:IsL H ws us) (r1:Vals vs its) (r2:Vals ws its2) (ok:HOk P w H s.heap) (h1:ts.all (Qm n)=true) (h2:us.all (Qm n)=true)
  (hl:s.heap.IsList a its.toArray) (hb:s.heap.IsList b its2.toArray) (hu:A.units<cLine) (ih:∀ (t t':T) (u u':Value),Qm n t=true→Qm n t'=true→Shp P w H s.heap t u→Shp P w H s.heap t' u'→EqAt A.in1 s u u' (eqT t t')) :
  RcAt A s (.ref a) (.ref b) (eqL ts us)∧RcNeAt A s (.ref a) (.ref b) (!eqL ts us):=by
 have key:=Qp2 i1 i2 r1 r2 ok h1 h2 ih
 have l1:=Qir i1 r1
 have l2:=Qir i2 r2
 by_cases hz:ts.length=us.length
 ·have k1:=RcAt.lists hl hb (by rw [l1,l2,hz]) hu key
  have k2:=RcNeAt.lists hl hb (by rw [l1,l2,hz]) hu key
  have e:=Qnf ts us
  rw [hz,Nat.min_self,beq_self_eq_true,Bool.and_true] at e
  rw [l1,hz,e] at k1 k2
  exact ⟨k1,k2⟩
 ·rw [Qg7 hz]
  have hb':(its.toArray.size != its2.toArray.size)=true:=by rw [l1,l2];simpa using hz
  exact ⟨RcAt.lists_lengths hl hb hb' hu,RcNeAt.lists_lengths hl hb hb' hu⟩
open SeqAt in
theorem Qx0:∀ (n:Nat) {s:Shared} {A:Around},HOk P w H s.heap→A.units+n<cLine→∀ (t t':T) (u u':Value),Qm n t=true→Qm n t'=true→Shp P w H s.heap t u→Shp P w H s.heap t' u'→EqAt A s u u' (eqT t t'):=by
 intro n
 induction n with
 | zero =>
  intro s A ok hu t t' u u' h1 h2 s1 s2
  cases s1 with
  | dct=>simp [Qm] at h1
  | clo=>simp [Qm] at h1
  | dtt=>simp [Qm] at h1
  | tup j1 i1 r1 p1=>simp [Qm] at h1
  | lst j1 i1 r1 p1=>simp [Qm] at h1
  | non =>
   cases s2 with
   | dct=>simp [Qm] at h2
   | clo=>simp [Qm] at h2
   | dtt=>simp [Qm] at h2
   | tup j2 i2 r2 p2=>simp [Qm] at h2
   | lst j2 i2 r2 p2=>simp [Qm] at h2
   | non=>simp only [eqT];exact EqAt.same _
   | bl b=>simp only [eqT];exact EqAt.none_bool  b
   | int i t=>simp only [eqT];exact EqAt.none_int  i t
   | str x t=>simp only [eqT];exact EqAt.none_str  x t
  | bl c =>
   cases s2 with
   | dct=>simp [Qm] at h2
   | clo=>simp [Qm] at h2
   | dtt=>simp [Qm] at h2
   | tup j2 i2 r2 p2=>simp [Qm] at h2
   | lst j2 i2 r2 p2=>simp [Qm] at h2
   | non=>simp only [eqT];exact EqAt.bool_none c
   | bl b=>simp only [eqT];exact EqAt.bool_bool c b
   | int i t=>simp only [eqT];exact EqAt.bool_int c i t
   | str x t=>simp only [eqT];exact EqAt.bool_str c x t
  | int c ct =>
   cases s2 with
   | dct=>simp [Qm] at h2
   | clo=>simp [Qm] at h2
   | dtt=>simp [Qm] at h2
   | tup j2 i2 r2 p2=>simp [Qm] at h2
   | lst j2 i2 r2 p2=>simp [Qm] at h2
   | non=>simp only [eqT];exact EqAt.int_none c ct
   | bl b=>simp only [eqT];exact EqAt.int_bool c ct b
   | int i t=>simp only [eqT];exact EqAt.int_int c ct i t
   | str x t=>simp only [eqT];exact EqAt.int_str c ct x t
  | str c ct =>
   cases s2 with
   | dct=>simp [Qm] at h2
   | clo=>simp [Qm] at h2
   | dtt=>simp [Qm] at h2
   | tup j2 i2 r2 p2=>simp [Qm] at h2
   | lst j2 i2 r2 p2=>simp [Qm] at h2
   | non=>simp only [eqT];exact EqAt.str_none c ct
   | bl b=>simp only [eqT];exact EqAt.str_bool c ct b
   | int i t=>simp only [eqT];exact EqAt.str_int c ct i t
   | str x t=>simp only [eqT];exact EqAt.str_str c ct x t
 | succ n ih =>
  intro s A ok hu t t' u u' h1 h2 s1 s2
  have hu0:A.units<cLine:=by omega
  have ih':=ih (s:=s) (A:=A.in1) ok (by show A.units+1+n<cLine;omega)
  cases s1 with
  | dct=>simp [Qm] at h1
  | clo=>simp [Qm] at h1
  | dtt=>simp [Qm] at h1
  | tup j1 i1 r1 p1 =>
   have g1:=h1
   rw [Qm] at g1
   cases s2 with
   | dct=>simp [Qm] at h2
   | clo=>simp [Qm] at h2
   | dtt=>simp [Qm] at h2
   | tup j2 i2 r2 p2 =>
    have g2:=h2
    rw [Qm] at g2
    rename_i a vs ts its b ws us its2
    by_cases hab:a=b
    ·subst hab
     rw [Q33 (n+1) j1 j2 h1 h2]
     exact EqAt.same _
    ·rw [eqT]
     exact EqAt.of_refs hab (Qxy i1 i2 r1 r2 ok g1 g2 p1 p2 hu0 ih').1
   | lst j2 i2 r2 p2=>simp only [eqT];exact EqAt.tuple_list p1 p2 hu0
   | non=>simp only [eqT];exact EqAt.tuple_none p1 hu0
   | bl b=>simp only [eqT];exact EqAt.tuple_bool b p1 hu0
   | int i t=>simp only [eqT];exact EqAt.tuple_int i t p1 hu0
   | str x t=>simp only [eqT];exact EqAt.tuple_str x t p1 hu0
  | lst j1 i1 r1 p1 =>
   have g1:=h1
   rw [Qm] at g1
   cases s2 with
   | dct=>simp [Qm] at h2
   | clo=>simp [Qm] at h2
   | dtt=>simp [Qm] at h2
   | lst j2 i2 r2 p2 =>
    have g2:=h2
    rw [Qm] at g2
    rename_i a vs ts its b ws us its2
    by_cases hab:a=b
    ·subst hab
     rw [Q33 (n+1) j1 j2 h1 h2]
     exact EqAt.same _
    ·rw [eqT]
     exact EqAt.of_refs hab (Qxz i1 i2 r1 r2 ok g1 g2 p1 p2 hu0 ih').1
   | tup j2 i2 r2 p2=>simp only [eqT];exact EqAt.list_tuple p1 p2 hu0
   | non=>simp only [eqT];exact EqAt.list_none p1 hu0
   | bl b=>simp only [eqT];exact EqAt.list_bool b p1 hu0
   | int i t=>simp only [eqT];exact EqAt.list_int i t p1 hu0
   | str x t=>simp only [eqT];exact EqAt.list_str x t p1 hu0
  | non =>
   cases s2 with
   | dct=>simp [Qm] at h2
   | clo=>simp [Qm] at h2
   | dtt=>simp [Qm] at h2
   | tup j2 i2 r2 p2=>simp only [eqT];exact EqAt.none_tuple p2 hu0
   | lst j2 i2 r2 p2=>simp only [eqT];exact EqAt.none_list p2 hu0
   | non=>simp only [eqT];exact EqAt.same _
   | bl b=>simp only [eqT];exact EqAt.none_bool b
   | int i t=>simp only [eqT];exact EqAt.none_int i t
   | str x t=>simp only [eqT];exact EqAt.none_str x t
  | bl c =>
   cases s2 with
   | dct=>simp [Qm] at h2
   | clo=>simp [Qm] at h2
   | dtt=>simp [Qm] at h2
   | tup j2 i2 r2 p2=>simp only [eqT];exact EqAt.bool_tuple c p2 hu0
   | lst j2 i2 r2 p2=>simp only [eqT];exact EqAt.bool_list c p2 hu0
   | non=>simp only [eqT];exact EqAt.bool_none c
   | bl b=>simp only [eqT];exact EqAt.bool_bool c b
   | int i t=>simp only [eqT];exact EqAt.bool_int c i t
   | str x t=>simp only [eqT];exact EqAt.bool_str c x t
  | int c ct =>
   cases s2 with
   | dct=>simp [Qm] at h2
   | clo=>simp [Qm] at h2
   | dtt=>simp [Qm] at h2
   | tup j2 i2 r2 p2=>simp only [eqT];exact EqAt.int_tuple c ct p2 hu0
   | lst j2 i2 r2 p2=>simp only [eqT];exact EqAt.int_list c ct p2 hu0
   | non=>simp only [eqT];exact EqAt.int_none c ct
   | bl b=>simp only [eqT];exact EqAt.int_bool c ct b
   | int i t=>simp only [eqT];exact EqAt.int_int c ct i t
   | str x t=>simp only [eqT];exact EqAt.int_str c ct x t
  | str c ct =>
   cases s2 with
   | dct=>simp [Qm] at h2
   | clo=>simp [Qm] at h2
   | dtt=>simp [Qm] at h2
   | tup j2 i2 r2 p2=>simp only [eqT];exact EqAt.str_tuple c ct p2 hu0
   | lst j2 i2 r2 p2=>simp only [eqT];exact EqAt.str_list c ct p2 hu0
   | non=>simp only [eqT];exact EqAt.str_none c ct
   | bl b=>simp only [eqT];exact EqAt.str_bool c ct b
   | int i t=>simp only [eqT];exact EqAt.str_int c ct i t
   | str x t=>simp only [eqT];exact EqAt.str_str c ct x t
end
section
variable {X:Cx}
noncomputable def Q1m (neg:Bool):R2:=fun x y H Q=>∃ t t',Is H x t∧Is H y t'∧Qm 50 t=true∧Qm 50 t'=true∧((∃ ts us,t=.tup ts∧t'=.tup us)∨∃ ts us,t=.lst ts∧t'=.lst us)∧Q (.bl (if neg then !eqT t t' else eqT t t')) H
theorem Qng (hu:X.A.units+64<cLine) {pins:List (Addr×Obj)} {σ:St} {H:Hp} {s:Shared} (I:Inv X pins σ H s) {x y:V} {v u:Value} {t t':T} (rx:RelV x v) (ry:RelV y u) (i:Is H x t) (j:Is H y t') (h1:Qm 50 t=true) (h2:Qm 50 t'=true)
  (hk:(∃ ts us,t=.tup ts∧t'=.tup us)∨∃ ts us,t=.lst ts∧t'=.lst us):SeqAt.RcAt X.A s v u (eqT t t')∧SeqAt.RcNeAt X.A s v u (!eqT t t'):=by
 have ih:=Qx0 49 (A:=X.A.in1) (P:=X.prog) (w:=X.w) I.hok (by show X.A.units+1+49<cLine;omega)
 have s1:=i.shp rx I.hok
 have s2:=j.shp ry I.hok
 rcases hk with ⟨ts,us,rfl,rfl⟩ | ⟨ts,us,rfl,rfl⟩
 ·rw [Qm] at h1 h2
  rw [eqT]
  cases s1 with
  | tup j1 i1 r1 p1 =>
   cases s2 with
   | tup j2 i2 r2 p2=>exact Qxy i1 i2 r1 r2 I.hok h1 h2 p1 p2 (by omega) ih
 ·rw [Qm] at h1 h2
  rw [eqT]
  cases s1 with
  | lst j1 i1 r1 p1 =>
   cases s2 with
   | lst j2 i2 r2 p2=>exact Qxz i1 i2 r1 r2 I.hok h1 h2 p1 p2 (by omega) ih
theorem Q98 (hu:X.A.units+64<cLine):QOp X (compareOp .Eq) (Q1m false):=⟨by
 intro pins s σ H x y v u Q I rx ry q
 obtain ⟨t,t',i,j,h1,h2,hk,q⟩:=q
 exact (Qng hu I rx ry i j h1 h2 hk).1 _ _ _ _ ⟨.bl _,H,I,rfl,q⟩⟩
theorem Q99 (hu:X.A.units+64<cLine):QOp X (compareOp .NotEq) (Q1m true):=⟨by
 intro pins s σ H x y v u Q I rx ry q
 obtain ⟨t,t',i,j,h1,h2,hk,q⟩:=q
 exact (Qng hu I rx ry i j h1 h2 hk).2 _ _ _ _ ⟨.bl _,H,I,rfl,q⟩⟩
noncomputable def Q1n:T→T→Bool
 | .tup _,.non=>true
 | .tup _,.bl _=>true
 | .tup _,.int _=>true
 | .tup _,.str _=>true
 | .tup _,.lst _=>true
 | .non,.tup _=>true
 | .bl _,.tup _=>true
 | .int _,.tup _=>true
 | .str _,.tup _=>true
 | .lst _,.tup _=>true
 | .dct _ _,.tup _=>true
 | _,_=>false
noncomputable def Q1o (neg:Bool):R2:=fun x y H Q=>∃ t t',Is H x t∧Is H y t'∧Q1n t t'=true∧Q (.bl neg) H
theorem Qp3 (hu:X.A.units+64<cLine) {pins:List (Addr×Obj)} {σ:St} {H:Hp} {s:Shared} (I:Inv X pins σ H s) {x y:V} {v u:Value} {t t':T} (rx:RelV x v) (ry:RelV y u) (i:Is H x t) (j:Is H y t') (hk:Q1n t t'=true):SeqAt.RcAt X.A s v u false∧SeqAt.RcNeAt X.A s v u true:=by
 have s1:=i.shp rx I.hok
 have s2:=j.shp ry I.hok
 have hu:X.A.units<cLine:=by omega
 cases s1 with
 | non =>
  cases s2 with
  | tup _ _ _ p=>exact ⟨SeqAt.RcAt.none_tuple p hu,SeqAt.RcNeAt.none_tuple p hu⟩
  | _=>cases hk
 | bl b =>
  cases s2 with
  | tup _ _ _ p=>exact ⟨SeqAt.RcAt.bool_tuple b p hu,SeqAt.RcNeAt.bool_tuple b p hu⟩
  | _=>cases hk
 | int b c =>
  cases s2 with
  | tup _ _ _ p=>exact ⟨SeqAt.RcAt.int_tuple b c p hu,SeqAt.RcNeAt.int_tuple b c p hu⟩
  | _=>cases hk
 | str b c =>
  cases s2 with
  | tup _ _ _ p=>exact ⟨SeqAt.RcAt.str_tuple b c p hu,SeqAt.RcNeAt.str_tuple b c p hu⟩
  | _=>cases hk
 | tup _ _ _ p =>
  cases s2 with
  | non=>exact ⟨SeqAt.RcAt.tuple_none p hu,SeqAt.RcNeAt.tuple_none p hu⟩
  | bl b=>exact ⟨SeqAt.RcAt.tuple_bool b p hu,SeqAt.RcNeAt.tuple_bool b p hu⟩
  | int b c=>exact ⟨SeqAt.RcAt.tuple_int b c p hu,SeqAt.RcNeAt.tuple_int b c p hu⟩
  | str b c=>exact ⟨SeqAt.RcAt.tuple_str b c p hu,SeqAt.RcNeAt.tuple_str b c p hu⟩
  | lst _ _ _ q=>exact ⟨SeqAt.RcAt.tuple_list p q hu,SeqAt.RcNeAt.tuple_list p q hu⟩
  | _=>cases hk
 | lst _ _ _ p =>
  cases s2 with
  | tup _ _ _ q=>exact ⟨SeqAt.RcAt.list_tuple p q hu,SeqAt.RcNeAt.list_tuple p q hu⟩
  | _=>cases hk
 | dct =>
  cases s2 with
  | tup _ _ _ p =>
   unfold Is at i
   obtain ⟨a,vs,rfl,ha,_⟩:=i
   cases rx
   obtain ⟨_,_,ws,_,ob,es,ep,e,c,_⟩:=(show ObjOk X.prog X.w H s.heap a (.dK _) from I.hok a _ ha)
   exact ⟨SeqAt.RcAt.dict_tuple e c.1 p hu,SeqAt.RcNeAt.dict_tuple e c.1 p hu⟩
  | _=>cases hk
 | _=>cases s2 <;> cases hk
theorem Qaaa (hu:X.A.units+64<cLine):QOp X (compareOp .Eq) (Q1o false):=⟨by
 intro pins s σ H x y v u Q I rx ry q
 obtain ⟨t,t',i,j,hk,q⟩:=q
 exact (Qp3 hu I rx ry i j hk).1 _ _ _ _ ⟨.bl _,H,I,rfl,q⟩⟩
theorem Qaab (hu:X.A.units+64<cLine):QOp X (compareOp .NotEq) (Q1o true):=⟨by
 intro pins s σ H x y v u Q I rx ry q
 obtain ⟨t,t',i,j,hk,q⟩:=q
 exact (Qp3 hu I rx ry i j hk).2 _ _ _ _ ⟨.bl _,H,I,rfl,q⟩⟩
end
section
open PySem.W
theorem Qx1 {prog:Program} {w:World} {A:Around} {E:Value→Shared→Prop} {s:Shared} {K:Frag} {x D:Addr} {ox:Obj} {od:Option Obj} {name:Str} {fill xp:Bool} {Q:Value→Shared→Prop} {tk:Tok} {r:Value}
  (X:K.In s.heap) (I:InstAt s.heap x ox D od) (hga:findIn K (.ref D) "__getattribute__" = some (some (.builtin "BaseException.__getattribute__"))) (hgt:findIn K (.ref D) "__getattr__" = some none) (hbe:mroIn K D (.type "BaseException")=some true)
  (h:∀ (A:Around) (E:Value→Shared→Prop) (R:Value→Shared→Prop),R r s→wpAny (model prog w) A (Builtin.«object.__getattribute__» ⟨[.ref x,.str name tk],[]⟩) (fun fin s'=>∃ v,fin=.done (.ret v)∧R v s') E s) (hh:handedIn r=true) (hq:Q r s) :
  wpAny (model prog w) A (getAttrBy (.ref x) (.str name tk) fill xp) Q E s:=by
 obtain ⟨hp,g,d,t,os⟩:=s
 have L0:=I.type (M:=model prog w)
 have L1:=looks_findIn (M:=model prog w) X hga
 have L2:=looks_findIn (M:=model prog w) X hgt
 have L3:=looks_mroIn (M:=model prog w) X hbe
 have ne:(onTheHeap (Value.ref D)&&Value.builtin "BaseException.__getattribute__" == Value.builtin "object.__getattribute__")=false:=by
  rw [show (Value.builtin "BaseException.__getattribute__" == Value.builtin "object.__getattribute__")=false from by decide +kernel,Bool.and_false]
 have bnd:=F.excAttr_ValueError.ga.bind (.ref x)
 unfold getAttrBy
 refine wpAny_holding (wpAny_bind (L0.at (wpAny_bind (L1.at ?_))))
 show wpAny _ _ (if (onTheHeap (Value.ref D)&&Value.builtin "BaseException.__getattribute__" == Value.builtin "object.__getattribute__")=true then _ else _) _ _ _
 rw [ne,if_neg Bool.false_ne_true]
 unfold getAttrByItsOwn hookBefore
 rw [show onTheHeap (Value.ref D)=true from rfl,if_pos rfl]
 refine wpAny_bind (L2.at (wpAny_bind (wpAny_attempt (wpAny_holding ?_))))
 unfold callGetattribute
 rw [if_neg (by cases xp <;> decide)]
 unfold boundAndCalled
 refine wpAny_bind (wpAny_of_eq bnd ?_)
 have chk:∀ (A:Around) (E:Value→Shared→Prop) (Q:Unit→Shared→Prop),Q () ⟨hp,g,d,t,os⟩→wpAny (model prog w) A (checkBuiltinCall "BaseException.__getattribute__" ⟨[.ref x,.str name tk],[]⟩) Q E ⟨hp,g,d,t,os⟩:=fun A E Q hq=>by
  have k1:builtinKind "BaseException.__getattribute__" = some .slot:=by decide +kernel
  have k2:splitId "BaseException.__getattribute__" = some ("BaseException","__getattribute__"):=by decide +kernel
  have k3:=F.args_bexc_ga (.ref x) (.str name tk)
  simp only [checkBuiltinCall,k1,k2]
  refine wpAny_bind ?_
  unfold isInstance
  refine wpAny_bind (L0.at (L3.at ?_))
  repeat wp_step
  exact hq
 refine wpAny_call (codeAny_call_builtin F.excAttr_ValueError.ga.plain F.entry_bexc_ga (chk _ _ _ ?_))
 refine wpAny_mono (h _ _ (fun v s'=>v=r∧s'=⟨hp,g,d,t,os⟩) ⟨rfl,rfl⟩) (fun fin s' z=>?_) fun _ _ z=>z
 obtain ⟨v,rfl,rfl,rfl⟩:=z
 exact handed_on hh hq
theorem Qvg {prog:Program} {w:World} {A:Around} {E:Value→Shared→Prop} {s:Shared} {K:Frag} {x D:Addr} {ox:Obj} {od:Option Obj} {Q:Fin→Shared→Prop} {tk:Tok}
  (X:K.In s.heap) (I:InstAt s.heap x ox D od) (hf:findObj K D od "__class__" = some (.bind (.builtin "getset_descriptor.__get__") (.builtin "object.__class__"))) (hm:mroIn K D (.type "object")=some true) (hq:Q (.done (.ret (.ref D))) s) :
  wpAny (model prog w) A (Builtin.«object.__getattribute__» ⟨[.ref x,.str "__class__" tk],[]⟩) Q E s:=by
 obtain ⟨hp,g,d,t,os⟩:=s
 have L0:=I.type (M:=model prog w)
 have L1:=looks_find (M:=model prog w) X I hf
 unfold Builtin.«object.__getattribute__»
 repeat (first | with_reducible refine L0.at ?_ | with_reducible refine L1.at ?_ | wp_step)
 exact class_get (ox:=ox) (od:=od) X I hm (wpAny_pure hq)
end
noncomputable def Qvh (K:PySem.W.Frag) (D:Addr):Bool:=PySem.W.findIn K (.ref D) "__getattribute__" == some (some (.builtin "BaseException.__getattribute__"))&&PySem.W.findIn K (.ref D) "__getattr__" == some none&&PySem.W.mroIn K D (.type "BaseException")==some true&&(PySem.W.clsIn K D).isSome&&PySem.W.findIn K (.ref D) "__class__" == some (some (.builtin "object.__class__")) &&
 PySem.W.specialIn K (.builtin "object.__class__") "__get__" == some (some (.builtin "getset_descriptor.__get__"))&&PySem.W.takesIn K (.builtin "object.__class__")==some true&&PySem.W.mroIn K D (.type "object")==some true
theorem Qp4 {K:PySem.W.Frag} {h:Heap} {D:Addr} (X:K.In h) (hc:(PySem.W.clsIn K D).isSome=true):∃ c d cd sl,h.get? D=some ⟨c,d,.cls cd,sl⟩:=by
 unfold PySem.W.clsIn at hc
 split at hc
 ·rename_i c d cd sl look
  exact ⟨c,d,cd,sl,X _ _ look⟩
 ·cases hc
theorem Qx2 {K:PySem.W.Frag} {x D:Addr} (hk:Qvh K D=true):PySem.W.KitX K (.ref x) (.ref D) (fun h=>∃ ox od,PySem.W.InstAt h x ox D od):=by
 unfold Qvh at hk
 simp only [Bool.and_eq_true,beq_iff_eq] at hk
 obtain ⟨⟨⟨⟨⟨⟨⟨k1,k7⟩,k8⟩,k2⟩,k3⟩,k4⟩,k5⟩,k6⟩:=hk
 refine ⟨fun _ _ _ ⟨ox,od,I⟩=>I.type,fun M h X _=>?_,fun h tp dd its n sl X htp=>?_,fun {prog w A E Q s} X ⟨ox,od,I⟩ k=>?_⟩
 ·obtain ⟨c,d,cd,sl,ho⟩:=Qp4 X k2
  intro A' Q' E' s' kp q
  unfold isType loadHead
  exact wpAny_bind (wpAny_loadPart (kp _ _ ho) (wpAny_pure q))
 ·obtain ⟨c,d,cd,sl',ho⟩:=Qp4 X k2
  refine Bool.eq_false_iff.mpr fun q=>?_
  have e:D=tp:=Value.ref.inj (beq_iff_eq.mp q)
  subst e
  rw [ho] at htp
  cases htp
 ·have hf:PySem.W.findObj K D od "__class__" = some (.bind (.builtin "getset_descriptor.__get__") (.builtin "object.__class__")):=by
   obtain ⟨cd,hc⟩:=Option.isSome_iff_exists.mp k2
   unfold PySem.W.findObj
   rw [hc,Option.bind_some,k3,Option.bind_some]
   simp [k4,k5]
  unfold getAttr? getAttrBy?
  refine wpAny_bind (wpAny_mkText (wpAny_bind (wpAny_attempt (Qx1 (s:={ s with toks:=s.toks+1 }) X I k1 k7 k8 (fun A E R hr=>?_) rfl (wpAny_pure k)))))
  exact Qvg (s:={ s with toks:=s.toks+1 }) X I hf k6 ⟨_,rfl,hr⟩
noncomputable def valC:V→Value
 | .ref a=>.ref a
 | .ty n=>.type n
 | _=>.none
noncomputable def Qog (K:PySem.W.Frag):List V→Hp→VK→Prop:=fun xs H Q=>∃ a C1 dx c b,xs=[.ref a,c]∧H a=some (Qrz a (.ref C1) dx)∧(∀ d,dx=some d→∃ fs,H d=some (.xd fs))∧Qvh K C1=true∧((∃ C,c=.ref C)∨∃ n,c=.ty n)∧PySem.W.kitOne K (.ref C1) (valC c)=some b∧Q (.bl b) H
section
variable {X:Cx}
theorem Qr1:CallR X (.builtin "isinstance") (Qog X.K):=by
 intro pins s σ H xs us Q I r h
 obtain ⟨a,C1,dx,c,b,rfl,ha,hdx,hk,hc,e,q⟩:=h
 obtain ⟨u,w',rfl,rx,ry⟩:=Qm4 r
 cases rx
 have ew:w'=valC c:=by
  rcases hc with ⟨C,rfl⟩ | ⟨n,rfl⟩
  ·exact ry
  ·exact ry
 subst ew
 obtain ⟨⟨o,vs,ho,h1,h2,h3⟩,_⟩:=(show ObjOk X.prog X.w H s.heap a (Qrz a (.ref C1) dx) from I.hok a _ ha)
 have hod:∃ od:Option Obj,(dx=none∧od=none)∨∃ d u,dx=some d∧od=some u∧s.heap.get? d=some u:=by
  cases e0:dx with
  | none=>exact ⟨none,.inl ⟨rfl,rfl⟩⟩
  | some d =>
   obtain ⟨fs,hf⟩:=hdx d e0
   obtain ⟨mA,⟨od,_,_,e1,_⟩,_⟩:=(show ObjOk X.prog X.w H s.heap d (.xd fs) from I.hok d _ hf)
   exact ⟨some od,.inr ⟨d,od,rfl,rfl,e1⟩⟩
 obtain ⟨od,hod⟩:=hod
 refine PySem.W.kia_one (Qx2 hk) I.kIn ⟨o,od,ho,h1,?_,?_⟩ e (fun z=>nomatch z) fun tk=>⟨.bl b,H,I.tok _,rfl,q⟩
 ·unfold PySem.W.notCls;rw [h3]
 ·rw [h2]
  rcases hod with ⟨rfl,rfl⟩ | ⟨d,u,rfl,rfl,e1⟩
  ·trivial
  ·exact e1
theorem Qc7 (K:PySem.W.Frag) (hK:X.K=K):QCl X (.builtin "isinstance") (Qog K):=⟨by subst hK;exact Qr1⟩
noncomputable def Qti (K:PySem.W.Frag):V→List V→Hp→VK→Prop:=fun x vs H Q=>∃ (l:Addr) (bs:List Bool) (b:Bool),x=.ref l∧vs=[.bl b]∧H l=some (.lst (bs.map V.bl))∧Q (.int (bs.count b:Nat)) H
theorem Qoh:∀ {bs:List Bool} {us:List Value},Vals (bs.map V.bl) us→us=bs.map Value.bool
 | [],_,.nil=>rfl
 | b::bs,_,.cons r t=>by cases r;rw [Qoh t];rfl
noncomputable def isB (b:Bool) (v:Value):Bool:=match v with
 | .bool c=>c==b
 | _=>false
theorem Qp5 (b:Bool):∀ bs:List Bool,(bs.map Value.bool).countP (isB b)=bs.count b
 | []=>rfl
 | c::bs=>by
  rw [List.map_cons,List.countP_cons,Qp5 b bs,List.count_cons]
  rfl
theorem Qvi:MtM X "list.count" (Qti X.K):=by
 intro pins s σ H x vs v us Q I rx rv h
 obtain ⟨l,bs,b,rfl,rfl,hH,q⟩:=h
 cases rx
 obtain ⟨u,rfl,ru⟩:=rv.one
 cases ru
 obtain ⟨z,its,n,r,hl,e⟩:=I.lstM hH
 have ei:=Qoh r
 subst ei
 refine call_meets F.slot_list_count ⟨_,e,rfl⟩ F.entry_list_count (F.args_list_count_2 _ _) (SeqAt.list_countAt l _ n none #[] (.bool b) (isB b)) ⟨e,fun y hy=>?_,?_⟩
 ·have hy:y∈bs.map Value.bool:=by simpa using hy
  obtain ⟨c,_,rfl⟩:=List.mem_map.mp hy
  exact SeqAt.EqAt.bool_bool c b
 ·have ec:List.countP (isB b) (bs.map Value.bool).toArray.toList=bs.count b:=by rw [List.toList_toArray];exact Qp5 b bs
  rw [ec]
  exact ⟨.int _,H,I.tok _,⟨_,rfl⟩,q⟩
noncomputable def Qtj (K:PySem.W.Frag):V→List V→Hp→VK→Prop:=fun x vs H Q=>∃ (l:Addr) (bs:List Bool) (b:Bool) (j:Nat),x=.ref l∧vs=[.bl b]∧H l=some (.lst (bs.map V.bl))∧bs.length≤1000∧bs[j]?=some b∧(∀ m,m<j→bs[m]?≠some b)∧Q (.int (j:Nat)) H
theorem Qvj:MtM X "list.index" (Qtj X.K):=by
 intro pins s σ H x vs v us Q I rx rv h
 obtain ⟨l,bs,b,j,rfl,rfl,hH,hz,hj,hno,q⟩:=h
 cases rx
 obtain ⟨u,rfl,ru⟩:=rv.one
 cases ru
 obtain ⟨z,its,n,r,hl,e⟩:=I.lstM hH
 have ei:=Qoh r
 subst ei
 have hjl:j<bs.length:=(List.getElem?_eq_some_iff.mp hj).1
 refine call_meets F.slot_list_index ⟨_,e,rfl⟩ F.entry_list_index (F.args_list_index_2 _ _) (SeqAt.list_indexAt l _ n none #[] (.bool b) (isB b) j (by simpa using hjl) (by omega) ?_ ?_) ⟨e,fun y hy=>?_,⟨.int _,H,I.tok _,⟨_,rfl⟩,q⟩⟩
 ·have e1:bs[j]=b:=by rw [List.getElem?_eq_getElem hjl] at hj;exact Option.some.inj hj
  simp [isB,e1]
 ·intro m hm hmj
  have hml:m<bs.length:=by simpa using hm
  have e1:bs[m]≠b:=fun z=>hno m hmj (by rw [List.getElem?_eq_getElem hml,z])
  simp [isB,e1]
 ·have hy:y∈bs.map Value.bool:=by simpa using hy
  obtain ⟨c,_,rfl⟩:=List.mem_map.mp hy
  exact SeqAt.EqAt.bool_bool c b
theorem Qx3 (K:PySem.W.Frag) (hK:X.K=K):QMt X "list.count" (Qti K):=⟨by subst hK;exact Qvi⟩
theorem Qx4 (K:PySem.W.Frag) (hK:X.K=K):QMt X "list.index" (Qtj K):=⟨by subst hK;exact Qvj⟩
end
noncomputable def Q6p (P:Program) (w:World) (K:PySem.W.Frag) (mg:Str→Option Value) (base:Heap) (x:Str) (ps:List Str) (k:Nat) (sp:Sp):Prop :=
 ∃ f fd,PySem.W.keepIn K (.ref f)=true∧mg x=some (.ref f)∧Binds K fd ps []∧FnOkH P w K mg base CX0 k f fd ps sp
section
variable {P:Program} {w:World} {K:PySem.W.Frag} {mg:Str→Option Value} {base:Heap}
theorem Q6q {x:Str} {st:Stmt} {N ps:List Str} {k:Nat} {sp:Sp} (d:Dfn K mg x st) (S:FnScope N ps (Qf st)) (bd:Q7 x st ps) (len:∀ vs H Q E,sp vs H Q E→vs.length=ps.length)
  (hbody:∀ (f:Addr) (cdv:Value) (A:Around) (outer:List Env) (s:Shared) (H:Hp) (vs:List V) (Q:VK) (E:XK),RoomH k (A.deeper (envOfC x (Qf st) s.heap.objs.size f cdv))→sp vs H Q E →
   ∃ t,QB (Qnd CX0 P w K mg base N x (Qf st) f cdv A outer s H E).nox (Q9 st) t∧t { nx:=fun _ H'=>Q .non H',rt:=Q } (Qbj N vs) H):Q6p P w K mg base x ps (k+1) sp:=by
 obtain ⟨f,fd,F,m⟩:=d.ex
 refine ⟨f,fd,F.kp,m,F.binds bd,?_⟩
 obtain ⟨oc,od,kV,doc,pm,an,cdv,ct,osl,rfl,lk,hcd⟩:=F.ex
 refine Q6o lk hcd S len fun A outer s H vs Q E hr hsp=>?_
 obtain ⟨t,h,q⟩:=hbody f cdv A outer s H vs Q E hr hsp
 exact ⟨t,h.h.nox,q⟩
end
section
variable {X:Cx} {x:Str} {ps:List Str} {k:Nat} {sp:Sp} {e:Expr} {es:List Expr} {t:TA} {p pos:Pos}
theorem Qaad (h:Q6p X.prog X.w X.K X.mg X.base x ps k sp) (hr:RoomH k X.A) (ha:QA X (e::es) t) (hg:Gl X x:=by rfl)
  (hdb:(x==("__debug__" : Str))=false:=by decide) (he:starEach (e::es) X.env=(false,eval e X.env)::starEach es X.env:=by rfl) (hpl:(backTo pos (starEach es X.env)).any (·.1)=false:=by rfl) :
  QE X (.Call (.Name x p) (e::es) [] pos) (Qm5 sp [] E0 t):=by
 obtain ⟨f,fd,kp,m,b,F⟩:=h
 refine ⟨fun pins s σ H Q I hq=>?_⟩
 refine wpAny_Call_Name_kw (Qfy I hg m ?_ hdb)
 refine PySem.W.callWith_K (h₀:=X.base) I.ok.mod.kin kp (thn (ha.h pos pins s σ H _ I hq) fun us s1 ⟨vs,H1,I1,r,q⟩=>⟨I1.kIn,?_⟩) he hpl
 have q2:sp vs H1 Q E0:=by
  have q:sp (vs++[]) H1 Q E0:=q
  rw [List.append_nil] at q
  exact q
 have hl:(us++[]).length=ps.length:=by rw [List.append_nil,←r.length];exact F.len _ _ _ _ q2
 have r2:Vals vs (us++[]):=by rw [List.append_nil];exact r
 refine wpAny_call (codeAny_mono (F.run X.A X.stack s1 H1 ⟨us,[]⟩ (us++[]) vs Q _ hr I1.env0 (b s1 us I1.kIn hl) r2 q2) fun rr s' hq'=>?_)
 cases rr with
 | error ev=>exact False.elim hq'
 | ok fl =>
  cases fl with
  | ret u=>exact I1.after hq'
  | next=>exact False.elim hq'
  | brk=>exact False.elim hq'
  | cont=>exact False.elim hq'
end
noncomputable def cad (mg:Str→Option Value) (x:Str):Addr:=match mg x with
 | some (.ref a)=>a
 | _=>0
noncomputable def bmV:List Value:=[.type "ValueError",.type "Exception",.type "BaseException",.type "object"]
noncomputable def Qbg:List Str:=["NoTable","NoWay","NoSet","NoRest","NoLine","NoRow","NoTables","Below","NoText","TooGreat"]
noncomputable def Qx5 (K:PySem.W.Frag) (c0:Addr) (cs:List Addr):Bool :=
 PySem.W.excIn K c0 bmV "ValueError.__new__" && (cs.take 6).all (fun c=>PySem.W.excIn K c bmV "ValueError.__new__")&&cs.all (fun c=>Qvh K c&&PySem.W.mroIn K c (.ref c0)==some true&&PySem.W.kitOne K (.ref c) (.type "ValueError")==some true) &&
  cs.zipIdx.all (fun p=>cs.zipIdx.all fun q=>PySem.W.kitOne K (.ref p.1) (.ref q.1)==some (p.2==q.2))
structure Exs (K:PySem.W.Frag) (mg:Str→Option Value):Prop where
 m0:mg "NoughtError" = some (.ref (cad mg "NoughtError"))
 m:∀ (i:Nat) (x:Str),Qbg[i]?=some x→mg x=some (.ref (cad mg x))
 ok:Qx5 K (cad mg "NoughtError") (Qbg.map (cad mg))=true
theorem Qbh {mg:Str→Option Value} {x:Str} {a:Addr} (h:mg x=some (.ref a)):cad mg x=a:=by unfold cad;rw [h]
theorem Q6r {K:PySem.W.Frag} {mg:Str→Option Value} {h:Heap} {c0 c1 c2 c3 c4 c5 c6 c7 c8 c9 c10:Addr} (X:K.In h) (G:h.Ns mainGlobals mg) (e0:PySem.W.nsIn K mainGlobals "NoughtError" = some (some (.ref c0)))
  (e1:PySem.W.nsIn K mainGlobals "NoTable" = some (some (.ref c1))) (e2:PySem.W.nsIn K mainGlobals "NoWay" = some (some (.ref c2))) (e3:PySem.W.nsIn K mainGlobals "NoSet" = some (some (.ref c3))) (e4:PySem.W.nsIn K mainGlobals "NoRest" = some (some (.ref c4)))
  (e5:PySem.W.nsIn K mainGlobals "NoLine" = some (some (.ref c5))) (e6:PySem.W.nsIn K mainGlobals "NoRow" = some (some (.ref c6))) (e7:PySem.W.nsIn K mainGlobals "NoTables" = some (some (.ref c7))) (e8:PySem.W.nsIn K mainGlobals "Below" = some (some (.ref c8)))
  (e9:PySem.W.nsIn K mainGlobals "NoText" = some (some (.ref c9))) (e10:PySem.W.nsIn K mainGlobals "TooGreat" = some (some (.ref c10))) (ok:Qx5 K c0 [c1,c2,c3,c4,c5,c6,c7,c8,c9,c10]=true):Exs K mg:=by
 have g0:=PySem.W.mg_of X G e0
 have g1:=PySem.W.mg_of X G e1
 have g2:=PySem.W.mg_of X G e2
 have g3:=PySem.W.mg_of X G e3
 have g4:=PySem.W.mg_of X G e4
 have g5:=PySem.W.mg_of X G e5
 have g6:=PySem.W.mg_of X G e6
 have g7:=PySem.W.mg_of X G e7
 have g8:=PySem.W.mg_of X G e8
 have g9:=PySem.W.mg_of X G e9
 have g10:=PySem.W.mg_of X G e10
 have em:Qbg.map (cad mg)=[c1,c2,c3,c4,c5,c6,c7,c8,c9,c10]:=by
  unfold Qbg
  simp only [List.map_cons,List.map_nil]
  rw [Qbh g1,Qbh g2,Qbh g3,Qbh g4,Qbh g5,Qbh g6,Qbh g7,Qbh g8,Qbh g9,Qbh g10]
 refine ⟨by rw [Qbh g0];exact g0,fun i x hx=>?_,by rw [em,Qbh g0];exact ok⟩
 have ms:=List.mem_of_getElem? hx
 unfold Qbg at ms
 simp only [List.mem_cons,List.not_mem_nil,or_false] at ms
 rcases ms with rfl | rfl | rfl | rfl | rfl | rfl | rfl | rfl | rfl | rfl
 ·rw [Qbh g1];exact g1
 ·rw [Qbh g2];exact g2
 ·rw [Qbh g3];exact g3
 ·rw [Qbh g4];exact g4
 ·rw [Qbh g5];exact g5
 ·rw [Qbh g6];exact g6
 ·rw [Qbh g7];exact g7
 ·rw [Qbh g8];exact g8
 ·rw [Qbh g9];exact g9
 ·rw [Qbh g10];exact g10
section
variable {K:PySem.W.Frag} {mg:Str→Option Value}
theorem Exs.parts (ex:Exs K mg):PySem.W.excIn K (cad mg "NoughtError") bmV "ValueError.__new__" = true∧(∀ c∈(Qbg.map (cad mg)).take 6,PySem.W.excIn K c bmV "ValueError.__new__" = true) ∧
  (∀ c∈Qbg.map (cad mg),Qvh K c=true∧PySem.W.mroIn K c (.ref (cad mg "NoughtError"))=some true∧PySem.W.kitOne K (.ref c) (.type "ValueError")=some true) ∧
  ∀ (i j:Nat) (c d:Addr),(Qbg.map (cad mg))[i]?=some c→(Qbg.map (cad mg))[j]?=some d→PySem.W.kitOne K (.ref c) (.ref d)=some (i==j):=by
 have h:=ex.ok
 unfold Qx5 at h
 simp only [Bool.and_eq_true,List.all_eq_true,beq_iff_eq] at h
 obtain ⟨⟨⟨h1,h2⟩,h3⟩,h4⟩:=h
 refine ⟨h1,h2,fun c hc=>⟨(h3 c hc).1.1,(h3 c hc).1.2,(h3 c hc).2⟩,fun i j c d hi hj=>?_⟩
 exact h4 (c,i) (List.mk_mem_zipIdx_iff_getElem?.mpr hi) (d,j) (List.mk_mem_zipIdx_iff_getElem?.mpr hj)
theorem Exs.nou (ex:Exs K mg):PySem.W.excIn K (cad mg "NoughtError") bmV "ValueError.__new__" = true:=ex.parts.1
theorem Exs.rz (ex:Exs K mg) (i:Nat) {x:Str} (hi:i<6) (hx:Qbg[i]?=some x):PySem.W.excIn K (cad mg x) bmV "ValueError.__new__" = true:=by
 refine ex.parts.2.1 _ (List.mem_of_getElem? (i:=i) ?_)
 rw [List.getElem?_take_of_lt hi,List.getElem?_map,hx]
 rfl
theorem Exs.at (i:Nat) {x:Str} (hx:Qbg[i]?=some x):(Qbg.map (cad mg))[i]?=some (cad mg x):=by rw [List.getElem?_map,hx];rfl
theorem Exs.xc (ex:Exs K mg) (i:Nat) {x:Str} (hx:Qbg[i]?=some x):Qvh K (cad mg x)=true:=(ex.parts.2.2.1 _ (List.mem_of_getElem? (Exs.at i hx))).1
theorem Exs.sub (ex:Exs K mg) (i:Nat) {x:Str} (hx:Qbg[i]?=some x):PySem.W.mroIn K (cad mg x) (.ref (cad mg "NoughtError"))=some true:=(ex.parts.2.2.1 _ (List.mem_of_getElem? (Exs.at i hx))).2.1
theorem Exs.val (ex:Exs K mg) (i:Nat) {x:Str} (hx:Qbg[i]?=some x):PySem.W.kitOne K (.ref (cad mg x)) (.type "ValueError")=some true:=(ex.parts.2.2.1 _ (List.mem_of_getElem? (Exs.at i hx))).2.2
theorem Exs.kit (ex:Exs K mg) (i j:Nat) {x y:Str} (hx:Qbg[i]?=some x) (hy:Qbg[j]?=some y):PySem.W.kitOne K (.ref (cad mg x)) (.ref (cad mg y))=some (i==j):=ex.parts.2.2.2 i j _ _ (Exs.at i hx) (Exs.at j hy)
end
theorem Qht {X:Cx} {x:Str} {a:Addr} {pos:Pos} (m:X.mg x=some (.ref a)) (hg:Gl X x:=by rfl) (hd:(x==("__debug__" : Str))=false:=by decide):QE X (.Name x pos) (tC (.ref a)):=⟨Qn5 (v:=.ref a) hg m rfl hd⟩
section
variable {X:Cx} {pins:List (Addr×Obj)} {σ:St} {H:Hp} {s:Shared} {h':Heap}
theorem Inv.turnedL {t':Nat} {fp:List Addr} (I:Inv X pins σ H s) (k:∀ b o,b∉fp→s.heap.get? b=some o→h'.get? b=some o) (hf:∀ b∈fp,Qhz X pins H b):Inv X pins σ H { s with heap:=h',toks:=t' }:=by
 have nit:∀ b u,H b=some u→b∉fp:=fun b u e z=>by rw [(hf b z).1] at e;cases e
 refine I.step (g':=s.gens) (d':=s.drawn) (ch:=fp) (fun b hb=>?_) (fun b o _ _ hc e _=>k b o hc e) (fun b o _ _ hc e _=>⟨o.slots,k b o hc e⟩) (fun _ _ _ _ n=>n)
  (fun b o hc e=>⟨o,k b o hc e⟩) (fun _ _ e=>e) (fun _ _ _ e=>e) (fun _ _ e=>e) (fun m hm=>?_) (fun b u e=>?_) I.bare
 ·obtain ⟨_,f1,_,f3,f4,f5⟩:=hf b hb
  exact ⟨f3,f1,f4,f5⟩
 ·obtain ⟨o,es,ep,ho,r⟩:=hm
  exact ⟨o,es,ep,k _ o (fun z=>(hf _ z).2.1 rfl) ho,r⟩
 ·refine (I.hok b u e).stay (fun c v hc q=>k c v ?_ q) (fun _ q=>q) fun _ _ q=>q
  rcases hc with z | z
  ·rw [z];exact nit b u e
  ·exact nit c _ z
end
section
variable {X:Cx}
end
section
variable {P:Program} {w:World} {A:Around} {E:Value→Shared→Prop} {s:Shared}
noncomputable def IsIt:Bool→Heap→Addr→Addr→Nat→Prop
 | true,h,i,l,n=>h.IsListIter i l n
 | false,h,i,l,n=>h.IsTupleIter i l n
noncomputable def IsSq:Bool→Heap→Addr→Array Value→Prop
 | true,h,l,xs=>h.IsList l xs
 | false,h,l,xs=>h.IsTuple l xs
structure ZT (lb lc:Bool) (h:Heap) (z ti to i1 i2 l1 l2:Addr) (n:Nat) (xs ys:Array Value):Prop where
 z:IsZip h z ti to .none
 ti:IsPair h ti (.ref i1) (.ref i2)
 to:∃ a b,IsPair h to a b
 i1:IsIt lb h i1 l1 n
 i2:IsIt lc h i2 l2 n
 l1:IsSq lb h l1 xs
 l2:IsSq lc h l2 ys
end
section
variable {P:Program} {w:World} {A:Around} {E:Value→Shared→Prop} {s:Shared}
end
section
variable {X:Cx}
end
section
variable {prog:Program} {w:World} {A:Around} {E:Value→Shared→Prop} {s:Shared}
end
section
variable {X:Cx}
end
noncomputable def Q1p (K:PySem.W.Frag) (c0 C:Addr) (bmB:List Value) (newId:String) (f:Addr):Bool:=match K.lookup C with
 | some ⟨.type "type",_,.cls cl,ks⟩=>(match cl.mro,ks.toList with
  | .ref C1::.ref b0::tl,[_,_,_,_,some (.builtin n1),_]=>C1==C&&n1==newId&&b0==c0&&tl==bmB && !cl.hasDel&&cl.hasDict&&PySem.W.tailIn K bmB (.ref b0::tl)
  | _,_=>false)
 | _=>false
noncomputable def Q6s (K:PySem.W.Frag) (c0 C f:Addr):Bool:=Q1p K c0 C bmV "ValueError.__new__" f&&PySem.W.findIn K (.ref C) "__init__" == some (some (.ref f))&&PySem.W.findIn K (.ref C) "__setattr__" == some (some (.builtin "object.__setattr__"))&&PySem.W.findIn K (.ref C) "at" == some none&&PySem.W.mroIn K C (.type "object")==some true
theorem Qtk {K:PySem.W.Frag} {h:Heap} {c0 C f:Addr} {bmB:List Value} {newId:String} (X:K.In h) (q:Q1p K c0 C bmB newId f=true) :
  ∃ N nm qn bs sn sub ab col dd k0 k1 k2 k3 k5,h.get? C=some (excClassObj nm qn C N bs (.ref c0::bmB) true sn sub ab col dd k0 k1 k2 k3 k5 newId)∧OwnTail h bmB (.ref c0::bmB):=by
 unfold Q1p at q
 split at q
 ·rename_i d0 cl ks look
  split at q
  ·rename_i C1 b0 tl a0 a1 a2 a3 n1 a5 eqm eqs
   simp only [Bool.and_eq_true,beq_iff_eq,Bool.not_eq_true'] at q
   obtain ⟨⟨⟨⟨⟨⟨rfl,rfl⟩,rfl⟩,rfl⟩,q1⟩,q2⟩,q3⟩:=q
   obtain ⟨nm,bs,mro,ns,qn,hd,sn,sub,ab,col,del⟩:=cl
   dsimp only at eqm q1 q2
   subst eqm q1 q2
   obtain ⟨kl⟩:=ks
   simp only at eqs
   subst eqs
   exact ⟨ns,nm,qn,bs,sn,sub,ab,col,d0,a0,a1,a2,a3,a5,X _ _ look,PySem.W.tail_of_in X q3⟩
  ·cases q
 ·cases q
section
variable {prog:Program} {w:World} {A:Around} {E:Value→Shared→Prop} {h:Heap} {g:Array GenState} {d:Drawn} {t:Nat} {os:OsState}
variable {nm q:Str} {C N c0:Addr} {bs bm bmB:List Value} {hd:Bool} {sn:List Str} {sub:List Value} {ab:Bool} {col:Option Bool} {dd:Option Addr} {k0 k1 k2 k3 k5:Option Value} {B nid iid:String}
noncomputable abbrev exH (h:Heap) (C:Addr) (us:List Value):Heap:=(h.push { cls:=.type "tuple",data:=.seq us.toArray }).push { cls:=.ref C,data:=.fields #[.ref h.objs.size,.none,.none,.none,.bool false,.none] }
theorem Qp6 (h:Heap) (C:Addr) (us:List Value) (b:Addr) (o:Obj) (e:h.get? b=some o):(exH h C us).get? b=some o:=Heap.get?_push_of_some _ (Heap.get?_push_of_some _ e)
theorem Qtl (h:Heap) (C:Addr) (us:List Value):(exH h C us).get? (h.objs.size+1)=some { cls:=.ref C,data:=.fields #[.ref h.objs.size,.none,.none,.none,.bool false,.none] }:=by heap_get
theorem Qvk (F:ExcBaseFacts B nid iid bmB) (T:OwnTail h bmB bm) {K:PySem.W.Frag} (X:K.In h) {us:List Value} {f:Addr} {of:Obj} {Q:Fin→Shared→Prop}
  (cC:h.get? C=some (excClassObj nm q C N bs bm hd sn sub ab col dd k0 k1 k2 k3 k5 nid)) (ini:PySem.W.findIn K (.ref C) "__init__" = some (some (.ref f))) (cf:h.get? f=some of) (tf:of.cls=.type "function")
  (run:wpAny (model prog w) A (call (.ref f) (.ref (h.objs.size+1)::us)) (fun r s'=>r=.none∧Q (.done (.ret (.ref (h.objs.size+1)))) s') E ⟨exH h C us,g,d,t,os⟩) (hz:us.length≤sizeLine) :
  wpAny (model prog w) A (Builtin.«type.__call__» ⟨.ref C::us,[]⟩) Q E ⟨h,g,d,t,os⟩:=by
 repeat (first | with_reducible refine wpAny_loadPart_at cC ?_ | with_reducible refine wpAny_madeBy_exc cC ?_ | wp_step)
 refine codeAny_call_builtin_code (Code.quiet_builtin _ F.quiet) (wpAny_check_new_subT F T cC ?_)
 refine codeAny_exc_new_subT F T cC ?_ hz
 show wpAny _ _ _ _ _ _
 have kp:=Qp6 h C us
 have c1:=kp _ _ cC
 have X1:K.In (exH h C us):=X.keeps kp
 have f1:=kp _ _ cf
 have e1:=Qtl h C us
 have hcC:(Value.ref C::bm).contains (.ref C)=true:=by simp
 unfold isInstance
 repeat (first | with_reducible refine wpAny_loadPart_at e1 ?_ | (with_reducible refine wpAny_isSubtype_exc c1 ?_;rw [hcC]) | wp_step)
 show wpAny _ _ (typeLookup (.ref C) _) _ _ _
 refine PySem.W.looks_findIn X1 ini _ _ _ _ (fun _ _ z=>z) ?_
 refine wpAny_holding (wpAny_bind ?_)
 unfold bindSpecial
 refine wpAny_bind (wpAny_typeOf (T := "function") ⟨_,f1,tf⟩ ?_)
 rw [if_pos (by decide)]
 refine wpAny_pure (wpAny_bind (wpAny_mono run (fun r s' hr=>?_) fun _ _ x=>x))
 obtain ⟨rfl,hQ⟩:=hr
 wp_walk
 exact hQ
theorem Qvl (F:ExcBaseFacts B nid iid bmB) (T:OwnTail h bmB bm) {K:PySem.W.Frag} (X:K.In h) {us:List Value} {f:Addr} {of:Obj} {Q:Value→Shared→Prop}
  (cC:h.get? C=some (excClassObj nm q C N bs bm hd sn sub ab col dd k0 k1 k2 k3 k5 nid)) (ini:PySem.W.findIn K (.ref C) "__init__" = some (some (.ref f))) (cf:h.get? f=some of) (tf:of.cls=.type "function")
  (run:wpAny (model prog w) (A.under (.builtin "type.__call__" ⟨.ref C::us,[]⟩)) (call (.ref f) (.ref (h.objs.size+1)::us)) (fun r s'=>r=.none∧Q (.ref (h.objs.size+1)) s') E ⟨exH h C us,g,d,t,os⟩) (hz:us.length≤sizeLine) :
  wpAny (model prog w) A (call (.ref C) us) Q E ⟨h,g,d,t,os⟩:=by
 have f1:=tc_lookup
 have f2:=tc_bind (.ref C)
 have hT:(⟨h,g,d,t,os⟩:Shared).TypeIs (.ref C) "type" := ⟨_,cC,rfl⟩
 refine wpAny_call (codeAny_of_tree ?_)
 show wpAny _ _ (callAny (.ref C) _) _ _ _
 repeat (any_goals (first | assumption | with_reducible refine wpAny_loadPart_at cC ?_ | wp_step))
 refine ⟨rfl,?_⟩
 exact codeAny_call_builtin_at (Code.quiet_builtin _ (by decide +kernel)) entry_typeCall (wpAny_check_type_call_sub cC (Qvk F T X cC ini cf tf run hz))
noncomputable def Q6t (h:Heap) (x:Addr):Heap:=(h.push { cls:=.type "dict",data:=.dict #[] }).update x fun o=>{ cls:=o.cls,dict:=some h.objs.size,data:=o.data,slots:=o.slots }
theorem Qp7 {K:PySem.W.Frag} (X:K.In h) {x:Addr} {ox:Obj} {name:Str} {v:Value} {tk:Tok} {vs:Array Value} {Q:Fin→Shared→Prop}
  (cC:h.get? C=some (excClassObj nm q C N bs (.ref c0::bmV) true sn sub ab col dd k0 k1 k2 k3 k5 nid)) (hx:h.get? x=some ox) (hc:ox.cls=.ref C) (hdn:ox.dict=none) (hdt:ox.data=.fields vs) (fnd:PySem.W.findIn K (.ref C) name=some none)
  (hq:∀ h' tk',h'.get? x=some { cls:=ox.cls,dict:=some h.objs.size,data:=ox.data,slots:=ox.slots }→h'.Ns1 h.objs.size (fun y=>if y=name then some v else none)→(∀ b o,b≠x→h.get? b=some o→h'.get? b=some o)→Q (.done (.ret .none)) ⟨h',g,d,tk',os⟩) :
  wpAny (model prog w) A (Builtin.«object.__setattr__» ⟨[.ref x,.str name tk,v],[]⟩) Q E ⟨h,g,d,t,os⟩:=by
 have ok:refuseLoop (.ref x) "__setattr__" bmV=pure ():=F.store_ValueError.passes (.ref x)
 have L:=PySem.W.looks_findIn (M:=model prog w) X fnd
 unfold Builtin.«object.__setattr__»
 repeat (first | rw [refuse_eq] | (rw [refuseLoop_ref,refuseLoop_ref,ok]) | (with_reducible refine wpAny_loadPart_at hx ?_;rw [hc]) | with_reducible refine wpAny_mroOf_exc cC ?_ | with_reducible refine L.at ?_ | wp_step)
 rw [hdn,if_neg (by simp [typeHasDict])]
 split
 ·rename_i z
  cases z
 split
 ·rename_i c z
  rw [hdt] at z
  cases z
 have xs:x≠h.objs.size:=Nat.ne_of_lt (Heap.lt_size hx)
 have x1:(h.push { cls:=.type "dict",data:=.dict #[] }).get? x=some ox:=Heap.get?_push_of_some _ hx
 refine wpAny_bind (wpAny_alloc' (wpAny_bind (wpAny_update' x1 (wpAny_pure ?_))))
 have gd:(Q6t h x).get? h.objs.size=some { cls:=.type "dict",data:=.dict #[] }:=(Heap.get?_update_ne _ _ _ _ xs.symm).trans (Heap.get?_push_at rfl rfl)
 have gx:(Q6t h x).get? x=some { cls:=ox.cls,dict:=some h.objs.size,data:=ox.data,slots:=ox.slots }:=Heap.get?_update_self _ x1 (by
  obtain ⟨oc,od,odt,osl⟩:=ox
  dsimp only at hdt
  subst hdt
  rfl)
 show wpAny _ _ (Builtin.ObjectAttr.storeInDict h.objs.size (.str name tk) name v) _ _ ⟨Q6t h x,g,d,_,os⟩
 unfold Builtin.ObjectAttr.storeInDict Builtin.ObjectAttr.newKeyGuard
 refine wpAny_bind (wpAny_pure (wpAny_bind (wpAny_nsSet1 (Heap.Ns1.of_empty ⟨_,#[],_,gd,rfl,fun e he=>absurd he (by simp),fun _=>rfl⟩) fun h' hn' hs=>?_)))
 obtain ⟨oD,esD,epD,hoD,hdD,hcD⟩:=hn'.count (Within.cons name v Within.nil)
 refine wpAny_bind (wpAny_lookBehind hoD (by rw [hdD];exact pastItsLine_dict (Nat.le_trans hcD (by rw [List.length_cons,List.length_nil,sizeLine_eq];omega))) ?_)
 wp_walk
 exact hq h' _ ((hs.2 x xs).trans gx) hn' fun b o hb e=>(hs.2 b (Nat.ne_of_lt (Heap.lt_size e))).trans ((Heap.get?_update_ne _ _ _ _ hb).trans (Heap.get?_push_of_some _ e))
theorem Qvm {K:PySem.W.Frag} (X:K.In h) {x:Addr} {ox:Obj} {name:Str} {v:Value} {vs:Array Value} {Q:Unit→Shared→Prop}
  (cC:h.get? C=some (excClassObj nm q C N bs (.ref c0::bmV) true sn sub ab col dd k0 k1 k2 k3 k5 nid)) (hx:h.get? x=some ox) (hc:ox.cls=.ref C) (hdn:ox.dict=none) (hdt:ox.data=.fields vs) (fnd:PySem.W.findIn K (.ref C) name=some none)
  (fsa:PySem.W.findIn K (.ref C) "__setattr__" = some (some (.builtin "object.__setattr__"))) (fmo:PySem.W.mroIn K C (.type "object")=some true)
  (hq:∀ h' tk',h'.get? x=some { cls:=ox.cls,dict:=some h.objs.size,data:=ox.data,slots:=ox.slots }→h'.Ns1 h.objs.size (fun y=>if y=name then some v else none)→(∀ b o,b≠x→h.get? b=some o→h'.get? b=some o)→Q () ⟨h',g,d,tk',os⟩) :
  wpAny (model prog w) A (setAttr (.ref x) name v) Q E ⟨h,g,d,t,os⟩:=by
 have f3:=F.store_ValueError.slot.bind (.ref x)
 have L1:=PySem.W.looks_findIn (M:=model prog w) X fsa
 have L2:=PySem.W.looks_mroIn (M:=model prog w) X fmo
 unfold setAttr callSpecial? specialOf
 repeat (any_goals (first | assumption | (with_reducible refine wpAny_loadPart_at hx ?_;rw [hc]) | with_reducible refine L1.at ?_ | wp_step))
 refine codeAny_call_builtin F.store_ValueError.slot.plain F.store_ValueError.entry ?_
 have chk:∀ (A:Around) (E:Value→Shared→Prop) (nv:Value) (t':Nat) (Q:Unit→Shared→Prop),Q () ⟨h,g,d,t',os⟩→wpAny (model prog w) A (checkBuiltinCall "object.__setattr__" ⟨[.ref x,nv,v],[]⟩) Q E ⟨h,g,d,t',os⟩:=fun A E nv t' Q hq=>by
  have ha:=F.store_ValueError.args (.ref x) nv v
  have k1:builtinKind "object.__setattr__" = some .slot:=F.store_ValueError.kind
  have k2:splitId "object.__setattr__" = some ("object","__setattr__"):=F.store_ValueError.split
  simp only [checkBuiltinCall,k1,k2]
  refine wpAny_bind ?_
  unfold isInstance
  repeat (first | (with_reducible refine wpAny_loadPart_at hx ?_;rw [hc]) | with_reducible refine L2.at ?_ | wp_step)
  exact hq
 refine chk _ _ _ _ _ (Qp7 X cC hx hc hdn hdt fnd fun h' tk' a b c=>?_)
 repeat (any_goals (first | assumption | wp_step))
 exact hq h' tk' a b c
structure Ini (K:PySem.W.Frag) (c0 C:Addr):Prop where
 ex:∃ (f:Addr) (fd:FuncData) (qn:Str) (st:Stmt) (p1 p2 p3 p4:Pos),Q6s K c0 C f=true∧Fun K "__init__" qn st f fd∧(∃ od osl,K.lookup f=some ⟨.type "function",od,.func fd,osl⟩)∧FnScope ["self","at"] ["self","at"] (Qf st) ∧
  (Qf st).names.lookup ("self" : Str)=some .local∧(Qf st).names.lookup ("at" : Str)=some .local∧Binds K fd ["self","at"] []∧Q9 st=[.Assign [.Attribute (.Name "self" p1) "at" p2] (.Name "at" p3) p4]
end
section
variable {X:Cx} {pins:List (Addr×Obj)} {σ:St} {H:Hp} {s:Shared}
end
section
variable {M:Model} {A:Around} {E:Value→Shared→Prop} {env:Env} {nm q:Str} {C N:Addr} {bs bm:List Value} {hd:Bool} {sn:List Str} {sub:List Value} {ab:Bool} {col:Option Bool} {dd:Option Addr} {k0 k1 k2 k3 k5:Option Value} {nid:String}
theorem Qr2 {s:Shared} {x:Sem Value} {Q:Flow→Shared→Prop} (hb:bm.contains (.type "BaseException")=true) (hh:A.handled=none)
  (h:wpAny M A x (fun v s1=>∃ e od ta,v=.ref e∧s1.heap.get? C=some (excClassObj nm q C N bs bm hd sn sub ab col dd k0 k1 k2 k3 k5 nid)∧s1.heap.get? e=some { cls:=.ref C,dict:=od,data:=.fields #[.ref ta,.none,.none,.none,.bool false,.none] }∧E (.ref e) s1) E s) :
  wpAny M A (raiseStmt env (some x) none) Q E s:=by
 have hcB:(Value.ref C::bm).contains (.type "BaseException")=true:=by rw [List.contains_cons,hb,Bool.or_true]
 unfold raiseStmt
 refine wpAny_bind (wpAny_mono h (fun v s1 h1=>?_) fun _ _ x=>x)
 obtain ⟨e,od,ta,rfl,cC,he,hE⟩:=h1
 obtain ⟨hp,g,d,tk,os⟩:=s1
 repeat (first | with_reducible refine wpAny_loadPart_at he ?_ | with_reducible refine wpAny_loadPart_at cC ?_ | (with_reducible refine wpAny_isSubtype_exc cC ?_;rw [hcB]) | wp_step)
 exact wpAny_raiseNew_none hh hE
end
section
variable {X:Cx} {x:Str} {e:Expr} {t:TA} {pos cpos np:Pos} {R:XR} {c0 C:Addr} {k:Nat}
end
section
variable {X:Cx} {e:Expr} {te:TE} {pos:Pos}
end
section
variable {prog:Program} {w:World} {A:Around} {E:Value→Shared→Prop} {h:Heap} {g:Array GenState} {d:Drawn} {t:Nat} {os:OsState}
variable {nm q:Str} {C N c0:Addr} {bs bm bmB:List Value} {hd:Bool} {sn:List Str} {sub:List Value} {ab:Bool} {col:Option Bool} {dd:Option Addr} {k0 k1 k2 k3 k5:Option Value} {B nid iid:String}
theorem Qoi {K:PySem.W.Frag} (X:K.In h) {x dx:Addr} {ox:Obj} {name:Str} {v:Value} {tk:Tok} {mA:Str→Option Value} {ns:List Str} {Q:Fin→Shared→Prop}
  (cC:h.get? C=some (excClassObj nm q C N bs (.ref c0::bmV) true sn sub ab col dd k0 k1 k2 k3 k5 nid)) (hx:h.get? x=some ox) (hc:ox.cls=.ref C) (hdx:ox.dict=some dx) (nA:h.Ns1 dx mA) (hw:Within mA ns) (hz:ns.length≤9) (fnd:PySem.W.findIn K (.ref C) name=some none)
  (hq:∀ h' tk',h'.Ns1 dx (fun y=>if y=name then some v else mA y)→Heap.SameBut dx h h'→Q (.done (.ret .none)) ⟨h',g,d,tk',os⟩) :
  wpAny (model prog w) A (Builtin.«object.__setattr__» ⟨[.ref x,.str name tk,v],[]⟩) Q E ⟨h,g,d,t,os⟩:=by
 have ok:refuseLoop (.ref x) "__setattr__" bmV=pure ():=F.store_ValueError.passes (.ref x)
 have L:=PySem.W.looks_findIn (M:=model prog w) X fnd
 unfold Builtin.«object.__setattr__»
 repeat (first | rw [refuse_eq] | (rw [refuseLoop_ref,refuseLoop_ref,ok]) | (with_reducible refine wpAny_loadPart_at hx ?_;rw [hc]) | with_reducible refine wpAny_mroOf_exc cC ?_ | with_reducible refine L.at ?_ | wp_step)
 rw [hdx]
 refine wpAny_pure ?_
 show wpAny _ _ (Builtin.ObjectAttr.storeInDict dx (.str name tk) name v) _ _ _
 unfold Builtin.ObjectAttr.storeInDict Builtin.ObjectAttr.newKeyGuard
 refine wpAny_bind (wpAny_pure (wpAny_bind (wpAny_nsSet1 nA fun h' hn' hs=>?_)))
 obtain ⟨oD,esD,epD,hoD,hdD,hcD⟩:=hn'.count (Within.cons name v hw)
 refine wpAny_bind (wpAny_lookBehind hoD (by rw [hdD];exact pastItsLine_dict (Nat.le_trans hcD (by rw [List.length_cons,sizeLine_eq];omega))) ?_)
 wp_walk
 exact hq h' _ hn' hs
theorem Qr3 {K:PySem.W.Frag} (X:K.In h) {x dx:Addr} {ox:Obj} {name:Str} {v:Value} {mA:Str→Option Value} {ns:List Str} {Q:Unit→Shared→Prop}
  (cC:h.get? C=some (excClassObj nm q C N bs (.ref c0::bmV) true sn sub ab col dd k0 k1 k2 k3 k5 nid)) (hx:h.get? x=some ox) (hc:ox.cls=.ref C) (hdx:ox.dict=some dx) (nA:h.Ns1 dx mA) (hw:Within mA ns) (hz:ns.length≤9) (fnd:PySem.W.findIn K (.ref C) name=some none)
  (fsa:PySem.W.findIn K (.ref C) "__setattr__" = some (some (.builtin "object.__setattr__"))) (fmo:PySem.W.mroIn K C (.type "object")=some true)
  (hq:∀ h' tk',h'.Ns1 dx (fun y=>if y=name then some v else mA y)→Heap.SameBut dx h h'→Q () ⟨h',g,d,tk',os⟩) :
  wpAny (model prog w) A (setAttr (.ref x) name v) Q E ⟨h,g,d,t,os⟩:=by
 have f3:=F.store_ValueError.slot.bind (.ref x)
 have L1:=PySem.W.looks_findIn (M:=model prog w) X fsa
 have L2:=PySem.W.looks_mroIn (M:=model prog w) X fmo
 unfold setAttr callSpecial? specialOf
 repeat (any_goals (first | assumption | (with_reducible refine wpAny_loadPart_at hx ?_;rw [hc]) | with_reducible refine L1.at ?_ | wp_step))
 refine codeAny_call_builtin F.store_ValueError.slot.plain F.store_ValueError.entry ?_
 have chk:∀ (A:Around) (E:Value→Shared→Prop) (nv:Value) (t':Nat) (Q:Unit→Shared→Prop),Q () ⟨h,g,d,t',os⟩→wpAny (model prog w) A (checkBuiltinCall "object.__setattr__" ⟨[.ref x,nv,v],[]⟩) Q E ⟨h,g,d,t',os⟩:=fun A E nv t' Q hq=>by
  have ha:=F.store_ValueError.args (.ref x) nv v
  have k1:builtinKind "object.__setattr__" = some .slot:=F.store_ValueError.kind
  have k2:splitId "object.__setattr__" = some ("object","__setattr__"):=F.store_ValueError.split
  simp only [checkBuiltinCall,k1,k2]
  refine wpAny_bind ?_
  unfold isInstance
  repeat (first | (with_reducible refine wpAny_loadPart_at hx ?_;rw [hc]) | with_reducible refine L2.at ?_ | wp_step)
  exact hq
 refine chk _ _ _ _ _ (Qoi X cC hx hc hdx nA hw hz fnd fun h' tk' a b=>?_)
 repeat (any_goals (first | assumption | wp_step))
 exact hq h' tk' a b
noncomputable def Qku (K:PySem.W.Frag) (c0 C f:Addr):Bool:=Q1p K c0 C bmV "ValueError.__new__" f&&PySem.W.findIn K (.ref C) "__init__" == some (some (.ref f))&&PySem.W.findIn K (.ref C) "__setattr__" == some (some (.builtin "object.__setattr__"))&&PySem.W.findIn K (.ref C) "many" == some none&&PySem.W.findIn K (.ref C) "most" == some none&&PySem.W.mroIn K C (.type "object")==some true
structure Ini2 (K:PySem.W.Frag) (c0 C:Addr):Prop where
 ex:∃ (f:Addr) (fd:FuncData) (qn:Str) (st:Stmt) (p1 p2 p3 p4 q1 q2 q3 q4:Pos),Qku K c0 C f=true∧Fun K "__init__" qn st f fd∧(∃ od osl,K.lookup f=some ⟨.type "function",od,.func fd,osl⟩)∧FnScope ["self","many","most"] ["self","many","most"] (Qf st) ∧
  (Qf st).names.lookup ("self" : Str)=some .local∧(Qf st).names.lookup ("many" : Str)=some .local∧(Qf st).names.lookup ("most" : Str)=some .local∧Binds K fd ["self","many","most"] [] ∧
  Q9 st=[.Assign [.Attribute (.Name "self" p1) "many" p2] (.Name "many" p3) p4,.Assign [.Attribute (.Name "self" q1) "most" q2] (.Name "most" q3) q4]
end
theorem Q1q {h h':Heap} {a:Addr} {m:Str→Option Value} (n:h.Ns a m) (k:∀ o,h.get? a=some o→h'.get? a=some o):h'.Ns a m:=let ⟨o,es,ep,ho,r⟩:=n;⟨o,es,ep,k o ho,r⟩
section
variable {X:Cx} {pins:List (Addr×Obj)} {σ:St} {H:Hp} {s:Shared}
theorem Qvn {c0 C:Addr} (I:Inv X pins σ H s) (D:Ini2 X.K c0 C) {u u2:Value} {A:Around} {E:Value→Shared→Prop} {Q:Value→Shared→Prop} (hd:A.depth+5<recursionLimit)
  (hq:∀ (h':Heap) (tk:Nat) (e d:Addr),(∀ b o,s.heap.get? b=some o→h'.get? b=some o)→s.heap.objs.size≤e→s.heap.objs.size≤d→e≠d →
   h'.get? e=some { cls:=.ref C,dict:=some d,data:=.fields #[.ref s.heap.objs.size,.none,.none,.none,.bool false,.none] }→h'.Ns1 d (fun y=>if y = "most" then some u2 else if y = "many" then some u else none)→Q (.ref e) { s with heap:=h',toks:=tk }) :
  wpAny (model X.prog X.w) A (call (.ref C) [u,u2]) Q E s:=by
 have KX:=I.kIn
 have lim0:=I.nolimit
 obtain ⟨hp,g,d,t,os⟩:=s
 obtain ⟨f,fd,qn,st,p1,p2,p3,p4,p5,p6,p7,p8,ok,Fu,⟨od',osl',lk'⟩,S,n1,n2,n3,B,hb⟩:=D.ex
 unfold Qku at ok
 simp only [Bool.and_eq_true,beq_iff_eq] at ok
 obtain ⟨⟨⟨⟨⟨k1,k2⟩,k3⟩,k4⟩,k6⟩,k5⟩:=ok
 obtain ⟨N,nm,qn',bs,sn,sub,ab,col,dd,a0,a1,a2,a3,a5,cC,T⟩:=Qtk KX k1
 obtain ⟨oc,od,kV,doc,pm,an,cdv,ct,osl,rfl,lk,hcd⟩:=Fu.ex
 refine Qvl F.excBase_ValueError T KX cC k2 (KX _ _ lk') rfl ?_ (by show 2≤sizeLine;decide)
 have kp:=Qp6 hp C [u,u2]
 have e1:=Qtl hp C [u,u2]
 have K1:X.K.In (exH hp C [u,u2]):=KX.keeps kp
 have sz:(exH hp C [u,u2]).objs.size=hp.objs.size+2:=by show ((hp.push _).push _).objs.size=_;rw [Heap.size_push,Heap.size_push]
 refine wpAny_call (codeAny_call_function ?_ (K1 _ _ lk') rfl S.co S.gen rfl (PySem.W.codeRec_of K1 hcd) (B ⟨exH hp C [u,u2],g,d,t,os⟩ [.ref (hp.objs.size+1),u,u2] K1 rfl _ _ _ _ ?_))
 ·show A.depth+1<_
  omega
 refine wpAny_newFunctionEnv_cells S.kind (fun y hy=>?_) fun env he s1 x=>?_
 ·rcases List.mem_cons.mp hy with rfl | hy
  ·exact .inl n1
  ·rcases List.mem_cons.mp hy with rfl | hy
   ·exact .inl n2
   ·rcases List.mem_cons.mp hy with rfl | hy
    ·exact .inl n3
    ·cases hy
 subst he
 refine ⟨(lim0.keeps kp).keeps x.toInCall.keep,codeAny_func ?_⟩
 rw [show (PySem.W.fnOf "__init__" qn (Qa3 st) (Q9 st) (Qf st) .none kV doc pm an cdv ct).scope=Qf st from rfl] at x ⊢
 obtain ⟨h1,tk1,rfl⟩:=x.toInCall.same
 have ns:=x.toInCall.ns
 have kp1:=x.toInCall.keep
 have ga:bindL (newEnv (Qf st) (exH hp C [u,u2]).objs.size (PySem.W.fnOf "__init__" qn (Qa3 st) (Q9 st) (Qf st) .none kV doc pm an cdv ct).globals (cellsFrom ((exH hp C [u,u2]).objs.size+1) (Qf st).names []) ((PySem.W.fnOf "__init__" qn (Qa3 st) (Q9 st) (Qf st) .none kV doc pm an cdv ct).qualname ++ ".<locals>.") (some f) (PySem.W.fnOf "__init__" qn (Qa3 st) (Q9 st) (Qf st) .none kV doc pm an cdv ct).code none (PySem.W.fnOf "__init__" qn (Qa3 st) (Q9 st) (Qf st) .none kV doc pm an cdv ct).builtins).kindOf ((["self","many","most"]:List Str).zip [.ref (hp.objs.size+1),u,u2]) (fun _=>none) "many" = some u:=Qeo (i:=1) S.nd rfl rfl n2
 have gb:bindL (newEnv (Qf st) (exH hp C [u,u2]).objs.size (PySem.W.fnOf "__init__" qn (Qa3 st) (Q9 st) (Qf st) .none kV doc pm an cdv ct).globals (cellsFrom ((exH hp C [u,u2]).objs.size+1) (Qf st).names []) ((PySem.W.fnOf "__init__" qn (Qa3 st) (Q9 st) (Qf st) .none kV doc pm an cdv ct).qualname ++ ".<locals>.") (some f) (PySem.W.fnOf "__init__" qn (Qa3 st) (Q9 st) (Qf st) .none kV doc pm an cdv ct).code none (PySem.W.fnOf "__init__" qn (Qa3 st) (Q9 st) (Qf st) .none kV doc pm an cdv ct).builtins).kindOf ((["self","many","most"]:List Str).zip [.ref (hp.objs.size+1),u,u2]) (fun _=>none) "most" = some u2:=Qeo (i:=2) S.nd rfl rfl n3
 have gs:bindL (newEnv (Qf st) (exH hp C [u,u2]).objs.size (PySem.W.fnOf "__init__" qn (Qa3 st) (Q9 st) (Qf st) .none kV doc pm an cdv ct).globals (cellsFrom ((exH hp C [u,u2]).objs.size+1) (Qf st).names []) ((PySem.W.fnOf "__init__" qn (Qa3 st) (Q9 st) (Qf st) .none kV doc pm an cdv ct).qualname ++ ".<locals>.") (some f) (PySem.W.fnOf "__init__" qn (Qa3 st) (Q9 st) (Qf st) .none kV doc pm an cdv ct).code none (PySem.W.fnOf "__init__" qn (Qa3 st) (Q9 st) (Qf st) .none kV doc pm an cdv ct).builtins).kindOf ((["self","many","most"]:List Str).zip [.ref (hp.objs.size+1),u,u2]) (fun _=>none) "self" = some (.ref (hp.objs.size+1)):=Qeo (i:=0) S.nd rfl rfl n1
 have sz1:hp.objs.size+2≤h1.objs.size:=by
  have z:=ns.lt
  have y:(exH hp C [u,u2]).objs.size<h1.objs.size:=z
  omega
 rw [hb]
 refine wpAny_execs_cons (plainObj_wpAny_Assign_Attribute (wpAny_Name (wpAny_loadName_local (v:=u) S.kind n2 ns ga (wpAny_Name (wpAny_loadName_local (v:=.ref (hp.objs.size+1)) S.kind n1 ns gs ?_) rfl)) rfl))
 refine Qvm (K1.keeps kp1) (kp1 _ _ (kp _ _ cC)) (kp1 _ _ e1) rfl rfl rfl k4 k3 k5 fun h2 tk2 gx nd kk=>?_
 have lw:(exH hp C [u,u2]).objs.size≠hp.objs.size+1:=by rw [sz];omega
 have ns2:=Q1q ns fun o q=>kk _ _ lw q
 refine wpAny_execs_cons (plainObj_wpAny_Assign_Attribute (wpAny_Name (wpAny_loadName_local (v:=u2) S.kind n3 ns2 gb (wpAny_Name (wpAny_loadName_local (v:=.ref (hp.objs.size+1)) S.kind n1 ns2 gs ?_) rfl)) rfl))
 have neC:∀ o,h1.get? C=some o→h2.get? C=some o:=fun o q=>kk C o (Nat.ne_of_lt (Nat.lt_succ_of_lt (Heap.lt_size cC))) q
 have Kh2:X.K.In h2:=fun b o q=>kk b o (Nat.ne_of_lt (Nat.lt_succ_of_lt (Heap.lt_size (KX b o q)))) (K1.keeps kp1 b o q)
 refine Qr3 Kh2 (neC _ (kp1 _ _ (kp _ _ cC))) gx rfl rfl nd (Within.cons "many" u Within.nil) (by show 1≤9;decide) k6 k3 k5 fun h3 tk3 nd3 sb3=>wpAny_execs_nil ⟨rfl,?_⟩
 have dne:∀ b,b<h1.objs.size→b≠h1.objs.size:=fun b hb=>Nat.ne_of_lt hb
 refine hq h3 tk3 (hp.objs.size+1) h1.objs.size (fun b o q=>?_) (Nat.le_succ _) (by show hp.objs.size≤h1.objs.size;omega) (Nat.ne_of_lt (show hp.objs.size+1<h1.objs.size by omega)) ?_ nd3
 ·have lb:b<hp.objs.size:=Heap.lt_size q
  rw [sb3.2 b (dne b (Nat.lt_of_lt_of_le lb (by omega)))]
  exact kk b o (Nat.ne_of_lt (Nat.lt_succ_of_lt lb)) (kp1 _ _ (kp _ _ q))
 ·rw [sb3.2 _ (dne _ (by omega))]
  exact gx
end
section
variable {X:Cx} {x:Str} {e e2:Expr} {t:TA} {pos cpos np:Pos} {R:XR} {c0 C:Addr} {k:Nat}
theorem Qvo (pz:Qe5 X R) (hc:X.calm=true) (D:Ini2 X.K c0 C) (hr:Room k X.A) (hm:X.mg x=some (.ref C)) (ha:QA X [e,e2] t) (hg:Gl X x:=by rfl)
  (hdb:(x==("__debug__" : Str))=false:=by decide) (he:starEach [e,e2] X.env=[(false,eval e X.env),(false,eval e2 X.env)]:=by rfl) :
  QS X (.Raise (some (.Call (.Name x np) [e,e2] [] cpos)) none pos) (fun _ σ H=>t σ H fun vs H1=>∃ v v2,vs=[v,v2]∧∀ d,H1 d=none→R (.ref C) (some d) σ (upd H1 d (.xd [("many",v),("most",v2)]))):=by
 refine ⟨fun pins s σ H D' I hw=>?_⟩
 have D0:=D
 obtain ⟨f,fd,qn,st,p1,p2,p3,p4,p5,p6,p7,p8,ok,Fu,_⟩:=D.ex
 unfold Qku at ok
 simp only [Bool.and_eq_true,beq_iff_eq] at ok
 obtain ⟨N,nm,qn',bs,sn,sub,ab,col,dd,a0,a1,a2,a3,a5,cC,T⟩:=Qtk I.ok.mod.kin ok.1.1.1.1.1
 rw [arm_exec_Raise]
 refine wpAny_bind (wpAny_standAt (Qr2 (C:=C) (nm:=nm) (q:=qn') (N:=N) (bs:=bs) (bm:=.ref c0::bmV) (hd:=true) (sn:=sn) (sub:=sub) (ab:=ab) (col:=col) (dd:=dd) (k0:=a0) (k1:=a1) (k2:=a2) (k3:=a3) (k5:=a5) (nid := "ValueError.__new__") (T.hasType F.excBase_ValueError.hasBase) (I.ok.hd hc) ?_))
 refine wpAny_bind (wpAny_mono (wpAny_Call_ofName (Qfy I hg hm ?_ hdb)) (fun v s3 h3=>wpAny_bind (wpAny_standAt (wpAny_pure h3))) fun _ _ x=>x)
 unfold callWith
 have h2:=ha.h cpos pins s σ H _ I hw
 rw [he] at h2 ⊢
 refine wpAny_bind (wpAny_holding (Calls.evalArgs_plain (wpAny_mono h2 (fun us s2 h=>wpAny_bind (wpAny_standAt ?_)) fun _ _ y=>y)))
 obtain ⟨vs,H1,I1,r,v,v2,rfl,q⟩:=h
 obtain ⟨u,u2,rfl,ru,ru2⟩:=Qm4 r
 have c2:=I1.bk _ _ cC
 have hpl:(backTo cpos [(false,eval e X.env),(false,eval e2 X.env)]).any (·.1)=false:=rfl
 simp only [hpl]
 have dp:=hr.dp
 have s2k:∀ b,s2.heap.objs.size≤b→H1 b=none:=fun b hb=>I1.hok.fresh hb
 have fin:∀ (h':Heap) (tk:Nat) (ea d:Addr),(∀ b o,s2.heap.get? b=some o→h'.get? b=some o)→s2.heap.objs.size≤ea→s2.heap.objs.size≤d→ea≠d →
   h'.get? ea=some { cls:=.ref C,dict:=some d,data:=.fields #[.ref s2.heap.objs.size,.none,.none,.none,.bool false,.none] }→h'.Ns1 d (fun y=>if y = "most" then some u2 else if y = "many" then some u else none)→X.xe (.ref ea) { s2 with heap:=h',toks:=tk }:=fun h' tk ea d kp le ld ne ge nd=>by
  have new:ObjOk X.prog X.w (upd H1 d (.xd [("many",v),("most",v2)])) h' d (.xd [("many",v),("most",v2)]):=⟨_,nd,fun y=>?_⟩
  refine pz pins σ H1 s2 (.ref ea) { s2 with heap:=h',toks:=tk } I1 ⟨ea,.ref C,some d,upd H1 d (.xd [("many",v),("most",v2)]),rfl,rfl,I1.bare,Un.laid kp ld (s2k d ld),I1.hok.laid kp ld new,⟨Heap.get?_none_of_le le,by rw [Qz ne];exact s2k ea le,_,_,ge,rfl,rfl,rfl,by simp,.inl rfl⟩,q d (s2k d ld)⟩
  by_cases hy:y = "many"
  ·subst hy
   simp only [List.lookup,if_pos,show (("many" : Str) = "most")=False by simp only [eq_iff_iff,iff_false];decide,if_false]
   exact ru
  ·have n1:(y==("many" : Str))=false:=by simpa using hy
   by_cases hz:y = "most"
   ·subst hz
    simp only [List.lookup,n1,if_pos]
    exact ru2
   ·have n2:(y==("most" : Str))=false:=by simpa using hz
    simp only [List.lookup,n1,n2,if_neg hy,if_neg hz]
    trivial
 obtain ⟨hp,g,d,tk,os⟩:=s2
 refine wpAny_bind (wpAny_keeperOf_exc c2 ?_)
 refine wpAny_bind (Qvn I1 D0 (by omega) fun h' tk' ea d' kp le ld ne ge nd=>wpAny_bind (wpAny_holding (wpAny_point (wpAny_pure ?_))))
 exact ⟨ea,some d',_,rfl,kp _ _ c2,ge,fin h' tk' ea d' kp le ld ne ge nd⟩
end
section
variable {X:Cx} {e:Expr} {te:TE} {pos:Pos}
end
theorem Q1r {K:PySem.W.Frag} {mg:Str→Option Value} {h:Heap} {x qn:Str} {c0 c1 f:Addr} {oc:Value} {od fod an:Option Addr} {cd:ClassData} {sl osl:Array (Option Value)} {kV doc pm cdv ct:Value} {st:Stmt} {p1 p2 p3 p4 p5 p6 p7 p8:Pos}
  (X:K.In h) (G:h.Ns mainGlobals mg) (e0:PySem.W.nsIn K mainGlobals "NoughtError" = some (some (.ref c0))) (e1:PySem.W.nsIn K mainGlobals x=some (some (.ref c1))) (lc:K.lookup c1=some ⟨oc,od,.cls cd,sl⟩) (fi:PySem.W.nsIn K cd.ns "__init__" = some (some (.ref f)))
  (l:K.lookup f=some ⟨.type "function",fod,.func (PySem.W.fnOf "__init__" qn (Qa3 st) (Q9 st) (Qf st) .none kV doc pm an cdv ct),osl⟩) (c:PySem.W.codeIn K cdv qn=true) (k:PySem.W.keepIn K (.ref f)=true)
  (S:FnScope ["self","many","most"] ["self","many","most"] (Qf st)) (n1:(Qf st).names.lookup ("self" : Str)=some .local) (n2:(Qf st).names.lookup ("many" : Str)=some .local) (n3:(Qf st).names.lookup ("most" : Str)=some .local)
  (b:∀ (kV doc pm:Value) (an:Option Addr) (cdv ct:Value) (us:List Value),us.length=3→bindArgs (PySem.W.fnOf "__init__" qn (Qa3 st) (Q9 st) (Qf st) .none kV doc pm an cdv ct) ⟨us,[]⟩=pure ((["self","many","most"]:List Str).zip us))
  (hb:Q9 st=[.Assign [.Attribute (.Name "self" p1) "many" p2] (.Name "many" p3) p4,.Assign [.Attribute (.Name "self" p5) "most" p6] (.Name "most" p7) p8]) (ok:Qku K c0 c1 f=true)   : Ini2 K (cad mg "NoughtError") (cad mg x):=by
 rw [Qbh (PySem.W.mg_of X G e0),Qbh (PySem.W.mg_of X G e1)]
 have Fu:=Qw9 l c k
 exact ⟨⟨f,_,qn,st,p1,p2,p3,p4,p5,p6,p7,p8,ok,Fu,⟨fod,osl,l⟩,S,n1,n2,n3,Fu.binds b,hb⟩⟩
section
variable {X:Cx}
noncomputable def isI (n:Int) (v:Value):Bool:=match v with
 | .int m _=>m==n
 | _=>false
end
theorem Qr4 {X:Cx} {tg elt iter:Expr} {ifs:List Expr} {scope:Scope} {pos ppos:Pos} {N:List Str} {js:List (Option Nat)} {wi:TI} {g:TG} {tc:TT} {te:TE} {use:Option (Value→Sem Unit)} {R:Value→Shared→Prop} (hcalm:X.calm=true)
  (hi:PI X tg iter wi) (hg:∀ s H fp,PG (Qag X scope N s H fp) tg g) (hc:∀ s H fp,PTs (Qag X scope N s H fp) ifs tc) (he:∀ s H fp,PE (Qag X scope N s H fp) elt te)
  (hk:scope.kind=.function) (h1:scOk X scope=true) (h2:Qim X scope N js=true) (hs:∀ x,foldedSetIterable iter X.env x=pure x) {pins:List (Addr×Obj)} {s:Shared} {σ:St} {H:Hp} {Q:VK} (I:Inv X pins σ H s) (h:Qm9 wi js g tc te σ H Q)
  (fin0:∀ (l C:Addr) (H':Hp) (s':Shared),(∃ m,s'.heap.Ns C m)→(∀ h',Heap.SameBut C s'.heap h'→Inv X pins σ H' { s' with heap:=h' })→Qhz X pins H' C→Q (.ref l) H'→compPost (model X.prog X.w) X.A X.xe use R (.ref l) C (.ok .next) s') :
  wpAny (model X.prog X.w) X.A (comprehension (.ListComp elt [⟨tg,iter,ifs,0⟩] scope pos) scope X.env ppos (newList []) false (firstIter [⟨tg,iter,ifs,0⟩] X.env) use) R X.xe s:=by
 refine wpAny_comprehension_free (use:=use) rfl hs (Qlc (scOk.cells I h1)) hk (fun x hx hl=>by rw [(scOk.get h1 hx).2,hl]) ?_
 refine thn (hi pins s σ H _ I h) fun v s1 h1'=>thn h1' fun itv s2 h2'=>?_
 obtain ⟨it,fp,tn,J,H2,e,I2,T,st2,f2,q⟩:=h2'
 subst e
 refine wpAny_newObj_type ?_
 have hl:H2 s2.heap.objs.size=none:=I2.hok.fresh (Nat.le_refl _)
 obtain ⟨W,⟨m0,w0⟩,turn⟩:=q _ hl
 have I3:Inv X pins σ (upd H2 s2.heap.objs.size (.lst [])) { s2 with heap:=s2.heap.push { cls:=.type "list",data:=.seq ([]:List Value).toArray } }:=I2.lnew (t':=s2.toks) (ys:=[]) .nil (Nat.zero_le _)
 generalize hs3:({ s2 with heap:=s2.heap.push { cls:=.type "list",data:=.seq ([]:List Value).toArray } }:Shared)=s3 at I3
 generalize hH3:upd H2 s2.heap.objs.size (.lst [])=H3 at I3 w0
 generalize hl':s2.heap.objs.size=l at turn hH3 hl
 have kp3:∀ b o,s2.heap.get? b=some o→s3.heap.get? b=some o:=fun b o e=>by rw [←hs3];exact Heap.get?_push_of_some _ e
 have ob3:∀ b∈fp,∃ o,s3.heap.get? b=some o∧∀ v,o.data≠.cell v:=fun b hb=>by
  obtain ⟨o,e,d⟩:=T.obj _ _ st2 b hb
  exact ⟨o,kp3 b o e,d⟩
 have f3:∀ b∈fp,Qhz X pins H3 b:=fun b hb=>by
  obtain ⟨o,e,d⟩:=T.obj _ _ st2 b hb
  refine ⟨?_,(f2 b hb).2⟩
  rw [←hH3,Qz (Nat.ne_of_lt (by rw [←hl'];exact Heap.lt_size e))]
  exact (f2 b hb).1
 refine Qj9 ?_
 have I4:=Qps (N:=N) (js:=js) I3 hk h1 h2 f3 ob3
 have st4:tn 0 (pushCells (s3.heap.push { cls:=.type "dict",data:=.dict #[] }) scope.names):=T.keep _ _ _ st2 fun b hb o e=>pushCells_keeps _ _ _ _ (Heap.get?_push_of_some _ (kp3 b o e))
 have fr4:∀ b∈fp,H3 b=none:=fun b hb=>(f3 b hb).1
 have fpX:∀ {H':Hp},(∀ b∈fp,H' b=none)→∀ b∈fp,Qhz (Qag X scope N s3 H3 fp) [] H' b:=fun hn b hb=>by
  have ok:=I4.ok
  refine ⟨hn b hb,(ok.exf b hb).1,ok.exfs b hb,.inl hb,(ok.exf b hb).2,fun p hp=>absurd (show p∈([]:List (Addr×Obj)) from hp) (by simp)⟩
 -- the block's end
 have fin:∀ {σ':St} {H':Hp} {s':Shared},Inv (Qag X scope N s3 H3 fp) [] σ' H' s'→Q (.ref l) H'→compPost (model X.prog X.w) X.A X.xe use R (.ref l) s3.heap.objs.size (.ok .next) s':=fun {σ' H' s'} I' q'=>by
  obtain ⟨m,hn,_⟩:=id I'.loc
  have hfr:H' s3.heap.objs.size=none:=I'.free
  refine fin0 l _ H' s' ⟨m,hn⟩ (fun h' hsb=>?_) (I3.fpOk (Nat.le_refl _) hfr) q'
  refine I3.call' (s':={ s' with heap:=h' }) (ch:=fp) I'.os ⟨fun b o e n hb hx=>?_,fun b o e n hb hx=>?_,I'.base.free,fun b o e hx=>?_,I'.base.tups,I'.base.frzs,I'.base.tbls⟩ (fun b u e=>?_) I'.bare (fun b hb=>⟨(f3 b hb).2.2.2.1,(f3 b hb).2.1,(f3 b hb).2.2.2.2.1,(f3 b hb).2.2.2.2.2⟩)
  ·exact (hsb.2 b (Nat.ne_of_lt (Heap.lt_size e))).trans (I'.base.keep b o e n hb hx)
  ·obtain ⟨sl,z⟩:=I'.base.slot b o e n hb hx
   exact ⟨sl,(hsb.2 b (Nat.ne_of_lt (Heap.lt_size e))).trans z⟩
  ·obtain ⟨o',z⟩:=I'.base.there b o e hx
   exact ⟨o',(hsb.2 b (Nat.ne_of_lt (Heap.lt_size e))).trans z⟩
  ·refine (I'.hok b u e).stay (fun c w' hc z=>(hsb.2 c ?_).trans z) (fun _ z=>z) fun _ _ z=>z
   rintro rfl
   rcases hc with rfl | hc
   ·rw [hfr] at e;cases e
   ·rw [hfr] at hc;cases hc
 have loop:codeAny (model X.prog X.w) X.A (.compLoop (.ListComp elt [⟨tg,iter,ifs,0⟩] scope pos) 0 (.ref it) (.ref l) (Qag X scope N s3 H3 fp).env) (compPost (model X.prog X.w) X.A X.xe use R (.ref l) s3.heap.objs.size)
   { s3 with heap:=pushCells (s3.heap.push { cls:=.type "dict",data:=.dict #[] }) scope.names }:=by
  refine Qil (fun n s'=>∃ i ys σ' H',Inv (Qag X scope N s3 H3 fp) [] σ' H' s'∧tn i s'.heap∧(∀ b∈fp,H' b=none)∧W i n ys σ' H') ?_ m0 ⟨0,[],Qd4 js σ,H3,I4,st4,fr4,w0⟩
  rintro n s5 ⟨i,ys,σ5,H5,I5,st5,fr5,w5⟩
  rcases turn i n ys σ5 H5 w5 with ⟨stop,qn⟩ | ⟨go,step⟩
  ·refine thn (T.done (Qag X scope N s3 H3 fp) rfl rfl rfl hcalm i [] s5 σ5 H5 _ I5 (fpX fr5) st5 stop) fun r s6 ⟨hr,I6⟩=>?_
   subst hr
   exact fin I6 qn
  ·refine thn (T.item (Qag X scope N s3 H3 fp) rfl rfl rfl hcalm i [] s5 σ5 H5 _ I5 (fpX fr5) st5 go) fun r s6 ⟨u,hr,h6⟩=>?_
   subst hr
   refine thn h6 fun _ s7 ⟨x,H7,I7,r7,y7,st7,fr7⟩=>?_
   have I7':=I7.pinned (fpX fr7) (T.obj _ _ st7)
   have again:∀ {σ8:St} {H8:Hp} {s8:Shared} {ys8:List V},Inv (Qag X scope N s3 H3 fp) ([]++Qjb fp s7.heap) σ8 H8 s8→(∃ m',m'<n∧W (i+1) m' ys8 σ8 H8) →
     ∃ m,m<n∧∃ i ys σ' H',Inv (Qag X scope N s3 H3 fp) [] σ' H' s8∧tn i s8.heap∧(∀ b∈fp,H' b=none)∧W i m ys σ' H':=fun {σ8 H8 s8 ys8} I8 ⟨m',hm,w8⟩=>by
    refine ⟨m',hm,i+1,ys8,σ8,H8,I8.unpinned,T.keep _ _ _ st7 fun b hb o e=>(I8.pin (b,o) (List.mem_append_right _ (List.mem_append_right _ (Qb3 hb e)))).1,fun b hb=>?_,w8⟩
    obtain ⟨o,e,d⟩:=T.obj _ _ st7 b hb
    exact (I8.pin (b,o) (List.mem_append_right _ (List.mem_append_right _ (Qb3 hb e)))).2.1
   refine thn (hg s3 H3 fp _ s7 σ5 H7 x u _ I7' r7 (step x H7 y7)) fun _ s8 ⟨σ8,H8,I8,q8⟩=>?_
   refine thn (hc s3 H3 fp _ s8 σ8 H8 _ I8 q8) fun ok s9 ⟨H9,I9,q9⟩=>?_
   cases ok with
   | false =>
    rw [if_neg Bool.false_ne_true] at q9 ⊢
    exact again I9 q9
   | true =>
    rw [if_pos rfl] at q9 ⊢
    refine thn (he s3 H3 fp _ s9 σ8 H9 _ I9 q9) fun y s10 ⟨vy,H10,I10,r10,a10,z10,q10⟩=>?_
    refine thn (Qje (X:=Qag X scope N s3 H3 fp) _ s10 σ8 H10 (.ref l) [vy] (.ref l) [y] (fun _ H'=>∃ m',m'<n∧W (i+1) m' (ys++[vy]) σ8 H') I10 rfl (.cons r10 .nil) ⟨l,ys,vy,rfl,rfl,a10,z10,q10⟩) fun _ s11 ⟨_,H11,I11,_,q11⟩=>?_
    exact again I11 q11
 first
  | exact codeAny_compStart_list loop (T.self _ 0 _ _ _ st4 loop)
  | (rw [← hs3] at loop st4
     exact codeAny_compStart_list loop (T.self _ 0 _ _ _ st4 loop))
theorem Qr5 {X:Cx} {tgE tg elt iter:Expr} {ifs:List Expr} {scope:Scope} {pos cpos:Pos} {N:List Str} {js:List (Option Nat)} {wi:TI} {g g2:TG} {tc:TT} {te:TE} (hcalm:X.calm=true)
  (hi:PI X tg iter wi) (hg:∀ s H fp,PG (Qag X scope N s H fp) tg g) (hc:∀ s H fp,PTs (Qag X scope N s H fp) ifs tc) (he:∀ s H fp,PE (Qag X scope N s H fp) elt te) (h2g:PG X tgE g2)
  (hk:scope.kind=.function) (h1:scOk X scope=true) (h2:Qim X scope N js=true) (hs:∀ x,foldedSetIterable iter X.env x=pure x)
  (hsw:swapsWithSole [tgE] (.ListComp elt [⟨tg,iter,ifs,0⟩] scope cpos) pos.line X.env=pure true) (ha:(assignEach [tgE] X.env).map (·.2)=[assign tgE X.env]) :
  PS X (.Assign [tgE] (.ListComp elt [⟨tg,iter,ifs,0⟩] scope cpos) pos) (Qmr (Qm9 wi js g tc te) g2):=by
 intro pins s σ H D I h
 rw [arm_exec_Assign]
 refine wpAny_bind (wpAny_standAt ?_)
 rw [hsw]
 refine wpAny_bind (wpAny_pure ?_)
 rw [if_pos rfl]
 refine wpAny_bind ?_
 rw [arm_evalThenUse_ListComp,ha]
 refine wpAny_bind (Qr4 (use:=some fun v=>assignAll v [assign tgE X.env]) hcalm hi hg hc he hk h1 h2 hs I h fun l C H' s' hns hInv fpC q=>?_)
 obtain ⟨m,o,es,ep,ho,hd,r⟩:=hns
 have J0:Inv X pins σ H' s':=hInv s'.heap (Heap.SameBut.refl ..)
 have J1:=J0.pinned (fp:=[C]) (fun b hb=>by rw [List.mem_singleton.mp hb];exact fpC) (fun b hb=>by
  rw [List.mem_singleton.mp hb]
  exact ⟨o,ho,fun v z=>by rw [hd] at z;cases z⟩)
 show wpAny _ _ (assign tgE X.env (.ref l)) _ _ _
 refine thn (h2g _ s' σ H' (.ref l) (.ref l) D.nx J1 rfl q) fun _ s2 ⟨σ2,H2,I2,q2⟩=>?_
 have hp:=I2.pin (C,o) (List.mem_append_right _ (List.mem_append_right _ (Qb3 (List.mem_singleton.mpr rfl) ho)))
 refine ⟨m,⟨o,es,ep,hp.1,hd,r⟩,fun h' hsb=>?_⟩
 have I3:=I2.unpinned.turnedL (h':=h') (t':=s2.toks) (fp:=[C]) (fun b o' hb e=>by
  rw [hsb.2 b (fun z=>hb (by rw [z];exact List.mem_singleton.mpr rfl))]
  exact e) (fun b hb=>by
  rw [List.mem_singleton.mp hb]
  exact ⟨hp.2.1,fpC.2⟩)
 exact wpAny_pure (wpAny_pure ⟨σ2,H2,I3,q2⟩)
noncomputable def keyD:Key→PyData
 | .inl i=>.int i
 | .inr x=>.str x
mutual
noncomputable def pyD:T→PyData
 | .non=>.none
 | .bl b=>.bool b
 | .int i=>.int i
 | .str x=>.str x
 | .tup ts=>.tuple (Qmu ts)
 | .lst ts=>.list (Qmu ts)
 | .dct ks ts=>.dict ((ks.map keyD).zip (Qmu ts))
 | .dtt _ _=>.none
 | .clo _ _=>.none
noncomputable def Qmu:List T→List PyData
 | []=>[]
 | t::ts=>pyD t::Qmu ts
end
mutual
noncomputable def Qeq:T→Bool
 | .tup ts=>Qll ts
 | .lst ts=>Qll ts
 | .dct _ _=>false
 | .clo _ _=>false
 | .dtt _ _=>false
 | _=>true
noncomputable def Qll:List T→Bool
 | []=>true
 | t::ts=>Qeq t&&Qll ts
end
mutual
theorem Qp8:∀ t:T,Qeq t=true→(pyD t).hasDict=false
 | .non,_=>by simp only [pyD,PyData.hasDict]
 | .bl _,_=>by simp only [pyD,PyData.hasDict]
 | .int _,_=>by simp only [pyD,PyData.hasDict]
 | .str _,_=>by simp only [pyD,PyData.hasDict]
 | .tup ts,h=>by simp only [pyD,PyData.hasDict];exact Qf1 ts (by simpa only [Qeq] using h)
 | .lst ts,h=>by simp only [pyD,PyData.hasDict];exact Qf1 ts (by simpa only [Qeq] using h)
 | .dct _ _,h=>by simp only [Qeq] at h;cases h
 | .clo _ _,h=>by simp only [Qeq] at h;cases h
 | .dtt _ _,h=>by simp only [Qeq] at h;cases h
theorem Qf1:∀ ts:List T,Qll ts=true→PyData.hasDictAll (Qmu ts)=false
 | [],_=>by simp only [Qmu,PyData.hasDictAll]
 | t::ts,h=>by
  simp only [Qll,Bool.and_eq_true] at h
  simp only [Qmu,PyData.hasDictAll,Qp8 t h.1,Qf1 ts h.2,Bool.or_false]
end
section
variable {P:Program} {w:World} {H:Hp} {h:Heap}
mutual
theorem Qx6 (ok:HOk P w H h):∀ (t:T) {v:V} {u:Value},Qeq t=true→Is H v t→RelV v u→∃ as,Reads h u (pyD t) as
 | .non,v,u,_,i,r=>by unfold Is at i;subst i;cases r;exact ⟨_,by unfold pyD;exact .none⟩
 | .bl b,v,u,_,i,r=>by unfold Is at i;subst i;cases r;exact ⟨_,by unfold pyD;exact .bool b⟩
 | .int n,v,u,_,i,r=>by unfold Is at i;subst i;obtain ⟨t,rfl⟩:=r;exact ⟨_,by unfold pyD;exact .int n t⟩
 | .str x,v,u,_,i,r=>by unfold Is at i;subst i;obtain ⟨t,rfl⟩:=r;exact ⟨_,by unfold pyD;exact .str x t⟩
 | .tup ts,v,u,f,i,r=>by
  obtain ⟨a,vs,rfl,ha,q⟩:=i.tup_inv
  cases r
  obtain ⟨_,its,rv,o,e,c,n,d,_⟩:=(show ObjOk P w H h a (.tup vs) from ok a _ ha)
  obtain ⟨as,R⟩:=Qji ok ts (by simpa only [Qeq] using f) q rv
  exact ⟨as,by unfold pyD;exact .tuple e c d (by simpa using R)⟩
 | .lst ts,v,u,f,i,r=>by
  obtain ⟨a,vs,rfl,ha,q⟩:=i.lst_inv
  cases r
  obtain ⟨_,its,n,rv,e⟩:=(show ObjOk P w H h a (.lst vs) from ok a _ ha)
  obtain ⟨as,R⟩:=Qji ok ts (by simpa only [Qeq] using f) q rv
  exact ⟨a::as,by unfold pyD;exact .list e rfl rfl (by simpa using R)⟩
 | .dct _ _,v,u,f,i,r=>by simp only [Qeq] at f;cases f
 | .clo _ _,v,u,f,i,r=>by simp only [Qeq] at f;cases f
 | .dtt _ _,v,u,f,i,r=>by simp only [Qeq] at f;cases f
theorem Qji (ok:HOk P w H h):∀ (ts:List T) {vs:List V} {us:List Value},Qll ts=true→IsL H vs ts→Vals vs us→∃ as,ReadsAll h us (Qmu ts) as
 | [],vs,us,_,i,r=>by
  rw [i.nil_inv] at r
  cases r
  exact ⟨_,by unfold Qmu;exact .nil⟩
 | t::ts,vs,us,f,i,r=>by
  obtain ⟨v,w',rfl,iv,iw⟩:=i.cons_inv
  simp only [Qll,Bool.and_eq_true] at f
  cases r with
  | cons r0 rr =>
   obtain ⟨as,R⟩:=Qx6 ok t f.1 iv r0
   obtain ⟨bs,R2⟩:=Qji ok ts f.2 iw rr
   exact ⟨_,by unfold Qmu;exact .cons R R2⟩
end
end
noncomputable def isD:T→Bool
 | .dct [] []=>true
 | .dct [.inr _] [.int _]=>true
 | _=>false
noncomputable def shOk (t:T):Bool:=(pyD t).showable&&decide ((pyD t).shown.length≤sizeLine)&&decide ((pyD t).depth≤40)&&(Qeq t||isD t)
section
variable {X:Cx}
end
noncomputable def OkD:Nat→T→Bool
 | _,.non=>true
 | _,.bl _=>true
 | _,.int i=>decide (i.natAbs<10^31)
 | _,.str x=>decide (x.cps.size≤2)&&x.cps.toList.all fun c=>decide (c<16^8)
 | n+1,.tup ts=>decide (ts.length≤16)&&ts.all (OkD n)
 | n+1,.lst ts=>decide (ts.length≤16)&&ts.all (OkD n)
 | _,_=>false
structure ShD (c d:Nat) (t:T):Prop where
 b:(pyD t).bulk≤c
 l:(pyD t).leavesShort 32=true
 s:(pyD t).showable=true
 d:(pyD t).depth≤d
 f:Qeq t=true
namespace Z
section
variable {H:Hp} {S:Addr→Prop} {x y:V} {Q:VK} {K:PySem.W.Frag}
noncomputable def Sm (r:Nat) (D:Hp) (x:V):Prop:=∃ t,Is D x t∧OkD r t=true
variable {r:Nat}
end
end Z
end L2
namespace PySem
open Sem (wp)
open AutoSeq1 (wpAny_loadPart')
section
variable {prog:Program} {w:World} {A:Around} {E:Value→Shared→Prop} {s:Shared}
end
end PySem
namespace L2
open PySem PySem.Spec PyProof.Rows
section
variable {X:Cx}
end
end L2
namespace L2
open PySem PySem.Spec PyProof.Rows PySem.W PySem.Calls
noncomputable def runK {α:Type} (lt:Nat→Nat→Bool):KasT α→α
 | .ret a=>a
 | .ask i j k=>runK lt (k (lt i j))
noncomputable def ordK (n:Nat) (lt:Nat→Nat→Bool):List Nat:=if n<2 then List.range n else (runK lt (kas_sort n)).toList
noncomputable def pick {α:Type} (vs:List α) (d:α) (is:List Nat):List α:=is.map fun i=>vs.getD i d
noncomputable abbrev ltK (ks:List (List Int)):Nat→Nat→Bool:=fun i j=>HT.lexLt (ks.getD i []) (ks.getD j [])
noncomputable def Qx7 (ks:List (List Int)):List (List Int):=pick ks [] (ordK ks.length (ltK ks))
noncomputable def Q34:List (List Int)→Bool
 | []=>true
 | k::_=>!k.isEmpty
end L2
namespace L2
open PySem PySem.Spec PyProof.Rows PySem.W PySem.Calls
noncomputable def Qtm (k:List Int):Int:=reduceHash (Builtin.Tuple.tupleHashOf (k.map hashInt))
noncomputable def Qlm (ks:List (List Int)) (j:Nat):List Int:=ks.getD j []
noncomputable def hAt (ks:List (List Int)) (es:Array Nat) (i:Nat):Int:=(es[i]?.map fun x=>Qtm (Qlm ks x)).getD 0
noncomputable def Qaai (ks:List (List Int)) (j:Nat) (r:SetTable×Array Nat):Option (SetTable×Array Nat) :=
 match r.1.probe (hAt ks r.2) (Qtm (Qlm ks j)) (r.1.probeStart (Qtm (Qlm ks j))) with
 | some (.empty s none) =>
  if (r.1.put s).1.fits (SetTable.insertAt r.2 (r.1.put s).2 j).size && !(r.1.put s).1.tooFull && !(r.1.put s).1.gaveWay&&decide ((SetTable.insertAt r.2 (r.1.put s).2 j).size≤1000) then some ((r.1.put s).1,SetTable.insertAt r.2 (r.1.put s).2 j) else none
 | some (.candidate _ i _)=>match r.2[i]? with
  | some x=>if Qlm ks x=Qlm ks j then some r else none
  | none=>none
 | _=>none
noncomputable def Qx8 (led:Bool) (ks:List (List Int)):Nat→Option (SetTable×Array Nat)
 | 0=>some (.fresh 0 0 led,#[])
 | n+1=>match Qx8 led ks n with
  | some r=>Qaai ks n r
  | none=>none
noncomputable def Qaaj (t:SetTable):Nat→Nat
 | 0=>0
 | i+1=>t.place.getD i 0+1
noncomputable def Qx9 (t:SetTable) (n:Nat):Bool:=(List.range (n+1)).all fun i=>SetTable.below t.place (Qaaj t i)==i
noncomputable def Qtn (x:Nat):List Nat→List (List Nat)
 | []=>[[x]]
 | y::ys=>(x::y::ys)::(Qtn x ys).map (y :: ·)
noncomputable def Q35:List Nat→List (List Nat)
 | []=>[[]]
 | x::xs=>(Q35 xs).flatMap (Qtn x)
noncomputable def Qr6 (ks:List (List Int)) (is:List Nat):List (List Int):=pick ks [] is
noncomputable def srtS (ks:List (List Int)):Option (List (List Int)) :=
 match Qx8 true ks ks.length,Qx8 false ks ks.length with
 | some (t,es),some (t',es') =>
  if Qx9 t es.size&&decide (es.size<6)&&(es.toList.all fun j=>decide (j<ks.length) && !(Qlm ks j).isEmpty)&&decide (es'.toList=es.toList) &&
    (Q35 es.toList).all (fun is=>decide (Qx7 (Qr6 ks is)=Qx7 (Qr6 ks es.toList))) then some (Qx7 (Qr6 ks es.toList)) else none
 | _,_=>none
end L2
namespace L2
open PySem PySem.Spec PyProof.Rows PySem.W PySem.Calls
noncomputable abbrev btx (w:World):Bool:=w.params.followText "set-order"
structure SOk (w:World) (es:Array (Int×Value)) (t:SetTable):Prop where
 fits:t.fits es.size=true
 plain:t.plain=true
 led:btx w=false→t.led=true
 wk:btx w=false→Qx9 t es.size=true
section
variable {prog:Program} {w:World} {A:Around} {E:Value→Shared→Prop} {s:Shared} {it d:Addr} {i ep:Nat} {es:Array (Int×Value)} {t:SetTable}
end
set_option genInjectivity false
set_option genSizeOf false
inductive PV where
 | fz (t:T) | ow (t:T) | sl (i:Nat)
inductive Slot where
 | un | fz (t:T) | ow (t:T) | ml (t:T) | ro (t:T) | pin (a:Addr) | fx (t:T)
noncomputable abbrev En:=List Slot
structure Xn where
 c:Nat
 arg:List Int
inductive Out (α:Type) where
 | ok (a:α) (ρ:En) | xn (x:Xn) (ρ:En) | no
noncomputable def Out.bind {α β:Type} (o:Out α) (k:α→En→Out β):Out β:=match o with
 | .ok a ρ=>k a ρ
 | .xn x ρ=>.xn x ρ
 | .no=>.no
noncomputable def Out.opt {α:Type} (o:Option α) (ρ:En):Out α:=match o with
 | some a=>.ok a ρ
 | none=>.no
noncomputable def Slot.prv:Slot→Option T
 | .ow t=>some t | .ml t=>some t | .ro t=>some t | _=>none
noncomputable def Slot.mut:Slot→Bool
 | .ow (.lst _)=>true | .ml (.lst _)=>true | _=>false
noncomputable def Slot.mutD:Slot→Bool
 | .ow (.dtt _ _)=>true | .ml (.dtt _ _)=>true | _=>false
noncomputable def Slot.put (t:T):Slot→Slot
 | .ow _=>.ow t | .ml _=>.ml t | s=>s
noncomputable def Slot.lend:Slot→Slot
 | .ow t=>.ml t | .pin _=>.un | .fx t=>.fz t | s=>s
noncomputable def Qc (ρ:En) (i:Nat):Slot:=match ρ[i]? with
 | some s=>s
 | none=>.un
noncomputable def cont (ρ:En):PV→Option T
 | .fz t=>some t
 | .ow t=>some t
 | .sl i=>(Qc ρ i).prv
noncomputable def frz:PV→Option T
 | .fz t=>some t
 | .ow t=>some t
 | .sl _=>none
noncomputable def Qc3:List PV→Option (List T)
 | []=>some []
 | r::rs=>match frz r,Qc3 rs with
  | some t,some ts=>some (t::ts)
  | _,_=>none
inductive BOp where
 | add | sub | mul | fdv | mod | pow | shl | shr | band
inductive COp where
 | eq | ne | lt | le | gt | ge | isn | isnn | inn | nin
inductive Bi where
 | len | abs | all | any | sum | max | min | dvm | int | list | tup | repr | dct | lstD | dcl | maxT | minT | srt | srtS
inductive Tg where
 | nm (i:Nat) | tp (is:List Nat)
mutual
inductive E where
 | var (i:Nat) | int (i:Int) | bl (b:Bool) | non | str (x:Str)
 | tup (es:Es) | lst (es:Es)
 | bin (o:BOp) (a b:E) | neg (a:E)
 | not (a:E) | and (a b:E) | or (a b:E) | ite (c a b:E)
 | cmp (o:COp) (a b:E)
 | isI (a:E) (n:String)
 | inR (ng:Bool) (a lo hi:E) | srk (f:Nat) (e:E)
 | call (f:Nat) (es:Es)
 | bi (b:Bi) (es:Es)
 | cnt (a b:E)
 | ix (a i:E) | slc (a:E) (lo hi:Es) | rev (a:E)
 | comp (w:W) (js:List (Option Nat)) (tg:Tg) (cs:Es) (e:E)
 | tupR (l:Bool) (a:E)
 | dnew | din (ng:Bool) (k d:E) | dix (d k:E)
 | tcall (f:Nat) (es:Es) | lstR2 (a b:E) | lit (t:T) | dg1 (d k:E) | dg2 (d k x:E) | d1 (k x:E)
 | app (i:Nat) (es:Es) | lam (k:Nat) (js:List Nat) | lix (i:Nat) (a:E) | compS (i:Nat) (js:List (Option Nat)) (tg:Tg) (cs:Es) (e:E) | compZ (i j:Nat) (js:List (Option Nat)) (tg:Tg) (cs:Es) (e:E) | chl (a b c:E) | orv (a b:E)
 | fzE (e:E) | bad
inductive Es where
 | nil | cons (e:E) (es:Es)
inductive W where
 | seq (e:E) | rng1 (a:E) | rng2 (a b:E) | enm (e:E) | zip (a b:E) | dks (e:E)
end
inductive S where
 | nil | seq (a b:S) | expr (e:E) | set (i:Nat) (e:E) | setF (i:Nat) (e:E) | unp (is:List Nat) (e:E) | par (i j:Nat) (a b:E)
 | app (i:Nat) (e:E) | ext (i:Nat) (e:E) | put (i:Nat) (k e:E) | dput (i:Nat) (k e:E) | swp (i j k:Nat) | mov (i j:Nat) | look (i:Nat) (b:S)
 | ret (e:E) | retN | ite (c:E) (a b:S) | whl (c:E) (b:S) | for_ (w:W) (tg:Tg) (b:S) | forX (w:W) (tg:Tg) (b:S) | forS (i:Nat) (tg:Tg) (b:S) | extL (i:Nat) (e:E)
 | brk | cnt | frz (i:Nat) | raise (c:Nat) (es:Es) | scr (i a b f:Nat) (c1 c2:E) | ins (i:Nat) (k e:E) | rem (i:Nat) (e:E) | nest (iF iR iH iW iS iT iN:Nat) (a0 a:S) (c v e1 e2:E) | parO (i j:Nat) (a b:E) | tryR (i:Nat) (b:S) (h:Nat→List Int→Option T) | bad
inductive Arg where
 | fz (t:T) | ml (t:T) | ro (t:T)
inductive FR where
 | ok (r:PV) (fin:List T) | xn (x:Xn) (fin:List T) | no
inductive SO where
 | nx (ρ:En) | rt (r:PV) (ρ:En) | bk (ρ:En) | ct (ρ:En) | xn (x:Xn) (ρ:En) | no
noncomputable abbrev CF:=Nat→List Arg→FR
noncomputable def Qby (i j:Int):Bool:=decide (i.natAbs<2^64)||(decide (j.natAbs<2^64)||((decide (i.natAbs<2^250)&&decide (j.natAbs<2^250))||(decide (i.natAbs.log2<9000)&&decide (j.natAbs.log2<9000))))
noncomputable def asI:T→Option Int
 | .int i=>some i
 | _=>none
noncomputable def opN:BOp→Int→Int→Option PV
 | .add,i,j=>some (.fz (.int (i+j)))
 | .sub,i,j=>some (.fz (.int (i-j)))
 | .mul,i,j=>if Qby i j=true then some (.fz (.int (i*j))) else none
 | .fdv,i,j=>if 0<j∧j.natAbs<2^64 then some (.fz (.int (i / j))) else if j≠0∧j.natAbs<2^250 then some (.fz (.int (i.fdiv j))) else none
 | .mod,i,j=>if 0<j then some (.fz (.int (i%j))) else if j<0 then some (.fz (.int (i.fmod j))) else none
 | .pow,i,j=>if 0≤j∧j.natAbs≤1000000∧i.natAbs<2^64 then some (.fz (.int (i^j.toNat))) else none
 | .shl,i,j=>if 0≤j∧j.natAbs≤64∧i.natAbs<2^64 then some (.fz (.int (i*2^j.toNat))) else none
 | .shr,i,j=>if 0≤j∧j.natAbs≤64 then some (.fz (.int (i / 2^j.toNat))) else none
 | .band,i,j=>if j=1 then some (.fz (.int (i%2))) else none
noncomputable def Q6u:T→T→Option PV
 | .tup a,.tup b=>if a.length+b.length≤100000 then some (.fz (.tup (a++b))) else none
 | .lst a,.lst b=>if a.length+b.length≤100000 then some (.ow (.lst (a++b))) else none
 | _,_=>none
noncomputable def Q6v:T→Option Int→Option PV
 | .tup a,some k=>if a.length*k.toNat≤100000∧1≤k∧k.natAbs≤100000∧a≠[] then some (.fz (.tup (List.replicate k.toNat a).flatten)) else none
 | .lst a,some k=>if a.length*k.toNat≤100000∧1≤k∧k.natAbs≤100000 then some (.ow (.lst (List.replicate k.toNat a).flatten)) else none
 | _,_=>none
noncomputable def opX:BOp→T→T→Option PV
 | .add,t,u=>Q6u t u
 | .mul,t,u=>Q6v t (asI u)
 | _,_,_=>none
noncomputable def opB (o:BOp) (t u:T):Option PV:=match asI t,asI u with
 | some i,some j=>opN o i j
 | _,_=>opX o t u
noncomputable def Qln:T→Bool
 | .non=>true | .bl _=>true | .int _=>true | .str _=>true | _=>false
noncomputable def eqO:T→T→Option Bool
 | .int i,.int j=>some (decide (i=j))
 | .bl i,.bl j=>some (decide (i=j))
 | .str i,.str j=>some (decide (i=j))
 | .non,.non=>some true
 | .non,.int _=>some false | .int _,.non=>some false | .non,.bl _=>some false | .bl _,.non=>some false | .non,.str _=>some false | .str _,.non=>some false
 | .int _,.str _=>some false | .str _,.int _=>some false | .bl _,.str _=>some false | .str _,.bl _=>some false
 | .tup a,.tup b=>if Qm 50 (.tup a)=true∧Qm 50 (.tup b)=true then some (eqT (.tup a) (.tup b)) else none
 | .lst a,.lst b=>if Qm 50 (.lst a)=true∧Qm 50 (.lst b)=true then some (eqT (.lst a) (.lst b)) else none
 | t,u=>if Q1n t u=true then some false else none
noncomputable def Qer:T→Bool
 | .non=>true
 | _=>false
noncomputable def Qvp (f:Int→Int→Bool) (t u:T):Option Bool:=match asI t,asI u with
 | some i,some j=>some (f i j)
 | _,_=>none
noncomputable def Qdv:T→Option (List T)
 | .lst a=>some a
 | .tup a=>some a
 | _=>none
noncomputable def inO (x t:T):Option Bool:=match Qdv t with
 | some ts=>if Qm 49 x=true∧ts.all (Qm 49)=true then some (ts.any fun u=>eqT u x) else none
 | none=>none
noncomputable def opC:COp→T→T→Option Bool
 | .eq,a,b=>eqO a b
 | .ne,a,b=>(eqO a b).map (!·)
 | .lt,a,b=>Qvp (fun i j=>decide (i<j)) a b
 | .le,a,b=>Qvp (fun i j=>decide (i≤j)) a b
 | .gt,a,b=>Qvp (fun i j=>decide (j<i)) a b
 | .ge,a,b=>Qvp (fun i j=>decide (j≤i)) a b
 | .isn,a,b=>if Qer b then some (Qer a) else none
 | .isnn,a,b=>if Qer b then some (!Qer a) else none
 | .inn,a,b=>inO a b
 | .nin,a,b=>(inO a b).map (!·)
noncomputable def truT:T→Option Bool
 | .bl b=>some b
 | .int i=>some (decide (i≠0))
 | _=>none
noncomputable def Qki:List T→Option (List Bool)
 | []=>some []
 | t::ts=>match truT t,Qki ts with
  | some b,some bs=>some (b::bs)
  | _,_=>none
noncomputable def Qdi:List T→Option (List Int)
 | []=>some []
 | .int i::ts=>match Qdi ts with
  | some is=>some (i::is)
  | none=>none
 | _::_=>none
noncomputable def Qr7:List (List Int)→List T→List Int→Option T
 | j::ks,t::ts,k=>if j=k then some t else Qr7 ks ts k
 | _,_,_=>none
noncomputable def dRep:List (List Int)→List T→List Int→T→List T
 | j::ks,t::ts,k,u=>(if j=k then u else t)::dRep ks ts k u
 | _,_,_,_=>[]
noncomputable def dPut (ks:List (List Int)) (ts:List T) (k:List Int) (u:T):T:=match Qr7 ks ts k with
 | some _=>.dtt ks (dRep ks ts k u)
 | none=>.dtt (ks++[k]) (ts++[u])
noncomputable def Q36:Option T→Bool
 | some (.dtt _ _)=>true
 | _=>false
noncomputable def Qvq:PV→Option (List Int)
 | .fz (.tup us)=>Qdi us
 | _=>none
noncomputable def Qya:List T→Option (List (List Int))
 | []=>some []
 | .tup us::ts=>match Qdi us,Qya ts with
  | some k,some ks=>some (k::ks)
  | _,_=>none
 | _=>none
noncomputable def Qkj:Int→List Int→Int
 | m,[]=>m
 | m,x::xs=>Qkj (if m<x then x else m) xs
noncomputable def Q6w:Int→List Int→Int
 | m,[]=>m
 | m,x::xs=>Q6w (if x<m then x else m) xs
noncomputable def Qgn:Bi→List T→Option PV
 | .len,[.lst a]=>some (.fz (.int a.length))
 | .len,[.tup a]=>some (.fz (.int a.length))
 | .abs,[.int i]=>some (.fz (.int (if i<0 then -i else i)))
 | .all,[.lst a]=>(Qki a).map fun bs=>.fz (.bl (bs.all id))
 | .any,[.lst a]=>(Qki a).map fun bs=>.fz (.bl (bs.any id))
 | .sum,[.lst a]=>(Qdi a).map fun is=>.fz (.int is.sum)
 | .max,[.int i,.int j]=>some (.fz (.int (if j>i then j else i)))
 | .min,[.int i,.int j]=>some (.fz (.int (if j<i then j else i)))
 | .srt,[.lst a]=>match Qya a with
  | some ks=>if ks.length<64∧Q34 ks=true then some (.ow (.lst ((Qx7 ks).map fun k=>T.tup (k.map T.int)))) else none
  | none=>none
 | .srt,[.dtt ks _]=>if ks.length<64∧Q34 ks=true∧ks.all (fun k=>decide (k.length≤100000))=true then some (.ow (.lst ((Qx7 ks).map fun k=>T.tup (k.map T.int)))) else none
 | .srtS,[.lst a]=>match Qya a with
  | some ks=>match srtS ks with
   | some r=>some (.ow (.lst (r.map fun k=>T.tup (k.map T.int))))
   | none=>none
  | none=>none
 | .maxT,[.tup a]=>match Qdi a with
  | some (x::xs)=>some (.fz (.int (Qkj x xs)))
  | _=>none
 | .minT,[.tup a]=>match Qdi a with
  | some (x::xs)=>some (.fz (.int (Q6w x xs)))
  | _=>none
 | .max,[.lst a]=>match Qdi a with
  | some (x::xs)=>some (.fz (.int (Qkj x xs)))
  | _=>none
 | .min,[.lst a]=>match Qdi a with
  | some (x::xs)=>some (.fz (.int (Q6w x xs)))
  | _=>none
 | .dvm,[.int i,.int j]=>if 0<j∧j.natAbs<2^64 then some (.fz (.tup [.int (i / j),.int (i%j)])) else none
 | .int,[.int i]=>some (.fz (.int i))
 | .int,[.bl b]=>some (.fz (.int (if b then 1 else 0)))
 | .list,[.lst a]=>some (.ow (.lst a))
 | .list,[.tup a]=>some (.ow (.lst a))
 | .tup,[.lst a]=>some (.fz (.tup a))
 | .tup,[.tup a]=>some (.fz (.tup a))
 | .lstD,[.dtt ks _]=>if ks.length≤100000∧ks.all (fun k=>decide (k.length≤100000))=true then some (.ow (.lst (ks.map fun k=>T.tup (k.map T.int)))) else none
 | .dct,[.dtt [k] [t]]=>some (.ow (.dtt [k] [t]))
 | .dcl,[.lst [.tup [.tup us,t]]]=>match Qdi us with
  | some is=>some (.ow (.dtt [is] [t]))
  | none=>none
 | .repr,[t]=>if shOk t=true then some (.fz (.str (pyD t).shown)) else none
 | _,_=>none
noncomputable def Qyb:T→T→Option T
 | .lst a,.int i=>atI a i
 | .tup a,.int i=>atI a i
 | _,_=>none
noncomputable def opSl:T→Option Int→Option Int→Option PV
 | .lst a,lo,hi=>some (.ow (.lst (Q92 a lo hi)))
 | .tup a,lo,hi=>some (.fz (.tup (Q92 a lo hi)))
 | _,_,_=>none
noncomputable def bndO:List PV→Option (Option Int)
 | []=>some none
 | [.fz (.int i)]=>some (some i)
 | _=>none
noncomputable def Qan (ρ:En):List PV→Option (List T)
 | []=>some []
 | r::rs=>match cont ρ r,Qan ρ rs with
  | some t,some ts=>some (t::ts)
  | _,_=>none
noncomputable def Qnh (n:String):Bool:=n == "int" || n == "bool" || n == "tuple" || n == "list" || n == "dict" || n == "str"
noncomputable def Qaa (ρ:En):PV→Option Arg
 | .fz t=>some (.fz t)
 | .ow t=>some (.fz t)
 | .sl i=>match Qc ρ i with
  | .ow t=>some (.ml t)
  | .ml t=>some (.ml t)
  | .ro t=>some (.ro t)
  | _=>none
noncomputable def Qo (ρ:En):List PV→Option (List Arg)
 | []=>some []
 | r::rs=>match Qaa ρ r,Qo ρ rs with
  | some t,some ts=>some (t::ts)
  | _,_=>none
noncomputable def Qq:List PV→Bool
 | []=>true
 | .sl i::rs=>(rs.all fun r=>match r with | .sl j=>i != j | _=>true)&&Qq rs
 | _::rs=>Qq rs
noncomputable def Qi:List PV→Nat→Option Nat
 | [],_=>none
 | .sl j::rs,i=>if j=i then some 0 else (Qi rs i).map (· + 1)
 | .fz _::rs,i=>(Qi rs i).map (· + 1)
 | .ow _::rs,i=>(Qi rs i).map (· + 1)
noncomputable def Qu (rs:List PV) (fin:List T) (i:Nat) (s:Slot):Slot:=match Qi rs i with
 | some k=>match fin[k]? with
  | some t=>s.put t
  | none=>s
 | none=>s
noncomputable def Qj (rs:List PV) (fin:List T):Nat→En→En
 | _,[]=>[]
 | i,s::ρ=>Qu rs fin i s::Qj rs fin (i+1) ρ
noncomputable def Qat (ρ:En) (rs:List PV) (fin:List T):En:=Qj rs fin 0 ρ
noncomputable def Qes (cf:CF) (f:Nat) (rs:List PV) (ρ:En):Out PV :=
 if Qq rs=true then
  match Qo ρ rs with
  | some as=>match cf f as with
   | .ok r fin=>.ok r (Qat ρ rs fin)
   | .xn x fin=>.xn x (Qat ρ rs fin)
   | .no=>.no
  | none=>.no
 else .no
noncomputable def fzL:List PV→Option (List T)
 | []=>some []
 | .fz t::rs=>match fzL rs with
  | some ts=>some (t::ts)
  | none=>none
 | _::_=>none
noncomputable def Q6x (cf:CF) (f:Nat) (rs:List PV) (ρ:En):Out PV:=match rs with
 | .ow t::rs'=>match fzL rs' with
  | some ts=>match cf f (.ml t::ts.map Arg.fz) with
   | .ok r _=>.ok r ρ
   | .xn x _=>.xn x ρ
   | .no=>.no
  | none=>.no
 | _=>.no
noncomputable def Qbb (i:Nat) (s:Slot) (ρ:En):Option En:=if i<ρ.length then (match Qc ρ i with
 | .ml _=>none
 | .ro _=>none
 | .pin _=>none
 | .fx _=>none
 | _=>some (ρ.set i s)) else none
noncomputable def Qbi:List Nat→List T→En→Option En
 | [],[],ρ=>some ρ
 | i::is,t::ts,ρ=>match Qbb i (.fz t) ρ with
  | some ρ'=>Qbi is ts ρ'
  | none=>none
 | _,_,_=>none
noncomputable def Qgj:Tg→T→En→Option En
 | .nm i,t,ρ=>Qbb i (.fz t) ρ
 | .tp is,.tup ts,ρ=>Qbi is ts ρ
 | .tp _,_,_=>none
noncomputable def Qb5 (js:List (Option Nat)) (ρ:En):En:=js.map fun o=>match o with
 | none=>.un
 | some j=>(Qc ρ j).lend
noncomputable def Qhu (js:List (Option Nat)) (ρi:En) (j:Nat) (s:Slot):Slot:=match js.idxOf? (some j) with
 | some k=>match Qc ρi k with
  | .ml t=>s.put t
  | _=>s
 | none=>s
noncomputable def Qdu (js:List (Option Nat)) (ρi:En):Nat→En→En
 | _,[]=>[]
 | j,s::ρ=>Qhu js ρi j s::Qdu js ρi (j+1) ρ
noncomputable def Qjj (js:List (Option Nat)) (ρi ρ:En):En:=Qdu js ρi 0 ρ
noncomputable def Qc8 (tg:Tg) (c:En→Out Bool) (e:En→Out PV):List T→List T→En→Out (List T)
 | [],acc,ρ=>.ok acc ρ
 | x::xs,acc,ρ=>match Qgj tg x ρ with
  | none=>.no
  | some ρ1=>(c ρ1).bind fun b ρ2=>if b then (e ρ2).bind fun r ρ3=>match frz r with
    | some t=>if acc.length<100000 then Qc8 tg c e xs (acc++[t]) ρ3 else .no
    | none=>.no
   else Qc8 tg c e xs acc ρ2
noncomputable def Qee:En→En→Bool
 | .ml _::ρ0,s::ρ=>(match s with | .ml _=>true | _=>false)&&Qee ρ0 ρ
 | _::ρ0,_::ρ=>Qee ρ0 ρ
 | [],[]=>true
 | _,_=>false
noncomputable def Qbm:List (Option Nat)→Bool
 | []=>true
 | some i::rs=>(rs.all fun r=>match r with | some j=>i != j | none=>true)&&Qbm rs
 | none::rs=>Qbm rs
noncomputable def Qam (o:Out PV):Out Bool:=o.bind fun r ρ=>match r with
 | .fz (.bl b)=>.ok b ρ
 | _=>.no
noncomputable def Qbt (lo:Int) (n:Nat):List T:=(List.range n).map fun i=>T.int (lo+(i:Nat))
noncomputable def Q6y:Nat→List T→List T
 | _,[]=>[]
 | n,t::ts=>.tup [.int n,t]::Q6y (n+1) ts
noncomputable def Qyc:List T→List T→List T
 | x::xs,y::ys=>.tup [x,y]::Qyc xs ys
 | _,_=>[]
noncomputable def fzAt:List Nat→En→Option (List T)
 | [],_=>some []
 | j::js,ρ=>match Qc ρ j,fzAt js ρ with
  | .fz t,some ts=>some (t::ts)
  | _,_=>none
noncomputable def Qaap (o:Out PV):Out PV:=match o with
 | .ok r ρ=>.ok r ρ
 | _=>.no
noncomputable def Q6z:Slot→Bool
 | .fz (.clo _ _)=>true
 | _=>false
noncomputable def appO (cf:CF) (i:Nat) (rs:List PV) (ρ:En):Out PV:=match Qc ρ i with
 | .fz (.clo k ts)=>Qaap (Qes cf k (rs++ts.map PV.fz) ρ)
 | _=>.no
noncomputable def Qh5:PV→Option Nat
 | .sl i=>some i
 | _=>none
noncomputable def ixI (n:Int):List Int→Option Nat
 | []=>none
 | m::ms=>if m=n then some 0 else (ixI n ms).map (· + 1)
noncomputable def ixOf (n:Int):Option T→Option Int
 | some (.lst ts)=>match Qdi ts with
  | some is=>if is.length≤1000 then (ixI n is).map fun j=>(j:Int) else none
  | none=>none
 | _=>none
noncomputable def insT (ts:List T) (n:Nat) (t:T):List T:=ts.take n++t::ts.drop n
mutual
noncomputable def evE (cf:CF):E→En→Out PV
 | .var i,ρ=>match Qc ρ i with
  | .fz t=>.ok (.fz t) ρ
  | .un=>.no
  | .pin _=>.no
  | .fx t=>.ok (.fz t) ρ
  | _=>.ok (.sl i) ρ
 | .int i,ρ=>.ok (.fz (.int i)) ρ
 | .bl b,ρ=>.ok (.fz (.bl b)) ρ
 | .non,ρ=>.ok (.fz .non) ρ
 | .str x,ρ=>.ok (.fz (.str x)) ρ
 | .tup es,ρ=>(evA cf es ρ).bind fun rs ρ1=>match Qc3 rs with
  | some ts=>if ts.length≤100000 then .ok (.fz (.tup ts)) ρ1 else .no
  | none=>.no
 | .lst es,ρ=>(evA cf es ρ).bind fun rs ρ1=>match Qc3 rs with
  | some ts=>if ts.length≤100000 then .ok (.ow (.lst ts)) ρ1 else .no
  | none=>.no
 | .bin o a b,ρ=>(evE cf a ρ).bind fun ra ρ1=>(evE cf b ρ1).bind fun rb ρ2=>match cont ρ2 ra,cont ρ2 rb with
  | some x,some y=>.opt (opB o x y) ρ2
  | _,_=>.no
 | .neg a,ρ=>(evE cf a ρ).bind fun ra ρ1=>match ra with
  | .fz (.int i)=>.ok (.fz (.int (-i))) ρ1
  | _=>.no
 | .not a,ρ=>(Qam (evE cf a ρ)).bind fun b ρ1=>.ok (.fz (.bl (!b))) ρ1
 | .and a b,ρ=>(Qam (evE cf a ρ)).bind fun c ρ1=>if c then (Qam (evE cf b ρ1)).bind fun d ρ2=>.ok (.fz (.bl d)) ρ2 else .ok (.fz (.bl false)) ρ1
 | .or a b,ρ=>(Qam (evE cf a ρ)).bind fun c ρ1=>if c then .ok (.fz (.bl true)) ρ1 else (Qam (evE cf b ρ1)).bind fun d ρ2=>.ok (.fz (.bl d)) ρ2
 | .ite c a b,ρ=>(Qam (evE cf c ρ)).bind fun k ρ1=>if k then evE cf a ρ1 else evE cf b ρ1
 | .cmp o a b,ρ=>(evE cf a ρ).bind fun ra ρ1=>(evE cf b ρ1).bind fun rb ρ2=>match cont ρ2 ra,cont ρ2 rb with
  | some x,some y=>match opC o x y with
   | some k=>.ok (.fz (.bl k)) ρ2
   | none=>.no
  | _,_=>.no
 | .isI a n,ρ=>(evE cf a ρ).bind fun ra ρ1=>match cont ρ1 ra with
  | some t=>if Qnh n && !Qio t then .ok (.fz (.bl (Qnb (tyT t) n))) ρ1 else .no
  | none=>.no
 | .srk f e,ρ=>(evE cf e ρ).bind fun r ρ1=>match r with
  | .fz (.lst [t])=>match Qes cf f [.fz t] ρ1 with
   | .ok _ ρ2=>.ok (.ow (.lst [t])) ρ2
   | _=>.no
  | _=>.no
 | .inR ng a lo hi,ρ=>(evE cf a ρ).bind fun ra ρ1=>(evE cf lo ρ1).bind fun rl ρ2=>(evE cf hi ρ2).bind fun rh ρ3=>match ra,rl,rh with
  | .fz (.int i),.fz (.int l),.fz (.int h)=>.ok (.fz (.bl (if ng then !decide (l≤i∧i<h) else decide (l≤i∧i<h)))) ρ3
  | _,_,_=>.no
 | .call f es,ρ=>(evA cf es ρ).bind fun rs ρ1=>Qes cf f rs ρ1
 | .bi b es,ρ=>(evA cf es ρ).bind fun rs ρ1=>match Qan ρ1 rs with
  | some ts=>.opt (Qgn b ts) ρ1
  | none=>.no
 | .cnt a b,ρ=>(evE cf a ρ).bind fun ra ρ1=>match ra with
  | .fz (.tup ts)=>(evE cf b ρ1).bind fun rb ρ2=>match rb,Qdi ts with
   | .fz (.int j),some is=>.ok (.fz (.int (is.count j:Nat))) ρ2
   | _,_=>.no
  | _=>.no
 | .ix a i,ρ=>(evE cf a ρ).bind fun ra ρ1=>(evE cf i ρ1).bind fun rb ρ2=>match cont ρ2 ra,cont ρ2 rb with
  | some x,some y=>match Qyb x y with
   | some t=>.ok (.fz t) ρ2
   | none=>.no
  | _,_=>.no
 | .slc a lo hi,ρ=>(evE cf a ρ).bind fun ra ρ1=>(evA cf lo ρ1).bind fun rl ρ2=>match bndO rl with
  | none=>.no
  | some l=>(evA cf hi ρ2).bind fun rh ρ3=>match bndO rh with
   | none=>.no
   | some h=>match cont ρ3 ra with
    | some x=>.opt (opSl x l h) ρ3
    | none=>.no
 | .rev a,ρ=>(evE cf a ρ).bind fun ra ρ1=>match ra with
  | .fz (.tup ts)=>.ok (.fz (.tup ts.reverse)) ρ1
  | _=>.no
 | .comp w js tg cs e,ρ=>(evW cf w ρ).bind fun its ρ1=>match its.2 with
  | some _=>.no
  | none=>match Qc8 tg (evC cf cs) (evE cf e) its.1 [] (Qb5 js ρ1) with
   | .ok ts ρi=>if Qee (Qb5 js ρ1) ρi=true∧Qbm js=true then .ok (.ow (.lst ts)) (Qjj js ρi ρ1) else .no
   | _=>.no
 | .compS i js tg cs e,ρ=>match (Qc ρ i).prv with
  | some (.lst ts)=>if js.all (fun j=>decide (j≠some i))=true then match Qc8 tg (evC cf cs) (evE cf e) ts [] (Qb5 js ρ) with
   | .ok us ρi=>if Qee (Qb5 js ρ) ρi=true∧Qbm js=true then .ok (.ow (.lst us)) (Qjj js ρi ρ) else .no
   | _=>.no
   else .no
  | _=>.no
 | .orv a b,ρ=>(evE cf a ρ).bind fun ra ρ1=>match ra with
  | .fz .non=>evE cf b ρ1
  | .fz (.tup [])=>evE cf b ρ1
  | .fz (.tup (x::xs))=>.ok (.fz (.tup (x::xs))) ρ1
  | _=>.no
 | .chl a b c,ρ=>(evE cf a ρ).bind fun ra ρ1=>(evE cf b ρ1).bind fun rb ρ2=>match ra,rb with
  | .fz (.int i),.fz (.int j)=>if i≤j then (evE cf c ρ2).bind fun rc ρ3=>match rc with
   | .fz (.int k)=>.ok (.fz (.bl (decide (j≤k)))) ρ3
   | _=>.no
   else .ok (.fz (.bl false)) ρ2
  | _,_=>.no
 | .compZ i j js tg cs e,ρ=>match (Qc ρ i).prv,Qc ρ j with
  | some (.lst ts),.fz (.lst us)=>if js.all (fun j=>decide (j≠some i))=true then match Qc8 tg (evC cf cs) (evE cf e) (Qyc ts us) [] (Qb5 js ρ) with
   | .ok us ρi=>if Qee (Qb5 js ρ) ρi=true∧Qbm js=true then .ok (.ow (.lst us)) (Qjj js ρi ρ) else .no
   | _=>.no
   else .no
  | _,_=>.no
 | .lix i a,ρ=>if (Qc ρ i).mut=true then (evE cf a ρ).bind fun r ρ1=>match r with
  | .fz (.int n)=>(match ixOf n ((Qc ρ1 i).prv) with
   | some j=>.ok (.fz (.int j)) ρ1
   | none=>.no)
  | _=>.no
  else .no
 | .tupR l a,ρ=>(evE cf a ρ).bind fun r ρ1=>match r with
  | .fz (.int j)=>if j.natAbs≤100000 then .ok (if l then .ow (.lst (Qbt 0 j.toNat)) else .fz (.tup (Qbt 0 j.toNat))) ρ1 else .no
  | _=>.no
 | .lstR2 a b,ρ=>(evE cf a ρ).bind fun r ρ1=>(evE cf b ρ1).bind fun r2 ρ2=>match r,r2 with
  | .fz (.int i),.fz (.int j)=>if i.natAbs≤100000∧j.natAbs≤100000∧(j-i).natAbs≤100000 then .ok (.ow (.lst (Qbt i (j-i).toNat))) ρ2 else .no
  | _,_=>.no
 | .lit t,ρ=>.ok (.fz t) ρ
 | .dg1 d k,ρ=>(evE cf d ρ).bind fun rd ρ1=>if Q36 (cont ρ1 rd)=true then (evE cf k ρ1).bind fun rk ρ2=>match Qvq rk,cont ρ2 rd with
   | some is,some (.dtt ks ts)=>.ok (.fz ((Qr7 ks ts is).getD .non)) ρ2
   | _,_=>.no
  else .no
 | .dg2 d k x,ρ=>(evE cf d ρ).bind fun rd ρ1=>if Q36 (cont ρ1 rd)=true then (evE cf k ρ1).bind fun rk ρ2=>(evE cf x ρ2).bind fun rx ρ3=>match Qvq rk,cont ρ3 rd,rx with
   | some is,some (.dtt ks ts),.fz u=>.ok (.fz ((Qr7 ks ts is).getD u)) ρ3
   | _,_,_=>.no
  else .no
 | .dnew,ρ=>.ok (.ow (.dtt [] [])) ρ
 | .d1 k x,ρ=>(evE cf k ρ).bind fun rk ρ1=>(evE cf x ρ1).bind fun rx ρ2=>match Qvq rk,rx with
  | some is,.fz t=>.ok (.ow (.dtt [is] [t])) ρ2
  | _,_=>.no
 | .tcall f es,ρ=>(evA cf es ρ).bind fun rs ρ1=>Q6x cf f rs ρ1
 | .din ng k d,ρ=>(evE cf k ρ).bind fun rk ρ1=>(evE cf d ρ1).bind fun rd ρ2=>match Qvq rk,cont ρ2 rd with
  | some is,some (.dtt ks ts)=>.ok (.fz (.bl (if ng then !(Qr7 ks ts is).isSome else (Qr7 ks ts is).isSome))) ρ2
  | _,_=>.no
 | .dix d k,ρ=>(evE cf d ρ).bind fun rd ρ1=>(evE cf k ρ1).bind fun rk ρ2=>match Qvq rk,cont ρ2 rd with
  | some is,some (.dtt ks ts)=>match Qr7 ks ts is with
   | some t=>.ok (.fz t) ρ2
   | none=>.no
  | _,_=>.no
 | .app i es,ρ=>if Q6z (Qc ρ i)=true then (evA cf es ρ).bind fun rs ρ1=>appO cf i rs ρ1 else .no
 | .lam k js,ρ=>match fzAt js ρ with
  | some ts=>.ok (.fz (.clo k ts)) ρ
  | none=>.no
 | .fzE e,ρ=>(evE cf e ρ).bind fun r ρ1=>match frz r with
  | some t=>.ok (.fz t) ρ1
  | none=>.no
 | .bad,_=>.no
noncomputable def evA (cf:CF):Es→En→Out (List PV)
 | .nil,ρ=>.ok [] ρ
 | .cons e es,ρ=>(evE cf e ρ).bind fun r ρ1=>(evA cf es ρ1).bind fun rs ρ2=>.ok (r::rs) ρ2
noncomputable def evC (cf:CF):Es→En→Out Bool
 | .nil,ρ=>.ok true ρ
 | .cons e .nil,ρ=>Qam (evE cf e ρ)
 | .cons _ _,_=>.no
noncomputable def evW (cf:CF):W→En→Out (List T×Option Nat)
 | .seq e,ρ=>(evE cf e ρ).bind fun r ρ1=>match cont ρ1 r with
  | some t=>match Qdv t with
   | some ts=>.ok (ts,Qh5 r) ρ1
   | none=>.no
  | none=>.no
 | .rng1 a,ρ=>(evE cf a ρ).bind fun r ρ1=>match r with
  | .fz (.int j)=>if j.natAbs≤100000 then .ok (Qbt 0 j.toNat,none) ρ1 else .no
  | _=>.no
 | .rng2 a b,ρ=>(evE cf a ρ).bind fun r ρ1=>(evE cf b ρ1).bind fun r2 ρ2=>match r,r2 with
  | .fz (.int i),.fz (.int j)=>if i.natAbs≤100000∧j.natAbs≤100000 then .ok (Qbt i (j-i).toNat,none) ρ2 else .no
  | _,_=>.no
 | .enm e,ρ=>(evE cf e ρ).bind fun r ρ1=>match cont ρ1 r with
  | some (.lst ts)=>.ok (Q6y 0 ts,Qh5 r) ρ1
  | some (.tup ts)=>.ok (Q6y 0 ts,Qh5 r) ρ1
  | _=>.no
 | .zip a b,ρ=>(evE cf a ρ).bind fun r ρ1=>(evE cf b ρ1).bind fun r2 ρ2=>match r,r2 with
  | .fz (.tup xs),.fz (.tup ys)=>.ok (Qyc xs ys,none) ρ2
  | .fz (.lst xs),.fz (.tup ys)=>.ok (Qyc xs ys,none) ρ2
  | .fz (.lst xs),.fz (.lst ys)=>.ok (Qyc xs ys,none) ρ2
  | _,_=>.no
 | .dks e,ρ=>(evE cf e ρ).bind fun r ρ1=>match r with
  | .fz (.dtt ks _)=>if ks.all (fun k=>decide (k.length≤100000))=true then .ok (ks.map fun k=>T.tup (k.map T.int),none) ρ1 else .no
  | _=>.no
end
noncomputable def SO.seq (o:SO) (k:En→SO):SO:=match o with
 | .nx ρ=>k ρ
 | o=>o
noncomputable def ofO {α:Type} (o:Out α) (k:α→En→SO):SO:=match o with
 | .ok a ρ=>k a ρ
 | .xn x ρ=>.xn x ρ
 | .no=>.no
noncomputable def Q8 {α:Type} (o:Option α) (k:α→SO):SO:=match o with
 | some a=>k a
 | none=>.no
noncomputable def Qjk (c:En→Out Bool) (b:En→SO):Nat→En→SO
 | 0,_=>.no
 | n+1,ρ=>ofO (c ρ) fun k ρ1=>if k then (match b ρ1 with
   | .nx ρ2=>Qjk c b n ρ2
   | .ct ρ2=>Qjk c b n ρ2
   | .bk ρ2=>.nx ρ2
   | o=>o) else .nx ρ1
noncomputable def Qca (tg:Tg) (b:En→SO):List T→En→SO
 | [],ρ=>.nx ρ
 | x::xs,ρ=>match Qgj tg x ρ with
  | none=>.no
  | some ρ1=>match b ρ1 with
   | .nx ρ2=>Qca tg b xs ρ2
   | .ct ρ2=>Qca tg b xs ρ2
   | .bk ρ2=>.nx ρ2
   | o=>o
noncomputable def Q60 (i:Nat) (tg:Tg) (b:En→SO):Nat→Nat→En→SO
 | 0,_,_=>.no
 | m+1,n,ρ=>match Qc ρ i with
  | .ro (.lst us)=>match us[n]? with
   | none=>.nx ρ
   | some x=>match Qgj tg x ρ with
    | none=>.no
    | some ρ1=>match b ρ1 with
     | .nx ρ2=>Q60 i tg b m (n+1) ρ2
     | .ct ρ2=>Q60 i tg b m (n+1) ρ2
     | .bk ρ2=>.nx ρ2
     | o=>o
  | _=>.no
noncomputable def unE (i:Nat) (ρ:En):Option En:=match Qc ρ i with
 | .ro t=>some (ρ.set i (.ow t))
 | _=>none
noncomputable def unl (i:Nat):SO→SO
 | .nx ρ=>Q8 (unE i ρ) .nx
 | .rt (.fz t) ρ=>Q8 (unE i ρ) (.rt (.fz t))
 | _=>.no
noncomputable def Qni (o:SO):SO:=match o with
 | .xn _ _=>.no
 | o=>o
noncomputable def Qoj (i:Nat) (r:PV) (ρ:En):SO:=match r with
 | .fz t=>Q8 (Qbb i (.fz t) ρ) .nx
 | .ow t=>Q8 (Qbb i (.ow t) ρ) .nx
 | .sl _=>.no
noncomputable def isRf:T→Bool
 | .tup _=>true
 | .lst _=>true
 | _=>false
noncomputable def flaT:T→Bool
 | .int _=>true
 | .bl _=>true
 | .str _=>true
 | .non=>true
 | _=>false
noncomputable def Qvr:T→Bool
 | .tup ts=>ts.all flaT
 | t=>flaT t
noncomputable def Qvs:T→Bool
 | .tup ts=>!ts.all flaT
 | .lst _=>true
 | _=>false
noncomputable def lkS:Slot→Slot
 | .fz t=>if Qvs t=true then .fx t else .fz t
 | s=>s
noncomputable def Qmv:Slot→Bool
 | .un=>true
 | .fz t=>isRf t||flaT t
 | .pin _=>true
 | _=>false
noncomputable def Q1s:Slot→Bool
 | .fx _=>true
 | _=>false
noncomputable def lkB:Slot→Slot→Slot
 | s0,.fx _=>s0
 | _,.fz t=>if Qvr t=true then .fz t else .un
 | _,.pin a=>.pin a
 | _,_=>.un
noncomputable def lkO (i:Nat) (ρ:En):SO→SO
 | .nx ρ1=>if Q1s (Qc ρ1 i)=true∧ρ1.length=ρ.length then .nx (List.zipWith lkB ρ ρ1) else .no
 | .rt (.fz (.bl b)) ρ1=>.rt (.fz (.bl b)) (ρ1.map fun _=>.un)
 | _=>.no
noncomputable def Qaaq:Slot→Bool
 | .un=>true
 | .fz _=>true
 | _=>false
noncomputable abbrev Qnj (is:List Int):T:=.lst (is.map T.int)
noncomputable abbrev Qef (M:List (List Int)):T:=.lst (M.map Qnj)
noncomputable def nRow (fA:En→SO) (iF iR iH:Nat) (Ms:List (List (List Int))) (R:List (List Int)) (ρ:En):Option (List (List Int)×En) :=
 match fA ((ρ.set iF (.ro (.lst (Ms.map Qef)))).set iR (.ro (.lst (R.map Qnj)))) with
 | .nx ρ1=>match Qc ρ1 iF,Qc ρ1 iR,Qc ρ1 iH with
  | .ro _,.ro _,.ow (.lst us)=>match Qdi us with
   | some is=>if is.length≤1000∧R.length<1000 then some (R++[is],((((ρ1.set iR (.ow (.lst (R.map Qnj)))).set iF (.ow (.lst (Ms.map Qef)))).set iH (.fz (Qnj is))).set iR (.ow (.lst ((R++[is]).map Qnj))))) else none
   | none=>none
  | _,_,_=>none
 | _=>none
noncomputable def Q37 (fA:En→SO) (iF iR iH iW:Nat) (Ms:List (List (List Int))) (R0:List (List Int)) (ρ0:En):Nat→Option (List (List Int)×En)
 | 0=>some (R0,ρ0)
 | n+1=>match Q37 fA iF iR iH iW Ms R0 ρ0 n with
  | some q=>if iW<q.2.length then nRow fA iF iR iH Ms q.1 (q.2.set iW (.fz (.int n))) else none
  | none=>none
noncomputable def nTab (f0 fA:En→SO) (iF iR iH iW iS:Nat) (Ms:List (List (List Int))) (ρ:En):Option (List (List (List Int))×En) :=
 match f0 (ρ.set iF (.ro (.lst (Ms.map Qef)))) with
 | .nx ρ1=>match Qc ρ1 iF,Qc ρ1 iR,Qc (ρ1.set iF (.ow (.lst (Ms.map Qef)))) iS with
  | .ro _,.ow (.lst []),.fz (.int j)=>if j.natAbs≤1000 then (match Q37 fA iF iR iH iW Ms [] (ρ1.set iF (.ow (.lst (Ms.map Qef)))) j.toNat with
   | some q=>if q.1.length≤1000∧Ms.length<1000 then some (Ms++[q.1],(q.2.set iR (.fz (Qef q.1))).set iF (.ow (.lst ((Ms++[q.1]).map Qef)))) else none
   | none=>none) else none
  | _,_,_=>none
 | _=>none
noncomputable def Q38 (f0 fA:En→SO) (iF iR iH iW iS iT:Nat) (ρ0:En):Nat→Option (List (List (List Int))×En)
 | 0=>some ([],ρ0)
 | n+1=>match Q38 f0 fA iF iR iH iW iS iT ρ0 n with
  | some q=>if iT<q.2.length then nTab f0 fA iF iR iH iW iS q.1 (q.2.set iT (.fz (.int n))) else none
  | none=>none
noncomputable def Q61:Slot→Slot
 | .ml (.lst ts)=>if (Qdi ts).isSome=true then .ml (.lst ts) else .un
 | _=>.un
noncomputable def nPut (fV f1 f2:En→Out PV) (iF:Nat):List (List (List Int))→En→Option En
 | [],_=>none
 | M::Ms,ρ=>if (M::Ms).length≤1000 then (match fV (ρ.set iF (.ro (.lst ((M::Ms).map Qef)))) with
  | .ok (.fz (.int v)) ρ1=>(match Qc ρ1 iF,f1 (ρ1.set iF (.ro (.lst ((M::Ms).map Qef)))) with
   | .ro _,.ok (.fz (.int j)) ρ2=>(match Qc ρ2 iF,f2 (ρ2.set iF (.ro (.lst ((M::Ms).map Qef)))) with
    | .ro _,.ok (.fz (.int k)) ρ3=>(match Qc ρ3 iF,ixN M.length j with
     | .ro _,some x=>(match M[x]? with
      | some is=>(match ixN is.length k with
       | some y=>some ((ρ3.map Q61).set iF (.ow (.lst ((M.set x (is.set y v)::Ms).map Qef))))
       | none=>none)
      | none=>none)
     | _,_=>none)
    | _,_=>none)
   | _,_=>none)
  | _=>none) else none
noncomputable def Qaar (f0 fA:En→SO) (fc:En→Out Bool) (fV f1 f2:En→Out PV) (iF iR iH iW iS iT iN:Nat) (ρ:En):SO :=
 match Qc ρ iF,Qc ρ iN with
 | .ow (.lst []),.fz (.int n)=>if n.natAbs≤1000 then (match Q38 f0 fA iF iR iH iW iS iT ρ n.toNat with
  | some q=>if q.1.length≤1000 then (match fc (q.2.set iF (.ro (.lst (q.1.map Qef)))) with
   | .ok b ρ2=>(match Qc ρ2 iF with
    | .ro _=>if b=true then (match nPut fV f1 f2 iF q.1 (ρ2.set iF (.ow (.lst (q.1.map Qef)))) with
     | some ρ3=>.nx ρ3
     | none=>.no) else .nx (ρ2.set iF (.ow (.lst (q.1.map Qef))))
    | _=>.no)
   | _=>.no) else .no
  | none=>.no) else .no
 | _,_=>.no
noncomputable def exS (cf:CF):S→En→SO
 | .nil,ρ=>.nx ρ
 | .seq a b,ρ=>(exS cf a ρ).seq (exS cf b)
 | .expr e,ρ=>ofO (evE cf e ρ) fun _ ρ1=>.nx ρ1
 | .set i e,ρ=>ofO (evE cf e ρ) fun r ρ1=>Qoj i r ρ1
 | .setF i e,ρ=>ofO (evE cf e ρ) fun r ρ1=>match frz r with
  | some t=>Q8 (Qbb i (.fz t) ρ1) .nx
  | none=>.no
 | .unp is e,ρ=>ofO (evE cf e ρ) fun r ρ1=>match r with
  | .fz (.tup ts)=>Q8 (Qbi is ts ρ1) .nx
  | _=>.no
 | .par i j a b,ρ=>ofO (evE cf a ρ) fun ra ρ1=>ofO (evE cf b ρ1) fun rb ρ2=>match ra,rb with
  | .fz x,.fz y=>Q8 (Qbi [i,j] [x,y] ρ2) .nx
  | _,_=>.no
 | .app i e,ρ=>if (Qc ρ i).mut=true then ofO (evE cf e ρ) fun r ρ1=>match frz r with
   | none=>.no
   | some t=>match Qc ρ1 i with
    | .ow (.lst ts)=>if ts.length<100000 then .nx (ρ1.set i (.ow (.lst (ts++[t])))) else .no
    | .ml (.lst ts)=>if ts.length<100000 then .nx (ρ1.set i (.ml (.lst (ts++[t])))) else .no
    | _=>.no
  else .no
 | .ext i e,ρ=>if (Qc ρ i).mut=true then ofO (evE cf e ρ) fun r ρ1=>match r with
   | .fz (.tup us)=>match Qc ρ1 i with
    | .ow (.lst ts)=>if ts.length+us.length≤100000 then .nx (ρ1.set i (.ow (.lst (ts++us)))) else .no
    | .ml (.lst ts)=>if ts.length+us.length≤100000 then .nx (ρ1.set i (.ml (.lst (ts++us)))) else .no
    | _=>.no
   | _=>.no
  else .no
 | .put i k e,ρ=>ofO (evE cf e ρ) fun r ρ1=>match frz r with
  | none=>.no
  | some t=>if (Qc ρ1 i).mut=true then ofO (evE cf k ρ1) fun rk ρ2=>match rk with
    | .fz (.int j)=>match Qc ρ2 i with
     | .ow (.lst ts)=>Q8 (ixN ts.length j) fun n=>.nx (ρ2.set i (.ow (.lst (ts.set n t))))
     | .ml (.lst ts)=>Q8 (ixN ts.length j) fun n=>.nx (ρ2.set i (.ml (.lst (ts.set n t))))
     | _=>.no
    | _=>.no
   else .no
 | .dput i k e,ρ=>ofO (evE cf e ρ) fun r ρ1=>match frz r with
  | none=>.no
  | some t=>if (Qc ρ1 i).mutD=true then ofO (evE cf k ρ1) fun rk ρ2=>match Qvq rk with
    | some is=>match Qc ρ2 i with
     | .ow (.dtt ks ts)=>if ks.length<100000 then .nx (ρ2.set i (.ow (dPut ks ts is t))) else .no
     | .ml (.dtt ks ts)=>if ks.length<100000 then .nx (ρ2.set i (.ml (dPut ks ts is t))) else .no
     | _=>.no
    | none=>.no
   else .no
 | .look i b,ρ=>match Qc ρ i with
  | .ow (.lst ts)=>if (ρ.set i .un).all Qmv=true then lkO i ρ (exS cf b ((ρ.set i (.fz (.lst ts))).map lkS)) else .no
  | _=>.no
 | .swp i j k,ρ=>ofO (evE cf (.tup (.cons (.ix (.var i) (.var k)) (.cons (.ix (.var i) (.var j)) .nil))) ρ) fun r ρ1=>match r with
  | .fz (.tup [u,v])=>match Qc ρ1 j,Qc ρ1 k,Qc ρ1 i with
   | .fz (.int x),.fz (.int y),.ow (.lst ts)=>Q8 (ixN ts.length x) fun m=>Q8 (ixN ts.length y) fun n=>.nx (ρ1.set i (.ow (.lst ((ts.set m u).set n v))))
   | _,_,_=>.no
  | _=>.no
 | .ret e,ρ=>ofO (evE cf e ρ) fun r ρ1=>.rt r ρ1
 | .retN,ρ=>.rt (.fz .non) ρ
 | .ite c a b,ρ=>ofO (Qam (evE cf c ρ)) fun k ρ1=>if k then exS cf a ρ1 else exS cf b ρ1
 | .whl c b,ρ=>Qni (Qjk (fun ρ=>Qam (evE cf c ρ)) (exS cf b) 1000000 ρ)
 | .for_ w tg b,ρ=>Qni (ofO (evW cf w ρ) fun its ρ1=>match its.2 with
  | some _=>.no
  | none=>Qca tg (exS cf b) its.1 ρ1)
 | .mov i j,ρ=>match Qc ρ j with
  | .ow t=>if i≠j∧i<ρ.length then .nx ((ρ.set j .un).set i (.ow t)) else .no
  | _=>.no
 | .forX w tg b,ρ=>ofO (evW cf w ρ) fun its ρ1=>match its.2 with
  | some _=>.no
  | none=>Qca tg (exS cf b) its.1 ρ1
 | .extL i e,ρ=>if (Qc ρ i).mut=true then ofO (evE cf e ρ) fun r ρ1=>match r with
   | .ow (.lst us)=>match Qc ρ1 i with
    | .ow (.lst ts)=>if ts.length+us.length≤100000 then .nx (ρ1.set i (.ow (.lst (ts++us)))) else .no
    | _=>.no
   | _=>.no
  else .no
 | .forS i tg b,ρ=>match Qc ρ i with
  | .ow (.lst ts)=>unl i (Q60 i tg (exS cf b) 100001 0 (ρ.set i (.ro (.lst ts))))
  | _=>.no
 | .brk,ρ=>.bk ρ
 | .cnt,ρ=>.ct ρ
 | .frz i,ρ=>match Qc ρ i with
  | .ow t=>.nx (ρ.set i (.fz t))
  | .ml _=>.no
  | .ro _=>.no
  | _=>.nx ρ
 | .raise c es,ρ=>ofO (evA cf es ρ) fun rs ρ1=>match rs with
  | [.fz (.int i)]=>if 6≤c∧c<9 then .xn ⟨c,[i]⟩ ρ1 else .no
  | [.fz (.str _)]=>if c<6 then .xn ⟨c,[]⟩ ρ1 else .no
  | [.fz (.int i),.fz (.int j)]=>if c=9 then .xn ⟨c,[i,j]⟩ ρ1 else .no
  | _=>.no
 | .ins i k e,ρ=>if (Qc ρ i).mut=true then ofO (evE cf k ρ) fun rk ρ1=>match rk with
   | .fz (.int j)=>ofO (evE cf e ρ1) fun r ρ2=>match r with
    | .fz t=>match Qc ρ2 i with
     | .ow (.lst ts)=>if ts.length<100000∧0≤j∧j≤ts.length then .nx (ρ2.set i (.ow (.lst (insT ts j.toNat t)))) else .no
     | _=>.no
    | _=>.no
   | _=>.no
  else .no
 | .rem i e,ρ=>if (Qc ρ i).mut=true then ofO (evE cf e ρ) fun r ρ1=>match r with
   | .fz (.int n)=>match Qc ρ1 i with
    | .ow (.lst ts)=>match Qdi ts with
     | some is=>match ixI n is with
      | some j=>.nx (ρ1.set i (.ow (.lst (ts.eraseIdx j))))
      | none=>.no
     | none=>.no
    | _=>.no
   | _=>.no
  else .no
 | .scr i a b f c1 c2,ρ=>if ρ.all Qaaq=true then (match Qc ρ a,Qc ρ b with
  | .fz (.int x),.fz (.int y)=>match cf f [.fz (.int x),.fz (.int y)] with
   | .ok (.fz (.tup [u,.lst ts])) _=>match Qbb i (.fz (.tup [u,.lst ts])) ρ with
    | some ρ1=>match Qam (evE cf c1 ρ1) with
     | .ok false _=>match Qam (evE cf c2 ρ1) with
      | .ok false _=>if ts.length<100000 then .nx (ρ.set i .un) else .no
      | _=>.no
     | _=>.no
    | none=>.no
   | _=>.no
  | _,_=>.no) else .no
 | .nest iF iR iH iW iS iT iN a0 a c v e1 e2,ρ=>Qaar (exS cf a0) (exS cf a) (fun ρ=>Qam (evE cf c ρ)) (evE cf v) (evE cf e1) (evE cf e2) iF iR iH iW iS iT iN ρ
 | .tryR i b h,ρ=>match exS cf b ρ with
  | .xn x ρ1=>(match h x.c x.arg with
   | some t=>.rt (.fz t) ρ1
   | none=>.no)
  | o=>o
 | .parO i j a b,ρ=>ofO (evE cf a ρ) fun ra ρ1=>ofO (evE cf b ρ1) fun rb ρ2=>match ra,rb with
  | .ow x,.ow y=>Q8 (Qbb i (.ow x) ρ2) fun ρ3=>Q8 (Qbb j (.ow y) ρ3) .nx
  | _,_=>.no
 | .bad,_=>.no
structure Fn where
 ps:Nat
 sz:Nat
 body:S
noncomputable def Qfl (fn:Fn) (as:List Arg):En:=(as.map fun a=>match a with
 | .fz t=>Slot.fz t
 | .ml t=>.ml t
 | .ro t=>.ro t)++List.replicate (fn.sz-fn.ps) .un
noncomputable def Q1:List Arg→En→Option (List T)
 | [],_=>some []
 | .ml _::as,.ml t::ρ=>(Q1 as ρ).map (t :: ·)
 | .ml _::_,_=>none
 | .fz _::as,_::ρ=>(Q1 as ρ).map (.non :: ·)
 | .ro _::as,_::ρ=>(Q1 as ρ).map (.non :: ·)
 | _,[]=>none
noncomputable def Qau (ρ:En):PV→Option PV
 | .fz t=>some (.fz t)
 | .ow t=>some (.ow t)
 | .sl i=>match Qc ρ i with
  | .ow t=>some (.ow t)
  | _=>none
noncomputable def Qbr (cf:CF) (fn:Fn) (as:List Arg):FR :=
 if as.length=fn.ps then match exS cf fn.body (Qfl fn as) with
  | .nx ρ=>match Q1 as ρ with
   | some fin=>.ok (.fz .non) fin
   | none=>.no
  | .rt r ρ=>match Qau ρ r,Q1 as ρ with
   | some r,some fin=>.ok r fin
   | _,_=>.no
  | .xn x ρ=>match Q1 as ρ with
   | some fin=>.xn x fin
   | none=>.no
  | _=>.no
 else .no
noncomputable def evF (tab:Nat→Option Fn):Nat→CF
 | 0,_,_=>.no
 | n+1,f,as=>match tab f with
  | some fn=>Qbr (evF tab n) fn as
  | none=>.no
structure Bs where
 H:Hp
 G:Addr→Prop
 O:Addr→Prop
 M:Addr→Prop
 P:Nat→Addr→Prop
noncomputable def OwnO (D:Hp):T→HO→Prop
 | .lst ts,.lst vs=>ts.length≤100000∧IsL D vs ts
 | .dtt ks ts,.dT kvs=>ks.length≤100000∧∃ vs,kvs=(ks.map kIs).zip vs∧ks.length=vs.length∧IsL D vs ts
 | _,_=>False
theorem OwnO.mono {D D':Hp} {t:T} {o:HO} (h:OwnO D t o) (s:Same D D'):OwnO D' t o:=by
 cases t with
 | lst ts=>cases o <;> first | exact ⟨h.1,h.2.mono s⟩ | exact h.elim
 | dtt ks ts =>
  cases o with
  | dT kvs=>obtain ⟨z,vs,e,l,q⟩:=h;exact ⟨z,vs,e,l,q.mono s⟩
  | _=>exact h.elim
 | _=>cases o <;> exact h.elim
theorem OwnO.pen {D:Hp} {t:T} {o:HO} (h:OwnO D t o):Q6i o=true:=by
 cases t with
 | lst ts=>cases o <;> first | rfl | exact h.elim
 | dtt ks ts=>cases o <;> first | rfl | exact h.elim
 | _=>cases o <;> exact h.elim
theorem OwnO.is {D D':Hp} {t:T} {o:HO} {a:Addr} (h:OwnO D t o) (e:D' a=some o) (s:Same D D'):Is D' (.ref a) t:=by
 cases t with
 | lst ts =>
  cases o with
  | lst vs=>exact .lst e (h.2.mono s) h.1
  | _=>exact h.elim
 | dtt ks ts =>
  cases o with
  | dT kvs =>
   obtain ⟨z,vs,rfl,l,q⟩:=h
   unfold Is
   exact ⟨z,a,vs,rfl,e,l,q.mono s⟩
  | _=>exact h.elim
 | _=>cases o <;> exact h.elim
noncomputable def OwnAt (H:Hp) (G:Addr→Prop) (a:Addr) (t:T):Prop:=∃ o,H a=some o∧OwnO (dls H G) t o
theorem OwnAt.lst_inv {H:Hp} {G:Addr→Prop} {a:Addr} {ts:List T} (h:OwnAt H G a (.lst ts)):∃ vs,ts.length≤100000∧H a=some (.lst vs)∧IsL (dls H G) vs ts:=by
 obtain ⟨o,e,q⟩:=h
 cases o with
 | lst vs=>exact ⟨vs,q.1,e,q.2⟩
 | _=>exact q.elim
theorem OwnAt.no_tup {H:Hp} {G:Addr→Prop} {a:Addr} {ts:List T} (h:OwnAt H G a (.tup ts)):False:=by
 obtain ⟨o,e,q⟩:=h
 cases o <;> exact q
noncomputable def Qlo (H:Hp) (G:Addr→Prop) (σ:St) (i:Nat):Slot→Prop
 | .un=>True
 | .fz t=>∃ v,σ[i]?=some (some v)∧Is (dls H G) v t
 | .ow t=>∃ a,σ[i]?=some (some (.ref a))∧G a∧OwnAt H G a t
 | .ml t=>∃ a,σ[i]?=some (some (.ref a))∧G a∧OwnAt H G a t
 | .ro t=>∃ a,σ[i]?=some (some (.ref a))∧G a∧OwnAt H G a t
 | .pin a=>σ[i]?=some (some (.ref a))
 | .fx t=>∃ a o,σ[i]?=some (some (.ref a))∧dls H G a=some o∧Is (dls H G) (.ref a) t
noncomputable def PrvAt (σ:St) (ρ:En) (i:Nat) (a:Addr):Prop:=(∃ t,(Qc ρ i).prv=some t)∧σ[i]?=some (some (.ref a))
noncomputable def OwA (σ:St) (ρ:En) (a:Addr):Prop:=∃ i t,Qc ρ i=.ow t∧σ[i]?=some (some (.ref a))
noncomputable def MlA (σ:St) (ρ:En) (a:Addr):Prop:=∃ i t,Qc ρ i=.ml t∧σ[i]?=some (some (.ref a))
noncomputable def PnA (σ:St) (ρ:En) (i:Nat) (a:Addr):Prop:=(∃ t,Qc ρ i=.ml t∨Qc ρ i=.ro t∨Qc ρ i=.fx t)∧σ[i]?=some (some (.ref a))
structure FI (B:Bs) (H:Hp) (G:Addr→Prop) (σ:St) (ρ:En):Prop where
 len:σ.length=ρ.length
 slot:∀ i,Qlo H G σ i (Qc ρ i)
 apart:∀ i j a,PrvAt σ ρ i a→PrvAt σ ρ j a→i=j
 prv:Pen H G
 chg:∀ b o,¬ B.O b→¬ B.M b→B.H b=some o→H b=some o
 keep:∀ b o,B.H b=some o→∃ o',H b=some o'
 newO:∀ a,OwA σ ρ a→B.H a=none∨B.O a
 newM:∀ a,MlA σ ρ a→B.M a
 fix:∀ i a,PnA σ ρ i a→B.P i a
 gg:∀ b,B.G b→G b
 gn:∀ b,G b→B.G b∨B.H b=none
 bp:∀ b,B.G b→∃ o,B.H b=some o
noncomputable abbrev Qa7 (H:Hp) (G:Addr→Prop) (σ:St) (ρ:En):Bs:=⟨H,G,OwA σ ρ,MlA σ ρ,PnA σ ρ⟩
section
variable {B:Bs} {H H1 H2:Hp} {G G1:Addr→Prop} {σ σ1:St} {ρ ρ1 ρ2:En}
theorem FI.self (F:FI B H G σ ρ):FI (Qa7 H G σ ρ) H G σ ρ :=
 ⟨F.len,F.slot,F.apart,F.prv,fun _ _ _ _ e=>e,fun _ o e=>⟨o,e⟩,fun _ h=>.inr h,fun _ h=>h,fun _ _ h=>h,fun _ h=>h,fun _ h=>.inl h,fun b h=>let ⟨xs,e,_⟩:=F.prv b h;⟨_,e⟩⟩
theorem FI.ownG (F:FI B H G σ ρ) {a:Addr} (h:OwA σ ρ a):G a:=by
 obtain ⟨i,t,e,s⟩:=h
 have q:=F.slot i
 rw [e] at q
 obtain ⟨b,hb,g,_⟩:=q
 rw [s] at hb
 cases hb
 exact g
theorem FI.mlG (F:FI B H G σ ρ) {a:Addr} (h:MlA σ ρ a):G a:=by
 obtain ⟨i,t,e,s⟩:=h
 have q:=F.slot i
 rw [e] at q
 obtain ⟨b,hb,g,_⟩:=q
 rw [s] at hb
 cases hb
 exact g
theorem FI.same (F0:FI B H G σ ρ) (F:FI (Qa7 H G σ ρ) H1 G1 σ1 ρ1):Same (dls H G) (dls H1 G1):=fun b o e=>by
 obtain ⟨n,e⟩:=Qal e
 have e1:=F.chg b o (fun z=>n (F0.ownG z)) (fun z=>n (F0.mlG z)) e
 rw [Qb4 fun z=>?_]
 ·exact e1
 ·rcases F.gn b z with z | z
  ·exact n z
  ·rw [show H b=none from z] at e;cases e
theorem FI.trans (F0:FI B H G σ ρ) (F:FI (Qa7 H G σ ρ) H1 G1 σ1 ρ1):FI B H1 G1 σ1 ρ1 where
 len:=F.len
 slot:=F.slot
 apart:=F.apart
 prv:=F.prv
 chg:=fun b o h1 h2 e=>F.chg b o (fun z=>by
  rcases F0.newO b z with z | z
  ·rw [e] at z;cases z
  ·exact h1 z) (fun z=>h2 (F0.newM b z)) (F0.chg b o h1 h2 e)
 keep:=fun b o e=>by
  obtain ⟨o1,e1⟩:=F0.keep b o e
  exact F.keep b o1 e1
 newO:=fun a h=>by
  rcases F.newO a h with z | z
  ·refine .inl ?_
   cases e:B.H a with
   | none=>rfl
   | some o =>
    obtain ⟨o1,e1⟩:=F0.keep a o e
    rw [show H a=none from z] at e1
    cases e1
  ·exact F0.newO a z
 newM:=fun a h=>F0.newM a (F.newM a h)
 fix:=fun i a h=>F0.fix i a (F.fix i a h)
 gg:=fun b h=>F.gg b (F0.gg b h)
 gn:=fun b h=>by
  rcases F.gn b h with z | z
  ·exact F0.gn b z
  ·refine .inr ?_
   cases e:B.H b with
   | none=>rfl
   | some o =>
    obtain ⟨o1,e1⟩:=F0.keep b o e
    rw [show H b=none from z] at e1
    cases e1
 bp:=F0.bp
theorem FI.free (F:FI B H G σ ρ) {b:Addr} (h:H b=none):B.H b=none:=by
 cases e:B.H b with
 | none=>rfl
 | some o =>
  obtain ⟨o1,e1⟩:=F.keep b o e
  rw [h] at e1
  cases e1
theorem FI.grow (F:FI B H G σ ρ) (s:Same H H1):FI B H1 G σ ρ where
 len:=F.len
 slot:=fun i=>by
  have q:=F.slot i
  cases hs:Qc ρ i with
  | un=>trivial
  | fz t=>rw [hs] at q;obtain ⟨v,a,b⟩:=q;exact ⟨v,a,b.mono (Qbl s)⟩
  | ow t=>rw [hs] at q;obtain ⟨a,h1,h2,o,h5,h6⟩:=q;exact ⟨a,h1,h2,o,s _ _ h5,h6.mono (Qbl s)⟩
  | ml t=>rw [hs] at q;obtain ⟨a,h1,h2,o,h5,h6⟩:=q;exact ⟨a,h1,h2,o,s _ _ h5,h6.mono (Qbl s)⟩
  | ro t=>rw [hs] at q;obtain ⟨a,h1,h2,o,h5,h6⟩:=q;exact ⟨a,h1,h2,o,s _ _ h5,h6.mono (Qbl s)⟩
  | pin a=>rw [hs] at q;exact q
  | fx t=>rw [hs] at q;obtain ⟨v,o,a,e,b⟩:=q;exact ⟨v,o,a,Qbl s _ _ e,b.mono (Qbl s)⟩
 apart:=F.apart
 prv:=F.prv.mono s
 chg:=fun b o h1 h2 e=>s b o (F.chg b o h1 h2 e)
 keep:=fun b o e=>by
  obtain ⟨o1,e1⟩:=F.keep b o e
  exact ⟨o1,s _ _ e1⟩
 newO:=F.newO
 newM:=F.newM
 fix:=F.fix
 gg:=F.gg
 gn:=F.gn
 bp:=F.bp
end
section
variable {B:Bs} {H H1 H2:Hp} {G G1:Addr→Prop} {σ σ1:St} {ρ ρ1 ρ2:En} {t:T}
theorem FI.prvAt (F:FI B H G σ ρ) {i:Nat} (e:(Qc ρ i).prv=some t):∃ a,σ[i]?=some (some (.ref a))∧G a∧OwnAt H G a t:=by
 have q:=F.slot i
 cases hs:Qc ρ i with
 | un=>rw [hs] at e;cases e
 | fz t=>rw [hs] at e;cases e
 | ow t=>rw [hs] at e q;cases e;exact q
 | ml t=>rw [hs] at e q;cases e;exact q
 | ro t=>rw [hs] at e q;cases e;exact q
 | pin a=>rw [hs] at e;cases e
 | fx t=>rw [hs] at e;cases e
theorem Qh6 {i:Nat} {s:Slot} (h:Qlo H G σ i s) (sm:Same (dls H G) (dls H1 G1)) (hk:∀ a o,(∃ t,s.prv=some t)→σ[i]?=some (some (.ref a))→H a=some o→H1 a=some o∧G1 a):Qlo H1 G1 σ i s:=by
 cases s with
 | un=>trivial
 | fz t=>obtain ⟨v,a,b⟩:=h;exact ⟨v,a,b.mono sm⟩
 | ow t=>obtain ⟨a,h1,h2,o,h5,h6⟩:=h;exact ⟨a,h1,(hk a _ ⟨_,rfl⟩ h1 h5).2,o,(hk a _ ⟨_,rfl⟩ h1 h5).1,h6.mono sm⟩
 | ml t=>obtain ⟨a,h1,h2,o,h5,h6⟩:=h;exact ⟨a,h1,(hk a _ ⟨_,rfl⟩ h1 h5).2,o,(hk a _ ⟨_,rfl⟩ h1 h5).1,h6.mono sm⟩
 | ro t=>obtain ⟨a,h1,h2,o,h5,h6⟩:=h;exact ⟨a,h1,(hk a _ ⟨_,rfl⟩ h1 h5).2,o,(hk a _ ⟨_,rfl⟩ h1 h5).1,h6.mono sm⟩
 | pin a=>exact h
 | fx t=>obtain ⟨v,o,a,e,b⟩:=h;exact ⟨v,o,a,sm _ _ e,b.mono sm⟩
theorem PrvAt.at (F:FI B H G σ ρ) {i:Nat} {a:Addr} (h:PrvAt σ ρ i a):G a∧∃ t,OwnAt H G a t:=by
 obtain ⟨⟨t,e⟩,s⟩:=h
 obtain ⟨b,sb,g,o⟩:=F.prvAt e
 rw [s] at sb
 cases sb
 exact ⟨g,t,o⟩
theorem OwA.prv {a:Addr} (h:OwA σ ρ a):∃ i,PrvAt σ ρ i a:=by
 obtain ⟨i,t,e,s⟩:=h
 exact ⟨i,⟨t,by rw [e];rfl⟩,s⟩
theorem MlA.prv {a:Addr} (h:MlA σ ρ a):∃ i,PrvAt σ ρ i a:=by
 obtain ⟨i,t,e,s⟩:=h
 exact ⟨i,⟨t,by rw [e];rfl⟩,s⟩
theorem Qvt {i:Nat} {a:Addr} (h:PrvAt σ ρ i a):OwA σ ρ a∨MlA σ ρ a∨PnA σ ρ i a:=by
 obtain ⟨⟨t,e⟩,s⟩:=h
 cases hs:Qc ρ i with
 | un=>rw [hs] at e;cases e
 | fz t=>rw [hs] at e;cases e
 | ow t=>exact .inl ⟨i,t,hs,s⟩
 | ml t=>exact .inr (.inl ⟨i,t,hs,s⟩)
 | ro t=>exact .inr (.inr ⟨⟨t,.inr (.inl hs)⟩,s⟩)
 | pin a=>rw [hs] at e;cases e
 | fx t=>rw [hs] at e;cases e
theorem FI.reG (F:FI B H G σ ρ) (sm:Same (dls H G) (dls H1 G1)) (s:Same H H1) (hk:∀ i a,PrvAt σ ρ i a→G1 a) (hp:Pen H1 G1) (gg:∀ b,B.G b→G1 b) (gn:∀ b,G1 b→B.G b∨B.H b=none):FI B H1 G1 σ ρ where
 len:=F.len
 slot:=fun i=>Qh6 (F.slot i) sm fun a o h1 h2 e=>⟨s _ _ e,hk i a ⟨h1,h2⟩⟩
 apart:=F.apart
 prv:=hp
 chg:=fun b o h1 h2 e=>s b o (F.chg b o h1 h2 e)
 keep:=fun b o e=>by
  obtain ⟨o1,e1⟩:=F.keep b o e
  exact ⟨o1,s _ _ e1⟩
 newO:=F.newO
 newM:=F.newM
 fix:=F.fix
 gg:=gg
 gn:=gn
 bp:=F.bp
theorem FI.lessG (F:FI B H G σ ρ) (Z:Addr→Prop) (hz:∀ b,Z b→B.H b=none∧∀ i,¬ PrvAt σ ρ i b):FI B H (fun b=>G b∧¬ Z b) σ ρ:=by
 refine F.reG (Qc6 fun b h=>h.1) (Same.refl H) (fun i a h=>⟨(PrvAt.at F h).1,fun z=>(hz a z).2 i h⟩) (fun b h=>F.prv b h.1) (fun b h=>⟨F.gg b h,fun z=>?_⟩) fun b h=>F.gn b h.1
 obtain ⟨o,e⟩:=F.bp b h
 rw [(hz b z).1] at e
 cases e
theorem FI.addG (F:FI B H G σ ρ) {l:Addr} {vs:HO} (hl:H l=none) (s:Same H H1) (e:H1 l=some vs) (hpn:Q6i vs=true):FI B H1 (fun b=>G b∨b=l) σ ρ:=by
 refine F.reG (fun b o eb=>?_) s (fun i a h=>.inl (PrvAt.at F h).1) (fun b hb=>?_) (fun b h=>.inl (F.gg b h)) (fun b h=>?_)
 ·obtain ⟨nb,eb⟩:=Qal eb
  rw [Qb4 fun z=>?_]
  ·exact s b o eb
  ·rcases z with z | z
   ·exact nb z
   ·rw [z,hl] at eb;cases eb
 ·rcases hb with hb | hb
  ·exact F.prv.mono s b hb
  ·exact ⟨vs,hb ▸ e,hpn⟩
 ·rcases h with h | h
  ·exact F.gn b h
  ·exact .inr (h ▸ F.free hl)
end
noncomputable def TmpR (H0:Hp) (H:Hp) (G:Addr→Prop) (σ:St) (ρ:En) (v:V) (t:T):Prop:=∃ a,v=.ref a∧H0 a=none∧G a∧(∀ i,¬ PrvAt σ ρ i a)∧OwnAt H G a t
noncomputable def PVR (H0:Hp) (H:Hp) (G:Addr→Prop) (σ:St) (ρ:En) (v:V):PV→Prop
 | .fz t=>Is (dls H G) v t
 | .ow t=>TmpR H0 H G σ ρ v t
 | .sl i=>σ[i]?=some (some v)
section
variable {H0 H:Hp} {G:Addr→Prop} {σ:St} {ρ:En}
theorem PVR.is {v:V} {t:T} (h:PVR H0 H G σ ρ v (.fz t)):Is (dls H G) v t:=h
theorem pvI {i:Int}:PVR H0 H G σ ρ (.int i) (.fz (.int i)):=show Is (dls H G) (.int i) (.int i) from Is.int
theorem pvB {i:Bool}:PVR H0 H G σ ρ (.bl i) (.fz (.bl i)):=show Is (dls H G) (.bl i) (.bl i) from Is.bl
theorem pvN:PVR H0 H G σ ρ .non (.fz .non):=show Is (dls H G) .non .non from Is.non
theorem pvS {i:Str}:PVR H0 H G σ ρ (.str i) (.fz (.str i)):=show Is (dls H G) (.str i) (.str i) from Is.str
end
noncomputable def Rdb (H:Hp) (G:Addr→Prop) (v:V) (t:T):Prop:=Is (dls H G) v t∨∃ a,v=.ref a∧OwnAt H G a t
theorem Rdb.is {H:Hp} {G:Addr→Prop} {v:V} {t:T} (h:Rdb H G v t):Is H v t:=by
 rcases h with h | ⟨a,rfl,o,e,q⟩
 ·exact h.mono (Qxt _ _)
 ·exact q.is e (Qxt _ _)
theorem Rdb.lst {H:Hp} {G:Addr→Prop} {v:V} {ts:List T} (h:Rdb H G v (.lst ts)):∃ a vs,v=.ref a∧ts.length≤100000∧H a=some (.lst vs)∧IsL (dls H G) vs ts:=by
 rcases h with h | ⟨a,rfl,q⟩
 ·obtain ⟨a,vs,rfl,e,r⟩:=h.lst_inv
  exact ⟨a,vs,rfl,h.lst_len,(Qal e).2,r⟩
 ·obtain ⟨vs,z,h,r⟩:=q.lst_inv
  exact ⟨a,vs,rfl,z,h,r⟩
theorem Rdb.tup {H:Hp} {G:Addr→Prop} {v:V} {ts:List T} (h:Rdb H G v (.tup ts)):Is (dls H G) v (.tup ts):=by
 rcases h with h | ⟨a,_,q⟩
 ·exact h
 ·exact q.no_tup.elim
theorem Rdb.int {H:Hp} {G:Addr→Prop} {v:V} {i:Int} (h:Rdb H G v (.int i)):v=.int i:=h.is.int_inv
theorem Rdb.bl {H:Hp} {G:Addr→Prop} {v:V} {b:Bool} (h:Rdb H G v (.bl b)):v=.bl b:=by
 have q:=h.is
 unfold Is at q
 exact q
theorem Rdb.str {H:Hp} {G:Addr→Prop} {v:V} {b:Str} (h:Rdb H G v (.str b)):v=.str b:=by
 have q:=h.is
 unfold Is at q
 exact q
theorem Rdb.non {H:Hp} {G:Addr→Prop} {v:V} (h:Rdb H G v .non):v=.non:=by
 have q:=h.is
 unfold Is at q
 exact q
section
variable {B:Bs} {H H0 H1 H2:Hp} {G G1 G2:Addr→Prop} {σ σ1:St} {ρ ρ1 ρ2:En} {v:V} {r:PV} {t:T}
theorem PVR.rdb (h:PVR H0 H G σ ρ1 v r) (F:FI B H G σ ρ) (e:cont ρ r=some t):Rdb H G v t:=by
 cases r with
 | fz t=>cases e;exact .inl h
 | ow t =>
  cases e
  obtain ⟨a,rfl,_,_,_,q⟩:=h
  exact .inr ⟨a,rfl,q⟩
 | sl i =>
  obtain ⟨a,s,g,q⟩:=F.prvAt e
  have h:σ[i]?=some (some v):=h
  rw [s] at h
  cases h
  exact .inr ⟨a,rfl,q⟩
theorem OwnAt.mono {a:Addr} (h:OwnAt H G a t) (s:Same (dls H G) (dls H1 G1)) (e:∀ o,H a=some o→H1 a=some o):OwnAt H1 G1 a t:=by
 obtain ⟨o,h3,h4⟩:=h
 exact ⟨o,e _ h3,h4.mono s⟩
theorem FI.nobody (F0:FI B H G σ ρ) (F:FI (Qa7 H G σ ρ) H1 G1 σ ρ1) {a:Addr} {o:HO} (e:H a=some o) (n:∀ i,¬ PrvAt σ ρ i a):∀ i,¬ PrvAt σ ρ1 i a:=fun i h=>by
 have h0:=h
 rcases Qvt h with h | h | h
 ·rcases F.newO a h with z | z
  ·rw [show H a=none from z] at e;cases e
  ·obtain ⟨j,z⟩:=OwA.prv z;exact n j z
 ·obtain ⟨j,z⟩:=MlA.prv (F.newM a h);exact n j z
 ·obtain ⟨⟨t,z⟩,s⟩:=F.fix i a h
  have g1:=(PrvAt.at F h0).1
  rcases z with z | z | z
  ·exact n i ⟨⟨t,by rw [z];rfl⟩,s⟩
  ·exact n i ⟨⟨t,by rw [z];rfl⟩,s⟩
  ·have q:=F0.slot i
   rw [z] at q
   obtain ⟨b,o',sb,eb,_⟩:=q
   rw [s] at sb
   cases sb
   obtain ⟨ng,hb⟩:=Qal eb
   rcases F.gn a g1 with z | z
   ·exact ng z
   ·rw [show H a=none from z] at hb;cases hb
theorem PVR.step (h:PVR H0 H G σ ρ v r) (F0:FI B H G σ ρ) (F:FI (Qa7 H G σ ρ) H1 G1 σ ρ1):PVR H0 H1 G1 σ ρ1 v r:=by
 cases r with
 | fz t=>exact Is.mono (F0.same F) h
 | sl i=>exact h
 | ow t =>
  obtain ⟨a,rfl,n,g,np,q⟩:=h
  have q':=q
  obtain ⟨ob,ea,_⟩:=q
  refine ⟨a,rfl,n,F.gg a g,F0.nobody F ea np,q'.mono (F0.same F) fun o e=>F.chg a o (fun z=>?_) (fun z=>?_) e⟩
  ·obtain ⟨j,z⟩:=OwA.prv z;exact np j z
  ·obtain ⟨j,z⟩:=MlA.prv z;exact np j z
theorem PVR.early (h:PVR H1 H2 G2 σ ρ2 v r) (F:FI (Qa7 H G σ ρ) H1 G1 σ ρ1):PVR H H2 G2 σ ρ2 v r:=by
 cases r with
 | fz t=>exact h
 | sl i=>exact h
 | ow t =>
  obtain ⟨a,rfl,n,g⟩:=h
  exact ⟨a,rfl,F.free n,g⟩
end
noncomputable def argR (H:Hp) (dx:Option Addr):List Int→Prop
 | []=>dx=none
 | [i]=>∃ d,dx=some d∧H d=some (.xd [("at",.int i)])
 | [i,j]=>∃ d,dx=some d∧H d=some (.xd [("many",.int i),("most",.int j)])
 | _=>False
noncomputable def Q1t (mg:Str→Option Value) (H:Hp) (x:Xn) (cls:Value) (dx:Option Addr):Prop:=∃ nm,Qbg[x.c]?=some nm∧cls=.ref (cad mg nm)∧argR H dx x.arg
structure Pr where
 cf:CF
 R:XR
 mg:Str→Option Value
noncomputable def Fin (p:Pr) (B:Bs) (σ:St) {α:Type} (o:Out α) (K:α→En→Prop):Prop:=match o with
 | .ok a ρ1=>K a ρ1
 | .xn x ρ1=>∀ cls dx H1 G1,FI B H1 G1 σ ρ1→Q1t p.mg H1 x cls dx→p.R cls dx σ H1
 | .no=>False
noncomputable def tE (p:Pr) (e:E):TE:=fun σ H Q=>∃ G ρ,FI (Qa7 H G σ ρ) H G σ ρ∧Fin p (Qa7 H G σ ρ) σ (evE p.cf e ρ) fun r ρ1=>∀ v H1 G1,FI (Qa7 H G σ ρ) H1 G1 σ ρ1→PVR H H1 G1 σ ρ1 v r→Q v H1
inductive PVRs (H0:Hp) (H:Hp) (G:Addr→Prop) (σ:St) (ρ:En):List V→List PV→Prop where
 | nil:PVRs H0 H G σ ρ [] []
 | cons {v r vs rs}:PVR H0 H G σ ρ v r→PVRs H0 H G σ ρ vs rs→PVRs H0 H G σ ρ (v::vs) (r::rs)
noncomputable def tA (p:Pr) (es:Es):TA:=fun σ H Q=>∃ G ρ,FI (Qa7 H G σ ρ) H G σ ρ∧Fin p (Qa7 H G σ ρ) σ (evA p.cf es ρ) fun rs ρ1=>∀ vs H1 G1,FI (Qa7 H G σ ρ) H1 G1 σ ρ1→PVRs H H1 G1 σ ρ1 vs rs→Q vs H1
noncomputable def tT (p:Pr) (e:E):TT:=fun σ H Q=>∃ G ρ,FI (Qa7 H G σ ρ) H G σ ρ∧Fin p (Qa7 H G σ ρ) σ (Qam (evE p.cf e ρ)) fun b ρ1=>∀ H1 G1,FI (Qa7 H G σ ρ) H1 G1 σ ρ1→Q b H1
section
variable {p:Pr} {B:Bs} {H H0 H1 H2:Hp} {G G1:Addr→Prop} {σ:St} {ρ ρ1 ρ2:En} {α β:Type}
theorem Fin.bind {o:Out α} {k:α→En→Out β} {K:β→En→Prop} (h:Fin p B σ (o.bind k) K):Fin p B σ o fun a ρ1=>Fin p B σ (k a ρ1) K:=by
 cases o with
 | ok a ρ1=>exact h
 | xn x ρ1=>exact h
 | no=>exact h
theorem Fin.imp {o:Out α} {K K':α→En→Prop} (h:Fin p B σ o K) (q:∀ a ρ1,K a ρ1→K' a ρ1):Fin p B σ o K':=by
 cases o with
 | ok a ρ1=>exact q _ _ h
 | xn x ρ1=>exact h
 | no=>exact h
theorem Fin.rebase {o:Out α} {K K':α→En→Prop} (F:FI B H1 G σ ρ1) (h:Fin p B σ o K) (q:∀ a ρ2,K a ρ2→K' a ρ2):Fin p (Qa7 H1 G σ ρ1) σ o K':=by
 cases o with
 | ok a ρ1=>exact q _ _ h
 | xn x ρ1=>exact fun cls dx H2 G2 F2=>h cls dx H2 G2 (F.trans F2)
 | no=>exact h
theorem Qp9 {e:E} {Q:VK} {K:PV→En→Prop} (F:FI B H1 G σ ρ1) (h:Fin p B σ (evE p.cf e ρ1) K) (q:∀ r ρ2 v H2 G2,K r ρ2→FI B H2 G2 σ ρ2→FI (Qa7 H1 G σ ρ1) H2 G2 σ ρ2→PVR H1 H2 G2 σ ρ2 v r→Q v H2):tE p e σ H1 Q :=
 ⟨G,ρ1,F.self,h.rebase F fun r ρ2 k v H2 G2 F2 pv=>q r ρ2 v H2 G2 k (F.trans F2) F2 pv⟩
theorem Qyd {es:Es} {Q:List V→Hp→Prop} {K:List PV→En→Prop} (F:FI B H1 G σ ρ1) (h:Fin p B σ (evA p.cf es ρ1) K) (q:∀ r ρ2 v H2 G2,K r ρ2→FI B H2 G2 σ ρ2→FI (Qa7 H1 G σ ρ1) H2 G2 σ ρ2→PVRs H1 H2 G2 σ ρ2 v r→Q v H2):tA p es σ H1 Q :=
 ⟨G,ρ1,F.self,h.rebase F fun r ρ2 k v H2 G2 F2 pv=>q r ρ2 v H2 G2 k (F.trans F2) F2 pv⟩
theorem Qye {e:E} {Q:Bool→Hp→Prop} {K:Bool→En→Prop} (F:FI B H1 G σ ρ1) (h:Fin p B σ (Qam (evE p.cf e ρ1)) K) (q:∀ b ρ2 H2 G2,K b ρ2→FI B H2 G2 σ ρ2→FI (Qa7 H1 G σ ρ1) H2 G2 σ ρ2→Q b H2):tT p e σ H1 Q :=
 ⟨G,ρ1,F.self,h.rebase F fun r ρ2 k H2 G2 F2=>q r ρ2 H2 G2 k (F.trans F2) F2⟩
theorem tE2 {a b:E} {f:PV→PV→En→Out β} {K:β→En→Prop} {Z:V→V→Hp→Prop} (F:FI (Qa7 H G σ ρ) H G σ ρ) (h:Fin p (Qa7 H G σ ρ) σ ((evE p.cf a ρ).bind fun ra ρ1=>(evE p.cf b ρ1).bind fun rb ρ2=>f ra rb ρ2) K)
  (q:∀ ra rb ρ2 x y H2 G2,FI (Qa7 H G σ ρ) H2 G2 σ ρ2→PVR H H2 G2 σ ρ2 x ra→PVR H H2 G2 σ ρ2 y rb→Fin p (Qa7 H G σ ρ) σ (f ra rb ρ2) K→Z x y H2):tE p a σ H fun x H1=>tE p b σ H1 fun y H2=>Z x y H2:=by
 refine ⟨G,ρ,F,h.bind.imp fun ra ρ1 h1 x H1 G1 F1 r1=>?_⟩
 refine Qp9 F1 h1.bind fun rb ρ2 y H2 G2 h2 F2 F2' r2=>?_
 exact q ra rb ρ2 x y H2 G2 F2 (r1.step F1 F2') (r2.early F1) h2
theorem Qqa {o:Out PV} {K:Bool→En→Prop} (h:Fin p B σ (Qam o) K):Fin p B σ o fun r ρ1=>∃ b,r=.fz (.bl b)∧K b ρ1:=by
 cases o with
 | ok r ρ1 =>
  cases r with
  | fz t=>cases t <;> first | exact ⟨_,rfl,h⟩ | exact False.elim h
  | ow t=>exact False.elim h
  | sl i=>exact False.elim h
 | xn x ρ1=>exact h
 | no=>exact h
end
theorem QE.weak {X:Cx} {e:Expr} {t t':TE} (h:QE X e t) (q:∀ σ H Q,t' σ H Q→t σ H Q):QE X e t':=⟨h.h.weak q⟩
theorem QA.weak {X:Cx} {e:List Expr} {t t':TA} (h:QA X e t) (q:∀ σ H Q,t' σ H Q→t σ H Q):QA X e t':=⟨h.h.weak q⟩
theorem QT.weak {X:Cx} {e:Expr} {t t':TT} (h:QT X e t) (q:∀ σ H Q,t' σ H Q→t σ H Q):QT X e t':=⟨fun pins s σ H Q I z=>h.h pins s σ H Q I (q _ _ _ z)⟩
theorem QW.weak {X:Cx} {e:Expr} {t t':TT} (h:QW X e t) (q:∀ σ H Q,t' σ H Q→t σ H Q):QW X e t':=⟨fun wh pins s σ H Q I z=>h.h wh pins s σ H Q I (q _ _ _ z)⟩
section
variable {X:Cx} {p:Pr} {e a b:Expr} {es:List Expr} {e' a' b' c':E} {es':Es} {pos p1 p2 p3:Pos} {x:Str}
theorem Qaat {i:Nat} (hN:X.N[i]?=some x) (hv:Vis X.env.scope x) (hd:(x==("__debug__" : Str))=false) (hcd:(x==("__classdict__" : Str))=false):QE X (.Name x pos) (tE p (.var i)) :=
 (Qcm i hN hv hd hcd).weak fun σ H Q ⟨G,ρ,F,h⟩=>by
  have q:=F.slot i
  unfold evE at h
  cases hs:Qc ρ i with
  | un=>rw [hs] at h;exact False.elim h
  | pin _=>rw [hs] at h;exact False.elim h
  | fx t=>rw [hs] at h q;obtain ⟨v,o,e,_,r⟩:=q;exact ⟨_,e,h _ H G F r⟩
  | fz t=>rw [hs] at h q;obtain ⟨v,e,r⟩:=q;exact ⟨v,e,h v H G F r⟩
  | ow t=>rw [hs] at h q;obtain ⟨a,e,_⟩:=q;exact ⟨_,e,h _ H G F e⟩
  | ml t=>rw [hs] at h q;obtain ⟨a,e,_⟩:=q;exact ⟨_,e,h _ H G F e⟩
  | ro t=>rw [hs] at h q;obtain ⟨a,e,_⟩:=q;exact ⟨_,e,h _ H G F e⟩
theorem Qh {i j}:QE X (.Constant (.int i) j pos) (tE p (.int i)):=Qlf.weak fun σ H Q ⟨G,ρ,F,h⟩=>by unfold evE at h;exact h _ H G F pvI
theorem Qqb {i j}:QE X (.Constant (.bool i) j pos) (tE p (.bl i)):=Qxk.weak fun σ H Q ⟨G,ρ,F,h⟩=>by unfold evE at h;exact h _ H G F pvB
theorem Qis {j}:QE X (.Constant .none j pos) (tE p .non):=Q3t.weak fun σ H Q ⟨G,ρ,F,h⟩=>by unfold evE at h;exact h _ H G F pvN
theorem Qka {i j}:QE X (.Constant (.str i) j pos) (tE p (.str i)):=Q3u.weak fun σ H Q ⟨G,ρ,F,h⟩=>by unfold evE at h;exact h _ H G F pvS
theorem Q62 {i:Int} (h:∃ u,X.mg x=some u∧RelV (.int i) u) (hg:Gl X x) (hd:(x==("__debug__" : Str))=false):QE X (.Name x pos) (tE p (.int i)) :=
 (Q57 h hg hd).weak fun σ H Q ⟨G,ρ,F,h⟩=>by unfold evE at h;exact h _ H G F pvI
theorem Qg:QA X [] (tA p .nil):=Qbk.weak fun σ H Q ⟨G,ρ,F,h⟩=>by unfold evA at h;exact h [] H G F .nil
theorem PVRs.early {H H1 H2:Hp} {G G1 G2:Addr→Prop} {σ:St} {ρ ρ1 ρ2:En} {vs:List V} {rs:List PV} (h:PVRs H1 H2 G2 σ ρ2 vs rs) (F:FI (Qa7 H G σ ρ) H1 G1 σ ρ1):PVRs H H2 G2 σ ρ2 vs rs:=by
 induction h with
 | nil=>exact .nil
 | cons a _ ih=>exact .cons (a.early F) ih
theorem Q63 (ha:QE X e (tE p e')) (hr:QA X es (tA p es')) (hs:Qae e=true):QA X (e::es) (tA p (.cons e' es')) :=
 (Q5 ha hr hs).weak fun σ H Q ⟨G,ρ,F,h⟩=>by
  unfold evA at h
  refine ⟨G,ρ,F,h.bind.imp fun r ρ1 h1 v H1 G1 F1 r1=>?_⟩
  refine Qyd F1 h1.bind fun rs ρ2 vs H2 G2 h2 F2 F2' r2=>?_
  exact h2 (v::vs) H2 G2 F2 (.cons (r1.step F1 F2') (r2.early F1))
noncomputable def Qlp:List V→List PV→Addr→Prop
 | v::vs,.ow _::rs,b=>v=.ref b∨Qlp vs rs b
 | _::vs,_::rs,b=>Qlp vs rs b
 | _,_,_=>False
theorem PVRs.tmp {H0 H:Hp} {G:Addr→Prop} {σ:St} {ρ:En} {vs:List V} {rs:List PV} (h:PVRs H0 H G σ ρ vs rs) {b:Addr} (z:Qlp vs rs b):H0 b=none∧∀ i,¬ PrvAt σ ρ i b:=by
 induction h with
 | nil=>exact False.elim z
 | cons a _ ih =>
  rename_i v r vs rs _
  cases r with
  | fz t=>exact ih z
  | sl i=>exact ih z
  | ow t =>
   rcases z with z | z
   ·obtain ⟨c,e,n,_,np,_⟩:=a
    rw [z] at e
    cases e
    exact ⟨n,np⟩
   ·exact ih z
theorem PVRs.frz {H0 H:Hp} {G G':Addr→Prop} {σ:St} {ρ:En} {vs:List V} {rs:List PV} (h:PVRs H0 H G σ ρ vs rs) (s:∀ b,G' b→G b) (n:∀ b,Qlp vs rs b→¬ G' b):∀ {ts:List T},Qc3 rs=some ts→IsL (dls H G') vs ts:=by
 induction h with
 | nil=>intro ts e;cases e;exact .nil
 | cons a _ ih =>
  intro ts e
  rename_i v r vs rs _
  unfold Qc3 at e
  cases h1:L2.frz r with
  | none=>rw [h1] at e;cases e
  | some t =>
   cases h2:Qc3 rs with
   | none=>rw [h1,h2] at e;cases e
   | some us =>
    rw [h1,h2] at e
    cases e
    cases r with
    | sl i=>cases h1
    | fz t' =>
     cases h1
     exact .cons (Is.mono (Qc6 s) a) (ih (fun b z=>n b z) h2)
    | ow t' =>
     cases h1
     obtain ⟨c,rfl,_,_,_,ob,ec,q⟩:=a
     exact .cons (q.is (by rw [Qb4 (n c (.inl rfl))];exact ec) (Qc6 s)) (ih (fun b z=>n b (.inr z)) h2)
theorem PVRs.lay {B:Bs} {H:Hp} {G:Addr→Prop} {σ:St} {ρ:En} {vs:List V} {rs:List PV} {ts:List T} (h:PVRs B.H H G σ ρ vs rs) (F:FI B H G σ ρ) (e:Qc3 rs=some ts):∃ G',FI B H G' σ ρ∧IsL (dls H G') vs ts∧∀ b,G' b→G b :=
 ⟨_,F.lessG (Qlp vs rs) fun b z=>h.tmp z,h.frz (fun b z=>z.1) (fun b z y=>y.2 z) e,fun b z=>z.1⟩
theorem PVR.lay {B:Bs} {H:Hp} {G:Addr→Prop} {σ:St} {ρ:En} {v:V} {r:PV} {t:T} (h:PVR B.H H G σ ρ v r) (F:FI B H G σ ρ) (e:L2.frz r=some t):∃ G',FI B H G' σ ρ∧Is (dls H G') v t∧∀ b,G' b→G b:=by
 obtain ⟨G',F',i,s⟩:=PVRs.lay (.cons h .nil) F (ts:=[t]) (by unfold Qc3;rw [e];rfl)
 obtain ⟨v',w,e,a,_⟩:=i.cons_inv
 cases e
 exact ⟨G',F',a,s⟩
theorem Qac {x1} (h:QA X es (tA p es')):QE X (.Tuple es x1 pos) (tE p (.tup es')) :=
 (Q3w h).weak fun σ H Q ⟨G,ρ,F,h⟩=>by
  unfold evE at h
  refine ⟨G,ρ,F,h.bind.imp fun rs ρ1 h1 vs H1 G1 F1 r1=>?_⟩
  cases e:Qc3 rs with
  | none=>rw [e] at h1;exact False.elim h1
  | some ts =>
   rw [e] at h1
   by_cases z:ts.length≤100000
   ·simp only [if_pos z] at h1
    obtain ⟨G',F',r,_⟩:=PVRs.lay (B:=Qa7 H G σ ρ) r1 F1 e
    refine Q6k F'.prv r z fun y H2 s2 i2=>h1 y H2 G' (F'.grow s2) i2
   ·simp only [if_neg z] at h1
    exact False.elim h1
theorem Qyf {B:Bs} {H H1:Hp} {G:Addr→Prop} {σ:St} {ρ:En} {l:Addr} {ob:HO} {t:T} (F:FI B H G σ ρ) (hl:H l=none) (s:Same H H1) (e:H1 l=some ob) (r:OwnO (dls H G) t ob) :
  FI B H1 (fun b=>G b∨b=l) σ ρ∧PVR B.H H1 (fun b=>G b∨b=l) σ ρ (.ref l) (.ow t):=by
 refine ⟨F.addG hl s e r.pen,l,rfl,F.free hl,.inr rfl,fun i h=>?_,ob,e,r.mono fun b o eb=>?_⟩
 ·obtain ⟨_,t,o,ea,_⟩:=PrvAt.at F h
  rw [hl] at ea
  cases ea
 ·obtain ⟨nb,eb⟩:=Qal eb
  rw [Qb4 fun z=>?_]
  ·exact s b o eb
  ·rcases z with z | z
   ·exact nb z
   ·rw [z,hl] at eb;cases eb
theorem Qg8 {B:Bs} {H H1:Hp} {G:Addr→Prop} {σ:St} {ρ:En} {l:Addr} {vs:List V} {ts:List T} (F:FI B H G σ ρ) (hl:H l=none) (s:Same H H1) (e:H1 l=some (.lst vs)) (r:IsL (dls H G) vs ts) (z:ts.length≤100000) :
  FI B H1 (fun b=>G b∨b=l) σ ρ∧PVR B.H H1 (fun b=>G b∨b=l) σ ρ (.ref l) (.ow (.lst ts)):=Qyf F hl s e ⟨z,r⟩
theorem Qgk (h:QA X es (tA p es')):QE X (.List es pos) (tE p (.lst es')) :=
 (Qpz h).weak fun σ H Q ⟨G,ρ,F,h⟩=>by
  unfold evE at h
  refine ⟨G,ρ,F,h.bind.imp fun rs ρ1 h1 vs H1 G1 F1 r1=>?_⟩
  cases e:Qc3 rs with
  | none=>rw [e] at h1;exact False.elim h1
  | some ts =>
   rw [e] at h1
   by_cases z:ts.length≤100000
   ·simp only [if_pos z] at h1
    obtain ⟨G',F',r,_⟩:=PVRs.lay (B:=Qa7 H G σ ρ) r1 F1 e
    refine Q6l F'.prv r z fun l H2 s2 n2 e2 i2=>?_
    obtain ⟨F2,r2⟩:=Qg8 F' n2 s2 e2 r z
    exact h1 _ H2 _ F2 r2
   ·simp only [if_neg z] at h1
    exact False.elim h1
theorem Qto {B:Bs} {σ:St} {ρ:En} {α:Type} {o:Option α} {K:α→En→Prop} (h:Fin p B σ (.opt o ρ) K):∃ a,o=some a∧K a ρ:=by
 cases o with
 | none=>exact False.elim h
 | some a=>exact ⟨a,rfl,h⟩
theorem Qyg {B:Bs} {σ:St} {ρ:En} {α:Type} {ra rb:PV} {f:T→T→Out α} {K:α→En→Prop} (h:Fin p B σ (match cont ρ ra,cont ρ rb with | some x,some y=>f x y | _,_=>.no) K):∃ x y,cont ρ ra=some x∧cont ρ rb=some y∧Fin p B σ (f x y) K:=by
 cases h1:cont ρ ra with
 | none=>rw [h1] at h;exact False.elim h
 | some x =>
  cases h2:cont ρ rb with
  | none=>rw [h1,h2] at h;exact False.elim h
  | some y=>rw [h1,h2] at h;exact ⟨x,y,rfl,rfl,h⟩
noncomputable def Op2 (r:R2) (f:T→T→Option PV):Prop:=∀ (B:Bs) (H:Hp) (G:Addr→Prop) (σ:St) (ρ:En) (x y:V) (t u:T) (w:PV) (Q:VK),FI B H G σ ρ→Rdb H G x t→Rdb H G y u→f t u=some w→(∀ v H1 G1,FI B H1 G1 σ ρ→PVR B.H H1 G1 σ ρ v w→Q v H1)→r x y H Q
theorem Qnk {op:Operator} {r:R2} {o:BOp} (ho:QOp X (binaryOp op) r) (hs:Op2 r (opB o)) (ha:QE X a (tE p a')) (hb:QE X b (tE p b')):QE X (.BinOp a op b pos) (tE p (.bin o a' b')) :=
 (Q1h ho ha hb).weak fun σ H Q ⟨G,ρ,F,h⟩=>by
  unfold evE at h
  refine tE2 F h fun ra rb ρ2 x y H2 G2 F2 r1 r2 h2=>?_
  obtain ⟨t,u,c1,c2,h3⟩:=Qyg h2
  obtain ⟨w,e,k⟩:=Qto h3
  exact hs _ H2 G2 σ ρ2 x y t u w Q F2 (r1.rdb F2 c1) (r2.rdb F2 c2) e fun v H3 G3 F3 pv=>k v H3 G3 F3 pv
theorem Qe6 {t:T} {i:Int} (e:asI t=some i):t=.int i:=by
 cases t <;> first | (cases e;done) | skip
 cases e
 rfl
theorem Qkv {o:BOp} {t u:T} {w:PV} (e:opB o t u=some w) (hx:∀ t u,opX o t u=none):∃ i j,t=.int i∧u=.int j∧opN o i j=some w:=by
 unfold opB at e
 cases h1:asI t with
 | none=>rw [h1] at e;exact absurd e (by simp [hx])
 | some i =>
  cases h2:asI u with
  | none=>rw [h1,h2] at e;exact absurd e (by simp [hx])
  | some j=>rw [h1,h2] at e;exact ⟨i,j,Qe6 h1,Qe6 h2,e⟩
theorem Qtp {o:BOp} {t u:T} {w:PV} (e:opB o t u=some w):(∃ i j,t=.int i∧u=.int j∧opN o i j=some w)∨opX o t u=some w:=by
 unfold opB at e
 cases h1:asI t with
 | none=>rw [h1] at e;exact .inr e
 | some i =>
  cases h2:asI u with
  | none=>rw [h1,h2] at e;exact .inr e
  | some j=>rw [h1,h2] at e;exact .inl ⟨i,j,Qe6 h1,Qe6 h2,e⟩
theorem Q1u (K:PySem.W.Frag):Op2 (Qna K) (opB .add):=by
 intro B H G σ ρ x y t u w Q F hx hy e q
 rcases Qtp e with ⟨i,j,rfl,rfl,e⟩ | e1
 ·obtain rfl:=hx.int
  obtain rfl:=hy.int
  cases e
  exact .inl ⟨_,_,rfl,rfl,q _ H G F pvI⟩
 replace e:Q6u t u=some w:=e1
 clear e1
 unfold Q6u at e
 split at e
 ·rename_i ts us
  by_cases z:ts.length+us.length≤100000
  ·rw [if_pos z] at e;cases e
   exact Q6j F.prv hx.tup hy.tup z fun v H1 s1 i1=>q v H1 G (F.grow s1) i1
  ·rw [if_neg z] at e;cases e
 ·rename_i ts us
  by_cases z:ts.length+us.length≤100000
  ·rw [if_pos z] at e;cases e
   obtain ⟨a,vs,rfl,z1,ea,r1⟩:=hx.lst
   obtain ⟨b,ws,rfl,z2,eb,r2⟩:=hy.lst
   refine .inr (.inl ⟨a,b,vs,ws,rfl,rfl,ea,eb,Qcu (by rw [r1.length,r2.length];exact z),fun l hl=>?_⟩)
   obtain ⟨F2,r3⟩:=Qg8 F hl (Same.upd hl) Qp (r1.append r2) (by rw [List.length_append];exact z)
   exact q _ _ _ F2 r3
  ·rw [if_neg z] at e;cases e
 ·cases e
theorem Q1v:Op2 (rI0 fun i j=>.int (i-j)) (opB .sub):=by
 intro B H G σ ρ x y t u w Q F hx hy e q
 obtain ⟨i,j,rfl,rfl,e⟩:=Qkv e fun _ _=>rfl
 obtain rfl:=hx.int
 obtain rfl:=hy.int
 cases e
 exact ⟨_,_,rfl,rfl,q _ H G F pvI⟩
theorem Qqc {i:Int} (h:i.natAbs<2^250):Builtin.Int.intBits i≤2^20:=by
 have h1:Builtin.Int.intBits i≤250:=by
  unfold Builtin.Int.intBits
  split
  ·exact Nat.zero_le _
  ·rename_i hn
   have h0:i.natAbs≠0:=by
    intro z
    exact hn (by simpa using z)
   have h2:i.natAbs.log2<250:=(Nat.log2_lt h0).mpr h
   omega
 exact Nat.le_trans h1 (by decide)
theorem Qqd {i:Int} (h:i.natAbs.log2<9000):Builtin.Int.intBits i≤2^20:=by
 have h1:Builtin.Int.intBits i≤9000:=by
  unfold Builtin.Int.intBits
  split
  ·exact Nat.zero_le _
  ·omega
 exact Nat.le_trans h1 (by decide)
theorem Q1w {i j:Int} (h:Qby i j=true):IntMulOk i j:=by
 unfold Qby at h
 simp only [Bool.or_eq_true,Bool.and_eq_true,decide_eq_true_eq] at h
 rcases h with h | h | ⟨h1,h2⟩ | ⟨h1,h2⟩
 ·exact CMul.ok (.inl ⟨by omega,by omega⟩)
 ·exact CMul.ok (.inr ⟨by omega,by omega⟩)
 ·exact .of_bits (Qqc h1) (Qqc h2)
 ·exact .of_bits (Qqd h1) (Qqd h2)
noncomputable def Q39:R2:=fun x y H Q=>(rI (fun i j=>IntMulOk i j) fun i j=>.int (i*j)) x y H Q∨Q3p x y H Q
theorem Q64:QOp X (binaryOp .Mult) Q39:=⟨(opI fun _ _ _ _ _ _ _ hc q=>mul_int q hc).or uMul⟩
theorem Q1x:Op2 Q39 (opB .mul):=by
 intro B H G σ ρ x y t u w Q F hx hy e q
 rcases Qtp e with ⟨i,j,rfl,rfl,e⟩ | e1
 ·obtain rfl:=hx.int
  obtain rfl:=hy.int
  have e':(if Qby i j=true then some (PV.fz (.int (i*j))) else none)=some w:=e
  by_cases z:Qby i j=true
  ·rw [if_pos z] at e';cases e'
   exact .inl ⟨_,_,rfl,rfl,Q1w z,q _ H G F pvI⟩
  ·rw [if_neg z] at e';cases e'
 replace e:Q6v t (asI u)=some w:=e1
 clear e1
 unfold Q6v at e
 split at e
 ·rename_i ts k hk
  obtain rfl:=Qe6 hk
  obtain rfl:=hy.int
  by_cases z:ts.length*k.toNat≤100000∧1≤k∧k.natAbs≤100000∧ts≠[]
  ·rw [if_pos z] at e;cases e
   obtain ⟨a,vs,rfl,ha,r⟩:=hx.tup.tup_inv
   obtain ⟨z1,z2,z3,z4⟩:=z
   have hl:=r.length
   refine .inr (.inr (.inr ⟨a,k,vs,rfl,rfl,(Qal ha).2,fun e=>?_,z2,by omega,Qcu (by rw [hl];exact z1),fun l H1 s1 e1 _=>q _ H1 G (F.grow s1) (Qg6 (F.prv.mono s1) e1 ((r.flat k.toNat).mono (Qbl s1)) ?_)⟩))
   ·rw [e] at hl
    exact z4 (List.length_eq_zero_iff.mp hl.symm)
   ·rw [Qii,Nat.mul_comm];exact z1
  ·rw [if_neg z] at e;cases e
 ·rename_i ts k hk
  obtain rfl:=Qe6 hk
  obtain rfl:=hy.int
  by_cases z:ts.length*k.toNat≤100000∧1≤k∧k.natAbs≤100000
  ·rw [if_pos z] at e;cases e
   obtain ⟨a,vs,rfl,z1,ea,r1⟩:=hx.lst
   obtain ⟨z2,z3,z4⟩:=z
   refine .inr (.inr (.inl ⟨a,k,vs,rfl,rfl,ea,by omega,by omega,Qcu (by rw [r1.length];exact z2),fun l hl=>?_⟩))
   obtain ⟨F2,r3⟩:=Qg8 F hl (Same.upd hl) Qp (r1.flat k.toNat) (by rw [Qii,Nat.mul_comm];exact z2)
   exact q _ _ _ F2 r3
  ·rw [if_neg z] at e;cases e
 ·cases e
noncomputable def CDvF (i j:Int):Prop:=j≠0∧j.natAbs<2^250
theorem Q65:QOp X (binaryOp .FloorDiv) (rI CDvF fun i j=>.int (i.fdiv j)):=⟨opI fun i j _ _ _ _ _ hc q=>floordiv_int hc.1 q (.inl (PyProof.noPylong_of_log2 (by
 have h1:j.natAbs≠0:=by have:=hc.1;omega
 have h2:j.natAbs.log2<250:=(Nat.log2_lt h1).mpr hc.2
 omega)))⟩
theorem Q66:QOp X (binaryOp .Mod) (rI (fun _ j=>j≠0) fun i j=>.int (i.fmod j)):=⟨Q0s⟩
theorem Q1y:Op2 (rI CDvF fun i j=>.int (i.fdiv j)) (opB .fdv):=by
 intro B H G σ ρ x y t u w Q F hx hy e q
 obtain ⟨i,j,rfl,rfl,e⟩:=Qkv e fun _ _=>rfl
 obtain rfl:=hx.int
 obtain rfl:=hy.int
 have e':(if 0<j∧j.natAbs<2^64 then some (PV.fz (.int (i / j))) else if j≠0∧j.natAbs<2^250 then some (.fz (.int (i.fdiv j))) else none)=some w:=e
 by_cases z:0<j∧j.natAbs<2^64
 ·rw [if_pos z] at e';cases e'
  refine ⟨_,_,rfl,rfl,⟨by omega,Nat.lt_trans z.2 (by decide)⟩,?_⟩
  show Q (.int (i.fdiv j)) H
  rw [Int.fdiv_eq_ediv_of_nonneg i (by omega)]
  exact q _ H G F pvI
 ·rw [if_neg z] at e'
  by_cases z2:j≠0∧j.natAbs<2^250
  ·rw [if_pos z2] at e';cases e'
   exact ⟨_,_,rfl,rfl,z2,q _ H G F pvI⟩
  ·rw [if_neg z2] at e';cases e'
theorem Q1z:Op2 (rI (fun _ j=>j≠0) fun i j=>.int (i.fmod j)) (opB .mod):=by
 intro B H G σ ρ x y t u w Q F hx hy e q
 obtain ⟨i,j,rfl,rfl,e⟩:=Qkv e fun _ _=>rfl
 obtain rfl:=hx.int
 obtain rfl:=hy.int
 have e':(if 0<j then some (PV.fz (.int (i%j))) else if j<0 then some (.fz (.int (i.fmod j))) else none)=some w:=e
 by_cases z:0<j
 ·rw [if_pos z] at e';cases e'
  refine ⟨_,_,rfl,rfl,by omega,?_⟩
  show Q (.int (i.fmod j)) H
  rw [Int.fmod_eq_emod_of_nonneg i (by omega)]
  exact q _ H G F pvI
 ·rw [if_neg z] at e'
  by_cases z2:j<0
  ·rw [if_pos z2] at e';cases e'
   exact ⟨_,_,rfl,rfl,by omega,q _ H G F pvI⟩
  ·rw [if_neg z2] at e';cases e'
theorem Q10:Op2 (rI Q5i fun i j=>.int (i^j.toNat)) (opB .pow):=by
 intro B H G σ ρ x y t u w Q F hx hy e q
 obtain ⟨i,j,rfl,rfl,e⟩:=Qkv e fun _ _=>rfl
 obtain rfl:=hx.int
 obtain rfl:=hy.int
 have e':(if 0≤j∧j.natAbs≤1000000∧i.natAbs<2^64 then some (PV.fz (.int (i^j.toNat))) else none)=some w:=e
 by_cases z:0≤j∧j.natAbs≤1000000∧i.natAbs<2^64
 ·rw [if_pos z] at e';cases e'
  exact ⟨_,_,rfl,rfl,⟨z.1,by omega,z.2.2⟩,q _ H G F pvI⟩
 ·rw [if_neg z] at e';cases e'
theorem Qhv (ha:QE X a (tE p a')):QE X (.UnaryOp .USub a pos) (tE p (.neg a')) :=
 (Q9g Q3y ha).weak fun σ H Q ⟨G,ρ,F,h⟩=>by
  unfold evE at h
  refine ⟨G,ρ,F,h.bind.imp fun r ρ1 h1 v H1 G1 F1 r1=>?_⟩
  cases r with
  | fz t =>
   cases t <;> first | exact False.elim h1 | skip
   obtain rfl:=r1.is.int_inv
   exact ⟨_,rfl,h1 _ H1 G1 F1 pvI⟩
  | ow t=>exact False.elim h1
  | sl i=>exact False.elim h1
theorem PVR.bl {H0 H:Hp} {G:Addr→Prop} {σ:St} {ρ:En} {v:V} {b:Bool} (h:PVR H0 H G σ ρ v (.fz (.bl b))):v=.bl b:=by
 have q:=h.is
 unfold Is at q
 exact q
theorem Qtq {Q:Bool→Hp→Prop} {σ:St} {H:Hp} (h:tT p e' σ H Q):tE p e' σ H fun x H1=>∃ c,x=.bl c∧Q c H1:=by
 obtain ⟨G,ρ,F,h⟩:=h
 refine ⟨G,ρ,F,(Qqa h).imp ?_⟩
 rintro r ρ1 ⟨b,rfl,k⟩ v H1 G1 F1 r1
 exact ⟨b,r1.bl,k H1 G1 F1⟩
theorem Q4a (ha:QE X a (tE p a')):QE X (.UnaryOp .Not a pos) (tE p (.not a')) :=
 (Q9h ha).weak fun σ H Q ⟨G,ρ,F,h⟩=>by
  unfold evE at h
  exact Qtq (Q:=fun c H1=>Q (.bl (!c)) H1) ⟨G,ρ,F,h.bind.imp fun b ρ1 k H1 G1 F1=>k _ H1 G1 F1 pvB⟩
theorem Qyh {rest:List Expr} (ha:QE X a (tE p a')) (hb:QE X (.BoolOp .And (b::rest) pos) (tE p b')):QE X (.BoolOp .And (a::b::rest) pos) (tE p (.and a' b')) :=
 (Q9j ha hb).weak fun σ H Q ⟨G,ρ,F,h⟩=>by
  unfold evE at h
  refine Qtq (Q:=fun c H1=>if c=true then tE p b' σ H1 Q else Q (.bl false) H1) ⟨G,ρ,F,h.bind.imp fun c ρ1 k H1 G1 F1=>?_⟩
  cases c with
  | false=>exact k _ H1 G1 F1 pvB
  | true =>
   show tE p b' σ H1 Q
   refine Qp9 F1 (Qqa k.bind) ?_
   rintro r ρ2 v H2 G2 ⟨d,rfl,k2⟩ F2 F2' r2
   exact k2 v H2 G2 F2 r2
theorem Qyi {op} (ha:QE X a (tE p a')):QE X (.BoolOp op [a] pos) (tE p a'):=Q9i ha
theorem Qaav {c:Expr} (hc:QT X c (tT p c')) (ha:QE X a (tE p a')) (hb:QE X b (tE p b')):QE X (.IfExp c a b pos) (tE p (.ite c' a' b')) :=
 (q_if hc ha hb).weak fun σ H Q ⟨G,ρ,F,h⟩=>by
  unfold evE at h
  refine ⟨G,ρ,F,h.bind.imp fun k ρ1 h1 H1 G1 F1=>?_⟩
  cases k with
  | true=>exact Qp9 F1 h1 fun r ρ2 v H2 G2 k2 F2 F2' r2=>k2 v H2 G2 F2 (r2.early F1)
  | false=>exact Qp9 F1 h1 fun r ρ2 v H2 G2 k2 F2 F2' r2=>k2 v H2 G2 F2 (r2.early F1)
theorem Qaaw (ha:QE X e (tE p e')) (he:∀ whole,isTrue e X.env whole=(do let v ← whole;standAt e.pos;holding [v] (truthy v))):QT X e (tT p e'):=(Qxl ha he).weak fun σ H Q h=>Qtq h
theorem Qhw (ha:QT X a (tT p a')):QT X (.UnaryOp .Not a pos) (tT p (.not a')) :=
 (Qxm ha).weak fun σ H Q ⟨G,ρ,F,h⟩=>by
  unfold evE at h
  refine ⟨G,ρ,F,?_⟩
  cases e:Qam (evE p.cf a' ρ) with
  | ok b ρ1=>rw [e] at h;exact h
  | xn x ρ1=>rw [e] at h;exact h
  | no=>rw [e] at h;exact h
theorem Q4b {rest:List Expr} (ha:QT X a (tT p a')) (hb:QW X (.BoolOp .And (b::rest) pos) (tT p b')):QW X (.BoolOp .And (a::b::rest) pos) (tT p (.and a' b')) :=
 (Q58 ha hb).weak fun σ H Q ⟨G,ρ,F,h⟩=>by
  unfold evE at h
  have h2:Fin p (Qa7 H G σ ρ) σ (Qam (evE p.cf a' ρ)) fun c ρ1=>Fin p (Qa7 H G σ ρ) σ (if c then Qam (evE p.cf b' ρ1) else .ok false ρ1) fun b ρ1=>∀ H1 G1,FI (Qa7 H G σ ρ) H1 G1 σ ρ1→Q b H1:=by
   cases e:Qam (evE p.cf a' ρ) with
   | ok b ρ1 =>
    rw [e] at h
    cases b with
    | false=>exact h
    | true =>
     show Fin _ _ _ (Qam (evE p.cf b' ρ1)) _
     cases e2:Qam (evE p.cf b' ρ1) with
     | ok b ρ2=>simp only [Out.bind,if_true,e2] at h;exact h
     | xn x ρ2=>simp only [Out.bind,if_true,e2] at h;exact h
     | no=>simp only [Out.bind,if_true,e2] at h;exact h
   | xn x ρ1=>rw [e] at h;exact h
   | no=>rw [e] at h;exact h
  refine ⟨G,ρ,F,h2.imp fun c ρ1 k H1 G1 F1=>?_⟩
  cases c with
  | false=>exact k H1 G1 F1
  | true=>exact Qye F1 k fun b ρ2 H2 G2 k2 F2 _=>k2 H2 G2 F2
theorem Qlq {rest:List Expr} (ha:QT X a (tT p a')) (hb:QW X (.BoolOp .Or (b::rest) pos) (tT p b')):QW X (.BoolOp .Or (a::b::rest) pos) (tT p (.or a' b')) :=
 (Q3v ha hb).weak fun σ H Q ⟨G,ρ,F,h⟩=>by
  unfold evE at h
  have h2:Fin p (Qa7 H G σ ρ) σ (Qam (evE p.cf a' ρ)) fun c ρ1=>Fin p (Qa7 H G σ ρ) σ (if c then .ok true ρ1 else Qam (evE p.cf b' ρ1)) fun b ρ1=>∀ H1 G1,FI (Qa7 H G σ ρ) H1 G1 σ ρ1→Q b H1:=by
   cases e:Qam (evE p.cf a' ρ) with
   | ok b ρ1 =>
    rw [e] at h
    cases b with
    | true=>exact h
    | false =>
     show Fin _ _ _ (Qam (evE p.cf b' ρ1)) _
     cases e2:Qam (evE p.cf b' ρ1) with
     | ok b ρ2=>simp only [Out.bind,e2] at h;exact h
     | xn x ρ2=>simp only [Out.bind,e2] at h;exact h
     | no=>simp only [Out.bind,e2] at h;exact h
   | xn x ρ1=>rw [e] at h;exact h
   | no=>rw [e] at h;exact h
  refine ⟨G,ρ,F,h2.imp fun c ρ1 k H1 G1 F1=>?_⟩
  cases c with
  | true=>exact k H1 G1 F1
  | false=>exact Qye F1 k fun b ρ2 H2 G2 k2 F2 _=>k2 H2 G2 F2
theorem Qit {op} (ha:QT X a (tT p a')):QW X (.BoolOp op [a] pos) (tT p a'):=by
 cases op with
 | And=>exact Q1i ha
 | Or=>exact Qxn ha
theorem t_w (h:QW X e (tT p e')):QT X e (tT p e'):=Q9l h
end
section
variable {X:Cx} {p:Pr} {e a b:Expr} {es:List Expr} {e' a' b' c':E} {es':Es} {pos p1 p2 p3:Pos} {x:Str}
noncomputable def Oc2 (r:R2) (f:T→T→Option Bool):Prop:=∀ (H:Hp) (G:Addr→Prop) (x y:V) (t u:T) (k:Bool) (Q:VK),Rdb H G x t→Rdb H G y u→f t u=some k→Q (.bl k) H→r x y H Q
theorem Qyj {r:R2} {o:COp} (hs:Oc2 r (opC o)) {σ:St} {H:Hp} {Q:VK} (h:tE p (.cmp o a' b') σ H Q):tOp r (tE p a') (tE p b') σ H Q:=by
 obtain ⟨G,ρ,F,h⟩:=h
 unfold evE at h
 refine tE2 F h fun ra rb ρ2 x y H2 G2 F2 r1 r2 h2=>?_
 obtain ⟨t,u,c1,c2,h3⟩:=Qyg h2
 cases e:opC o t u with
 | none=>rw [e] at h3;exact False.elim h3
 | some k =>
  rw [e] at h3
  exact hs H2 G2 x y t u k Q (r1.rdb F2 c1) (r2.rdb F2 c2) e (h3 _ H2 G2 F2 pvB)
theorem Q4c {op:CmpOp} {r:R2} {o:COp} (ho:QOp X (compareOp op) r) (hs:Oc2 r (opC o)) (ha:QE X a (tE p a')) (hb:QE X b (tE p b')) (hm:behindInMarks op b=false):QE X (.Compare a [op] [b] pos) (tE p (.cmp o a' b')) :=
 (Q9k ho ha hb hm).weak fun σ H Q h=>Qyj hs h
theorem Qlr {op:CmpOp} {r:R2} {o:COp} (ho:QOp X (compareOp op) r) (hs:Oc2 r (opC o)) (ha:QE X a (tE p a')) (hb:QE X b (tE p b')) (hm:behindInMarks op b=false):QT X (.Compare a [op] [b] pos) (tT p (.cmp o a' b')) :=
 (Qru ho ha hb hm).weak fun σ H Q h=>Qyj hs (Qtq h)
noncomputable def vOf:T→V
 | .non=>.non | .bl b=>.bl b | .int i=>.int i | .str x=>.str x | _=>.non
theorem Rdb.vOf {H:Hp} {G:Addr→Prop} {v:V} {t:T} (h:Rdb H G v t) (e:Qln t=true):v=vOf t:=by
 cases t with
 | non=>exact h.non
 | bl b=>exact h.bl
 | int i=>exact h.int
 | str x=>exact h.str
 | tup ts=>cases e
 | lst ts=>cases e
 | dct ks ts=>cases e
 | clo ks ts=>cases e
 | dtt ks ts=>cases e
theorem Qqe {t u:T} {k:Bool} (e:eqO t u=some k) (h1:Qln t=true) (h2:Qln u=true):Q5o (vOf t) (vOf u)=true∧decide (vOf t=vOf u)=k:=by
 cases t <;> first | (cases h1;done) | skip
 all_goals (cases u <;> first | (cases h2;done) | skip)
 all_goals (first | (cases e;done) | skip)
 all_goals (have e':=Option.some.inj e;subst e';refine ⟨rfl,?_⟩;simp [vOf])
theorem Qqf {t u:T} {k:Bool} (e:eqO t u=some k):(Qln t=true∧Qln u=true)∨(Qm 50 t=true∧Qm 50 u=true∧((∃ ts us,t=.tup ts∧u=.tup us)∨∃ ts us,t=.lst ts∧u=.lst us)∧k=eqT t u)∨(Q1n t u=true∧k=false):=by
 cases t <;> cases u <;> first | (cases e;done) | exact .inl ⟨rfl,rfl⟩ | exact .inr (.inr ⟨rfl,(Option.some.inj e).symm⟩) | skip
 ·rename_i ts us
  have e:(if Qm 50 (.tup ts)=true∧Qm 50 (.tup us)=true then some (eqT (.tup ts) (.tup us)) else none)=some k:=e
  by_cases z:Qm 50 (.tup ts)=true∧Qm 50 (.tup us)=true
  ·rw [if_pos z] at e
   exact .inr (.inl ⟨z.1,z.2,.inl ⟨_,_,rfl,rfl⟩,(Option.some.inj e).symm⟩)
  ·rw [if_neg z] at e;cases e
 ·rename_i ts us
  have e:(if Qm 50 (.lst ts)=true∧Qm 50 (.lst us)=true then some (eqT (.lst ts) (.lst us)) else none)=some k:=e
  by_cases z:Qm 50 (.lst ts)=true∧Qm 50 (.lst us)=true
  ·rw [if_pos z] at e
   exact .inr (.inl ⟨z.1,z.2,.inr ⟨_,_,rfl,rfl⟩,(Option.some.inj e).symm⟩)
  ·rw [if_neg z] at e;cases e
noncomputable def rEqU:R2:=fun x y H Q=>rEq x y H Q∨(Q1m false x y H Q∨Q1o false x y H Q)
noncomputable def rNeU:R2:=fun x y H Q=>rNe x y H Q∨(Q1m true x y H Q∨Q1o true x y H Q)
theorem Q4d (hu:X.A.units+64<cLine):QOp X (compareOp .Eq) rEqU:=⟨o_eq.h.or ((Q98 hu).h.or (Qaaa hu).h)⟩
theorem Qaaz (hu:X.A.units+64<cLine):QOp X (compareOp .NotEq) rNeU:=⟨Q9t.h.or ((Q99 hu).h.or (Qaab hu).h)⟩
theorem Qyk:Oc2 rEqU (opC .eq):=by
 intro H G x y t u k Q hx hy e q
 have e:eqO t u=some k:=e
 rcases Qqf e with ⟨h1,h2⟩ | ⟨h1,h2,h3,rfl⟩ | ⟨h1,rfl⟩
 ·obtain ⟨z1,z2⟩:=Qqe e h1 h2
  rw [hx.vOf h1,hy.vOf h2]
  exact .inl ⟨z1,by rw [z2];exact q⟩
 ·exact .inr (.inl ⟨t,u,hx.is,hy.is,h1,h2,h3,q⟩)
 ·exact .inr (.inr ⟨t,u,hx.is,hy.is,h1,q⟩)
theorem Q67:Oc2 rNeU (opC .ne):=by
 intro H G x y t u k Q hx hy e q
 have e:(eqO t u).map (!·)=some k:=e
 cases e0:eqO t u with
 | none=>rw [e0] at e;cases e
 | some k0 =>
  rw [e0] at e
  cases e
  rcases Qqf e0 with ⟨h1,h2⟩ | ⟨h1,h2,h3,rfl⟩ | ⟨h1,rfl⟩
  ·obtain ⟨z1,z2⟩:=Qqe e0 h1 h2
   rw [hx.vOf h1,hy.vOf h2]
   exact .inl ⟨z1,by rw [z2];exact q⟩
  ·exact .inr (.inl ⟨t,u,hx.is,hy.is,h1,h2,h3,q⟩)
  ·exact .inr (.inr ⟨t,u,hx.is,hy.is,h1,q⟩)
theorem Qls {f:Int→Int→Bool} {t u:T} {k:Bool} (e:Qvp f t u=some k):∃ i j,t=.int i∧u=.int j∧f i j=k:=by
 unfold Qvp at e
 cases h1:asI t with
 | none=>rw [h1] at e;cases e
 | some i =>
  cases h2:asI u with
  | none=>rw [h1,h2] at e;cases e
  | some j=>rw [h1,h2] at e;exact ⟨i,j,Qe6 h1,Qe6 h2,Option.some.inj e⟩
theorem Q68:Oc2 (rI0 fun i j=>.bl (decide (i<j))) (opC .lt):=by
 intro H G x y t u k Q hx hy e q
 obtain ⟨i,j,rfl,rfl,rfl⟩:=Qls e
 obtain rfl:=hx.int
 obtain rfl:=hy.int
 exact ⟨_,_,rfl,rfl,q⟩
theorem Q69:Oc2 (rI0 fun i j=>.bl (decide (j<i))) (opC .gt):=by
 intro H G x y t u k Q hx hy e q
 obtain ⟨i,j,rfl,rfl,rfl⟩:=Qls e
 obtain rfl:=hx.int
 obtain rfl:=hy.int
 exact ⟨_,_,rfl,rfl,q⟩
theorem Q7a:Oc2 (rI0 fun i j=>.bl (decide (j≤i))) (opC .ge):=by
 intro H G x y t u k Q hx hy e q
 obtain ⟨i,j,rfl,rfl,rfl⟩:=Qls e
 obtain rfl:=hx.int
 obtain rfl:=hy.int
 exact ⟨_,_,rfl,rfl,q⟩
theorem Qtr {H:Hp} {v:V} {t:T} (h:Is H v t):decide (v=.non)=Qer t:=by
 cases t with
 | non=>unfold Is at h;subst h;rfl
 | bl b=>unfold Is at h;subst h;rfl
 | int i=>unfold Is at h;subst h;rfl
 | str x=>unfold Is at h;subst h;rfl
 | tup ts=>obtain ⟨a,vs,rfl,_⟩:=h.tup_inv;rfl
 | lst ts=>obtain ⟨a,vs,rfl,_⟩:=h.lst_inv;rfl
 | dct ks ts=>unfold Is at h;obtain ⟨a,vs,rfl,_⟩:=h;rfl
 | clo ks ts=>unfold Is at h;obtain ⟨a,vs,l,rfl,_⟩:=h;rfl
 | dtt ks ts=>unfold Is at h;obtain ⟨_,a,vs,rfl,_⟩:=h;rfl
theorem Q11:Oc2 Q9v (opC .isn):=by
 intro H G x y t u k Q hx hy e q
 cases u <;> first | (cases e;done) | skip
 have e:some (Qer t)=some k:=e
 cases e
 exact ⟨hy.non,by rw [Qtr hx.is];exact q⟩
theorem Qyl:Oc2 Q3z (opC .isnn):=by
 intro H G x y t u k Q hx hy e q
 cases u <;> first | (cases e;done) | skip
 have e:some (!Qer t)=some k:=e
 cases e
 exact ⟨hy.non,by rw [Qtr hx.is];exact q⟩
theorem Qym {n:String} (h:Qnh n=true):n∈["int","bool","tuple","list","dict","str"]:=by
 unfold Qnh at h
 simp only [Bool.or_eq_true,beq_iff_eq] at h
 simp only [List.mem_cons,List.not_mem_nil,or_false]
 rcases h with ((((h | h) | h) | h) | h) | h <;> subst h <;> simp
theorem Qaa0 {n:String} {tn:Expr} (hm:X.mg "isinstance" = none) (hv:bootBuiltins "isinstance" = some (.builtin "isinstance")) (ha:QE X a (tE p a')) (ht:QE X tn (tC (.ty n))) (hg:Gl X "isinstance") (h1:Qae a=true) (h2:Qae tn=true):QE X (.Call (.Name "isinstance" p1) [a,tn] [] pos) (tE p (.isI a' n)) :=
 (Qip Q6e hm hv (Q5 ha (Q5 ht Qbk h2) h1) hg (by decide) (by decide) h1 (by rw [Qcl h2];rfl)).weak fun σ H Q ⟨G,ρ,F,h⟩=>by
  unfold evE at h
  refine ⟨G,ρ,F,h.bind.imp fun r ρ1 h1 v H1 G1 F1 r1=>?_⟩
  cases e:cont ρ1 r with
  | none=>rw [e] at h1;exact False.elim h1
  | some t =>
   rw [e] at h1
   by_cases z:(Qnh n && !Qio t)=true
   ·simp only [if_pos z] at h1
    rw [Bool.and_eq_true,Bool.not_eq_true'] at z
    exact ⟨v,n,t,rfl,(r1.rdb F1 e).is,z.2,Qym z.1,h1 _ H1 G1 F1 pvB⟩
   ·simp only [if_neg z] at h1
    exact False.elim h1
inductive Rdbs (H:Hp) (G:Addr→Prop):List V→List T→Prop where
 | nil:Rdbs H G [] []
 | cons {v t vs ts}:Rdb H G v t→Rdbs H G vs ts→Rdbs H G (v::vs) (t::ts)
theorem PVRs.rdbs {B:Bs} {H0 H:Hp} {G:Addr→Prop} {σ:St} {ρ:En} {vs:List V} {rs:List PV} (h:PVRs H0 H G σ ρ vs rs) (F:FI B H G σ ρ):∀ {ts:List T},Qan ρ rs=some ts→Rdbs H G vs ts:=by
 induction h with
 | nil=>intro ts e;cases e;exact .nil
 | cons a _ ih =>
  intro ts e
  rename_i v r vs rs _
  unfold Qan at e
  cases h1:cont ρ r with
  | none=>rw [h1] at e;cases e
  | some t =>
   cases h2:Qan ρ rs with
   | none=>rw [h1,h2] at e;cases e
   | some us =>
    rw [h1,h2] at e
    cases e
    exact .cons (a.rdb F h1) (ih h2)
noncomputable def Ob (r:List V→Hp→VK→Prop) (b:Bi):Prop:=∀ (B:Bs) (H:Hp) (G:Addr→Prop) (σ:St) (ρ:En) (vs:List V) (ts:List T) (w:PV) (Q:VK),FI B H G σ ρ→Rdbs H G vs ts→Qgn b ts=some w→(∀ v H1 G1,FI B H1 G1 σ ρ→PVR B.H H1 G1 σ ρ v w→Q v H1)→r vs H Q
theorem Q4e {r:List V→Hp→VK→Prop} {b:Bi} (hs:Ob r b) {σ:St} {H:Hp} {Q:VK} (h:tE p (.bi b es') σ H Q):tCB r (tA p es') σ H Q:=by
 obtain ⟨G,ρ,F,h⟩:=h
 unfold evE at h
 refine ⟨G,ρ,F,h.bind.imp fun rs ρ1 h1 vs H1 G1 F1 r1=>?_⟩
 cases e:Qan ρ1 rs with
 | none=>rw [e] at h1;exact False.elim h1
 | some ts =>
  rw [e] at h1
  obtain ⟨w,ew,k⟩:=Qto h1
  exact hs _ H1 G1 σ ρ1 vs ts w Q F1 (r1.rdbs F1 e) ew fun v H2 G2 F2 r2=>k v H2 G2 F2 r2
theorem Rdbs.one {H:Hp} {G:Addr→Prop} {vs:List V} {t:T} (h:Rdbs H G vs [t]):∃ v,vs=[v]∧Rdb H G v t:=by
 cases h with
 | cons a b=>cases b;exact ⟨_,rfl,a⟩
theorem Rdbs.two {H:Hp} {G:Addr→Prop} {vs:List V} {t u:T} (h:Rdbs H G vs [t,u]):∃ v w,vs=[v,w]∧Rdb H G v t∧Rdb H G w u:=by
 cases h with
 | cons a b =>
  cases b with
  | cons c d=>cases d;exact ⟨_,_,rfl,a,c⟩
theorem Qlt:∀ {ts:List T} {is:List Int},Qdi ts=some is→ts=is.map T.int
 | [],is,e=>by cases e;rfl
 | .int i::ts,is,e=>by
  unfold Qdi at e
  cases h:Qdi ts with
  | none=>rw [h] at e;cases e
  | some js=>rw [h] at e;cases e;rw [Qlt h];rfl
 | .non::_,_,e=>by cases e
 | .bl _::_,_,e=>by cases e
 | .str _::_,_,e=>by cases e
 | .tup _::_,_,e=>by cases e
 | .lst _::_,_,e=>by cases e
 | .dct _ _::_,_,e=>by cases e
 | .clo _ _::_,_,e=>by cases e
 | .dtt _ _::_,_,e=>by cases e
theorem Qqg {D:Hp}:∀ {ts:List T} {bs:List Bool} {vs:List V},Qki ts=some bs→IsL D vs ts→vs.all Qpv=true∧vs.all Qpu=bs.all id∧vs.any Qpu=bs.any id
 | [],bs,vs,e,r=>by cases e;rw [r.nil_inv];exact ⟨rfl,rfl,rfl⟩
 | t::ts,bs,vs,e,r=>by
  obtain ⟨v,w,rfl,a,q⟩:=r.cons_inv
  unfold Qki at e
  cases h1:truT t with
  | none=>rw [h1] at e;cases e
  | some b =>
   cases h2:Qki ts with
   | none=>rw [h1,h2] at e;cases e
   | some cs =>
    rw [h1,h2] at e
    cases e
    obtain ⟨q1,q2,q3⟩:=Qqg h2 q
    have hv:Qpv v=true∧Qpu v=b:=by
     cases t <;> first | (cases h1;done) | skip
     ·unfold Is at a;subst a;cases h1;exact ⟨rfl,rfl⟩
     ·obtain rfl:=a.int_inv;cases h1
      refine ⟨rfl,?_⟩
      rename_i i
      show (i != 0)=decide (i≠0)
      by_cases z:i=0 <;> simp [z]
    rw [List.all_cons,List.all_cons,List.any_cons,List.all_cons,List.any_cons,q1,q2,q3,hv.1,hv.2]
    exact ⟨rfl,rfl,rfl⟩
theorem Qc9 (K:PySem.W.Frag):Ob (Q54 K) .len:=by
 intro B H G σ ρ vs ts w Q F r e q
 match ts,e,r with
 | [.lst a],e,r =>
  cases e
  obtain ⟨v,rfl,h⟩:=r.one
  obtain ⟨l,ws,rfl,z,el,rl⟩:=h.lst
  exact ⟨l,ws,rfl,.inl (SqL.of el),by rw [rl.length];exact q _ H G F pvI⟩
 | [.tup a],e,r =>
  cases e
  obtain ⟨v,rfl,h⟩:=r.one
  obtain ⟨l,ws,rfl,el,rl⟩:=h.tup.tup_inv
  exact ⟨l,ws,rfl,.inr (SqT.of (Qal el).2),by rw [rl.length];exact q _ H G F pvI⟩
theorem Q7b:Ob Q9x .abs:=by
 intro B H G σ ρ vs ts w Q F r e q
 match ts,e,r with
 | [.int i],e,r =>
  cases e
  obtain ⟨v,rfl,h⟩:=r.one
  obtain rfl:=h.int
  exact ⟨i,rfl,q _ H G F pvI⟩
theorem Qr8 (K:PySem.W.Frag):Ob (Q55 K) .all:=by
 intro B H G σ ρ vs ts w Q F r e q
 match ts,e,r with
 | [.lst a],e,r =>
  obtain ⟨v,rfl,h⟩:=r.one
  obtain ⟨l,ws,rfl,z,el,rl⟩:=h.lst
  have e:(Qki a).map (fun bs=>PV.fz (.bl (bs.all id)))=some w:=e
  cases h1:Qki a with
  | none=>rw [h1] at e;cases e
  | some bs =>
   rw [h1] at e
   cases e
   obtain ⟨q1,q2,q3⟩:=Qqg h1 rl
   exact ⟨l,ws,rfl,SqL.of el,q1,by rw [q2];exact q _ H G F pvB⟩
theorem Qyn (K:PySem.W.Frag):Ob (Qxj K) .sum:=by
 intro B H G σ ρ vs ts w Q F r e q
 match ts,e,r with
 | [.lst a],e,r =>
  obtain ⟨v,rfl,h⟩:=r.one
  obtain ⟨l,ws,rfl,z,el,rl⟩:=h.lst
  have e:(Qdi a).map (fun is=>PV.fz (.int is.sum))=some w:=e
  cases h1:Qdi a with
  | none=>rw [h1] at e;cases e
  | some is =>
   rw [h1] at e
   cases e
   rw [Qlt h1] at rl
   rw [rl.ints_inv] at el
   exact ⟨l,is,rfl,SqL.of el,q _ H G F pvI⟩
theorem Qts:∀ (xs:List Int) (m:Int),m≤Qkj m xs∧(∀ a∈xs,a≤Qkj m xs)∧(Qkj m xs=m∨Qkj m xs∈xs)
 | [],m=>⟨Int.le_refl _,fun _ h=>(nomatch h),.inl rfl⟩
 | x::xs,m=>by
  unfold Qkj
  obtain ⟨h1,h2,h3⟩:=Qts xs (if m<x then x else m)
  have k1:m≤(if m<x then x else m):=by split <;> omega
  have k2:x≤(if m<x then x else m):=by split <;> omega
  refine ⟨by omega,fun a ha=>?_,?_⟩
  ·rcases List.mem_cons.mp ha with rfl | ha
   ·omega
   ·exact h2 a ha
  ·rcases h3 with h3 | h3
   ·rw [h3]
    split
    ·exact .inr List.mem_cons_self
    ·exact .inl rfl
   ·exact .inr (List.mem_cons_of_mem _ h3)
noncomputable def Q4f (K:PySem.W.Frag):List V→Hp→VK→Prop:=fun xs H Q=>Q31 xs H Q∨Qxi K xs H Q
theorem Qr9 (K:PySem.W.Frag) (hK:X.K=K) (hc:X.calm=true):QCl X (.builtin "max") (Q4f K):=⟨(Q6g hc).h.or (Q6f K hK hc).h⟩
theorem Qsa (K:PySem.W.Frag):Ob (Q4f K) .max:=by
 intro B H G σ ρ vs ts w Q F r e q
 match ts,e,r with
 | [.int i,.int j],e,r =>
  cases e
  obtain ⟨v,u,rfl,h1,h2⟩:=r.two
  obtain rfl:=h1.int
  obtain rfl:=h2.int
  exact .inl ⟨i,j,rfl,q _ H G F pvI⟩
 | [.lst a],e,r =>
  obtain ⟨v,rfl,h⟩:=r.one
  obtain ⟨l,ws,rfl,z,el,rl⟩:=h.lst
  have e:(match Qdi a with | some (x::xs)=>some (PV.fz (.int (Qkj x xs))) | _=>none)=some w:=e
  cases h1:Qdi a with
  | none=>rw [h1] at e;cases e
  | some is =>
   rw [h1] at e
   cases is with
   | nil=>cases e
   | cons i is =>
    cases e
    rw [Qlt h1] at rl
    rw [rl.ints_inv] at el
    obtain ⟨k1,k2,k3⟩:=Qts is i
    refine .inr ⟨l,i::is,rfl,SqL.of el,by simp,fun M hM hle=>?_⟩
    have e:M=Qkj i is:=by
     have a1:=hle (Qkj i is) (k3.elim (fun k3=>by rw [k3];exact List.mem_cons_self) fun k3=>List.mem_cons_of_mem _ k3)
     have a2:M≤Qkj i is:=by
      rcases List.mem_cons.mp hM with rfl | hM
      ·exact k1
      ·exact k2 M hM
     omega
    rw [e]
    exact q _ H G F pvI
theorem Q7c:Ob Q9z .dvm:=by
 intro B H G σ ρ vs ts w Q F r e q
 match ts,e,r with
 | [.int i,.int j],e,r =>
  have e:(if 0<j∧j.natAbs<2^64 then some (PV.fz (.tup [.int (i / j),.int (i%j)])) else none)=some w:=e
  by_cases z:0<j∧j.natAbs<2^64
  ·rw [if_pos z] at e;cases e
   obtain ⟨v,u,rfl,h1,h2⟩:=r.two
   obtain rfl:=h1.int
   obtain rfl:=h2.int
   refine ⟨i,j,rfl,⟨z.1,by omega⟩,fun l hl=>q _ _ G (F.grow (Same.upd hl)) ?_⟩
   exact Qg6 (F.prv.mono (Same.upd hl)) Qp (.cons Is.int (.one Is.int)) (by show 2≤100000;decide)
  ·rw [if_neg z] at e;cases e
theorem Qyo:Ob Q32 .int:=by
 intro B H G σ ρ vs ts w Q F r e q
 match ts,e,r with
 | [.int i],e,r =>
  cases e
  obtain ⟨v,rfl,h⟩:=r.one
  obtain rfl:=h.int
  exact .inl ⟨i,rfl,q _ H G F pvI⟩
 | [.bl b],e,r =>
  cases e
  obtain ⟨v,rfl,h⟩:=r.one
  obtain rfl:=h.bl
  exact .inr ⟨b,rfl,q _ H G F pvI⟩
theorem Q12 (K:PySem.W.Frag):Ob (Qoc K) .list:=by
 intro B H G σ ρ vs ts w Q F r e q
 match ts,e,r with
 | [.lst a],e,r =>
  cases e
  obtain ⟨v,rfl,h⟩:=r.one
  obtain ⟨l,ws,rfl,z,el,rl⟩:=h.lst
  refine ⟨l,ws,rfl,.inl (SqL.of el),fun l2 hl=>?_⟩
  obtain ⟨F2,r2⟩:=Qg8 F hl (Same.upd hl) Qp rl z
  exact q _ _ _ F2 r2
 | [.tup a],e,r =>
  cases e
  obtain ⟨v,rfl,h⟩:=r.one
  have z:=h.tup.tup_len
  obtain ⟨l,ws,rfl,el,rl⟩:=h.tup.tup_inv
  refine ⟨l,ws,rfl,.inr (SqT.of (Qal el).2),fun l2 hl=>?_⟩
  obtain ⟨F2,r2⟩:=Qg8 F hl (Same.upd hl) Qp rl z
  exact q _ _ _ F2 r2
theorem Qda (K:PySem.W.Frag):Ob (Qrt K) .tup:=by
 intro B H G σ ρ vs ts w Q F r e q
 match ts,e,r with
 | [.lst a],e,r =>
  cases e
  obtain ⟨v,rfl,h⟩:=r.one
  obtain ⟨l,ws,rfl,z,el,rl⟩:=h.lst
  exact ⟨l,ws,rfl,.inl ⟨SqL.of el,fun l2 hl=>q _ _ G (F.grow (Same.upd hl)) (Qg6 (F.prv.mono (Same.upd hl)) Qp (rl.mono (Qbl (Same.upd hl))) z)⟩⟩
 | [.tup a],e,r =>
  cases e
  obtain ⟨v,rfl,h⟩:=r.one
  have h0:=h.tup
  obtain ⟨l,ws,rfl,el,rl⟩:=h.tup.tup_inv
  exact ⟨l,ws,rfl,.inr ⟨SqT.of (Qal el).2,q _ H G F h0⟩⟩
theorem Qiu:∀ {es:List Expr} {env:Env} {pos:Pos},es.all Qae=true→(backTo pos (starEach es env)).any (·.1)=false
 | [],_,_,_=>rfl
 | e::es,env,pos,h=>by
  rw [List.all_cons,Bool.and_eq_true] at h
  rw [Qcl h.1]
  have q:=Qiu (env:=env) (pos:=pos) h.2
  unfold backTo at q ⊢
  rw [List.map_cons,List.any_cons,q]
  rfl
theorem s_bi {id:String} {r:List V→Hp→VK→Prop} {b:Bi} (hc:QCl X (.builtin id) r) (hs:Ob r b) (hm:X.mg x=none) (hv:bootBuiltins x=some (.builtin id)) (ha:QA X (e::es) (tA p es')) (hg:Gl X x) (hn:x ≠ "__name__") (hdb:(x==("__debug__" : Str))=false) (h1:Qae e=true) (h2:es.all Qae=true) :
  QE X (.Call (.Name x p1) (e::es) [] pos) (tE p (.bi b es')):=(Qip hc hm hv ha hg hn hdb h1 (Qiu h2)).weak fun σ H Q h=>Q4e hs h
theorem Qaa1 {T:String} {r:List V→Hp→VK→Prop} {b:Bi} (hc:QCl X (.type T) r) (hs:Ob r b) (hm:X.mg x=none) (hv:bootBuiltins x=some (.type T)) (ha:QA X (e::es) (tA p es')) (hg:Gl X x) (hn:x ≠ "__name__") (hdb:(x==("__debug__" : Str))=false) (h1:Qae e=true) (h2:es.all Qae=true) :
  QE X (.Call (.Name x p1) (e::es) [] pos) (tE p (.bi b es')):=(Q9o hc hm hv ha hg hn hdb h1 (Qiu h2)).weak fun σ H Q h=>Q4e hs h
theorem IsL.atI {D:Hp} {vs:List V} {ts:List T} {i:Int} {t:T} (r:IsL D vs ts) (h:atI ts i=some t):∃ v,L2.atI vs i=some v∧Is D v t:=by
 unfold L2.atI at h ⊢
 rw [r.length]
 cases e:ixN ts.length i with
 | none=>rw [e] at h;cases h
 | some j =>
  rw [e] at h
  exact r.getT h
theorem s_ix (K:PySem.W.Frag) (hK:X.K=K) (ha:QE X a (tE p a')) (hb:QE X b (tE p b')) (hs:Qkr b):QE X (.Subscript a b pos) (tE p (.ix a' b')) :=
 (Q59 (Q6d K hK) ha hb hs).weak fun σ H Q ⟨G,ρ,F,h⟩=>by
  unfold evE at h
  refine tE2 F h fun ra rb ρ2 x y H2 G2 F2 r1 r2 h2=>?_
  obtain ⟨t,u,c1,c2,h3⟩:=Qyg h2
  have hx:=r1.rdb F2 c1
  have hy:=r2.rdb F2 c2
  cases e:Qyb t u with
  | none=>rw [e] at h3;exact False.elim h3
  | some w =>
   rw [e] at h3
   cases t <;> first | (cases e;done) | skip
   all_goals (cases u <;> first | (cases e;done) | skip)
   ·obtain rfl:=hy.int
    obtain ⟨l,ws,rfl,el,rl⟩:=hx.tup.tup_inv
    obtain ⟨v,ev,iv⟩:=rl.atI e
    exact .inr (.inl ⟨l,ws,_,v,rfl,rfl,SqT.of (Qal el).2,ev,h3 v H2 G2 F2 iv⟩)
   ·obtain rfl:=hy.int
    obtain ⟨l,ws,rfl,z,el,rl⟩:=hx.lst
    obtain ⟨v,ev,iv⟩:=rl.atI e
    exact .inl ⟨l,ws,_,v,rfl,rfl,SqL.of el,ev,h3 v H2 G2 F2 iv⟩
theorem Q4g {st:Expr} (ha:QE X a (tE p a')) (hst:QE X st (tC (.int (-1)))):QE X (.Subscript a (.Slice none none (some st) p2) pos) (tE p (.rev a')) :=
 (Q9p ha hst).weak fun σ H Q ⟨G,ρ,F,h⟩=>by
  unfold evE at h
  refine ⟨G,ρ,F,h.bind.imp fun r ρ1 h1 v H1 G1 F1 r1=>?_⟩
  cases r with
  | fz t =>
   cases t <;> first | exact False.elim h1 | skip
   exact ⟨rfl,Q6m F1.prv r1.is fun y H2 s2 i2=>h1 y H2 G1 (F1.grow s2) i2⟩
  | ow t=>exact False.elim h1
  | sl i=>exact False.elim h1
end
theorem Qf2 (i:Nat):Qc [] i=.un:=rfl
theorem Qb (s:Slot) (ρ:En):Qc (s::ρ) 0=s:=rfl
theorem Qd (s:Slot) (ρ:En) (i:Nat):Qc (s::ρ) (i+1)=Qc ρ i:=by unfold Qc;rw [List.getElem?_cons_succ]
theorem Qdj {ρ:En} {i j:Nat} {s:Slot}:Qc (ρ.set j s) i=if i=j∧j<ρ.length then s else Qc ρ i:=by
 unfold Qc
 by_cases h:i=j∧j<ρ.length
 ·rw [if_pos h]
  obtain ⟨rfl,hj⟩:=h
  rw [List.getElem?_set_self hj]
 ·rw [if_neg h]
  by_cases e:i=j
  ·subst e
   have hl:ρ.length≤i:=by
    rcases Nat.lt_or_ge i ρ.length with z | z
    ·exact absurd ⟨rfl,z⟩ h
    ·exact z
   rw [List.set_eq_of_length_le hl]
  ·rw [List.getElem?_set_ne (fun z=>e z.symm)]
theorem Qjl {ρ:En} {i:Nat} (h:Qc ρ i≠.un):i<ρ.length:=by
 rcases Nat.lt_or_ge i ρ.length with z | z
 ·exact z
 ·exact absurd (by unfold Qc;rw [List.getElem?_eq_none_iff.mpr z]) h
theorem Qb6 (rs:List PV) (fin:List T) (i:Nat) (s:Slot):Qu rs fin i s=s∨∃ k t,Qi rs i=some k∧fin[k]?=some t∧Qu rs fin i s=s.put t:=by
 unfold Qu
 cases h1:Qi rs i with
 | none=>exact .inl rfl
 | some k =>
  cases h2:fin[k]? with
  | none=>exact .inl (by simp only [h2])
  | some t=>exact .inr ⟨k,t,rfl,h2,by simp only [h2]⟩
theorem Qgl (rs:List PV) (fin:List T):∀ (ρ:En) (n i:Nat),Qc (Qj rs fin n ρ) i=Qu rs fin (n+i) (Qc ρ i)
 | [],n,i=>by
  unfold Qj
  rw [Qf2]
  rcases Qb6 rs fin (n+i) .un with h | ⟨k,t,_,_,h⟩
  ·exact h.symm
  ·rw [h];rfl
 | s::ρ,n,0=>by unfold Qj;rfl
 | s::ρ,n,i+1=>by
  unfold Qj
  rw [Qd,Qd,Qgl rs fin ρ (n+1) i,show n+1+i=n+(i+1) by omega]
theorem Qcz (ρ:En) (rs:List PV) (fin:List T) (i:Nat):Qc (Qat ρ rs fin) i=Qu rs fin i (Qc ρ i):=by
 unfold Qat
 rw [Qgl,Nat.zero_add]
theorem Qiv (rs:List PV) (fin:List T):∀ (ρ:En) (n:Nat),(Qj rs fin n ρ).length=ρ.length
 | [],_=>rfl
 | s::ρ,n=>by unfold Qj;rw [List.length_cons,List.length_cons,Qiv rs fin ρ (n+1)]
theorem Qiw (ρ:En) (i:Nat):Qaa ρ (.sl i)=match Qc ρ i with
 | .ow t=>some (.ml t)
 | .ml t=>some (.ml t)
 | .ro t=>some (.ro t)
 | _=>none:=rfl
theorem PVRs.len {H0 H:Hp} {G:Addr→Prop} {σ:St} {ρ:En} {vs:List V} {rs:List PV} (h:PVRs H0 H G σ ρ vs rs):vs.length=rs.length:=by
 induction h with
 | nil=>rfl
 | cons _ _ ih=>rw [List.length_cons,List.length_cons,ih]
theorem PVRs.get {H0 H:Hp} {G:Addr→Prop} {σ:St} {ρ:En} {vs:List V} {rs:List PV} (h:PVRs H0 H G σ ρ vs rs):∀ {i:Nat} {v:V} {r:PV},vs[i]?=some v→rs[i]?=some r→PVR H0 H G σ ρ v r:=by
 induction h with
 | nil=>intro i v r e;simp at e
 | cons a _ ih =>
  intro i v r e1 e2
  cases i with
  | zero=>simp at e1 e2;subst e1;subst e2;exact a
  | succ i=>rw [List.getElem?_cons_succ] at e1 e2;exact ih e1 e2
theorem Qf3 {ρ:En}:∀ {rs:List PV} {as:List Arg},Qo ρ rs=some as→as.length=rs.length∧∀ (i:Nat) (a:Arg),as[i]?=some a→∃ r,rs[i]?=some r∧Qaa ρ r=some a
 | [],as,e=>by cases e;exact ⟨rfl,fun i a h=>by simp at h⟩
 | r::rs,as,e=>by
  unfold Qo at e
  cases h1:Qaa ρ r with
  | none=>rw [h1] at e;cases e
  | some a0 =>
   cases h2:Qo ρ rs with
   | none=>rw [h1,h2] at e;cases e
   | some as0 =>
    rw [h1,h2] at e
    cases e
    obtain ⟨q1,q2⟩:=Qf3 h2
    refine ⟨by rw [List.length_cons,List.length_cons,q1],fun i a h=>?_⟩
    cases i with
    | zero=>simp at h;subst h;exact ⟨r,rfl,h1⟩
    | succ i=>rw [List.getElem?_cons_succ] at h ⊢;exact q2 i a h
theorem Qlu:∀ {rs:List PV},Qq rs=true→∀ (i j k:Nat),rs[i]?=some (.sl k)→rs[j]?=some (.sl k)→i=j
 | [],_,i,j,k,e,_=>by simp at e
 | r::rs,h,i,j,k,e1,e2=>by
  have tl:Qq rs=true:=by
   cases r with
   | sl p=>unfold Qq at h;rw [Bool.and_eq_true] at h;exact h.2
   | fz t=>exact h
   | ow t=>exact h
  have hd:∀ (m:Nat),r=PV.sl k→rs[m]?=some (PV.sl k)→False:=fun m er em=>by
   subst er
   unfold Qq at h
   rw [Bool.and_eq_true] at h
   have q:=List.all_eq_true.mp h.1 _ (List.mem_of_getElem? em)
   simp at q
  cases i with
  | zero =>
   cases j with
   | zero=>rfl
   | succ j=>simp at e1;rw [List.getElem?_cons_succ] at e2;exact (hd j e1 e2).elim
  | succ i =>
   cases j with
   | zero=>simp at e2;rw [List.getElem?_cons_succ] at e1;exact (hd i e2 e1).elim
   | succ j =>
    rw [List.getElem?_cons_succ] at e1 e2
    rw [Qlu tl i j k e1 e2]
theorem Qeh:∀ {rs:List PV} {i k:Nat},Qi rs i=some k→rs[k]?=some (.sl i)
 | [],i,k,e=>by cases e
 | .sl j::rs,i,k,e=>by
  unfold Qi at e
  by_cases h:j=i
  ·rw [if_pos h] at e;cases e;rw [h];rfl
  ·rw [if_neg h] at e
   cases h2:Qi rs i with
   | none=>rw [h2] at e;cases e
   | some m=>rw [h2] at e;cases e;rw [List.getElem?_cons_succ];exact Qeh h2
 | .fz t::rs,i,k,e=>by
  unfold Qi at e
  cases h2:Qi rs i with
  | none=>rw [h2] at e;cases e
  | some m=>rw [h2] at e;cases e;rw [List.getElem?_cons_succ];exact Qeh h2
 | .ow t::rs,i,k,e=>by
  unfold Qi at e
  cases h2:Qi rs i with
  | none=>rw [h2] at e;cases e
  | some m=>rw [h2] at e;cases e;rw [List.getElem?_cons_succ];exact Qeh h2
theorem Qix:∀ {rs:List PV} {i k:Nat},Qi rs i=none→rs[k]?≠some (.sl i)
 | [],i,k,_,e=>by simp at e
 | r::rs,i,k,h,e=>by
  have tl:Qi rs i=none:=by
   cases r with
   | sl j =>
    unfold Qi at h
    by_cases z:j=i
    ·rw [if_pos z] at h;cases h
    ·rw [if_neg z] at h;simpa using h
   | fz t=>unfold Qi at h;simpa using h
   | ow t=>unfold Qi at h;simpa using h
  cases k with
  | zero =>
   simp at e
   subst e
   unfold Qi at h
   rw [if_pos rfl] at h
   cases h
  | succ k=>rw [List.getElem?_cons_succ] at e;exact Qix tl e
theorem Qnl:∀ {vs:List V} {rs:List PV} {i:Nat} {t:T} {b:Addr},vs[i]?=some (.ref b)→rs[i]?=some (.ow t)→Qlp vs rs b
 | [],_,_,_,_,e,_=>by simp at e
 | _::_,[],_,_,_,_,e=>by simp at e
 | v::vs,r::rs,0,t,b,e1,e2=>by
  simp at e1 e2
  subst e1;subst e2
  exact .inl rfl
 | v::vs,r::rs,i+1,t,b,e1,e2=>by
  rw [List.getElem?_cons_succ] at e1 e2
  have q:=Qnl e1 e2
  cases r with
  | fz t=>exact q
  | sl j=>exact q
  | ow t=>exact .inr q
noncomputable def ArgR (H:Hp) (G:Addr→Prop) (v:V):Arg→Prop
 | .fz t=>Is (dls H G) v t
 | .ml t=>∃ a,v=.ref a∧G a∧OwnAt H G a t
 | .ro t=>∃ a,v=.ref a∧G a∧OwnAt H G a t
noncomputable def Arg.prv:Arg→Bool
 | .fz _=>false
 | _=>true
structure ArgsR (H:Hp) (G:Addr→Prop) (vs:List V) (as:List Arg):Prop where
 len:vs.length=as.length
 get:∀ (i:Nat) (v:V) (a:Arg),vs[i]?=some v→as[i]?=some a→ArgR H G v a
 apart:∀ (i j:Nat) (b:Addr) (x y:Arg),as[i]?=some x→as[j]?=some y→x.prv=true→y.prv=true→vs[i]?=some (.ref b)→vs[j]?=some (.ref b)→i=j
noncomputable def Qtt (vs:List V) (as:List Arg) (b:Addr):Prop:=∃ (i:Nat) (t:T),as[i]?=some (.ml t)∧vs[i]?=some (.ref b)
structure CallP (H:Hp) (G:Addr→Prop) (vs:List V) (as:List Arg) (H':Hp) (G':Addr→Prop) (fin:List T):Prop where
 prv:Pen H' G'
 chg:∀ b o,¬ Qtt vs as b→H b=some o→H' b=some o
 keep:∀ b o,H b=some o→∃ o',H' b=some o'
 gg:∀ b,G b→G' b
 gn:∀ b,G' b→G b∨H b=none
 fin:∀ (i:Nat) (t:T) (a:Addr),as[i]?=some (.ml t)→vs[i]?=some (.ref a)→∃ t',fin[i]?=some t'∧OwnAt H' G' a t'
noncomputable def RetR (H H':Hp) (G':Addr→Prop) (v:V):PV→Prop
 | .fz t=>Is (dls H' G') v t
 | .ow t=>∃ a,v=.ref a∧H a=none∧G' a∧OwnAt H' G' a t
 | .sl _=>False
noncomputable def FROk (mg:Str→Option Value) (H:Hp) (G:Addr→Prop) (vs:List V) (as:List Arg) (o:FR) (Q:VK) (E:XK):Prop:=match o with
 | .ok r fin=>∀ v H' G',CallP H G vs as H' G' fin→RetR H H' G' v r→Q v H'
 | .xn x fin=>∀ cls dx H' G',CallP H G vs as H' G' fin→Q1t mg H' x cls dx→E cls dx H'
 | .no=>False
noncomputable def spF (cf:CF) (mg:Str→Option Value) (f:Nat):Sp:=fun vs H Q E=>∃ G as,ArgsR H G vs as∧Pen H G∧FROk mg H G vs as (cf f as) Q E
section
variable {p:Pr} {B:Bs} {H H1 H2:Hp} {G G1 G2:Addr→Prop} {σ:St} {ρ:En} {vs:List V} {rs:List PV} {as:List Arg} {fin:List T}
theorem Qnm {r:PV} {a:Arg} (e:Qaa ρ r=some a) (h:a.prv=true):∃ i t,r=.sl i∧(Qc ρ i).prv=some t:=by
 cases r with
 | fz t=>cases e;cases h
 | ow t=>cases e;cases h
 | sl i =>
  rw [Qiw] at e
  cases hs:Qc ρ i with
  | un=>rw [hs] at e;cases e
  | pin _=>rw [hs] at e;cases e
  | fx _=>rw [hs] at e;cases e
  | fz t=>rw [hs] at e;cases e
  | ow t=>exact ⟨i,t,rfl,by rw [hs];rfl⟩
  | ml t=>exact ⟨i,t,rfl,by rw [hs];rfl⟩
  | ro t=>exact ⟨i,t,rfl,by rw [hs];rfl⟩
theorem Qyp {r:PV} {t:T} (e:Qaa ρ r=some (.ml t)):∃ i,r=.sl i∧(Qc ρ i=.ow t∨Qc ρ i=.ml t):=by
 cases r with
 | fz t=>cases e
 | ow t=>cases e
 | sl i =>
  rw [Qiw] at e
  cases hs:Qc ρ i with
  | un=>rw [hs] at e;cases e
  | pin _=>rw [hs] at e;cases e
  | fx _=>rw [hs] at e;cases e
  | fz t=>rw [hs] at e;cases e
  | ow t=>rw [hs] at e;cases e;exact ⟨i,rfl,.inl hs⟩
  | ml t=>rw [hs] at e;cases e;exact ⟨i,rfl,.inr hs⟩
  | ro t=>rw [hs] at e;cases e
theorem Qtu (F:FI B H G σ ρ) (r:PVRs B.H H G σ ρ vs rs) (ea:Qo ρ rs=some as) (hb:Qq rs=true):∃ G',FI B H G' σ ρ∧ArgsR H G' vs as:=by
 have F':=F.lessG (Qlp vs rs) fun b z=>r.tmp z
 obtain ⟨l1,g1⟩:=Qf3 ea
 refine ⟨_,F',by rw [l1];exact r.len,fun i v a ev e=>?_,fun i j b x y ex ey px py vx vy=>?_⟩
 ·obtain ⟨q,eq,ar⟩:=g1 i a e
  have pv:=r.get ev eq
  cases q with
  | fz t=>cases ar;exact Is.mono (Qc6 fun b h=>h.1) pv.is
  | ow t =>
   cases ar
   obtain ⟨c,rfl,_,_,_,ob,ec,ql⟩:=pv
   exact ql.is (by rw [Qb4 fun z=>z.2 (Qnl ev eq)];exact ec) (Qc6 fun b h=>h.1)
  | sl k =>
   have pv:σ[k]?=some (some v):=pv
   rw [Qiw] at ar
   have sk:=F'.slot k
   cases hs:Qc ρ k with
   | un=>rw [hs] at ar;cases ar
   | pin _=>rw [hs] at ar;cases ar
   | fx _=>rw [hs] at ar;cases ar
   | fz t=>rw [hs] at ar;cases ar
   | ow t=>rw [hs] at ar sk;cases ar;obtain ⟨c,h1,h2,h3⟩:=sk;rw [pv] at h1;cases h1;exact ⟨c,rfl,h2,h3⟩
   | ml t=>rw [hs] at ar sk;cases ar;obtain ⟨c,h1,h2,h3⟩:=sk;rw [pv] at h1;cases h1;exact ⟨c,rfl,h2,h3⟩
   | ro t=>rw [hs] at ar sk;cases ar;obtain ⟨c,h1,h2,h3⟩:=sk;rw [pv] at h1;cases h1;exact ⟨c,rfl,h2,h3⟩
 ·obtain ⟨q1,e1,a1⟩:=g1 i x ex
  obtain ⟨q2,e2,a2⟩:=g1 j y ey
  obtain ⟨k1,t1,rfl,s1⟩:=Qnm a1 px
  obtain ⟨k2,t2,rfl,s2⟩:=Qnm a2 py
  have p1:σ[k1]?=some (some (.ref b)):=r.get vx e1
  have p2:σ[k2]?=some (some (.ref b)):=r.get vy e2
  have ek:=F.apart k1 k2 b ⟨⟨t1,s1⟩,p1⟩ ⟨⟨t2,s2⟩,p2⟩
  subst ek
  exact Qlu hb i j k1 e1 e2
theorem Qkw {s:Slot} {t u:T} (h:(s.put t).prv=some u):∃ w,s.prv=some w:=by
 cases s <;> first | exact ⟨_,rfl⟩ | cases h
theorem Qlv {i:Nat} {u:T} (h:(Qc (Qat ρ rs fin) i).prv=some u):∃ w,(Qc ρ i).prv=some w:=by
 rw [Qcz] at h
 rcases Qb6 rs fin i (Qc ρ i) with e | ⟨k,t,_,_,e⟩
 ·rw [e] at h;exact ⟨u,h⟩
 ·rw [e] at h;exact Qkw h
theorem Q13 {i:Nat} {u:T} (h:Qc (Qat ρ rs fin) i=.ow u):∃ w,Qc ρ i=.ow w:=by
 rw [Qcz] at h
 rcases Qb6 rs fin i (Qc ρ i) with e | ⟨k,t,_,_,e⟩
 ·rw [e] at h;exact ⟨u,h⟩
 ·rw [e] at h
  cases hs:Qc ρ i <;> rw [hs] at h <;> first | exact ⟨_,rfl⟩ | cases h
theorem Qtv {i:Nat} {u:T} (h:Qc (Qat ρ rs fin) i=.ml u):∃ w,Qc ρ i=.ml w:=by
 rw [Qcz] at h
 rcases Qb6 rs fin i (Qc ρ i) with e | ⟨k,t,_,_,e⟩
 ·rw [e] at h;exact ⟨u,h⟩
 ·rw [e] at h
  cases hs:Qc ρ i <;> rw [hs] at h <;> first | exact ⟨_,rfl⟩ | cases h
theorem Q14 {i:Nat} {u:T} (h:Qc (Qat ρ rs fin) i=.ro u):∃ w,Qc ρ i=.ro w:=by
 rw [Qcz] at h
 rcases Qb6 rs fin i (Qc ρ i) with e | ⟨k,t,_,_,e⟩
 ·rw [e] at h;exact ⟨u,h⟩
 ·rw [e] at h
  cases hs:Qc ρ i <;> rw [hs] at h <;> first | exact ⟨_,rfl⟩ | cases h
theorem Q15 {i:Nat} {u:T} (h:Qc (Qat ρ rs fin) i=.fx u):∃ w,Qc ρ i=.fx w:=by
 rw [Qcz] at h
 rcases Qb6 rs fin i (Qc ρ i) with e | ⟨k,t,_,_,e⟩
 ·rw [e] at h;exact ⟨u,h⟩
 ·rw [e] at h
  cases hs:Qc ρ i <;> rw [hs] at h <;> first | exact ⟨_,rfl⟩ | cases h
theorem FI.called (F:FI B H G σ ρ) (A:ArgsR H G vs as) (hv:∀ (k i:Nat) (v:V),rs[k]?=some (.sl i)→vs[k]?=some v→σ[i]?=some (some v)) (hl:vs.length=rs.length) (ea:Qo ρ rs=some as) (hb:Qq rs=true) (C:CallP H G vs as H1 G1 fin):FI B H1 G1 σ (Qat ρ rs fin):=by
 have ml:∀ b,Qtt vs as b→∃ (k i:Nat) (t:T),rs[k]?=some (.sl i)∧as[k]?=some (.ml t)∧vs[k]?=some (.ref b)∧(Qc ρ i=.ow t∨Qc ρ i=.ml t)∧σ[i]?=some (some (.ref b)):=fun b h=>by
  obtain ⟨k,t,e1,e2⟩:=h
  obtain ⟨q,eq,ar⟩:=(Qf3 ea).2 k _ e1
  obtain ⟨i,rfl,hs⟩:=Qyp ar
  exact ⟨k,i,t,eq,e1,e2,hs,hv k i _ eq e2⟩
 have mp:∀ b,Qtt vs as b→OwA σ ρ b∨MlA σ ρ b:=fun b h=>by
  obtain ⟨k,i,t,_,_,_,hs | hs,e⟩:=ml b h
  ·exact .inl ⟨i,t,hs,e⟩
  ·exact .inr ⟨i,t,hs,e⟩
 have sm:Same (dls H G) (dls H1 G1):=fun b o e=>by
  obtain ⟨n,e⟩:=Qal e
  have e1:=C.chg b o (fun z=>n ((mp b z).elim F.ownG F.mlG)) e
  rw [Qb4 fun z=>?_]
  ·exact e1
  ·rcases C.gn b z with z | z
   ·exact n z
   ·rw [z] at e;cases e
 -- a slot's list that is not lent
 have stay:∀ i a t,(Qc ρ i).prv=some t→σ[i]?=some (some (.ref a))→OwnAt H G a t→((∀ t,Qc ρ i≠.ow t)∧(∀ t,Qc ρ i≠.ml t)∨Qi rs i=none)→OwnAt H1 G1 a t:=fun i a t e s o h=>by
  refine o.mono sm fun u eu=>C.chg a u (fun z=>?_) eu
  obtain ⟨k,j,t',e1,_,_,hs,e2⟩:=ml a z
  have ej:j=i:=F.apart j i a ⟨⟨t',by rcases hs with hs | hs <;> rw [hs] <;> rfl⟩,e2⟩ ⟨⟨t,e⟩,s⟩
  subst ej
  rcases h with ⟨h1,h2⟩ | h
  ·rcases hs with hs | hs
   ·exact h1 _ hs
   ·exact h2 _ hs
  ·exact Qix h e1
 -- one that is lent
 have lent:∀ i a t k,(Qc ρ i=.ow t∨Qc ρ i=.ml t)→σ[i]?=some (some (.ref a))→Qi rs i=some k→∃ t',fin[k]?=some t'∧OwnAt H1 G1 a t':=fun i a t k hs s hk=>by
  have e1:=Qeh hk
  have hk':k<vs.length:=by rw [hl];exact (List.getElem?_eq_some_iff.mp e1).1
  have e2:=hv k i _ e1 (List.getElem?_eq_getElem hk')
  rw [s] at e2
  have e3:vs[k]?=some (.ref a):=by rw [List.getElem?_eq_getElem hk'];rw [←Option.some.inj (Option.some.inj e2)]
  have hk2:k<as.length:=by rw [←A.len];exact hk'
  obtain ⟨q,eq,ar⟩:=(Qf3 ea).2 k _ (List.getElem?_eq_getElem hk2)
  rw [e1] at eq
  cases eq
  have e4:as[k]?=some (.ml t):=by
   rw [List.getElem?_eq_getElem hk2,←ar]
   rw [Qiw]
   rcases hs with hs | hs <;> rw [hs]
  exact C.fin k t a e4 e3
 exact {
  len:=by unfold Qat;rw [Qiv];exact F.len
  slot:=fun i=>by
   have q:=F.slot i
   have bc:=Qb6 rs fin i (Qc ρ i)
   rw [Qcz]
   cases hs:Qc ρ i with
   | un =>
    rw [hs] at bc
    rcases bc with e | ⟨k,t,_,_,e⟩ <;> rw [e] <;> trivial
   | pin a =>
    rw [hs] at q bc
    rcases bc with e | ⟨k,t,_,_,e⟩ <;> rw [e] <;> exact q
   | fz t =>
    rw [hs] at q bc
    obtain ⟨v,e1,e2⟩:=q
    rcases bc with e | ⟨k,t,_,_,e⟩ <;> rw [e] <;> exact ⟨v,e1,e2.mono sm⟩
   | fx t =>
    rw [hs] at q bc
    obtain ⟨v,o,e1,e3,e2⟩:=q
    rcases bc with e | ⟨k,t,_,_,e⟩ <;> rw [e] <;> exact ⟨v,o,e1,sm _ _ e3,e2.mono sm⟩
   | ro t =>
    rw [hs] at q bc
    obtain ⟨a,e1,g,o⟩:=q
    have o':=stay i a t (by rw [hs];rfl) e1 o (.inl ⟨fun t z=>(by rw [hs] at z;cases z),fun t z=>(by rw [hs] at z;cases z)⟩)
    rcases bc with e | ⟨k,t,_,_,e⟩ <;> rw [e] <;> exact ⟨a,e1,C.gg a g,o'⟩
   | ow t =>
    rw [hs] at q bc
    obtain ⟨a,e1,g,o⟩:=q
    cases hp:Qi rs i with
    | none =>
     have o':=stay i a t (by rw [hs];rfl) e1 o (.inr hp)
     rcases bc with e | ⟨k,t',h,_,e⟩
     ·rw [e];exact ⟨a,e1,C.gg a g,o'⟩
     ·rw [hp] at h;cases h
    | some k =>
     obtain ⟨t',ef,o'⟩:=lent i a t k (.inl hs) e1 hp
     have e:Qu rs fin i (.ow t)=.ow t':=by unfold Qu;rw [hp];simp only [ef];rfl
     rw [e]
     exact ⟨a,e1,C.gg a g,o'⟩
   | ml t =>
    rw [hs] at q bc
    obtain ⟨a,e1,g,o⟩:=q
    cases hp:Qi rs i with
    | none =>
     have o':=stay i a t (by rw [hs];rfl) e1 o (.inr hp)
     rcases bc with e | ⟨k,t',h,_,e⟩
     ·rw [e];exact ⟨a,e1,C.gg a g,o'⟩
     ·rw [hp] at h;cases h
    | some k =>
     obtain ⟨t',ef,o'⟩:=lent i a t k (.inr hs) e1 hp
     have e:Qu rs fin i (.ml t)=.ml t':=by unfold Qu;rw [hp];simp only [ef];rfl
     rw [e]
     exact ⟨a,e1,C.gg a g,o'⟩
  apart:=fun i j a h1 h2=>F.apart i j a ⟨let ⟨u,e⟩:=h1.1;Qlv e,h1.2⟩ ⟨let ⟨u,e⟩:=h2.1;Qlv e,h2.2⟩
  prv:=C.prv
  chg:=fun b o h1 h2 e=>C.chg b o (fun z=>by
   rcases mp b z with z | z
   ·rcases F.newO b z with z | z
    ·rw [e] at z;cases z
    ·exact h1 z
   ·exact h2 (F.newM b z)) (F.chg b o h1 h2 e)
  keep:=fun b o e=>by
   obtain ⟨o1,e1⟩:=F.keep b o e
   exact C.keep b o1 e1
  newO:=fun a h=>by
   obtain ⟨i,t,e,s⟩:=h
   obtain ⟨w,e⟩:=Q13 e
   exact F.newO a ⟨i,w,e,s⟩
  newM:=fun a h=>by
   obtain ⟨i,t,e,s⟩:=h
   obtain ⟨w,e⟩:=Qtv e
   exact F.newM a ⟨i,w,e,s⟩
  fix:=fun i a h=>by
   obtain ⟨⟨t,e⟩,s⟩:=h
   refine F.fix i a ⟨?_,s⟩
   rcases e with e | e | e
   ·obtain ⟨w,e⟩:=Qtv e;exact ⟨w,.inl e⟩
   ·obtain ⟨w,e⟩:=Q14 e;exact ⟨w,.inr (.inl e)⟩
   ·obtain ⟨w,e⟩:=Q15 e;exact ⟨w,.inr (.inr e)⟩
  gg:=fun b h=>C.gg b (F.gg b h)
  gn:=fun b h=>by
   rcases C.gn b h with z | z
   ·exact F.gn b z
   ·exact .inr (F.free z)
  bp:=F.bp }
end
section
variable {X:Cx} {p:Pr} {x:Str} {e:Expr} {es:List Expr} {es':Es} {f k:Nat} {ps:List Str} {pos p1:Pos}
theorem Q16 {σ:St} {H:Hp} {Q:VK} (h:tE p (.call f es') σ H Q):Qxw (spF p.cf p.mg f) p.R (tA p es') σ H Q:=by
 obtain ⟨G,ρ,F,h⟩:=h
 unfold evE at h
 refine ⟨G,ρ,F,h.bind.imp fun rs ρ1 h1 vs H1 G1 F1 r1=>?_⟩
 unfold Qes at h1
 by_cases hb:Qq rs=true
 ·rw [if_pos hb] at h1
  cases ea:Qo ρ1 rs with
  | none=>rw [ea] at h1;exact False.elim h1
  | some as =>
   rw [ea] at h1
   replace h1:Fin p (Qa7 H G σ ρ) σ (match p.cf f as with | .ok r fin=>.ok r (Qat ρ1 rs fin) | .xn x fin=>.xn x (Qat ρ1 rs fin) | .no=>.no) _:=h1
   obtain ⟨G',F',A⟩:=Qtu (B:=Qa7 H G σ ρ) F1 r1 ea hb
   have hv:∀ (k i:Nat) (v:V),rs[k]?=some (.sl i)→vs[k]?=some v→σ[i]?=some (some v):=fun k i v e1 e2=>r1.get e2 e1
   refine ⟨G',as,A,F'.prv,?_⟩
   cases ec:p.cf f as with
   | no=>rw [ec] at h1;exact False.elim h1
   | xn z fin =>
    rw [ec] at h1
    exact fun cls dx H' G2 C xr=>h1 cls dx H' G2 (F'.called A hv r1.len ea hb C) xr
   | ok r fin =>
    rw [ec] at h1
    refine fun v H' G2 C rr=>h1 v H' G2 (F'.called A hv r1.len ea hb C) ?_
    cases r with
    | sl i=>exact False.elim rr
    | fz t=>exact rr
    | ow t =>
     obtain ⟨a,rfl,n,g,o⟩:=rr
     refine ⟨a,rfl,F'.free n,g,fun i hp=>?_,o⟩
     obtain ⟨w,e⟩:=Qlv hp.1.choose_spec
     obtain ⟨_,t,ob,ea,_⟩:=PrvAt.at F' ⟨⟨w,e⟩,hp.2⟩
     rw [n] at ea
     cases ea
 ·rw [if_neg hb] at h1
  exact False.elim h1
theorem Q7d (h:HasE X.prog X.w X.K X.mg X.base x ps k (spF p.cf p.mg f)) (pz:Qe5 X p.R) (hr:Room k X.A) (ha:QA X (e::es) (tA p es')) (hg:Gl X x) (hdb:(x==("__debug__" : Str))=false) (h1:Qae e=true) (h2:es.all Qae=true) :
  QE X (.Call (.Name x p1) (e::es) [] pos) (tE p (.call f es')):=(Q94 h pz hr ha hg hdb (Qcl h1) (Qiu h2)).weak fun σ H Q h=>Q16 h
end
section
variable {B:Bs} {H H1:Hp} {G G1:Addr→Prop} {σ:St} {ρ ρ':En} {i:Nat} {v:V} {t:T}
theorem st_set {w:Option V} (h:i<σ.length):(σ.set i w)[i]?=some w:=by rw [List.getElem?_set_self h]
theorem Qgr {j:Nat} {w:Option V} (h:j≠i):(σ.set i w)[j]?=σ[j]?:=by rw [List.getElem?_set_ne (fun z=>h z.symm)]
theorem FI.lay (F:FI B H G σ ρ) (hi:i<ρ.length) {s:Slot} {w:Option V} (hs:Qlo H G (σ.set i w) i s) (hp:∀ a,(∃ t,s.prv=some t)→w=some (.ref a)→∀ j,j≠i→¬ PrvAt σ ρ j a)
  (ho:∀ t a,s=.ow t→w=some (.ref a)→B.H a=none∨B.O a) (hm:∀ t,s≠.ml t) (hr:∀ t,s≠.ro t) (hx:∀ t,s≠.fx t:=by intro _ z;cases z):FI B H G (σ.set i w) (ρ.set i s):=by
 have hl:i<σ.length:=by rw [F.len];exact hi
 have sa:∀ j,Qc (ρ.set i s) j=if j=i then s else Qc ρ j:=fun j=>by
  rw [Qdj]
  by_cases e:j=i
  ·rw [if_pos ⟨e,hi⟩,if_pos e]
  ·rw [if_neg (fun z=>e z.1),if_neg e]
 have old:∀ j a,PrvAt (σ.set i w) (ρ.set i s) j a→j≠i→PrvAt σ ρ j a:=fun j a h n=>by
  obtain ⟨⟨u,e⟩,q⟩:=h
  rw [sa,if_neg n] at e
  rw [Qgr n] at q
  exact ⟨⟨u,e⟩,q⟩
 have here:∀ a,PrvAt (σ.set i w) (ρ.set i s) i a→(∃ t,s.prv=some t)∧w=some (.ref a):=fun a h=>by
  obtain ⟨⟨u,e⟩,q⟩:=h
  rw [sa,if_pos rfl] at e
  rw [st_set hl] at q
  exact ⟨⟨u,e⟩,Option.some.inj q⟩
 exact {
  len:=by rw [List.length_set,List.length_set];exact F.len
  slot:=fun j=>by
   rw [sa]
   by_cases e:j=i
   ·rw [if_pos e,e];exact hs
   ·rw [if_neg e]
    have q:=F.slot j
    cases hh:Qc ρ j with
    | un=>trivial
    | pin a=>rw [hh] at q;show (σ.set i _)[j]?=_;rw [Qgr e];exact q
    | fz t=>rw [hh] at q;obtain ⟨v,a,b⟩:=q;exact ⟨v,by rw [Qgr e];exact a,b⟩
    | fx t=>rw [hh] at q;obtain ⟨v,o,a,b⟩:=q;exact ⟨v,o,by rw [Qgr e];exact a,b⟩
    | ow t=>rw [hh] at q;obtain ⟨v,a,b⟩:=q;exact ⟨v,by rw [Qgr e];exact a,b⟩
    | ml t=>rw [hh] at q;obtain ⟨v,a,b⟩:=q;exact ⟨v,by rw [Qgr e];exact a,b⟩
    | ro t=>rw [hh] at q;obtain ⟨v,a,b⟩:=q;exact ⟨v,by rw [Qgr e];exact a,b⟩
  apart:=fun j k a h1 h2=>by
   by_cases e1:j=i
   ·by_cases e2:k=i
    ·rw [e1,e2]
    ·rw [e1] at h1
     exact (hp a (here a h1).1 (here a h1).2 k e2 (old k a h2 e2)).elim
   ·by_cases e2:k=i
    ·rw [e2] at h2
     exact (hp a (here a h2).1 (here a h2).2 j e1 (old j a h1 e1)).elim
    ·exact F.apart j k a (old j a h1 e1) (old k a h2 e2)
  prv:=F.prv
  chg:=F.chg
  keep:=F.keep
  newO:=fun a h=>by
   obtain ⟨j,u,e,q⟩:=h
   rw [sa] at e
   by_cases z:j=i
   ·rw [if_pos z] at e
    rw [z,st_set hl] at q
    exact ho u a e (Option.some.inj q)
   ·rw [if_neg z] at e
    rw [Qgr z] at q
    exact F.newO a ⟨j,u,e,q⟩
  newM:=fun a h=>by
   obtain ⟨j,u,e,q⟩:=h
   rw [sa] at e
   by_cases z:j=i
   ·rw [if_pos z] at e;exact (hm u e).elim
   ·rw [if_neg z] at e
    rw [Qgr z] at q
    exact F.newM a ⟨j,u,e,q⟩
  fix:=fun j a h=>by
   obtain ⟨⟨u,e⟩,q⟩:=h
   rw [sa] at e
   by_cases z:j=i
   ·rw [if_pos z] at e
    rcases e with e | e | e
    ·exact (hm u e).elim
    ·exact (hr u e).elim
    ·exact (hx u e).elim
   ·rw [if_neg z] at e
    rw [Qgr z] at q
    exact F.fix j a ⟨⟨u,e⟩,q⟩
  gg:=F.gg
  gn:=F.gn
  bp:=F.bp }
theorem FI.setFz (F:FI B H G σ ρ) (hi:i<ρ.length) (hv:Is (dls H G) v t):FI B H G (σ.set i (some v)) (ρ.set i (.fz t)) :=
 F.lay hi ⟨v,st_set (by rw [F.len];exact hi),hv⟩ (fun a h=>by obtain ⟨u,e⟩:=h;cases e) (fun _ _ e=>by cases e) (fun _ e=>by cases e) (fun _ e=>by cases e)
theorem Qjm {s:Slot} (h:Qbb i s ρ=some ρ'):i<ρ.length∧ρ'=ρ.set i s:=by
 unfold Qbb at h
 by_cases z:i<ρ.length
 ·rw [if_pos z] at h
  cases hs:Qc ρ i <;> rw [hs] at h <;> first | (cases h;done) | exact ⟨z,(Option.some.inj h).symm⟩
 ·rw [if_neg z] at h;cases h
theorem FI.setS (F:FI B H G σ ρ) (h:L2.Qbb i (.fz t) ρ=some ρ') (hv:Is (dls H G) v t):FI B H G (σ.set i (some v)) ρ':=by
 obtain ⟨h1,rfl⟩:=Qjm h
 exact F.setFz h1 hv
theorem FI.setOw {H0:Hp} (F:FI B H G σ ρ) (hb:B.H=H0) (h:L2.Qbb i (.ow t) ρ=some ρ') (hv:TmpR H0 H G σ ρ v t):FI B H G (σ.set i (some v)) ρ':=by
 obtain ⟨h1,rfl⟩:=Qjm h
 obtain ⟨a,rfl,n,g,np,o⟩:=hv
 refine F.lay h1 ⟨a,st_set (by rw [F.len];exact h1),g,o⟩ (fun b _ e j _=>?_) (fun _ b _ e=>?_) (fun _ e=>by cases e) (fun _ e=>by cases e)
 ·cases e;exact np j
 ·cases e;exact .inl (by rw [hb];exact n)
theorem FI.changeO (F:FI B H G σ ρ) {t0 u0:T} {ob:HO} {s':Slot} (hs:(Qc ρ i=.ow t0∧s'=.ow u0)∨(Qc ρ i=.ml t0∧s'=.ml u0)) {a:Addr} (e:σ[i]?=some (some (.ref a))) (il:OwnO (dls H G) u0 ob) :
  FI B (upd H a ob) G σ (ρ.set i s')∧Same (dls H G) (dls (upd H a ob) G):=by
 have hpv:(Qc ρ i).prv=some t0:=by rcases hs with ⟨h,_⟩ | ⟨h,_⟩ <;> rw [h] <;> rfl
 have hi:i<ρ.length:=Qjl (by rcases hs with ⟨h,_⟩ | ⟨h,_⟩ <;> rw [h] <;> intro z <;> cases z)
 obtain ⟨a',e',g,o',ea,_⟩:=F.prvAt hpv
 rw [e] at e'
 cases e'
 have sa:∀ j,Qc (ρ.set i s') j=if j=i then s' else Qc ρ j:=fun j=>by
  rw [Qdj]
  by_cases e:j=i
  ·rw [if_pos ⟨e,hi⟩,if_pos e]
  ·rw [if_neg (fun z=>e z.1),if_neg e]
 have sm:Same (dls H G) (dls (upd H a ob) G):=fun b o eb=>by
  obtain ⟨n,eb⟩:=Qal eb
  rw [Qb4 n,Qz (fun (z:b=a)=>n (by rw [z];exact g))]
  exact eb
 have pv':∀ j b,PrvAt σ (ρ.set i s') j b→PrvAt σ ρ j b:=fun j b h=>by
  obtain ⟨⟨u,e1⟩,q⟩:=h
  rw [sa] at e1
  by_cases hj:j=i
  ·rw [hj] at q ⊢;exact ⟨⟨_,hpv⟩,q⟩
  ·rw [if_neg hj] at e1;exact ⟨⟨u,e1⟩,q⟩
 have own:OwnAt (upd H a ob) G a u0:=⟨ob,Qp,il.mono sm⟩
 refine ⟨{
  len:=by rw [List.length_set];exact F.len
  slot:=fun j=>by
   rw [sa]
   by_cases hj:j=i
   ·rw [if_pos hj,hj]
    rcases hs with ⟨_,h⟩ | ⟨_,h⟩ <;> rw [h] <;> exact ⟨a,e,g,own⟩
   ·rw [if_neg hj]
    refine Qh6 (F.slot j) sm fun b o hb1 hb2 eb=>?_
    have nb:b≠a:=fun z=>hj (F.apart j i a ⟨hb1,z ▸ hb2⟩ ⟨⟨_,hpv⟩,e⟩)
    exact ⟨by rw [Qz nb];exact eb,(PrvAt.at F ⟨hb1,hb2⟩).1⟩
  apart:=fun j k b h1 h2=>F.apart j k b (pv' j b h1) (pv' k b h2)
  prv:=fun b hb=>by
   by_cases h:b=a
   ·exact ⟨ob,by rw [h,Qp],il.pen⟩
   ·rw [Qz h];exact F.prv b hb
  chg:=fun b o h1 h2 eb=>by
   have nb:b≠a:=fun z=>by
    rcases hs with ⟨h,_⟩ | ⟨h,_⟩
    ·rcases F.newO a ⟨i,_,h,e⟩ with y | y
     ·rw [z,y] at eb;cases eb
     ·exact h1 (z ▸ y)
    ·exact h2 (z ▸ F.newM a ⟨i,_,h,e⟩)
   rw [Qz nb]
   exact F.chg b o h1 h2 eb
  keep:=fun b o eb=>by
   by_cases h:b=a
   ·exact ⟨_,by rw [h,Qp]⟩
   ·rw [Qz h];exact F.keep b o eb
  newO:=fun b h=>by
   obtain ⟨j,u,e1,q⟩:=h
   rw [sa] at e1
   by_cases hj:j=i
   ·rw [if_pos hj] at e1
    rcases hs with ⟨h,h2⟩ | ⟨h,h2⟩
    ·exact F.newO b ⟨i,_,h,hj ▸ q⟩
    ·rw [h2] at e1;cases e1
   ·rw [if_neg hj] at e1;exact F.newO b ⟨j,u,e1,q⟩
  newM:=fun b h=>by
   obtain ⟨j,u,e1,q⟩:=h
   rw [sa] at e1
   by_cases hj:j=i
   ·rw [if_pos hj] at e1
    rcases hs with ⟨h,h2⟩ | ⟨h,h2⟩
    ·rw [h2] at e1;cases e1
    ·exact F.newM b ⟨i,_,h,hj ▸ q⟩
   ·rw [if_neg hj] at e1;exact F.newM b ⟨j,u,e1,q⟩
  fix:=fun j b h=>by
   obtain ⟨⟨u,e1⟩,q⟩:=h
   rw [sa] at e1
   by_cases hj:j=i
   ·rw [if_pos hj] at e1
    rcases hs with ⟨h,h2⟩ | ⟨h,h2⟩
    ·rw [h2] at e1;rcases e1 with e1 | e1 | e1 <;> cases e1
    ·exact F.fix j b ⟨⟨_,.inl (by rw [hj];exact h)⟩,q⟩
   ·rw [if_neg hj] at e1;exact F.fix j b ⟨⟨u,e1⟩,q⟩
  gg:=F.gg
  gn:=F.gn
  bp:=F.bp },sm⟩
theorem FI.change (F:FI B H G σ ρ) {ts us:List T} {ws:List V} {s':Slot} (hs:(Qc ρ i=.ow (.lst ts)∧s'=.ow (.lst us))∨(Qc ρ i=.ml (.lst ts)∧s'=.ml (.lst us))) {a:Addr} (e:σ[i]?=some (some (.ref a))) (il:IsL (dls H G) ws us) (z:us.length≤100000) :
  FI B (upd H a (.lst ws)) G σ (ρ.set i s')∧Same (dls H G) (dls (upd H a (.lst ws)) G):=F.changeO hs e ⟨z,il⟩
end
theorem QG.weak {X:Cx} {e:Expr} {t t':TG} (h:QG X e t) (q:∀ v σ H Q,t' v σ H Q→t v σ H Q):QG X e t':=⟨fun pins s σ H v u Q I r z=>h.h pins s σ H v u Q I r (q _ _ _ _ z)⟩
theorem QI.weak {X:Cx} {tg e:Expr} {t t':TI} (h:QI X tg e t) (q:∀ σ H R,t' σ H R→t σ H R):QI X tg e t':=⟨fun pins s σ H R I z=>h.h pins s σ H R I (q _ _ _ z)⟩
theorem QC.weak {X:Cx} {e:List Expr} {t t':TT} (h:QC X e t) (q:∀ σ H Q,t' σ H Q→t σ H Q):QC X e t':=⟨fun pins s σ H Q I z=>h.h pins s σ H Q I (q _ _ _ z)⟩
noncomputable def tG (tg:Tg):TG:=fun v σ H Q=>∃ B G ρ t ρ',FI B H G σ ρ∧Is (dls H G) v t∧Qgj tg t ρ=some ρ'∧∀ σ',FI B H G σ' ρ'→(∀ k a,PrvAt σ' ρ' k a→PrvAt σ ρ k a)→Q σ' H
theorem Qqh {i:Nat} {t:T} {σ:St} {ρ ρ':En} {v:V} (h:Qbb i (.fz t) ρ=some ρ'):∀ k a,PrvAt (σ.set i (some v)) ρ' k a→PrvAt σ ρ k a:=fun k a hk=>by
 obtain ⟨h1,rfl⟩:=Qjm h
 obtain ⟨⟨u,e⟩,q⟩:=hk
 rw [Qdj] at e
 by_cases z:k=i∧i<ρ.length
 ·rw [if_pos z] at e;cases e
 ·rw [if_neg z] at e
  have hk:k≠i:=fun y=>z ⟨y,h1⟩
  rw [Qgr hk] at q
  exact ⟨⟨u,e⟩,q⟩
noncomputable def Qyq:List Nat→TGs
 | []=>Q47
 | i::is=>Qwq (Qgi i) (Qyq is)
section
variable {X:Cx} {e:Expr} {es:List Expr} {pos:Pos}
theorem Qaf {i:Nat} (h:QG X e (Qgi i)):QG X e (tG (.nm i)):=h.weak fun v σ H Q ⟨B,G,ρ,t,ρ',F,hv,hs,q⟩=>q _ (F.setS hs hv) (Qqh hs)
theorem Qtw {B:Bs} {H:Hp} {G:Addr→Prop} {Q:St→Hp→Prop}:∀ {is:List Nat} {ts:List T} {xs:List V} {σ:St} {ρ ρ':En},FI B H G σ ρ→IsL (dls H G) xs ts→Qbi is ts ρ=some ρ'→(∀ σ',FI B H G σ' ρ'→(∀ k a,PrvAt σ' ρ' k a→PrvAt σ ρ k a)→Q σ' H)→Qyq is xs σ H Q
 | [],[],xs,σ,ρ,ρ',F,r,e,q=>by
  cases e
  exact ⟨r.nil_inv,q σ F fun _ _ h=>h⟩
 | i::is,t::ts,xs,σ,ρ,ρ',F,r,e,q=>by
  obtain ⟨v,w,rfl,a,r⟩:=r.cons_inv
  unfold Qbi at e
  cases h:Qbb i (.fz t) ρ with
  | none=>rw [h] at e;cases e
  | some ρ1 =>
   rw [h] at e
   exact ⟨v,w,rfl,Qtw (F.setS h a) r e fun σ' F' o=>q σ' F' fun k b hk=>Qqh h k b (o k b hk)⟩
 | [],_::_,_,_,_,_,_,_,e,_=>by cases e
 | _::_,[],_,_,_,_,_,_,e,_=>by cases e
theorem Qkb:∀ {is:List Nat} {ts:List T} {ρ ρ':En},Qbi is ts ρ=some ρ'→ts.length=is.length
 | [],[],_,_,_=>rfl
 | i::is,t::ts,ρ,ρ',e=>by
  unfold Qbi at e
  cases h:Qbb i (.fz t) ρ with
  | none=>rw [h] at e;cases e
  | some ρ1=>rw [h] at e;rw [List.length_cons,List.length_cons,Qkb e]
 | [],_::_,_,_,e=>by cases e
 | _::_,[],_,_,e=>by cases e
theorem Qok {K:PySem.W.Frag} {n:Nat} {is:List Nat} (h:QG X e (Q0r K n (Qyq is))) (hn:is.length=n):QG X e (tG (.tp is)):=h.weak fun v σ H Q ⟨B,G,ρ,t,ρ',F,hv,hs,q⟩=>by
 cases t <;> first | (cases hs;done) | skip
 have hs:Qbi is _ ρ=some ρ':=hs
 obtain ⟨a,vs,rfl,ea,r⟩:=hv.tup_inv
 exact ⟨a,vs,rfl,SqT.of (Qal ea).2,by rw [r.length,Qkb hs,hn],Qtw F r hs q⟩
end
structure WkR (J:It) (H0:Hp) (G0:Addr→Prop) (Ok:Hp→Prop) (ts:List T):Prop where
 go:∀ i H,i<ts.length→Ok H→J.go i H
 stop:∀ i H,ts.length≤i→Ok H→J.stop i H
 yld:∀ i H x H',i<ts.length→Ok H→J.yld i H x H'→Same H H'∧∃ t,ts[i]?=some t∧∀ G,Pen H G→Same (dls H0 G0) (dls H G)→Is (dls H' G) x t
noncomputable def tW (p:Pr) (w:W):TI:=fun σ H R=>∃ G ρ,FI (Qa7 H G σ ρ) H G σ ρ∧Fin p (Qa7 H G σ ρ) σ (evW p.cf w ρ) fun its ρ1=>its.2=none∧∀ J H1 G1 Ok,FI (Qa7 H G σ ρ) H1 G1 σ ρ1→WkR J H1 G1 Ok its.1→(∀ H' G',Same (dls H1 G1) (dls H' G')→Ok H')→R J H1
section
variable {X:Cx} {p:Pr} {e a b tg:Expr} {a' b' e':E} {pos p1:Pos} {K:PySem.W.Frag}
theorem wk_l {H:Hp} {G:Addr→Prop} {l:Addr} {vs:List V} {ts:List T} (r:IsL (dls H G) vs ts):WkR (Itl K l) H G (fun H'=>SqL K H' l vs) ts where
 go:=fun i H' hi ok=>⟨vs,_,ok,List.getElem?_eq_getElem (by rw [r.length];exact hi)⟩
 stop:=fun i H' hi ok=>⟨vs,ok,by rw [r.length];exact hi⟩
 yld:=fun i H' x H2 hi ok y=>by
  obtain ⟨rfl,hx⟩:=y
  obtain ⟨t,et,it⟩:=r.get (hx vs ok)
  exact ⟨Same.refl _,t,et,fun G' _ s=>it.mono s⟩
theorem wk_t {H:Hp} {G:Addr→Prop} {l:Addr} {vs:List V} {ts:List T} (r:IsL (dls H G) vs ts):WkR (Itt K l) H G (fun H'=>SqT K H' l vs) ts where
 go:=fun i H' hi ok=>⟨vs,_,ok,List.getElem?_eq_getElem (by rw [r.length];exact hi)⟩
 stop:=fun i H' hi ok=>⟨vs,ok,by rw [r.length];exact hi⟩
 yld:=fun i H' x H2 hi ok y=>by
  obtain ⟨rfl,hx⟩:=y
  obtain ⟨t,et,it⟩:=r.get (hx vs ok)
  exact ⟨Same.refl _,t,et,fun G' _ s=>it.mono s⟩
theorem Qc0 (lo:Int) (n:Nat):(Qbt lo n).length=n:=by unfold Qbt;rw [List.length_map,List.length_range]
theorem Qvu {lo:Int} {n i:Nat} (hi:i<n):(Qbt lo n)[i]?=some (.int (lo+i)):=by
 unfold Qbt
 rw [List.getElem?_map,List.getElem?_range hi]
 rfl
theorem wk_r {H:Hp} {G:Addr→Prop} {lo:Int} {n:Nat}:WkR (Itr lo n) H G (fun _=>True) (Qbt lo n) where
 go:=fun i H' hi _=>by rw [Qc0] at hi;exact hi
 stop:=fun i H' hi _=>by rw [Qc0] at hi;exact hi
 yld:=fun i H' x H2 hi _ y=>by
  rw [Qc0] at hi
  obtain ⟨rfl,rfl⟩:=y
  exact ⟨Same.refl _,_,Qvu hi,fun _ _ _=>Is.int⟩
theorem Qyr {r:PV} {ρ:En} {t:T} (h:Qh5 r=none) (e:cont ρ r=some t):frz r=some t:=by
 cases r with
 | fz t=>exact e
 | ow t=>exact e
 | sl i=>cases h
theorem Qbx (hK:X.K=K) (ha:QE X e (tE p e')):QI X tg e (tW p (.seq e')):=(Qxp K hK ha).weak fun σ H R ⟨G,ρ,F,h⟩=>by
 unfold evW at h
 refine ⟨G,ρ,F,h.bind.imp fun r ρ1 h1 v H1 G1 F1 r1=>?_⟩
 cases ec:cont ρ1 r with
 | none=>rw [ec] at h1;exact False.elim h1
 | some t =>
  rw [ec] at h1
  cases es:Qdv t with
  | none =>
   replace h1:Fin p (Qa7 H G σ ρ) σ (match Qdv t with | some ts=>.ok (ts,Qh5 r) ρ1 | none=>.no) _:=h1
   rw [es] at h1
   exact False.elim h1
  | some ts =>
   replace h1:Fin p (Qa7 H G σ ρ) σ (match Qdv t with | some ts=>.ok (ts,Qh5 r) ρ1 | none=>.no) _:=h1
   rw [es] at h1
   obtain ⟨hn,k⟩:=h1
   obtain ⟨G',F',hv,_⟩:=PVR.lay (B:=Qa7 H G σ ρ) r1 F1 (Qyr hn ec)
   cases t <;> first | (cases es;done) | skip
   ·cases es
    obtain ⟨l,vs,rfl,el,rl⟩:=hv.tup_inv
    exact ⟨l,rfl,.inr ⟨⟨vs,SqT.of (Qal el).2⟩,k _ H1 G' _ F' (wk_t rl) fun H' G2 s=>SqT.of (Qal (s _ _ el)).2⟩⟩
   ·cases es
    obtain ⟨l,vs,rfl,el,rl⟩:=hv.lst_inv
    exact ⟨l,rfl,.inl ⟨⟨vs,SqL.of (Qal el).2⟩,k _ H1 G' _ F' (wk_l rl) fun H' G2 s=>SqL.of (Qal (s _ _ el)).2⟩⟩
theorem Q17 (hm:X.mg "range" = none) (ha:QE X a (tE p a')) (hg:Gl X "range") (hs:Qae a=true):QI X tg (.Call (.Name "range" p1) [a] [] pos) (tW p (.rng1 a')):=(Q6a hm (Q5 ha Qbk hs) hg hs).weak fun σ H R ⟨G,ρ,F,h⟩=>by
 unfold evW at h
 refine ⟨G,ρ,F,h.bind.imp fun r ρ1 h1 v H1 G1 F1 r1=>?_⟩
 cases r with
 | ow t=>exact False.elim h1
 | sl i=>exact False.elim h1
 | fz t =>
  cases t <;> first | exact False.elim h1 | skip
  rename_i j
  replace h1:Fin p (Qa7 H G σ ρ) σ (if j.natAbs≤100000 then .ok (Qbt 0 j.toNat,none) ρ1 else .no) _:=h1
  by_cases z:j.natAbs≤100000
  ·rw [if_pos z] at h1
   obtain rfl:=r1.is.int_inv
   exact ⟨j,rfl,by omega,by omega,h1.2 _ H1 G1 _ F1 wk_r fun _ _ _=>trivial⟩
  ·rw [if_neg z] at h1;exact False.elim h1
end
theorem Qc1 (js:List (Option Nat)) (ρ:En) (k:Nat):Qc (Qb5 js ρ) k=match js[k]? with
  | some (some j)=>(Qc ρ j).lend
  | _=>.un:=by
 show (match (js.map fun o=>match o with | none=>Slot.un | some j=>(Qc ρ j).lend)[k]? with | some s=>s | none=>Slot.un)=_
 rw [List.getElem?_map]
 cases js[k]? with
 | none=>rfl
 | some o=>cases o <;> rfl
theorem Qgs (js:List (Option Nat)) (σ:St) (k:Nat):(Qd4 js σ)[k]?=match js[k]? with
  | some (some j)=>some ((σ[j]?).join)
  | some none=>some none
  | none=>none:=by
 unfold Qd4
 rw [List.getElem?_map]
 cases js[k]? with
 | none=>rfl
 | some o=>cases o <;> rfl
theorem Qgt (js:List (Option Nat)) (ρi:En):∀ (ρ:En) (n j:Nat),Qc (Qdu js ρi n ρ) j=if j<ρ.length then Qhu js ρi (n+j) (Qc ρ j) else .un
 | [],n,j=>by
  unfold Qdu
  rw [if_neg (by simp),Qf2]
 | s::ρ,n,0=>by unfold Qdu;rw [if_pos (by simp)];rfl
 | s::ρ,n,j+1=>by
  unfold Qdu
  rw [Qd,Qd,Qgt js ρi ρ (n+1) j,show n+1+j=n+(j+1) by omega]
  by_cases h:j<ρ.length
  ·rw [if_pos h,if_pos (by rw [List.length_cons];omega)]
  ·rw [if_neg h,if_neg (by rw [List.length_cons];omega)]
theorem Qkc (js:List (Option Nat)) (ρi:En):∀ (ρ:En) (n:Nat),(Qdu js ρi n ρ).length=ρ.length
 | [],_=>rfl
 | s::ρ,n=>by unfold Qdu;rw [List.length_cons,List.length_cons,Qkc js ρi ρ (n+1)]
theorem Qc2 (js:List (Option Nat)) (ρi:En) (j:Nat) (s:Slot):Qhu js ρi j s=s∨∃ k t,js.idxOf? (some j)=some k∧Qc ρi k=.ml t∧Qhu js ρi j s=s.put t:=by
 unfold Qhu
 cases h1:js.idxOf? (some j) with
 | none=>exact .inl rfl
 | some k =>
  cases h2:Qc ρi k with
  | ml t=>exact .inr ⟨k,t,rfl,h2,by simp only [h2]⟩
  | un=>exact .inl (by simp only [h2])
  | pin _=>exact .inl (by simp only [h2])
  | fx _=>exact .inl (by simp only [h2])
  | fz t=>exact .inl (by simp only [h2])
  | ow t=>exact .inl (by simp only [h2])
  | ro t=>exact .inl (by simp only [h2])
theorem Qe7 (js:List (Option Nat)) (ρi ρ:En) (j:Nat):Qc (Qjj js ρi ρ) j=Qhu js ρi j (Qc ρ j):=by
 unfold Qjj
 rw [Qgt,Nat.zero_add]
 by_cases h:j<ρ.length
 ·rw [if_pos h]
 ·rw [if_neg h]
  have e:Qc ρ j=.un:=by
   unfold Qc
   rw [List.getElem?_eq_none_iff.mpr (by omega)]
  rw [e]
  rcases Qc2 js ρi j .un with z | ⟨k,t,_,_,z⟩ <;> rw [z] <;> rfl
theorem Q18:∀ {js:List (Option Nat)} {j k:Nat},js.idxOf? (some j)=some k→js[k]?=some (some j):=by
 intro js j k h
 have:=List.idxOf?_eq_some_iff.mp h
 obtain ⟨h1,h2,_⟩:=this
 rw [List.getElem?_eq_getElem h1,h2]
theorem Qys {js:List (Option Nat)} {j k:Nat} (h:js.idxOf? (some j)=none):js[k]?≠some (some j):=fun e=>by
 have:=List.idxOf?_eq_none_iff.mp h
 exact this (List.mem_of_getElem? e)
theorem Qlw:∀ {js:List (Option Nat)},Qbm js=true→∀ (i k j:Nat),js[i]?=some (some j)→js[k]?=some (some j)→i=k
 | [],_,i,k,j,e,_=>by simp at e
 | r::js,h,i,k,j,e1,e2=>by
  have tl:Qbm js=true:=by
   cases r with
   | some q=>unfold Qbm at h;rw [Bool.and_eq_true] at h;exact h.2
   | none=>exact h
  have hd:∀ (m:Nat),r=some j→js[m]?=some (some j)→False:=fun m er em=>by
   subst er
   unfold Qbm at h
   rw [Bool.and_eq_true] at h
   have q:=List.all_eq_true.mp h.1 _ (List.mem_of_getElem? em)
   simp at q
  cases i with
  | zero =>
   cases k with
   | zero=>rfl
   | succ k=>simp at e1;rw [List.getElem?_cons_succ] at e2;exact (hd k e1 e2).elim
  | succ i =>
   cases k with
   | zero=>simp at e2;rw [List.getElem?_cons_succ] at e1;exact (hd i e2 e1).elim
   | succ k =>
    rw [List.getElem?_cons_succ] at e1 e2
    rw [Qlw tl i k j e1 e2]
theorem Qnn:∀ {ρ0 ρ:En},Qee ρ0 ρ=true→∀ (i:Nat) (t:T),Qc ρ0 i=.ml t→∃ t',Qc ρ i=.ml t'
 | [],[],_,i,t,e=>by rw [Qf2] at e;cases e
 | [],_::_,h,_,_,_=>by cases h
 | s0::ρ0,[],h,_,_,_=>by cases s0 <;> cases h
 | s0::ρ0,s::ρ,h,i,t,e=>by
  have tl:Qee ρ0 ρ=true:=by
   cases s0 <;> first | exact h | skip
   unfold Qee at h
   rw [Bool.and_eq_true] at h
   exact h.2
  cases i with
  | zero =>
   rw [Qb] at e
   subst e
   unfold Qee at h
   rw [Bool.and_eq_true] at h
   cases s <;> first | (simp at h;done) | exact ⟨_,rfl⟩
  | succ i =>
   rw [Qd] at e ⊢
   exact Qnn tl i t e
section
variable {B:Bs} {H H1 H2:Hp} {G G1 G2:Addr→Prop} {σ σ2:St} {ρ ρi:En} {js:List (Option Nat)}
theorem Qyt {s:Slot} {t:T} (h:s.lend.prv=some t):s.prv=some t:=by cases s <;> exact h
theorem FI.cap (F:FI B H G σ ρ) (hj:Qbm js=true):FI (Qa7 H G (Qd4 js σ) (Qb5 js ρ)) H G (Qd4 js σ) (Qb5 js ρ):=by
 have pv:∀ k a,PrvAt (Qd4 js σ) (Qb5 js ρ) k a→∃ j,js[k]?=some (some j)∧PrvAt σ ρ j a:=fun k a h=>by
  obtain ⟨⟨t,e⟩,q⟩:=h
  rw [Qc1] at e
  rw [Qgs] at q
  cases hk:js[k]? with
  | none=>rw [hk] at e;cases e
  | some o =>
   cases o with
   | none=>rw [hk] at e;cases e
   | some j =>
    rw [hk] at e q
    refine ⟨j,rfl,⟨t,Qyt e⟩,?_⟩
    replace q:some (σ[j]?.join)=some (some (.ref a)):=q
    cases hs:σ[j]? with
    | none=>rw [hs] at q;cases q
    | some w=>rw [hs] at q;exact q
 refine ⟨by unfold Qd4 Qb5;rw [List.length_map,List.length_map],fun k=>?_,fun i k a h1 h2=>?_,F.prv,fun _ _ _ _ e=>e,fun _ o e=>⟨o,e⟩,fun _ h=>.inr h,fun _ h=>h,fun _ _ h=>h,fun _ h=>h,fun _ h=>.inl h,fun b h=>let ⟨xs,e,_⟩:=F.prv b h;⟨_,e⟩⟩
 ·rw [Qc1]
  cases hk:js[k]? with
  | none=>trivial
  | some o =>
   cases o with
   | none=>trivial
   | some j =>
    have q:=F.slot j
    have gt:∀ v,σ[j]?=some (some v)→(Qd4 js σ)[k]?=some (some v):=fun v e=>by
     rw [Qgs,hk]
     show some (σ[j]?.join)=_
     rw [e]
     rfl
    show Qlo H G (Qd4 js σ) k (Qc ρ j).lend
    cases hs:Qc ρ j with
    | un=>trivial
    | pin a=>trivial
    | fx t=>rw [hs] at q;obtain ⟨v,o,e,_,i⟩:=q;exact ⟨_,gt _ e,i⟩
    | fz t=>rw [hs] at q;obtain ⟨v,e,i⟩:=q;exact ⟨v,gt _ e,i⟩
    | ow t=>rw [hs] at q;obtain ⟨v,e,i⟩:=q;exact ⟨v,gt _ e,i⟩
    | ml t=>rw [hs] at q;obtain ⟨v,e,i⟩:=q;exact ⟨v,gt _ e,i⟩
    | ro t=>rw [hs] at q;obtain ⟨v,e,i⟩:=q;exact ⟨v,gt _ e,i⟩
 ·obtain ⟨j1,e1,p1⟩:=pv i a h1
  obtain ⟨j2,e2,p2⟩:=pv k a h2
  have ej:=F.apart j1 j2 a p1 p2
  subst ej
  exact Qlw hj i k j1 e1 e2
theorem FI.uncap (F:FI B H G σ ρ) (hj:Qbm js=true) (I:FI (Qa7 H G (Qd4 js σ) (Qb5 js ρ)) H2 G2 σ2 ρi) (hk:Qee (Qb5 js ρ) ρi=true):FI B H2 G2 σ (Qjj js ρi ρ):=by
 have Fc:=F.cap hj
 have sm:=Fc.same I
 have noO:∀ a,¬ OwA (Qd4 js σ) (Qb5 js ρ) a:=fun a h=>by
  obtain ⟨k,t,e,_⟩:=h
  rw [Qc1] at e
  cases hk:js[k]? with
  | none=>rw [hk] at e;cases e
  | some o =>
   cases o with
   | none=>rw [hk] at e;cases e
   | some j =>
    rw [hk] at e
    have e:(Qc ρ j).lend=.ow t:=e
    cases hs:Qc ρ j <;> rw [hs] at e <;> cases e
 have isM:∀ a,MlA (Qd4 js σ) (Qb5 js ρ) a→∃ (k j:Nat) (t:T),js[k]?=some (some j)∧(Qc ρ j=.ow t∨Qc ρ j=.ml t)∧σ[j]?=some (some (.ref a)):=fun a h=>by
  obtain ⟨k,t,e,q⟩:=h
  rw [Qc1] at e
  rw [Qgs] at q
  cases hk:js[k]? with
  | none=>rw [hk] at e;cases e
  | some o =>
   cases o with
   | none=>rw [hk] at e;cases e
   | some j =>
    rw [hk] at e q
    have e:(Qc ρ j).lend=.ml t:=e
    refine ⟨k,j,t,hk,?_,?_⟩
    ·cases hs:Qc ρ j <;> rw [hs] at e <;> cases e
     ·exact .inl rfl
     ·exact .inr rfl
    ·replace q:some (σ[j]?.join)=some (some (.ref a)):=q
     cases hs:σ[j]? with
     | none=>rw [hs] at q;cases q
     | some w=>rw [hs] at q;exact q
 -- a list of the frame that the block can't change
 have stay:∀ j a t,(Qc ρ j).prv=some t→σ[j]?=some (some (.ref a))→OwnAt H G a t→((∀ t,Qc ρ j≠.ow t)∧(∀ t,Qc ρ j≠.ml t)∨js.idxOf? (some j)=none)→OwnAt H2 G2 a t:=fun j a t e s o h=>by
  refine o.mono sm fun u eu=>I.chg a u (noO a) (fun z=>?_) eu
  obtain ⟨k,j',t',e1,hs,e2⟩:=isM a z
  have ej:j'=j:=F.apart j' j a ⟨⟨t',by rcases hs with hs | hs <;> rw [hs] <;> rfl⟩,e2⟩ ⟨⟨t,e⟩,s⟩
  subst ej
  rcases h with ⟨h1,h2⟩ | h
  ·rcases hs with hs | hs
   ·exact h1 _ hs
   ·exact h2 _ hs
  ·exact Qys h e1
 -- one that it may
 have lent:∀ j a t k,(Qc ρ j=.ow t∨Qc ρ j=.ml t)→σ[j]?=some (some (.ref a))→js.idxOf? (some j)=some k→∃ t',Qc ρi k=.ml t'∧OwnAt H2 G2 a t':=fun j a t k hs s hx=>by
  have e1:=Q18 hx
  have e0:Qc (Qb5 js ρ) k=.ml t:=by
   rw [Qc1,e1]
   show (Qc ρ j).lend=_
   rcases hs with hs | hs <;> rw [hs] <;> rfl
  obtain ⟨t',e2⟩:=Qnn hk k t e0
  have q:=I.slot k
  rw [e2] at q
  obtain ⟨a',q1,_,q3⟩:=q
  obtain ⟨_,q4⟩:=I.fix k a' ⟨⟨t',.inl e2⟩,q1⟩
  rw [Qgs,e1] at q4
  replace q4:some (σ[j]?.join)=some (some (.ref a')):=q4
  rw [s] at q4
  have q5:a=a':=by
   have:=Option.some.inj q4
   have:=Option.some.inj (show some (V.ref a)=some (V.ref a') from this)
   cases this
   rfl
  subst q5
  exact ⟨t',e2,q3⟩
 have kd:∀ j s',Qc (Qjj js ρi ρ) j=s'→(s'=Qc ρ j∨∃ t,s'=(Qc ρ j).put t):=fun j s' h=>by
  rw [Qe7] at h
  rcases Qc2 js ρi j (Qc ρ j) with z | ⟨k,t,_,_,z⟩
  ·rw [z] at h;exact .inl h.symm
  ·rw [z] at h;exact .inr ⟨t,h.symm⟩
 have pv:∀ j a,PrvAt σ (Qjj js ρi ρ) j a→PrvAt σ ρ j a:=fun j a h=>by
  obtain ⟨⟨u,e⟩,q⟩:=h
  refine ⟨?_,q⟩
  rcases kd j _ rfl with z | ⟨t,z⟩
  ·rw [z] at e;exact ⟨u,e⟩
  ·rw [z] at e;exact Qkw e
 exact {
  len:=by unfold Qjj;rw [Qkc];exact F.len
  slot:=fun j=>by
   have q:=F.slot j
   have bc:=Qc2 js ρi j (Qc ρ j)
   rw [Qe7]
   cases hs:Qc ρ j with
   | un =>
    rw [hs] at bc
    rcases bc with e | ⟨k,t,_,_,e⟩ <;> rw [e] <;> trivial
   | pin a =>
    rw [hs] at q bc
    rcases bc with e | ⟨k,t,_,_,e⟩ <;> rw [e] <;> exact q
   | fz t =>
    rw [hs] at q bc
    obtain ⟨v,e1,e2⟩:=q
    rcases bc with e | ⟨k,t,_,_,e⟩ <;> rw [e] <;> exact ⟨v,e1,e2.mono sm⟩
   | fx t =>
    rw [hs] at q bc
    obtain ⟨v,o,e1,e3,e2⟩:=q
    rcases bc with e | ⟨k,t,_,_,e⟩ <;> rw [e] <;> exact ⟨v,o,e1,sm _ _ e3,e2.mono sm⟩
   | ro t =>
    rw [hs] at q bc
    obtain ⟨a,e1,g,o⟩:=q
    have o':=stay j a t (by rw [hs];rfl) e1 o (.inl ⟨fun t z=>(by rw [hs] at z;cases z),fun t z=>(by rw [hs] at z;cases z)⟩)
    rcases bc with e | ⟨k,t,_,_,e⟩ <;> rw [e] <;> exact ⟨a,e1,I.gg a g,o'⟩
   | ow t =>
    rw [hs] at q bc
    obtain ⟨a,e1,g,o⟩:=q
    cases hp:js.idxOf? (some j) with
    | none =>
     have o':=stay j a t (by rw [hs];rfl) e1 o (.inr hp)
     rcases bc with e | ⟨k,t',h,_,e⟩
     ·rw [e];exact ⟨a,e1,I.gg a g,o'⟩
     ·rw [hp] at h;cases h
    | some k =>
     obtain ⟨t',ef,o'⟩:=lent j a t k (.inl hs) e1 hp
     have e:Qhu js ρi j (.ow t)=.ow t':=by unfold Qhu;rw [hp];simp only [ef];rfl
     rw [e]
     exact ⟨a,e1,I.gg a g,o'⟩
   | ml t =>
    rw [hs] at q bc
    obtain ⟨a,e1,g,o⟩:=q
    cases hp:js.idxOf? (some j) with
    | none =>
     have o':=stay j a t (by rw [hs];rfl) e1 o (.inr hp)
     rcases bc with e | ⟨k,t',h,_,e⟩
     ·rw [e];exact ⟨a,e1,I.gg a g,o'⟩
     ·rw [hp] at h;cases h
    | some k =>
     obtain ⟨t',ef,o'⟩:=lent j a t k (.inr hs) e1 hp
     have e:Qhu js ρi j (.ml t)=.ml t':=by unfold Qhu;rw [hp];simp only [ef];rfl
     rw [e]
     exact ⟨a,e1,I.gg a g,o'⟩
  apart:=fun i j a h1 h2=>F.apart i j a (pv i a h1) (pv j a h2)
  prv:=I.prv
  chg:=fun b o h1 h2 e=>I.chg b o (noO b) (fun z=>by
   obtain ⟨k,j,t,_,hs,q⟩:=isM b z
   rcases hs with hs | hs
   ·rcases F.newO b ⟨j,t,hs,q⟩ with y | y
    ·rw [e] at y;cases y
    ·exact h1 y
   ·exact h2 (F.newM b ⟨j,t,hs,q⟩)) (F.chg b o h1 h2 e)
  keep:=fun b o e=>by
   obtain ⟨o1,e1⟩:=F.keep b o e
   exact I.keep b o1 e1
  newO:=fun a h=>by
   obtain ⟨j,t,e,s⟩:=h
   rcases kd j _ e with z | ⟨u,z⟩
   ·exact F.newO a ⟨j,t,z.symm,s⟩
   ·cases hs:Qc ρ j <;> rw [hs] at z <;> cases z
    exact F.newO a ⟨j,_,hs,s⟩
  newM:=fun a h=>by
   obtain ⟨j,t,e,s⟩:=h
   rcases kd j _ e with z | ⟨u,z⟩
   ·exact F.newM a ⟨j,t,z.symm,s⟩
   ·cases hs:Qc ρ j <;> rw [hs] at z <;> cases z
    exact F.newM a ⟨j,_,hs,s⟩
  fix:=fun j a h=>by
   obtain ⟨⟨t,e⟩,s⟩:=h
   refine F.fix j a ⟨?_,s⟩
   rcases e with e | e | e
   ·rcases kd j _ e with z | ⟨u,z⟩
    ·exact ⟨t,.inl z.symm⟩
    ·cases hs:Qc ρ j <;> rw [hs] at z <;> cases z
     exact ⟨_,.inl rfl⟩
   ·rcases kd j _ e with z | ⟨u,z⟩
    ·exact ⟨t,.inr (.inl z.symm)⟩
    ·cases hs:Qc ρ j <;> rw [hs] at z <;> cases z
     exact ⟨_,.inr (.inl rfl)⟩
   ·rcases kd j _ e with z | ⟨u,z⟩
    ·exact ⟨t,.inr (.inr z.symm)⟩
    ·cases hs:Qc ρ j <;> rw [hs] at z <;> cases z
     exact ⟨_,.inr (.inr rfl)⟩
  gg:=fun b h=>I.gg b (F.gg b h)
  gn:=fun b h=>by
   rcases I.gn b h with z | z
   ·exact F.gn b z
   ·exact .inr (F.free z)
  bp:=F.bp }
end
noncomputable def tCs (p:Pr) (cs:Es):TT:=fun σ H Q=>∃ G ρ,FI (Qa7 H G σ ρ) H G σ ρ∧Fin p (Qa7 H G σ ρ) σ (evC p.cf cs ρ) fun b ρ1=>∀ H1 G1,FI (Qa7 H G σ ρ) H1 G1 σ ρ1→Q b H1
section
variable {X:Cx} {p:Pr} {a:Expr} {a':E}
theorem Qcd:QC X [] (tCs p .nil):=q_c0.weak fun σ H Q ⟨G,ρ,F,h⟩=>by unfold evC at h;exact h H G F
theorem Qsb (ha:QT X a (tT p a')):QC X [a] (tCs p (.cons a' .nil)):=(q_c1 ha).weak fun σ H Q ⟨G,ρ,F,h⟩=>by unfold evC at h;exact ⟨G,ρ,F,h⟩
end
noncomputable abbrev Pr.calm (p:Pr):Pr:={ p with R:=fun _ _ _ _=>False }
theorem Qkx {α β:Type} {o:Out α} {k:α→En→Out β} {b:β} {ρ:En} (h:o.bind k=.ok b ρ):∃ a ρ1,o=.ok a ρ1∧k a ρ1=.ok b ρ:=by
 cases o with
 | ok a ρ1=>exact ⟨a,ρ1,rfl,h⟩
 | xn x ρ1=>cases h
 | no=>cases h
theorem FI.under {B:Bs} {H:Hp} {G:Addr→Prop} {σ:St} {ρ:En} (F:FI B H G σ ρ) {l:Addr} {ys:List V} (g:G l) (np:∀ k,¬ PrvAt σ ρ k l) (hb:B.H l=none):FI B (upd H l (.lst ys)) G σ ρ∧Same (dls H G) (dls (upd H l (.lst ys)) G):=by
 have sm:Same (dls H G) (dls (upd H l (.lst ys)) G):=fun b o eb=>by
  obtain ⟨n,eb⟩:=Qal eb
  rw [Qb4 n,Qz (fun (z:b=l)=>n (by rw [z];exact g))]
  exact eb
 refine ⟨{ F with
  slot:=fun j=>Qh6 (F.slot j) sm fun b o hb1 hb2 eb=>?_
  prv:=fun b hb=>?_
  chg:=fun b o h1 h2 eb=>?_
  keep:=fun b o eb=>?_ },sm⟩
 ·have nb:b≠l:=fun z=>np j ⟨hb1,z ▸ hb2⟩
  exact ⟨by rw [Qz nb];exact eb,(PrvAt.at F ⟨hb1,hb2⟩).1⟩
 ·by_cases h:b=l
  ·exact ⟨.lst ys,by rw [h,Qp],rfl⟩
  ·rw [Qz h];exact F.prv b hb
 ·have nb:b≠l:=fun z=>by rw [z,hb] at eb;cases eb
  rw [Qz nb]
  exact F.chg b o h1 h2 eb
 ·by_cases h:b=l
  ·exact ⟨_,by rw [h,Qp]⟩
  ·rw [Qz h];exact F.keep b o eb
theorem Q19 {p:Pr} {js:List (Option Nat)} {w:W} {tg:Tg} {cs:Es} {e':E} {σ:St} {H:Hp} {Q:VK} (h:tE p (.comp w js tg cs e') σ H Q):Qm9 (tW p w) js (tG tg) (tCs p.calm cs) (tE p.calm e') σ H Q:=by
  obtain ⟨G,ρ,F,h⟩:=h
  unfold evE at h
  refine ⟨G,ρ,F,h.bind.imp fun its ρ1 h1=>?_⟩
  obtain ⟨ts,lk⟩:=its
  cases lk with
  | some _=>exact False.elim h1
  | none =>
   refine ⟨rfl,fun J H1 G1 Ok F1 wk stab l hl=>?_⟩
   replace wk:WkR J H1 G1 Ok ts:=wk
   replace h1:Fin p (Qa7 H G σ ρ) σ (match Qc8 tg (evC p.cf cs) (evE p.cf e') ts [] (Qb5 js ρ1) with
    | .ok us ρi=>if Qee (Qb5 js ρ1) ρi=true∧Qbm js=true then Out.ok (PV.ow (.lst us)) (Qjj js ρi ρ1) else .no
    | _=>.no) _:=h1
   cases ec:Qc8 tg (evC p.cf cs) (evE p.cf e') ts [] (Qb5 js ρ1) with
   | no=>rw [ec] at h1;exact False.elim h1
   | xn x ρx=>rw [ec] at h1;exact False.elim h1
   | ok tsF ρF =>
    rw [ec] at h1
    by_cases hz:Qee (Qb5 js ρ1) ρF=true∧Qbm js=true
    ·simp only [if_pos hz] at h1
     obtain ⟨hkept,hap⟩:=hz
     have Fc:=F1.cap hap
     refine ⟨fun i m ys σ2 H2=>i+m=ts.length∧∃ G2 ρi acc,FI (Qa7 H1 G1 (Qd4 js σ) (Qb5 js ρ1)) H2 G2 σ2 ρi∧G2 l∧(∀ k,¬ PrvAt σ2 ρi k l)∧H2 l=some (.lst ys)∧IsL (dls H2 G2) ys acc∧acc.length≤100000 ∧
      Qc8 tg (evC p.cf cs) (evE p.cf e') (ts.drop i) acc ρi=.ok tsF ρF,⟨ts.length,Nat.zero_add _,_,_,[],Fc.addG hl (Same.upd hl) Qp rfl,.inr rfl,fun k hk=>?_,Qp,.nil,Nat.zero_le _,ec⟩,?_⟩
     ·obtain ⟨_,t,ob,ea,_⟩:=PrvAt.at Fc hk
      rw [hl] at ea
      cases ea
     rintro i m ys σ2 H2 ⟨him,G2,ρi,acc,I2,gl,np,el,il,zl,cl⟩
     have ok2:Ok H2:=stab H2 G2 (Fc.same I2)
     by_cases hlt:i<ts.length
     ·refine .inr ⟨wk.go i H2 hlt ok2,fun x H3 y=>?_⟩
      obtain ⟨s3,t,et,ix⟩:=wk.yld i H2 x H3 hlt ok2 y
      have I3:=I2.grow s3
      have ix3:=ix G2 I2.prv (Fc.same I2)
      rw [List.drop_eq_getElem_cons hlt] at cl
      have et':ts[i]=t:=by rw [List.getElem?_eq_getElem hlt] at et;exact Option.some.inj et
      rw [et'] at cl
      unfold Qc8 at cl
      cases est:Qgj tg t ρi with
      | none=>rw [est] at cl;cases cl
      | some ρ4 =>
       rw [est] at cl
       replace cl:(evC p.cf cs ρ4).bind _=.ok tsF ρF:=cl
       obtain ⟨b,ρ5,eb,cl⟩:=Qkx cl
       refine ⟨_,G2,ρi,t,ρ4,I3,ix3,est,fun σ4 I4 old=>?_⟩
       have np4:∀ k,¬ PrvAt σ4 ρ4 k l:=fun k hk=>np k (old k l hk)
       refine ⟨G2,ρ4,I4.self,?_⟩
       rw [show p.calm.cf=p.cf from rfl,eb]
       intro H5 G5 I5
       have np5:=I4.nobody I5 (s3 _ _ el) np4
       have I5':=I4.trans I5
       have el5:H5 l=some (.lst ys):=I5.chg l _ (fun z=>by obtain ⟨j,z⟩:=OwA.prv z;exact np4 j z) (fun z=>by obtain ⟨j,z⟩:=MlA.prv z;exact np4 j z) (s3 _ _ el)
       have il5:IsL (dls H5 G5) ys acc:=(il.mono (Qbl s3)).mono (I4.same I5)
       cases b with
       | false =>
        simp only [Bool.false_eq_true,if_false] at cl ⊢
        exact ⟨m-1,by omega,by omega,G5,ρ5,acc,I5',I5.gg l gl,np5,el5,il5,zl,cl⟩
       | true =>
        simp only [if_true] at cl ⊢
        obtain ⟨r,ρ6,er,cl⟩:=Qkx cl
        refine ⟨G5,ρ5,I5'.self,?_⟩
        rw [show p.calm.cf=p.cf from rfl,er]
        intro v H6 G6 I6 r6
        cases ef:frz r with
        | none=>rw [ef] at cl;cases cl
        | some t6 =>
         rw [ef] at cl
         replace cl:(if acc.length<100000 then Qc8 tg (evC p.cf cs) (evE p.cf e') (ts.drop (i+1)) (acc++[t6]) ρ6 else .no)=.ok tsF ρF:=cl
         by_cases za:acc.length<100000
         ·rw [if_pos za] at cl
          have np6:=I5'.nobody I6 el5 np5
          have el6:H6 l=some (.lst ys):=I6.chg l _ (fun z=>by obtain ⟨j,z⟩:=OwA.prv z;exact np5 j z) (fun z=>by obtain ⟨j,z⟩:=MlA.prv z;exact np5 j z) el5
          have il6:IsL (dls H6 G6) ys acc:=il5.mono (I5'.same I6)
          obtain ⟨G7,I7,i7,s7⟩:=PVR.lay (B:=Qa7 H5 G5 σ4 ρ5) r6 I6 ef
          have g7:G7 l:=I7.gg l (I5.gg l gl)
          have I7':=I5'.trans I7
          have hb:(Qa7 H1 G1 (Qd4 js σ) (Qb5 js ρ1)).H l=none:=hl
          obtain ⟨I8,s8⟩:=I7'.under (ys:=ys++[v]) g7 np6 hb
          have zy:=il6.length
          refine ⟨el6,by rw [zy,sizeLine_eq];omega,m-1,by omega,by omega,G7,ρ6,acc++[t6],I8,g7,np6,Qp,((il6.mono (Qc6 s7)).append (.one i7)).mono s8,by rw [List.length_append,List.length_singleton];omega,cl⟩
         ·rw [if_neg za] at cl;cases cl
     ·have e0:ts.drop i=[]:=List.drop_of_length_le (by omega)
      rw [e0] at cl
      cases cl
      refine .inl ⟨wk.stop i H2 (by omega) ok2,h1 _ H2 G2 (F1.uncap hap I2 hkept) ?_⟩
      refine ⟨l,rfl,F1.free hl,gl,fun k hk=>?_,.lst ys,el,zl,il⟩
      obtain ⟨⟨u,eu⟩,q⟩:=hk
      rw [Qe7] at eu
      have:∃ u,(Qc ρ1 k).prv=some u:=by
       rcases Qc2 js ρF k (Qc ρ1 k) with z | ⟨_,t,_,_,z⟩
       ·rw [z] at eu;exact ⟨u,eu⟩
       ·rw [z] at eu;exact Qkw eu
      obtain ⟨_,t,ob,ea,_⟩:=PrvAt.at F1 ⟨this,q⟩
      rw [hl] at ea
      cases ea
    ·simp only [if_neg hz] at h1
     exact False.elim h1
theorem Q7e {X:Cx} {p:Pr} {tgE elt iter:Expr} {ifs:List Expr} {scope:Scope} {pos:Pos} {N:List Str} {js:List (Option Nat)} {w:W} {tg:Tg} {cs:Es} {e':E} (hcalm:X.calm=true)
  (hi:QI X tgE iter (tW p w)) (hg:∀ s H fp,QG (Qag X scope N s H fp) tgE (tG tg)) (hc:∀ s H fp,QC (Qag X scope N s H fp) ifs (tCs p.calm cs)) (he:∀ s H fp,QE (Qag X scope N s H fp) elt (tE p.calm e'))
  (hk:scope.kind=.function) (h1:scOk X scope=true) (h2:Qim X scope N js=true) (hs:∀ x,foldedSetIterable iter X.env x=pure x):QE X (.ListComp elt [⟨tgE,iter,ifs,0⟩] scope pos) (tE p (.comp w js tg cs e')) :=
 (Q6b N js hcalm hi hg hc he hk h1 h2 hs).weak fun σ H Q h=>Q19 h
theorem QS.weak {X:Cx} {e:Stmt} {t t':TS} (h:QS X e t) (q:∀ D σ H,t' D σ H→t D σ H):QS X e t':=⟨fun pins s σ H D I z=>h.h pins s σ H D I (q _ _ _ z)⟩
theorem QB.weak {X:Cx} {e:List Stmt} {t t':TS} (h:QB X e t) (q:∀ D σ H,t' D σ H→t D σ H):QB X e t':=⟨fun pins s σ H D I z=>h.h pins s σ H D I (q _ _ _ z)⟩
noncomputable def SFin (p:Pr) (B:Bs) (H:Hp) (G:Addr→Prop) (D:Ends):SO→Prop
 | .nx ρ1=>∀ σ1 H1 G1,FI B H1 G1 σ1 ρ1→Same (dls H G) (dls H1 G1)→D.nx σ1 H1
 | .bk ρ1=>∀ σ1 H1 G1,FI B H1 G1 σ1 ρ1→Same (dls H G) (dls H1 G1)→D.bk σ1 H1
 | .ct ρ1=>∀ σ1 H1 G1,FI B H1 G1 σ1 ρ1→Same (dls H G) (dls H1 G1)→D.ct σ1 H1
 | .rt r ρ1=>∀ v σ1 H1 G1,FI B H1 G1 σ1 ρ1→PVR B.H H1 G1 σ1 ρ1 v r→D.rt v H1
 | .xn x ρ1=>∀ cls dx σ1 H1 G1,FI B H1 G1 σ1 ρ1→Q1t p.mg H1 x cls dx→p.R cls dx σ1 H1
 | .no=>False
noncomputable def tS (p:Pr) (s:S):TS:=fun D σ H=>∃ B G ρ,FI B H G σ ρ∧(∀ a,¬ B.O a)∧SFin p B H G D (exS p.cf s ρ)
section
variable {p:Pr} {B:Bs} {H H1:Hp} {G G1:Addr→Prop} {D:Ends} {σ:St} {ρ ρ1:En} {α:Type}
theorem SFin.late {o:SO} (h:SFin p B H G D o) (s:Same (dls H G) (dls H1 G1)):SFin p B H1 G1 D o:=by
 cases o with
 | nx ρ1=>exact fun σ1 H2 G2 F q=>h σ1 H2 G2 F (s.trans q)
 | bk ρ1=>exact fun σ1 H2 G2 F q=>h σ1 H2 G2 F (s.trans q)
 | ct ρ1=>exact fun σ1 H2 G2 F q=>h σ1 H2 G2 F (s.trans q)
 | rt r ρ1=>exact h
 | xn x ρ1=>exact h
 | no=>exact h
theorem Qet {o:Out α} {k:α→En→SO} (h:SFin p B H G D (ofO o k)):Fin p B σ o fun a ρ1=>SFin p B H G D (k a ρ1):=by
 cases o with
 | ok a ρ1=>exact h
 | xn x ρ1=>exact fun cls dx H1 G1 F xr=>h cls dx σ H1 G1 F xr
 | no=>exact h
theorem Qfs {o:Option α} {k:α→SO} (h:SFin p B H G D (Q8 o k)):∃ a,o=some a∧SFin p B H G D (k a):=by
 cases o with
 | none=>exact False.elim h
 | some a=>exact ⟨a,rfl,h⟩
theorem PVR.base {H2:Hp} {G2:Addr→Prop} {ρ2:En} {v:V} {r:PV} (h:PVR H1 H2 G2 σ ρ2 v r) (F:FI B H1 G1 σ ρ1):PVR B.H H2 G2 σ ρ2 v r:=by
 cases r with
 | fz t=>exact h
 | sl i=>exact h
 | ow t =>
  obtain ⟨a,rfl,n,g⟩:=h
  exact ⟨a,rfl,F.free n,g⟩
theorem Qkd {e:E} {Q:VK} {K:PV→En→SO} (F:FI B H G σ ρ) (h:SFin p B H G D (ofO (evE p.cf e ρ) K)) (q:∀ r ρ2 v H2 G2,SFin p B H2 G2 D (K r ρ2)→FI B H2 G2 σ ρ2→FI (Qa7 H G σ ρ) H2 G2 σ ρ2→PVR B.H H2 G2 σ ρ2 v r→Same (dls H G) (dls H2 G2)→Q v H2):tE p e σ H Q :=
 Qp9 F (Qet h) fun r ρ2 v H2 G2 k F2 F2' r2=>q r ρ2 v H2 G2 (k.late (F.same F2')) F2 F2' (r2.base F) (F.same F2')
theorem Qyu {e:E} {Q:Bool→Hp→Prop} {K:Bool→En→SO} (F:FI B H G σ ρ) (h:SFin p B H G D (ofO (Qam (evE p.cf e ρ)) K)) (q:∀ b ρ2 H2 G2,SFin p B H2 G2 D (K b ρ2)→FI B H2 G2 σ ρ2→Same (dls H G) (dls H2 G2)→Q b H2):tT p e σ H Q :=
 Qye F (Qet h) fun b ρ2 H2 G2 k F2 F2'=>q b ρ2 H2 G2 (k.late (F.same F2')) F2 (F.same F2')
end
section
variable {X:Cx} {p:Pr} {e a b:Expr} {e' a' b' c':E} {st:Stmt} {sts:List Stmt} {s s1 s2:S} {pos p1 p2:Pos} {x:Str}
theorem Qci:QB X [] (tS p .nil):=Qrw.weak fun D σ H ⟨B,G,ρ,F,hO,h⟩=>h σ H G F (Same.refl _)
theorem Q7f {D:Ends} {σ:St} {H:Hp} (h:tS p (.seq s1 s2) D σ H):Qwn (tS p s1) (tS p s2) D σ H:=by
 obtain ⟨B,G,ρ,F,hO,h⟩:=h
 refine ⟨B,G,ρ,F,hO,?_⟩
 unfold exS at h
 cases e:exS p.cf s1 ρ with
 | nx ρ1=>rw [e] at h;exact fun σ1 H1 G1 F1 q=>⟨B,G1,ρ1,F1,hO,SFin.late (p:=p) (D:=D) h q⟩
 | bk ρ1=>rw [e] at h;exact h
 | ct ρ1=>rw [e] at h;exact h
 | rt r ρ1=>rw [e] at h;exact h
 | xn x ρ1=>rw [e] at h;exact h
 | no=>rw [e] at h;exact h
theorem Qn (h1:QS X st (tS p s1)) (h2:QB X sts (tS p s2)):QB X (st::sts) (tS p (.seq s1 s2)):=(Qeg h1 h2).weak fun D σ H h=>Q7f h
theorem Qy (h1:QS X st (tS p s1)):QB X [st] (tS p s1):=Qh2 h1
theorem Q7g (he:QE X e (tE p e')) (hs:swapsWith e none pos.line X.env=pure false):QS X (.Expr e pos) (tS p (.expr e')):=(Qh3 he hs).weak fun D σ H ⟨B,G,ρ,F,hO,h⟩=>by
 unfold exS at h
 exact Qkd F h fun r ρ2 v H2 G2 k F2 _ _ sm=>k σ H2 G2 F2 (Same.refl _)
theorem Qax (he:QE X e (tE p e')):QS X (.Return (some e) pos) (tS p (.ret e')):=(Qlg he).weak fun D σ H ⟨B,G,ρ,F,hO,h⟩=>by
 unfold exS at h
 exact Qkd F h fun r ρ2 v H2 G2 k F2 _ pv _=>k v σ H2 G2 F2 pv
theorem Qd5 {c:Expr} {bs cs:List Stmt} (hc:QT X c (tT p c')) (ha:QB X bs (tS p s1)) (hb:QB X cs (tS p s2)):QS X (.If c bs cs pos) (tS p (.ite c' s1 s2)):=(Qxq hc ha hb).weak fun D σ H ⟨B,G,ρ,F,hO,h⟩=>by
 unfold exS at h
 refine Qyu F h fun k ρ2 H2 G2 h2 F2 sm=>?_
 cases k with
 | true=>exact ⟨B,G2,ρ2,F2,hO,h2⟩
 | false=>exact ⟨B,G2,ρ2,F2,hO,h2⟩
theorem Q2a {B:Bs} {H:Hp} {G:Addr→Prop} {D:Ends} {σ:St} {ρ:En} {i:Nat} {r:PV} {v:V} (F:FI B H G σ ρ) (pv:PVR B.H H G σ ρ v r) (h:SFin p B H G D (Qoj i r ρ)):D.nx (σ.set i (some v)) H:=by
 cases r with
 | sl j=>exact False.elim h
 | fz t =>
  obtain ⟨ρ',e,k⟩:=Qfs h
  exact k _ H G (F.setS e pv.is) (Same.refl _)
 | ow t =>
  obtain ⟨ρ',e,k⟩:=Qfs h
  exact k _ H G (F.setOw rfl e pv) (Same.refl _)
theorem Qlx {i:Nat} (h:QS X st (Qmr (tE p e') (Qgi i))):QS X st (tS p (.set i e')):=h.weak fun D σ H ⟨B,G,ρ,F,hO,h⟩=>by
 unfold exS at h
 exact Qkd F h fun r ρ2 v H2 G2 k F2 _ pv _=>Q2a F2 pv k
theorem Qaw {i:Nat} (h:QS X st (Qmr (tE p e') (Qgi i))):QS X st (tS p (.setF i e')):=h.weak fun D σ H ⟨B,G,ρ,F,hO,h⟩=>by
 unfold exS at h
 refine Qkd F h fun r ρ2 v H2 G2 k F2 _ pv _=>?_
 cases ef:frz r with
 | none=>rw [ef] at k;exact False.elim k
 | some t =>
  rw [ef] at k
  obtain ⟨ρ',e,k⟩:=Qfs k
  obtain ⟨G3,F3,i3,s3⟩:=PVR.lay pv F2 ef
  exact k _ H2 G3 (F3.setS e i3) (Qc6 s3)
theorem Qtx {is:List Nat} (h:QS X st (Qmr (tE p e') (tG (.tp is)))):QS X st (tS p (.unp is e')):=h.weak fun D σ H ⟨B,G,ρ,F,hO,h⟩=>by
 unfold exS at h
 refine Qkd F h fun r ρ2 v H2 G2 k F2 _ pv _=>?_
 cases r with
 | ow t=>exact False.elim k
 | sl i=>exact False.elim k
 | fz t =>
  cases t <;> first | exact False.elim k | skip
  obtain ⟨ρ',e,k⟩:=Qfs k
  exact ⟨B,G2,ρ2,_,ρ',F2,pv.is,e,fun σ' F' _=>k σ' H2 G2 F' (Same.refl _)⟩
theorem Qaa5 {i j:Nat} (h:QS X st (Q5d i j (tA p (.cons a' (.cons b' .nil))))):QS X st (tS p (.par i j a' b')):=h.weak fun D σ H ⟨B,G,ρ,F,hO,h⟩=>by
 unfold exS at h
 refine ⟨G,ρ,F.self,?_⟩
 unfold evA
 have h1:=Qet (σ:=σ) h
 cases ea:evE p.cf a' ρ with
 | no=>rw [ea] at h1;exact False.elim h1
 | xn x ρ1=>rw [ea] at h1;exact fun cls dx H1 G1 F1 xr=>h1 cls dx H1 G1 (F.trans F1) xr
 | ok ra ρ1 =>
  rw [ea] at h1
  show Fin p _ σ ((evA p.cf (.cons b' .nil) ρ1).bind fun rs ρ2=>.ok (ra::rs) ρ2) _
  unfold evA
  have h2:=Qet (σ:=σ) (show SFin p B H G D _ from h1)
  cases eb:evE p.cf b' ρ1 with
  | no=>rw [eb] at h2;exact False.elim h2
  | xn x ρ2=>rw [eb] at h2;exact fun cls dx H1 G1 F1 xr=>h2 cls dx H1 G1 (F.trans F1) xr
  | ok rb ρ2 =>
   rw [eb] at h2
   unfold evA
   intro vs H1 G1 F1 pv
   cases pv with
   | cons pa pr =>
    cases pr with
    | cons pb pn =>
     cases pn
     rename_i v w
     refine ⟨v,w,rfl,?_⟩
     cases ra with
     | ow t=>exact False.elim h2
     | sl i=>exact False.elim h2
     | fz x =>
      cases rb with
      | ow t=>exact False.elim h2
      | sl i=>exact False.elim h2
      | fz y =>
       obtain ⟨ρ',e,k⟩:=Qfs (show SFin p B H G D (Q8 (Qbi [i,j] [x,y] ρ2) .nx) from h2)
       have F2:=F.trans F1
       unfold Qbi at e
       cases e1:Qbb i (.fz x) ρ2 with
       | none=>rw [e1] at e;cases e
       | some ρ3 =>
        rw [e1] at e
        replace e:Qbi [j] [y] ρ3=some ρ':=e
        unfold Qbi at e
        cases e2:Qbb j (.fz y) ρ3 with
        | none=>rw [e2] at e;cases e
        | some ρ4 =>
         rw [e2] at e
         cases e
         exact k _ H1 G1 ((F2.setS e1 pa.is).setS e2 pb.is) (F.same F1)
end
section
variable {X:Cx} {p:Pr} {e a b:Expr} {e' a' b' c':E} {st:Stmt} {sts:List Stmt} {s s1 s2:S} {pos p1 p2:Pos} {x:Str} {K:PySem.W.Frag}
theorem FI.mutAt {B:Bs} {H:Hp} {G:Addr→Prop} {σ:St} {ρ:En} {i:Nat} (F:FI B H G σ ρ) (h:(Qc ρ i).mut=true):∃ a vs,σ[i]?=some (some (.ref a))∧H a=some (.lst vs):=by
 have:∃ t,(Qc ρ i).prv=some (.lst t):=by
  cases hs:Qc ρ i <;> rw [hs] at h <;> first | (cases h;done) | skip
  all_goals (rename_i t;cases t <;> first | exact ⟨_,rfl⟩ | cases h)
 obtain ⟨t,e⟩:=this
 obtain ⟨a,s,_,o⟩:=F.prvAt e
 obtain ⟨vs,_,ea,_⟩:=o.lst_inv
 exact ⟨a,vs,s,ea⟩
theorem IsL.set {D:Hp} {v:V} {t:T} (hv:Is D v t):∀ {vs:List V} {ts:List T} (n:Nat),IsL D vs ts→IsL D (vs.set n v) (ts.set n t)
 | vs,[],n,r=>by rw [r.nil_inv];exact .nil
 | vs,u::us,0,r=>by
  obtain ⟨w,ws,rfl,a,q⟩:=r.cons_inv
  exact .cons hv q
 | vs,u::us,n+1,r=>by
  obtain ⟨w,ws,rfl,a,q⟩:=r.cons_inv
  exact .cons a (IsL.set hv n q)
theorem Qno {i:Nat} (h:QS X st (Qwp (tBM K "list" Qks (Qmq i) (Qgp (tE p e') Qpq)))):QS X st (tS p (.app i e')):=h.weak fun D σ H ⟨B,G,ρ,F,hO,h⟩=>by
 unfold exS at h
 by_cases hm:(Qc ρ i).mut=true
 ·simp only [if_pos hm] at h
  obtain ⟨a,vs0,sa,ea⟩:=F.mutAt hm
  refine ⟨_,sa,.inl ⟨rfl,_,SqL.of ea⟩,?_⟩
  refine Qkd F h fun r ρ2 v H2 G2 k F2 _ pv _=>?_
  cases ef:frz r with
  | none=>rw [ef] at k;exact False.elim k
  | some t =>
   rw [ef] at k
   obtain ⟨G3,F3,i3,s3⟩:=PVR.lay pv F2 ef
   have sl:=F3.slot i
   replace k:SFin p B H2 G2 D (match Qc ρ2 i with
    | .ow (.lst ts)=>if ts.length<100000 then .nx (ρ2.set i (.ow (.lst (ts++[t])))) else .no
    | .ml (.lst ts)=>if ts.length<100000 then .nx (ρ2.set i (.ml (.lst (ts++[t])))) else .no
    | _=>.no):=k
   have fin:∀ ts s',(Qc ρ2 i=.ow (.lst ts)∧s'=Slot.ow (.lst (ts++[t])))∨(Qc ρ2 i=.ml (.lst ts)∧s'=Slot.ml (.lst (ts++[t])))→SFin p B H2 G2 D (if ts.length<100000 then .nx (ρ2.set i s') else .no)→Qks (.ref a) [v] H2 fun _ H1=>D.nx σ H1:=fun ts s' hs k=>by
    have hp:(Qc ρ2 i).prv=some (.lst ts):=by rcases hs with ⟨h,_⟩ | ⟨h,_⟩ <;> rw [h] <;> rfl
    obtain ⟨a',sa',g,o1⟩:=F3.prvAt hp
    obtain ⟨vs,z,el,il⟩:=o1.lst_inv
    rw [sa] at sa'
    cases sa'
    by_cases zt:ts.length<100000
    ·rw [if_pos zt] at k
     have lz:=il.length
     obtain ⟨F4,s4⟩:=F3.change hs sa (il.append (.one i3)) (by rw [List.length_append,List.length_singleton];omega)
     exact ⟨a,vs,v,rfl,rfl,el,by rw [lz,sizeLine_eq];omega,k σ _ G3 F4 ((Qc6 s3).trans s4)⟩
    ·rw [if_neg zt] at k;exact False.elim k
   cases hs:Qc ρ2 i with
   | un=>rw [hs] at k;exact False.elim k
   | pin _=>rw [hs] at k;exact False.elim k
   | fx _=>rw [hs] at k;exact False.elim k
   | fz t=>rw [hs] at k;exact False.elim k
   | ro t=>rw [hs] at k;exact False.elim k
   | ow u =>
    rw [hs] at k sl
    cases u <;> first | exact False.elim k | skip
    exact fin _ _ (.inl ⟨hs,rfl⟩) k
   | ml u =>
    rw [hs] at k sl
    cases u <;> first | exact False.elim k | skip
    exact fin _ _ (.inr ⟨hs,rfl⟩) k
 ·simp only [if_neg hm] at h
  exact False.elim h
theorem Qyv {i:Nat} (h:QS X st (Qmr (tE p e') (Q49 (Qmq i) (tE p a') Qtg))):QS X st (tS p (.put i a' e')):=h.weak fun D σ H ⟨B,G,ρ,F,hO,h⟩=>by
 unfold exS at h
 refine Qkd F h fun r ρ2 v H2 G2 k F2 _ pv _=>?_
 cases ef:frz r with
 | none=>rw [ef] at k;exact False.elim k
 | some t =>
  rw [ef] at k
  obtain ⟨G3,F3,i3,s3⟩:=PVR.lay pv F2 ef
  by_cases hm:(Qc ρ2 i).mut=true
  ·simp only [if_pos hm] at k
   obtain ⟨a,vs0,sa,ea⟩:=F3.mutAt hm
   refine ⟨_,sa,?_⟩
   refine Qkd F3 (SFin.late k (Qc6 s3)) fun rk ρ4 w H4 G4 k4 F4 F4' pk sm=>?_
   have i4:=i3.mono sm
   cases rk with
   | ow t=>exact False.elim k4
   | sl j=>exact False.elim k4
   | fz u =>
    cases u <;> first | exact False.elim k4 | skip
    rename_i j
    obtain rfl:=pk.is.int_inv
    replace k4:SFin p B H4 G4 D (match Qc ρ4 i with
     | .ow (.lst ts)=>Q8 (ixN ts.length j) fun n=>.nx (ρ4.set i (.ow (.lst (ts.set n t))))
     | .ml (.lst ts)=>Q8 (ixN ts.length j) fun n=>.nx (ρ4.set i (.ml (.lst (ts.set n t))))
     | _=>.no):=k4
    have fin:∀ ts (s':Nat→Slot),(∀ n,(Qc ρ4 i=.ow (.lst ts)∧s' n=Slot.ow (.lst (ts.set n t)))∨(Qc ρ4 i=.ml (.lst ts)∧s' n=Slot.ml (.lst (ts.set n t))))→SFin p B H4 G4 D (Q8 (ixN ts.length j) fun n=>.nx (ρ4.set i (s' n)))→Qtg (.ref a) (.int j) v H4 fun H1=>D.nx σ H1:=fun ts s' hs k=>by
     have hp:(Qc ρ4 i).prv=some (.lst ts):=by rcases hs 0 with ⟨h,_⟩ | ⟨h,_⟩ <;> rw [h] <;> rfl
     obtain ⟨a',sa',g,o1⟩:=F4.prvAt hp
     obtain ⟨vs,z,el,il⟩:=o1.lst_inv
     rw [sa] at sa'
     cases sa'
     obtain ⟨n,en,k⟩:=Qfs k
     have lz:=il.length
     obtain ⟨F5,s5⟩:=F4.change (hs n) sa (il.set i4 n) (by rw [List.length_set];exact z)
     exact ⟨a,vs,j,n,rfl,rfl,el,by rw [lz];exact en,k σ _ G4 F5 s5⟩
    cases hs:Qc ρ4 i with
    | un=>rw [hs] at k4;exact False.elim k4
    | pin _=>rw [hs] at k4;exact False.elim k4
    | fx _=>rw [hs] at k4;exact False.elim k4
    | fz t=>rw [hs] at k4;exact False.elim k4
    | ro t=>rw [hs] at k4;exact False.elim k4
    | ow u =>
     rw [hs] at k4
     cases u <;> first | exact False.elim k4 | skip
     exact fin _ _ (fun n=>.inl ⟨hs,rfl⟩) k4
    | ml u =>
     rw [hs] at k4
     cases u <;> first | exact False.elim k4 | skip
     exact fin _ _ (fun n=>.inr ⟨hs,rfl⟩) k4
  ·simp only [if_neg hm] at k
   exact False.elim k
theorem Qnp {p:Pr} {B:Bs} {H:Hp} {G:Addr→Prop} {D:Ends} {o:SO} (h:SFin p B H G D (Qni o)):SFin p.calm B H G D o:=by
 cases o with
 | xn x ρ1=>exact False.elim h
 | nx ρ1=>exact h
 | bk ρ1=>exact h
 | ct ρ1=>exact h
 | rt r ρ1=>exact h
 | no=>exact h
theorem Q4h {c:Expr} {body:List Stmt} (hc:QT X.nox c (tT p.calm c')) (hb:QB X.nox body (tS p.calm s)):QS X (.While c body [] pos) (tS p (.whl c' s)) :=
 (Q95 (Q1j PassesOwn.never hc hb)).weak fun D σ H ⟨B,G,ρ,F,hO,h⟩=>by
  unfold exS at h
  have h:=Qnp h
  refine ⟨fun m σ2 H2=>∃ G2 ρ2,FI B H2 G2 σ2 ρ2∧SFin p.calm B H2 G2 D (Qjk (fun ρ=>Qam (evE p.cf c' ρ)) (exS p.cf s) m ρ2),⟨1000000,G,ρ,F,h⟩,?_⟩
  rintro m σ2 H2 ⟨G2,ρ2,F2,h2⟩
  cases m with
  | zero=>exact False.elim h2
  | succ m =>
   unfold Qjk at h2
   refine Qyu (p:=p.calm) F2 h2 fun k ρ3 H3 G3 h3 F3 sm=>?_
   cases k with
   | false=>exact h3 σ2 H3 G3 F3 (Same.refl _)
   | true =>
    refine ⟨fun σ' H'=>∃ G' ρ',FI B H' G' σ' ρ'∧SFin p.calm B H' G' D (Qjk (fun ρ=>Qam (evE p.cf c' ρ)) (exS p.cf s) m ρ'),fun σ' H' q=>⟨m,Nat.lt_succ_self m,q⟩,B,G3,ρ3,F3,hO,?_⟩
    replace h3:SFin p.calm B H3 G3 D (match exS p.cf s ρ3 with
     | .nx ρ2=>Qjk (fun ρ=>Qam (evE p.cf c' ρ)) (exS p.cf s) m ρ2
     | .ct ρ2=>Qjk (fun ρ=>Qam (evE p.cf c' ρ)) (exS p.cf s) m ρ2
     | .bk ρ2=>.nx ρ2
     | o=>o):=h3
    show SFin p.calm B H3 G3 _ (exS p.cf s ρ3)
    cases eb:exS p.cf s ρ3 with
    | nx ρ4=>rw [eb] at h3;exact fun σ4 H4 G4 F4 s4=>⟨G4,ρ4,F4,SFin.late h3 s4⟩
    | ct ρ4=>rw [eb] at h3;exact fun σ4 H4 G4 F4 s4=>⟨G4,ρ4,F4,SFin.late h3 s4⟩
    | bk ρ4=>rw [eb] at h3;exact h3
    | rt r ρ4=>rw [eb] at h3;exact h3
    | xn x ρ4=>rw [eb] at h3;exact h3
    | no=>rw [eb] at h3;exact h3
theorem Q7h {w:W} {tg:Tg} {D:Ends} {σ:St} {H:Hp} {B:Bs} {G:Addr→Prop} {ρ:En} (F:FI B H G σ ρ) (hO:∀ a,¬ B.O a) (h:SFin p B H G D (ofO (evW p.cf w ρ) fun its ρ1=>match its.2 with
  | some _=>.no
  | none=>Qca tg (exS p.cf s) its.1 ρ1)):Qww (tW p w) (tG tg) (tS p s) D σ H:=by
 refine ⟨G,ρ,F.self,(Qet (σ:=σ) h).rebase F fun its ρ1 h1=>?_⟩
 obtain ⟨ts,lk⟩:=its
 cases lk with
 | some _=>exact False.elim h1
 | none =>
  refine ⟨rfl,fun J H1 G1 Ok F1 wk stab=>?_⟩
  replace wk:WkR J H1 G1 Ok ts:=wk
  have F1':=F.trans F1
  have s1:=F.same F1
  refine ⟨fun i m σ2 H2=>i+m=ts.length∧∃ G2 ρ2,FI B H2 G2 σ2 ρ2∧Same (dls H1 G1) (dls H2 G2)∧SFin p B H2 G2 D (Qca tg (exS p.cf s) (ts.drop i) ρ2),⟨ts.length,Nat.zero_add _,G1,ρ1,F1',Same.refl _,SFin.late h1 s1⟩,?_⟩
  rintro i m σ2 H2 ⟨him,G2,ρ2,F2,s2,h2⟩
  have ok2:=stab H2 G2 s2
  by_cases hlt:i<ts.length
  ·refine .inr ⟨wk.go i H2 hlt ok2,fun σ' H'=>∃ G' ρ',FI B H' G' σ' ρ'∧Same (dls H1 G1) (dls H' G')∧SFin p B H' G' D (Qca tg (exS p.cf s) (ts.drop (i+1)) ρ'),fun σ' H' q=>⟨m-1,by omega,by omega,q⟩,fun x H3 y=>?_⟩
   obtain ⟨s3,t,et,ix⟩:=wk.yld i H2 x H3 hlt ok2 y
   have F3:=F2.grow s3
   have ix3:=ix G2 F2.prv s2
   rw [List.drop_eq_getElem_cons hlt] at h2
   have et':ts[i]=t:=by rw [List.getElem?_eq_getElem hlt] at et;exact Option.some.inj et
   rw [et'] at h2
   unfold Qca at h2
   cases est:Qgj tg t ρ2 with
   | none=>rw [est] at h2;exact False.elim h2
   | some ρ4 =>
    rw [est] at h2
    refine ⟨B,G2,ρ2,t,ρ4,F3,ix3,est,fun σ4 F4 _=>⟨B,G2,ρ4,F4,hO,?_⟩⟩
    replace h2:SFin p B H2 G2 D (match exS p.cf s ρ4 with
     | .nx ρ2=>Qca tg (exS p.cf s) (ts.drop (i+1)) ρ2
     | .ct ρ2=>Qca tg (exS p.cf s) (ts.drop (i+1)) ρ2
     | .bk ρ2=>.nx ρ2
     | o=>o):=h2
    have s23:Same (dls H2 G2) (dls H3 G2):=Qbl s3
    have h2:=SFin.late h2 s23
    have s13:=s2.trans s23
    show SFin p B H3 G2 _ (exS p.cf s ρ4)
    cases eb:exS p.cf s ρ4 with
    | nx ρ5=>rw [eb] at h2;exact fun σ5 H5 G5 F5 s5=>⟨G5,ρ5,F5,s13.trans s5,SFin.late h2 s5⟩
    | ct ρ5=>rw [eb] at h2;exact fun σ5 H5 G5 F5 s5=>⟨G5,ρ5,F5,s13.trans s5,SFin.late h2 s5⟩
    | bk ρ5=>rw [eb] at h2;exact h2
    | rt r ρ5=>rw [eb] at h2;exact h2
    | xn x ρ5=>rw [eb] at h2;exact h2
    | no=>rw [eb] at h2;exact h2
  ·have e0:ts.drop i=[]:=List.drop_of_length_le (by omega)
   rw [e0] at h2
   exact .inl ⟨wk.stop i H2 (by omega) ok2,h2 σ2 H2 G2 F2 (Same.refl _)⟩
theorem Qaa6 {iter tgE:Expr} {body:List Stmt} {w:W} {tg:Tg} (hc:X.calm=true) (hi:QI X.nox tgE iter (tW p.calm w)) (hg:QG X.nox tgE (tG tg)) (hb:QB X.nox body (tS p.calm s)) (hs:∀ x,foldedSetIterable iter X.env x=pure x):QS X (.For tgE iter body [] pos) (tS p (.for_ w tg s)) :=
 (Q95 (Q3x PassesOwn.never hc hi hg hb hs)).weak fun D σ H ⟨B,G,ρ,F,hO,h⟩=>by
  unfold exS at h
  exact Q7h (p:=p.calm) F hO (Qnp h)
end
section
variable {X:Cx} {p:Pr} {s:S} {pos:Pos} {K:PySem.W.Frag}
end
noncomputable def Qsc:Arg→Slot
 | .fz t=>.fz t
 | .ml t=>.ml t
 | .ro t=>.ro t
theorem Qnq (fn:Fn) (as:List Arg):Qfl fn as=as.map Qsc++List.replicate (fn.sz-fn.ps) .un:=by
 unfold Qfl
 congr 1
theorem Qdb (fn:Fn) (as:List Arg) (i:Nat):Qc (Qfl fn as) i=match as[i]? with
  | some a=>Qsc a
  | none=>.un:=by
 rw [Qnq]
 unfold Qc
 rcases Nat.lt_or_ge i as.length with h | h
 ·rw [List.getElem?_append_left (by rw [List.length_map];exact h),List.getElem?_map,List.getElem?_eq_getElem h]
  rfl
 ·rw [List.getElem?_append_right (by rw [List.length_map];exact h),List.getElem?_eq_none_iff.mpr h,List.getElem?_replicate]
  split <;> rename_i e
  ·split at e
   ·cases e;rfl
   ·cases e
  ·rfl
theorem Qnr {N:List Str} {vs:List V} {i:Nat} {v:V} (h:vs[i]?=some v):(Qbj N vs)[i]?=some (some v):=by
 unfold Qbj
 have hi:i<vs.length:=(List.getElem?_eq_some_iff.mp h).1
 rw [List.getElem?_append_left (by rw [List.length_map];exact hi),List.getElem?_map,h]
 rfl
theorem Qns {N:List Str} {vs:List V} {i:Nat} {v:V} (h:(Qbj N vs)[i]?=some (some v)):vs[i]?=some v:=by
 unfold Qbj at h
 rcases Nat.lt_or_ge i vs.length with hi | hi
 ·rw [List.getElem?_append_left (by rw [List.length_map];exact hi),List.getElem?_map] at h
  cases e:vs[i]? with
  | none=>rw [e] at h;cases h
  | some w=>rw [e] at h;cases h;rfl
 ·rw [List.getElem?_append_right (by rw [List.length_map];exact hi),List.getElem?_replicate] at h
  split at h <;> cases h
noncomputable abbrev Qyw (H:Hp) (G:Addr→Prop) (vs:List V) (as:List Arg):Bs:=⟨H,G,fun _=>False,Qtt vs as,fun i a=>(∃ x,as[i]?=some x∧x.prv=true)∧vs[i]?=some (.ref a)⟩
section
variable {H H1:Hp} {G G1:Addr→Prop} {vs:List V} {as:List Arg} {fn:Fn} {N:List Str} {σ1:St} {ρ1:En} {fin:List T} {mg:Str→Option Value}
theorem Qsd {x:Arg} {t:T} (h:(Qsc x).prv=some t):x.prv=true:=by
 cases x <;> first | rfl | cases h
theorem Qyx (A:ArgsR H G vs as) (pn:Pen H G) (h1:vs.length≤N.length) (h2:fn.ps=as.length) (h3:fn.sz=N.length):FI (Qyw H G vs as) H G (Qbj N vs) (Qfl fn as):=by
 have pv:∀ i a,PrvAt (Qbj N vs) (Qfl fn as) i a→(∃ x,as[i]?=some x∧x.prv=true)∧vs[i]?=some (.ref a):=fun i a h=>by
  obtain ⟨⟨t,e⟩,q⟩:=h
  rw [Qdb] at e
  cases hx:as[i]? with
  | none=>rw [hx] at e;cases e
  | some x=>rw [hx] at e;exact ⟨⟨x,rfl,Qsd e⟩,Qns q⟩
 refine ⟨?_,fun i=>?_,fun i j a h1 h2=>?_,pn,fun _ _ _ _ e=>e,fun _ o e=>⟨o,e⟩,fun a h=>?_,fun a h=>?_,fun i a h=>?_,fun _ h=>h,fun _ h=>.inl h,fun b h=>let ⟨xs,e,_⟩:=pn b h;⟨_,e⟩⟩
 ·rw [Qnq]
  unfold Qbj
  have:=A.len
  simp only [List.length_append,List.length_map,List.length_replicate]
  omega
 ·rw [Qdb]
  cases hx:as[i]? with
  | none=>trivial
  | some x =>
   have hi:i<vs.length:=by rw [A.len];exact (List.getElem?_eq_some_iff.mp hx).1
   have ev:vs[i]?=some vs[i]:=List.getElem?_eq_getElem hi
   have q:=A.get i _ x ev hx
   have s:=Qnr (N:=N) ev
   cases x with
   | fz t=>exact ⟨_,s,q⟩
   | ml t=>obtain ⟨a,e,g,o⟩:=q;rw [e] at s;exact ⟨a,s,g,o⟩
   | ro t=>obtain ⟨a,e,g,o⟩:=q;rw [e] at s;exact ⟨a,s,g,o⟩
 ·obtain ⟨⟨x,ex,px⟩,vx⟩:=pv i a h1
  obtain ⟨⟨y,ey,py⟩,vy⟩:=pv j a h2
  exact A.apart i j a x y ex ey px py vx vy
 ·obtain ⟨i,t,e,q⟩:=h
  rw [Qdb] at e
  cases hx:as[i]? with
  | none=>rw [hx] at e;cases e
  | some x=>rw [hx] at e;cases x <;> cases e
 ·obtain ⟨i,t,e,q⟩:=h
  rw [Qdb] at e
  cases hx:as[i]? with
  | none=>rw [hx] at e;cases e
  | some x =>
   rw [hx] at e
   cases x <;> cases e
   exact ⟨i,_,hx,Qns q⟩
 ·obtain ⟨⟨t,e⟩,q⟩:=h
  refine pv i a ⟨⟨t,?_⟩,q⟩
  rcases e with e | e | e
  ·rw [e];rfl
  ·rw [e];rfl
  ·rw [Qdb] at e
   cases hx:as[i]? with
   | none=>rw [hx] at e;cases e
   | some x=>rw [hx] at e;cases x <;> cases e
theorem Qg9:∀ {as:List Arg} {ρ:En} {fin:List T},Q1 as ρ=some fin→∀ (i:Nat) (t:T),as[i]?=some (.ml t)→∃ t',Qc ρ i=.ml t'∧fin[i]?=some t'
 | [],_,_,_,i,t,h=>by simp at h
 | .ml u::as,[],fin,e,_,_,_=>by cases e
 | .fz u::as,[],fin,e,_,_,_=>by cases e
 | .ro u::as,[],fin,e,_,_,_=>by cases e
 | .ml u::as,s::ρ,fin,e,i,t,h=>by
  cases s <;> first | (cases e;done) | skip
  rename_i w
  replace e:(Q1 as ρ).map (w :: ·)=some fin:=e
  cases e2:Q1 as ρ with
  | none=>rw [e2] at e;cases e
  | some f2 =>
   rw [e2] at e
   cases e
   cases i with
   | zero=>exact ⟨w,rfl,rfl⟩
   | succ i=>rw [List.getElem?_cons_succ] at h ⊢;rw [Qd];exact Qg9 e2 i t h
 | .fz u::as,s::ρ,fin,e,i,t,h=>by
  replace e:(Q1 as ρ).map (T.non :: ·)=some fin:=e
  cases e2:Q1 as ρ with
  | none=>rw [e2] at e;cases e
  | some f2 =>
   rw [e2] at e
   cases e
   cases i with
   | zero=>simp at h
   | succ i=>rw [List.getElem?_cons_succ] at h ⊢;rw [Qd];exact Qg9 e2 i t h
 | .ro u::as,s::ρ,fin,e,i,t,h=>by
  replace e:(Q1 as ρ).map (T.non :: ·)=some fin:=e
  cases e2:Q1 as ρ with
  | none=>rw [e2] at e;cases e
  | some f2 =>
   rw [e2] at e
   cases e
   cases i with
   | zero=>simp at h
   | succ i=>rw [List.getElem?_cons_succ] at h ⊢;rw [Qd];exact Qg9 e2 i t h
theorem Qly (F:FI (Qyw H G vs as) H1 G1 σ1 ρ1) (e:Q1 as ρ1=some fin):CallP H G vs as H1 G1 fin where
 prv:=F.prv
 chg:=fun b o h e=>F.chg b o (fun z=>z) h e
 keep:=F.keep
 gg:=F.gg
 gn:=F.gn
 fin:=fun i t a h1 h2=>by
  obtain ⟨t',e1,e2⟩:=Qg9 e i t h1
  have q:=F.slot i
  rw [e1] at q
  obtain ⟨a',q1,_,q3⟩:=q
  have q4:=(F.fix i a' ⟨⟨t',.inl e1⟩,q1⟩).2
  rw [h2] at q4
  cases q4
  exact ⟨t',e2,q3⟩
theorem Q2b {v:V} {r r':PV} (F:FI (Qyw H G vs as) H1 G1 σ1 ρ1) (pv:PVR H H1 G1 σ1 ρ1 v r) (e:Qau ρ1 r=some r'):RetR H H1 G1 v r':=by
 cases r with
 | fz t=>cases e;exact pv
 | ow t =>
  cases e
  obtain ⟨a,rfl,n,g,_,o⟩:=pv
  exact ⟨a,rfl,n,g,o⟩
 | sl i =>
  have e:(match Qc ρ1 i with | .ow t=>some (PV.ow t) | _=>none)=some r':=e
  have q:=F.slot i
  cases hs:Qc ρ1 i with
  | un=>rw [hs] at e;cases e
  | pin _=>rw [hs] at e;cases e
  | fx _=>rw [hs] at e;cases e
  | fz t=>rw [hs] at e;cases e
  | ml t=>rw [hs] at e;cases e
  | ro t=>rw [hs] at e;cases e
  | ow t =>
   rw [hs] at e q
   cases e
   obtain ⟨a,q1,g,o⟩:=q
   have pv:σ1[i]?=some (some v):=pv
   rw [q1] at pv
   cases pv
   refine ⟨a,rfl,?_,g,o⟩
   rcases F.newO a ⟨i,t,hs,q1⟩ with z | z
   ·exact z
   ·exact z.elim
theorem Q7i {cf:CF} {Q:VK} {E:XK} (A:ArgsR H G vs as) (pn:Pen H G) (h1:vs.length≤N.length) (h3:fn.sz=N.length) (h:FROk mg H G vs as (Qbr cf fn as) Q E):tS ⟨cf,fun cls dx _ H=>E cls dx H,mg⟩ fn.body { nx:=fun _ H'=>Q .non H',rt:=Q } (Qbj N vs) H:=by
 unfold Qbr at h
 by_cases h2:as.length=fn.ps
 ·rw [if_pos h2] at h
  refine ⟨_,G,_,Qyx A pn h1 h2.symm h3,fun _ z=>z,?_⟩
  show SFin _ _ _ _ _ (exS cf fn.body (Qfl fn as))
  cases e:exS cf fn.body (Qfl fn as) with
  | no=>rw [e] at h;exact False.elim h
  | bk ρ=>rw [e] at h;exact False.elim h
  | ct ρ=>rw [e] at h;exact False.elim h
  | nx ρ =>
   rw [e] at h
   intro σ1 H1 G1 F _
   cases ef:Q1 as ρ with
   | none=>simp only [ef] at h;exact False.elim h
   | some fin=>simp only [ef] at h;exact h .non H1 G1 (Qly F ef) (show Is (dls H1 G1) .non .non from Is.non)
  | rt r ρ =>
   rw [e] at h
   intro v σ1 H1 G1 F pv
   cases er:Qau ρ r with
   | none=>simp only [er] at h;exact False.elim h
   | some r' =>
    cases ef:Q1 as ρ with
    | none=>simp only [er,ef] at h;exact False.elim h
    | some fin=>simp only [er,ef] at h;exact h v H1 G1 (Qly F ef) (Q2b F pv er)
  | xn x ρ =>
   rw [e] at h
   intro cls dx σ1 H1 G1 F xr
   cases ef:Q1 as ρ with
   | none=>simp only [ef] at h;exact False.elim h
   | some fin=>simp only [ef] at h;exact h cls dx H1 G1 (Qly F ef) xr
 ·rw [if_neg h2] at h
  exact False.elim h
end
theorem Q0 {X:Cx}:Qe5 X (fun _ _ _ _=>False):=fun pins σ H s e s' I h=>by
 obtain ⟨a,cls,dx,H',_,_,_,_,_,_,z⟩:=h
 exact z.elim
structure Df where
 x:Str
 st:Stmt
 N:List Str
 ps:List Str
 fn:Fn
 fc:Str→Bool:=fun _=>true
 f1:Str→Bool:=fc
noncomputable abbrev Qiy (ds:List Df):Nat→Option Fn:=fun f=>match ds[f]? with
 | some d=>some d.fn
 | none=>none
structure DfOk (K:PySem.W.Frag) (mg:Str→Option Value) (d:Df):Prop where
 dfn:Dfn K mg d.x d.st
 sc:FnScope d.N d.ps (Qf d.st)
 bd:Q7 d.x d.st d.ps
 ps:d.fn.ps=d.ps.length
 sz:d.fn.sz=d.N.length
noncomputable def Qol (P:Program) (w:World) (K:PySem.W.Frag) (mg:Str→Option Value) (base:Heap) (ds:List Df) (cf:CF) (n:Nat):Prop:=∀ (f:Nat) (d:Df),ds[f]?=some d→HasE P w K mg base d.x d.ps n (spF cf mg f)
noncomputable def Qak (P:Program) (w:World) (K:PySem.W.Frag) (mg:Str→Option Value) (base:Heap) (ds:List Df) (d:Df):Prop :=
 ∀ (cf:CF) (n:Nat) (R:XR) (f:Addr) (cdv:Value) (A:Around) (outer:List Env) (s:Shared) (H:Hp) (E:XK),Qol P w K mg base ds cf n→1≤n∧Qol P w K mg base ds cf (n-1)→Qrx K mg d.x cdv→Qe5 (Qhn d.fc (CXE P w) P w K mg base d.N d.x (Qf d.st) f cdv A outer s H E) R →
  Room n (A.deeper (envOfC d.x (Qf d.st) s.heap.objs.size f cdv))→QB (Qhn d.fc (CXE P w) P w K mg base d.N d.x (Qf d.st) f cdv A outer s H E) (Q9 d.st) (tS ⟨cf,R,mg⟩ d.fn.body)
section
variable {P:Program} {w:World} {K:PySem.W.Frag} {mg:Str→Option Value} {base:Heap} {ds:List Df}
theorem Qty {cf:CF} {f:Nat} {vs:List V} {H:Hp} {Q:VK} {E:XK} {d:Df} (h:spF (evF (Qiy ds) 0) mg f vs H Q E):False:=by
 obtain ⟨G,as,_,_,z⟩:=h
 exact z
theorem Qnt (ok:∀ (f:Nat) (d:Df),ds[f]?=some d→DfOk K mg d∧Qak P w K mg base ds d):∀ n,Qol P w K mg base ds (evF (Qiy ds) n) (2*n+1)
 | 0,f,d,e=>by
  obtain ⟨g,fd,F,m⟩:=(ok f d e).1.dfn.ex
  exact ⟨g,fd,F.kp,m,F.binds (ok f d e).1.bd,⟨fun vs H Q E h=>(Qty (d:=d) (cf:=fun _ _=>.no) h).elim,fun A outer s H args us vs Q E _ _ _ _ h=>(Qty (d:=d) (cf:=fun _ _=>.no) h).elim⟩⟩
 | n+1,f,d,e=>by
  obtain ⟨o,b⟩:=ok f d e
  have ih:=Qnt ok n
  have hcf:∀ as,evF (Qiy ds) (n+1) f as=Qbr (evF (Qiy ds) n) d.fn as:=fun as=>by
   show (match Qiy ds f with | some fn=>Qbr (evF (Qiy ds) n) fn as | none=>.no)=_
   unfold Qiy
   rw [e]
  refine Q6n (g:=d.fc) (k:=2*n+2) o.dfn o.sc o.bd (fun vs H Q E h=>?_) (fun X g cdv A outer s H vs Q E _ hcd pz hr h=>?_)
  ·obtain ⟨G,as,a,_,z⟩:=h
   rw [hcf] at z
   unfold Qbr at z
   by_cases h2:as.length=d.fn.ps
   ·rw [a.len,h2,o.ps]
   ·rw [if_neg h2] at z;exact z.elim
  ·obtain ⟨G,as,a,pn,z⟩:=h
   refine ⟨_,b (evF (Qiy ds) n) (2*n+2) _ g cdv A outer s H E (fun f d e=>(ih f d e).mono (Nat.le_succ _)) ⟨Nat.le_add_left 1 _,ih⟩ hcd pz hr,?_⟩
   rw [hcf] at z
   have hl:as.length=d.fn.ps:=by
    unfold Qbr at z
    by_cases h2:as.length=d.fn.ps
    ·exact h2
    ·rw [if_neg h2] at z;exact z.elim
   have hN:d.ps.length≤d.N.length:=by
    have:=congrArg List.length o.sc.pre
    rw [List.length_take] at this
    omega
   exact Q7i a pn (by rw [a.len,hl,o.ps];exact hN) o.sz z
end
section
variable {X:Cx} {p:Pr} {e a b c:Expr} {es rest:List Expr} {e' a' b' c':E} {es':Es} {pos p1 p2 p3:Pos} {x:Str} {st:Stmt} {s:S} {K:PySem.W.Frag}
theorem Qe (i:Nat) (hN:X.N[i]?=some x:=by rfl) (hv:Vis X.env.scope x:=by first | exact Or.inl rfl | exact Or.inr (Or.inl rfl) | exact Or.inr (Or.inr rfl)) (hd:(x==("__debug__" : Str))=false:=by decide)
  (hcd:(x==("__classdict__" : Str))=false:=by decide):QE X (.Name x pos) (tE p (.var i)):=Qaat hN hv hd hcd
theorem Q7j {i:Int} (h:∃ u,X.mg x=some u∧RelV (.int i) u) (hg:Gl X x:=by rfl) (hd:(x==("__debug__" : Str))=false:=by decide):QE X (.Name x pos) (tE p (.int i)):=Q62 h hg hd
theorem Qa (ha:QE X e (tE p e')) (hr:QA X es (tA p es')) (hs:Qae e=true:=by rfl):QA X (e::es) (tA p (.cons e' es')):=Q63 ha hr hs
theorem Qiz (hK:X.K=K) (ha:QE X a (tE p a')) (hb:QE X b (tE p b')):QE X (.BinOp a .Add b pos) (tE p (.bin .add a' b')):=Qnk (Qth K hK) (Q1u K) ha hb
theorem Qhx (ha:QE X a (tE p a')) (hb:QE X b (tE p b')):QE X (.BinOp a .Sub b pos) (tE p (.bin .sub a' b')):=Qnk Q9r Q1v ha hb
theorem Qft (ha:QE X a (tE p a')) (hb:QE X b (tE p b')):QE X (.BinOp a .Mult b pos) (tE p (.bin .mul a' b')):=Qnk Q64 Q1x ha hb
theorem Qyy (ha:QE X a (tE p a')) (hb:QE X b (tE p b')):QE X (.BinOp a .FloorDiv b pos) (tE p (.bin .fdv a' b')):=Qnk Q65 Q1y ha hb
theorem Qlz (ha:QE X a (tE p a')) (hb:QE X b (tE p b')):QE X (.BinOp a .Mod b pos) (tE p (.bin .mod a' b')):=Qnk Q66 Q1z ha hb
theorem Qtz (ha:QE X a (tE p a')) (hb:QE X b (tE p b')):QE X (.BinOp a .Pow b pos) (tE p (.bin .pow a' b')):=Qnk Q9s Q10 ha hb
theorem Qqi {op:CmpOp} (h1:op≠.In) (h2:op≠.NotIn):behindInMarks op b=false:=by
 unfold behindInMarks
 cases b <;> try rfl
 cases op <;> simp_all
theorem Qyz (hu:X.A.units+64<cLine) (ha:QE X a (tE p a')) (hb:QE X b (tE p b')):QE X (.Compare a [.Eq] [b] pos) (tE p (.cmp .eq a' b')):=Q4c (Q4d hu) Qyk ha hb (Qqi (by decide) (by decide))
theorem g_ge (ha:QE X a (tE p a')) (hb:QE X b (tE p b')):QE X (.Compare a [.GtE] [b] pos) (tE p (.cmp .ge a' b')):=Q4c o_ge Q7a ha hb (Qqi (by decide) (by decide))
theorem Qse (hu:X.A.units+64<cLine) (ha:QE X a (tE p a')) (hb:QE X b (tE p b')):QT X (.Compare a [.Eq] [b] pos) (tT p (.cmp .eq a' b')):=Qlr (Q4d hu) Qyk ha hb (Qqi (by decide) (by decide))
theorem Qjn (hu:X.A.units+64<cLine) (ha:QE X a (tE p a')) (hb:QE X b (tE p b')):QT X (.Compare a [.NotEq] [b] pos) (tT p (.cmp .ne a' b')):=Qlr (Qaaz hu) Q67 ha hb (Qqi (by decide) (by decide))
theorem Qvv (ha:QE X a (tE p a')) (hb:QE X b (tE p b')):QT X (.Compare a [.Lt] [b] pos) (tT p (.cmp .lt a' b')):=Qlr Q9u Q68 ha hb (Qqi (by decide) (by decide))
theorem Q7k (ha:QE X a (tE p a')) (hb:QE X b (tE p b')):QT X (.Compare a [.Gt] [b] pos) (tT p (.cmp .gt a' b')):=Qlr o_gt Q69 ha hb (Qqi (by decide) (by decide))
theorem Q4i (ha:QE X a (tE p a')) (hb:QE X b (tE p b')):QT X (.Compare a [.Is] [b] pos) (tT p (.cmp .isn a' b')):=Qlr Q9w Q11 ha hb (Qqi (by decide) (by decide))
theorem Qy0 (ha:QE X a (tE p a')) (hb:QE X b (tE p b')):QT X (.Compare a [.IsNot] [b] pos) (tT p (.cmp .isnn a' b')):=Qlr Q6c Qyl ha hb (Qqi (by decide) (by decide))
theorem Qfm (ha:QE X e (tE p e')) (he:∀ whole,isTrue e X.env whole=(do let v ← whole;standAt e.pos;holding [v] (truthy v)):=by intro _;rfl):QT X e (tT p e'):=Qaaw ha he
theorem Ql0 {n:String} {tn:Expr} (hm:X.mg "isinstance" = none) (hv:bootBuiltins "isinstance" = some (.builtin "isinstance")) (ha:QE X a (tE p a')) (ht:QE X tn (tC (.ty n))) (hg:Gl X "isinstance" := by rfl) (h1:Qae a=true:=by rfl) (h2:Qae tn=true:=by rfl):QE X (.Call (.Name "isinstance" p1) [a,tn] [] pos) (tE p (.isI a' n)):=Qaa0 hm hv ha ht hg h1 h2
theorem Qei {id:String} {r:List V→Hp→VK→Prop} {b:Bi} (hc:QCl X (.builtin id) r) (hs:Ob r b) (hm:X.mg x=none) (hv:bootBuiltins x=some (.builtin id)) (ha:QA X (e::es) (tA p es')) (hg:Gl X x:=by rfl) (hn:x ≠ "__name__" := by decide) (hdb:(x==("__debug__" : Str))=false:=by decide) (h1:Qae e=true:=by rfl) (h2:es.all Qae=true:=by rfl) :
  QE X (.Call (.Name x p1) (e::es) [] pos) (tE p (.bi b es')):=s_bi hc hs hm hv ha hg hn hdb h1 h2
theorem Qdw {T:String} {r:List V→Hp→VK→Prop} {b:Bi} (hc:QCl X (.type T) r) (hs:Ob r b) (hm:X.mg x=none) (hv:bootBuiltins x=some (.type T)) (ha:QA X (e::es) (tA p es')) (hg:Gl X x:=by rfl) (hn:x ≠ "__name__" := by decide) (hdb:(x==("__debug__" : Str))=false:=by decide) (h1:Qae e=true:=by rfl) (h2:es.all Qae=true:=by rfl) :
  QE X (.Call (.Name x p1) (e::es) [] pos) (tE p (.bi b es')):=Qaa1 hc hs hm hv ha hg hn hdb h1 h2
theorem Qc4 (hK:X.K=K) (ha:QE X a (tE p a')) (hb:QE X b (tE p b')) (hs:Qkr b:=by exact fun _ _=>rfl):QE X (.Subscript a b pos) (tE p (.ix a' b')):=s_ix K hK ha hb hs
theorem q_m1 {j}:QE X (.UnaryOp .USub (.Constant (.int 1) j p1) pos) (tC (.int (-1))):=(Q9g Q3y Qlf).weak fun σ H Q h=>⟨1,rfl,h⟩
theorem Qr {f k:Nat} {ps:List Str} (h:HasE X.prog X.w X.K X.mg X.base x ps k (spF p.cf p.mg f)) (pz:Qe5 X p.R) (hr:Room k X.A) (ha:QA X (e::es) (tA p es')) (hg:Gl X x:=by rfl) (hdb:(x==("__debug__" : Str))=false:=by decide) (h1:Qae e=true:=by rfl) (h2:es.all Qae=true:=by rfl) :
  QE X (.Call (.Name x p1) (e::es) [] pos) (tE p (.call f es')):=Q7d h pz hr ha hg hdb h1 h2
theorem Qbz {tgE elt iter:Expr} {ifs:List Expr} {scope:Scope} (N:List Str) (js:List (Option Nat)) {w:W} {tg:Tg} {cs:Es} (hcalm:X.calm=true)
  (hi:QI X tgE iter (tW p w)) (hg:∀ s H fp,QG (Qag X scope N s H fp) tgE (tG tg)) (hc:∀ s H fp,QC (Qag X scope N s H fp) ifs (tCs p.calm cs)) (he:∀ s H fp,QE (Qag X scope N s H fp) elt (tE p.calm e'))
  (hk:scope.kind=.function:=by rfl) (h1:scOk X scope=true:=by rfl) (h2:Qim X scope N js=true:=by rfl) (hs:∀ x,foldedSetIterable iter X.env x=pure x:=by intro _;rfl):QE X (.ListComp elt [⟨tgE,iter,ifs,0⟩] scope pos) (tE p (.comp w js tg cs e')):=Q7e hcalm hi hg hc he hk h1 h2 hs
variable {tg:Expr}
theorem Qeu (hm:X.mg "range" = none) (ha:QE X a (tE p a')) (hg:Gl X "range" := by rfl) (hs:Qae a=true:=by rfl):QI X tg (.Call (.Name "range" p1) [a] [] pos) (tW p (.rng1 a')):=Q17 hm ha hg hs
theorem Qjo (he:QE X e (tE p e')) (hs:swapsWith e none pos.line X.env=pure false:=by rfl):QS X (.Expr e pos) (tS p (.expr e')):=Q7g he hs
theorem Qgm {iter tgE:Expr} {body:List Stmt} {w:W} {tg:Tg} (hc:X.calm=true) (hi:QI X.nox tgE iter (tW p.calm w)) (hg:QG X.nox tgE (tG tg)) (hb:QB X.nox body (tS p.calm s)) (hs:∀ x,foldedSetIterable iter X.env x=pure x:=by intro _;rfl):QS X (.For tgE iter body [] pos) (tS p (.for_ w tg s)):=Qaa6 hc hi hg hb hs
end
end L2
set_option maxHeartbeats 2000000
namespace L2
open PySem PySem.Spec PyProof.Rows PySem.W PySem.Calls
variable {X:Cx} {p:Pr} {st:Stmt}
end L2
namespace L2
open PySem PySem.Spec PyProof.Rows PySem.W PySem.Calls
section
variable {X:Cx} {pins:List (Addr×Obj)} {σ σ0:St} {H H0:Hp} {s s0:Shared}
theorem Inv.trackL {a:Addr} {ys:List V} {us:List Value} {n:Nat} (I:Inv X pins σ H s) (I0:Inv X pins σ0 H0 s0) (hn:s0.heap.get? a=none) (hH:H a=none) (ho:s.heap.get? a=some (seqObj "list" us.toArray n)) (r:Vals ys us) (hz:ys.length≤sizeLine):Inv X pins σ (upd H a (.lst ys)) s:=by
 have ne:∀ b o,s0.heap.get? b=some o→b≠a:=fun b o e z=>by rw [z,hn] at e;cases e
 have neH:∀ b u,H b=some u→b≠a:=fun b u e z=>by rw [z,hH] at e;cases e
 obtain ⟨oL,hL⟩:=I0.ns_in
 refine ⟨I.ok,I.os,I.bare,⟨I.base.keep,I.base.slot,fun b o e n hx=>?_,I.base.there,fun b xs e=>?_,fun b o u e=>?_,fun b ps e=>?_⟩,I.loc,I.cell,?_,fun x c e=>?_,fun p hp=>?_,fun b u e=>?_,I.len⟩
 ·obtain ⟨v,q⟩:=I0.old_in e hx
  rw [Qz (ne _ _ q)]
  exact I.base.free b o e n hx
 ·have q:=I.base.tups b xs e
  rw [Qz (neH _ _ q)];exact q
 ·have q:=I.base.frzs b o u e
  rw [Qz (neH _ _ q)];exact q
 ·have q:=I.base.tbls b ps e
  rw [Qz (neH _ _ q)];exact q
 ·rw [Qz (ne _ _ hL)];exact I.free
 ·obtain ⟨o,q⟩:=I0.cell_in e
  rw [Qz (ne _ _ q)];exact I.freeC x c e
 ·obtain ⟨e,n,r⟩:=I.pin p hp
  exact ⟨e,by rw [Qz (ne _ _ (I0.pin p hp).1)];exact n,r⟩
 ·by_cases hb:b=a
  ·subst hb
   rw [Qp] at e
   cases e
   exact ⟨hz,us,n,r,ho⟩
  ·rw [Qz hb] at e
   exact (I.hok b u e).stay (fun _ _ _ q=>q) (fun c q=>by rw [Qz (neH _ _ q)];exact q) (fun c xs q=>by rw [Qz (neH _ _ q)];exact q) fun c xs q=>by rw [Qz (neH _ _ q)];exact q
theorem Qvw {ps:List Str} {k:Nat} {sp:Sp} {l fa:Addr} {fd:FuncData} {y:V} {u:Value} {Q:VK} {E:Value→Shared→Prop} (I:Inv X pins σ H s) (b:Binds X.K fd ps []) (F:FnOk X.prog X.w X.K X.mg X.base (CXE X.prog X.w) k fa fd ps sp) (hr:Room k X.A.in1.in1)
  (hl:s.heap.IsList l #[u]) (ry:RelV y u) (hs:sp [y] H (fun _ H2=>∀ a,H2 a=none→Q (.ref a) (upd H2 a (.lst [y]))) (fun _ _ _=>False)) :
  wpAny (model X.prog X.w) X.A (call (.builtin "sorted") [.ref l] [(Str.ofString "key",.ref fa),(Str.ofString "reverse",.bool true)]) (EP X pins σ Q) E s:=by
 refine call_function_entry_kw kind_sorted plain_sorted entry_sorted (ksk_s2 _ _ _) ?_
 unfold Builtin.«sorted»
 refine wpAny_bind (m:=checkCount "sorted" 1 1 _) (wpAny_pure ?_)
 refine wpAny_bind (collect_list (vs:=[u]) hl ?_ (by rw [sizeLine_eq];show 1≤_;omega))
 refine wpAny_bind (wpAny_newList ?_ (by rw [sizeLine_eq];show 1≤_;omega))
 have hsz:((s.heap.push (seqObj "list" #[] 0)).update s.heap.objs.size (Obj.mapSeq (· ++ [u].toArray))).objs.size=s.heap.objs.size+1:=by
  rw [Heap.size_update,size_push']
 have hoL:(((s.heap.push (seqObj "list" #[] 0)).update s.heap.objs.size (Obj.mapSeq (· ++ [u].toArray))).push (seqObj "list" [u].toArray 0)).get? (s.heap.objs.size+1)=some (seqObj "list" [u].toArray 0):=by
  rw [←hsz];exact Heap.get?_push_size _ rfl
 have keep:∀ b o,s.heap.get? b=some o→(((s.heap.push (seqObj "list" #[] 0)).update s.heap.objs.size (Obj.mapSeq (· ++ [u].toArray))).push (seqObj "list" [u].toArray 0)).get? b=some o:=fun b o q=>by
  have hlt:b<s.heap.objs.size:=Heap.lt_size q
  rw [Heap.get?_push_ne _ _ _ (by rw [hsz];exact Nat.ne_of_lt (Nat.lt_succ_of_lt hlt)),Heap.get?_update_ne _ _ _ _ (Nat.ne_of_lt hlt),Heap.get?_push_ne _ _ _ (Nat.ne_of_lt hlt)]
  exact q
 show wpAny _ _ _ _ _ { s with heap:=((s.heap.push (seqObj "list" #[] 0)).update s.heap.objs.size (Obj.mapSeq (· ++ [u].toArray))).push (seqObj "list" [u].toArray 0) }
 rw [hsz]
 have hz1:(((s.heap.push (seqObj "list" #[] 0)).update s.heap.objs.size (Obj.mapSeq (· ++ [u].toArray))).push (seqObj "list" [u].toArray 0)).objs.size=s.heap.objs.size+2:=by rw [size_push',hsz]
 generalize hh1:((s.heap.push (seqObj "list" #[] 0)).update s.heap.objs.size (Obj.mapSeq (· ++ [u].toArray))).push (seqObj "list" [u].toArray 0)=h1 at *
 refine wpAny_bind (wpAny_holding (wpAny_call_entry_kw slot_list_sort ⟨_,hoL,rfl⟩ entry_list_sort ?body (ksk_l2 _ _ _)))
 case body =>
  show wpAny (model X.prog X.w) X.A.in1.in1 (Builtin.«list.sort» ⟨[.ref (s.heap.objs.size+1)],[(Str.ofString "key",.ref fa),(Str.ofString "reverse",.bool true)]⟩) _ _ _
  rw [ksk_t2]
  generalize ha:s.heap.objs.size+1=a at *
  obtain ⟨e1,ho1⟩:∃ e1,(h1.update a (Obj.mapSeq fun _=>(#[]:Array Value))).get? a=some (seqObj "list" #[] e1):=⟨_,get?_update_seq hoL fun _=>#[]⟩
  unfold ksk_tree
  refine wpAny_bind (listItems_at hoL rfl ?_)
  refine wpAny_bind (listUpdate_at hoL rfl ?_ (by rw [List.size_toArray,sizeLine_eq];show 1≤_;omega) (Nat.zero_le _))
  refine wpAny_bind (seqEpoch_at ho1 rfl ?_)
  refine wpAny_bind (wpAny_newTuple ?_ (by show 1≤_;rw [sizeLine_eq];omega))
  refine wpAny_bind (wpAny_newList ?_ (Nat.zero_le _))
  refine wpAny_holding ?_
  unfold ksk_rest
  refine wpAny_bind (wpAny_rule ?_)
  rw [←Array.forIn_toList]
  simp only [List.toList_toArray,List.forIn_cons,List.forIn_nil]
  have sz2:((h1.update a (Obj.mapSeq fun _=>(#[]:Array Value))).push { cls:=.type "tuple",data:=.seq #[u] }).objs.size=s.heap.objs.size+3:=by
   rw [size_push',Heap.size_update,hz1]
  have keep2:∀ b o,s.heap.get? b=some o→((h1.update a (Obj.mapSeq fun _=>(#[]:Array Value))).push { cls:=.type "tuple",data:=.seq #[u] }).get? b=some o:=fun b o q=>by
   have hlt:=Heap.lt_size q
   refine Heap.get?_push_of_some _ ?_
   rw [Heap.get?_update_ne _ _ _ _ (Nat.ne_of_lt (by rw [←ha];exact Nat.lt_succ_of_lt hlt))]
   exact keep b o q
  have ha2:((h1.update a (Obj.mapSeq fun _=>(#[]:Array Value))).push { cls:=.type "tuple",data:=.seq #[u] }).get? a=some (seqObj "list" #[] e1):=Heap.get?_push_of_some _ ho1
  generalize ((h1.update a (Obj.mapSeq fun _=>(#[]:Array Value))).push { cls:=.type "tuple",data:=.seq #[u] })=h2 at *
  have ha3:(h2.push (seqObj "list" #[] 0)).get? a=some (seqObj "list" #[] e1):=Heap.get?_push_of_some _ ha2
  have hk3:(h2.push (seqObj "list" #[] 0)).get? h2.objs.size=some (seqObj "list" #[] 0):=Heap.get?_push_size _ rfl
  have keep3:∀ b o,s.heap.get? b=some o→(h2.push (seqObj "list" #[] 0)).get? b=some o:=fun b o q=>Heap.get?_push_of_some _ (keep2 b o q)
  show wpAny _ _ _ _ _ { s with heap:=h2.push (seqObj "list" #[] 0) }
  generalize hkS:h2.objs.size=kS at *
  generalize h2.push (seqObj "list" #[] 0)=h3 at *
  have I3:Inv X pins σ H { s with heap:=h3 }:=I.kept keep3
  have fp:∀ H',(∀ b∈[a,kS],H' b=none)→∀ b∈[a,kS],Qhz X pins H' b:=fun H' hn b hb=>I.fpOk (by
   simp only [List.mem_cons,List.not_mem_nil,or_false] at hb
   rcases hb with rfl | rfl <;> omega) (hn b hb)
  have hnH:∀ b∈[a,kS],H b=none:=fun b hb=>I.hok.fresh (by
   simp only [List.mem_cons,List.not_mem_nil,or_false] at hb
   rcases hb with rfl | rfl <;> omega)
  have I4:=I3.pinned (fp H hnH) fun b hb=>by
   simp only [List.mem_cons,List.not_mem_nil,or_false] at hb
   rcases hb with rfl | rfl
   ·exact ⟨_,ha3,fun v z=>by cases z⟩
   ·exact ⟨_,hk3,fun v z=>by cases z⟩
  have hlen:([u]++[]).length=ps.length:=(F.len _ _ _ _ hs)
  refine wpAny_bind (wpAny_bind (wpAny_bind (wpAny_attempt (wpAny_call (codeAny_mono (F.run X.A.in1.in1 X.stack _ H ⟨[u],[]⟩ ([u]++[]) [y] _ _ hr I4.env0.in1.in1 (b _ [u] I4.kIn hlen) (.cons ry .nil) hs) fun rr s4 hq=>?_)))))
  cases rr with
  | error ev =>
   obtain ⟨_,_,_,_,_,_,_,_,_,_,z⟩:=hq
   exact z.elim
  | ok fl =>
   cases fl with
   | next=>exact False.elim hq
   | brk=>exact False.elim hq
   | cont=>exact False.elim hq
   | ret uk =>
    obtain ⟨v,H4,J,_,q⟩:=I4.after hq
    have pa:=J.pin (a,seqObj "list" #[] e1) (List.mem_append_right _ (List.mem_append_right _ (Qb3 (by simp) ha3)))
    have pk:=J.pin (kS,seqObj "list" #[] 0) (List.mem_append_right _ (List.mem_append_right _ (Qb3 (by simp) hk3)))
    have ga:s4.heap.get? a=some (seqObj "list" #[] e1):=pa.1
    have gk:s4.heap.get? kS=some (seqObj "list" #[] 0):=pk.1
    have nka:kS≠a:=by omega
    refine wpAny_bind (listUpdate_at gk rfl (wpAny_pure (wpAny_pure ?_)) (Nat.zero_le _) (by show 1≤_;omega))
    obtain ⟨e2,gk5⟩:∃ e2,(s4.heap.update kS (Obj.mapSeq fun x=>x.push uk)).get? kS=some (seqObj "list" #[uk] e2):=⟨_,get?_update_seq gk fun x=>x.push uk⟩
    have ga5:(s4.heap.update kS (Obj.mapSeq fun x=>x.push uk)).get? a=some (seqObj "list" #[] e1):=by
     rw [Heap.get?_update_ne _ _ _ _ (Ne.symm nka)];exact ga
    have kp5:∀ b o,b∉[a,kS]→s4.heap.get? b=some o→(s4.heap.update kS (Obj.mapSeq fun x=>x.push uk)).get? b=some o:=fun b o hb q=>by
     rw [Heap.get?_update_ne _ _ _ _ (fun z=>hb (by rw [z];simp))];exact q
    generalize s4.heap.update kS (Obj.mapSeq fun x=>x.push uk)=h5 at *
    refine wpAny_bind (listItems_at gk5 rfl ?_)
    obtain ⟨e3,gk6⟩:∃ e3,(h5.update kS (Obj.mapSeq fun _=>(#[]:Array Value))).get? kS=some (seqObj "list" #[] e3):=⟨_,get?_update_seq gk5 fun _=>#[]⟩
    have ga6:(h5.update kS (Obj.mapSeq fun _=>(#[]:Array Value))).get? a=some (seqObj "list" #[] e1):=by
     rw [Heap.get?_update_ne _ _ _ _ (Ne.symm nka)];exact ga5
    have kp6:∀ b o,b∉[a,kS]→s4.heap.get? b=some o→(h5.update kS (Obj.mapSeq fun _=>(#[]:Array Value))).get? b=some o:=fun b o hb q=>by
     rw [Heap.get?_update_ne _ _ _ _ (fun z=>hb (by rw [z];simp))];exact kp5 b o hb q
    unfold ksk_end
    dsimp only
    rw [if_pos rfl]
    refine wpAny_bind (wpAny_rule ?_)
    rw [if_pos (show (#[u]:Array Value).size<2 from Nat.one_lt_two),if_pos (show (#[u]:Array Value).size<2 from Nat.one_lt_two)]
    refine wpAny_bind (wpAny_pure ?_)
    rw [StateT.run_pure]
    refine wpAny_bind (wpAny_pure ?_)
    unfold ksk_tail
    dsimp only
    refine wpAny_bind (listUpdate_at gk5 rfl ?_ (by show 1≤_;rw [sizeLine_eq];omega) (Nat.zero_le _))
    refine wpAny_bind (wpAny_letGo ?_)
    refine wpAny_bind (seqEpoch_at ga6 rfl ?_)
    have hx:(Array.map (fun x=>x.2) (arrOf (SortSt.mk' general' (if true=true then ((#[uk]:Array Value).zip #[u]).reverse else (#[uk]:Array Value).zip #[u]) #[] 7 none))).reverse = #[u]:=by
     rw [if_pos rfl]
     show (Array.map (fun x=>x.2) ((#[uk]:Array Value).zip #[u]).reverse).reverse = #[u]
     simp
    rw [if_pos rfl,hx]
    refine wpAny_bind (listUpdate_at ga6 rfl ?_ (Nat.zero_le _) (by show 1≤_;omega))
    obtain ⟨e4,ga7⟩:∃ e4,((h5.update kS (Obj.mapSeq fun _=>(#[]:Array Value))).update a (Obj.mapSeq fun _=>#[u])).get? a=some (seqObj "list" #[u] e4):=⟨_,get?_update_seq ga6 fun _=>#[u]⟩
    have kp7:∀ b o,b∉[a,kS]→s4.heap.get? b=some o→((h5.update kS (Obj.mapSeq fun _=>(#[]:Array Value))).update a (Obj.mapSeq fun _=>#[u])).get? b=some o:=fun b o hb q=>by
     rw [Heap.get?_update_ne _ _ _ _ (fun z=>hb (by rw [z];simp))];exact kp6 b o hb q
    generalize (h5.update kS (Obj.mapSeq fun _=>(#[]:Array Value))).update a (Obj.mapSeq fun _=>#[u])=h7 at *
    have n4:∀ b∈[a,kS],H4 b=none:=fun b hb=>by
     simp only [List.mem_cons,List.not_mem_nil,or_false] at hb
     rcases hb with rfl | rfl
     ·exact pa.2.1
     ·exact pk.2.1
    have I7:Inv X pins σ H4 { s4 with heap:=h7 }:=J.unpinned.turnedL kp7 (fp H4 n4)
    have I8:=I7.trackL I (a:=a) (ys:=[y]) (us:=[u]) (n:=e4) (by
     cases z:s.heap.get? a with
     | none=>rfl
     | some o=>exact absurd (Heap.lt_size z) (Nat.not_lt.mpr (by rw [←ha];exact Nat.le_succ _))) pa.2.1 ga7 (.cons ry .nil) (by rw [sizeLine_eq];show 1≤_;omega)
    have ee:(e1 != e1)=false:=bne_self_eq_false e1
    rw [ee,if_neg Bool.false_ne_true]
    refine wpAny_pure ⟨_,rfl,wpAny_pure ⟨_,rfl,.ref a,upd H4 a (.lst [y]),I8,rfl,q a pa.2.1⟩⟩
end
noncomputable def tSrk (K:PySem.W.Frag) (sp:Sp) (te:TE):TE:=fun σ H Q=>te σ H fun v H1=>∃ l y,[v]=[V.ref l]∧SqL K H1 l [y]∧sp [y] H1 (fun _ H2=>∀ a,H2 a=none→Q (.ref a) (upd H2 a (.lst [y]))) (fun _ _ _=>False)
section
variable {X:Cx} {x:Str} {ps:List Str} {k:Nat} {sp:Sp} {e eb:Expr} {te:TE} {p1 p2 k1 k2 pos:Pos}
theorem Qaa9 (h:HasE X.prog X.w X.K X.mg X.base x ps k sp) (hr:Room k X.A.in1.in1) (he:QE X e te) (hb:QE X eb (tC (.bl true))) (hm:X.mg "sorted" = none) (hv:bootBuiltins "sorted" = some (.builtin "sorted")) (hg:Gl X "sorted") (hgx:Gl X x) (hdb:(x==("__debug__" : Str))=false)
  (hns:Qae e=true) (hst:backTo pos (starEach [e] X.env)=(false,eval e X.env)::backTo pos (starEach [] X.env)) (hpl:(backTo pos (starEach [e] X.env)).any (·.1)=false) :
  QE X (.Call (.Name "sorted" p1) [e] [⟨some "key",.Name x p2,k1⟩,⟨some "reverse",eb,k2⟩] pos) (tSrk X.K sp te):=by
 obtain ⟨f,fd,kp,m,b,F⟩:=h
 refine ⟨fun pins s σ H Q I hq=>?_⟩
 refine wpAny_Call_Name_kw (Qk9 I hg hm hv ?_)
 have ha:=(Q5 he Qbk hns).h pos pins s σ H (fun vs H1=>∃ l y,vs=[.ref l]∧SqL X.K H1 l [y]∧sp [y] H1 (fun _ H2=>∀ a,H2 a=none→Q (.ref a) (upd H2 a (.lst [y]))) (fun _ _ _=>False)) I hq
 refine callWith_kw (thn ha fun us s1 ⟨vs,H1,I1,r,q⟩=>?_) hst hpl
 obtain ⟨l,y,rfl,sq,hs⟩:=q
 refine thn ((Qtd (nm:=some "key") (kpos:=k1) (Qn5 (pos:=p2) hgx m (v:=.ref f) rfl hdb) (Qtd (nm:=some "reverse") (kpos:=k2) hb.h Q5r)) pos pins s1 σ H1 (fun zs H2=>zs=[.ref f,.bl true]∧SqL X.K H2 l [y]∧sp [y] H2 (fun _ H2=>∀ a,H2 a=none→Q (.ref a) (upd H2 a (.lst [y]))) (fun _ _ _=>False)) I1 ⟨rfl,sq,hs⟩) fun ws s2 ⟨zs,H2,I2,rz,q2⟩=>?_
 obtain ⟨rfl,sq,hs⟩:=q2
 obtain ⟨u,rfl,ru⟩:=Qgo r
 cases ru
 obtain ⟨its,r',pl,hz⟩:=I2.list sq
 obtain ⟨u,rfl,ry⟩:=Qgo r'
 obtain ⟨w1,w2,rfl,r1,r2⟩:=Qm4 rz
 cases r1
 cases r2
 exact Qvw I2 b F hr pl.isList ry hs
end
section
variable {X:Cx} {p:Pr} {f:Nat} {e':E} {K:PySem.W.Frag}
theorem Q7l {σ:St} {H:Hp} {Q:VK} (h:tE p (.srk f e') σ H Q):tSrk K (spF p.cf p.mg f) (tE p e') σ H Q:=by
 obtain ⟨G,ρ,F,h⟩:=h
 unfold evE at h
 refine ⟨G,ρ,F,h.bind.imp fun r ρ1 h1 v H1 G1 F1 pv=>?_⟩
 match r,h1,pv with
 | .fz (.lst [t]),h1,pv =>
  replace h1:Fin p (Qa7 H G σ ρ) σ (match Qes p.cf f [.fz t] ρ1 with | .ok _ ρ2=>.ok (PV.ow (.lst [t])) ρ2 | _=>.no) (fun r ρ1=>∀ (v:V) (H1:Hp) (G1:Addr→Prop),FI (Qa7 H G σ ρ) H1 G1 σ ρ1→PVR H H1 G1 σ ρ1 v r→Q v H1):=h1
  obtain ⟨l,vs,rfl,el,il⟩:=pv.is.lst_inv
  obtain ⟨y,w,rfl,iy,iw⟩:=il.cons_inv
  cases iw.nil_inv
  refine ⟨l,y,rfl,SqL.of (Qal el).2,?_⟩
  unfold Qes at h1
  rw [if_pos (show Qq [PV.fz t]=true from rfl),show Qo ρ1 [.fz t]=some [.fz t] from rfl] at h1
  dsimp only at h1
  have r1:PVRs (Qa7 H G σ ρ).H H1 G1 σ ρ1 [y] [.fz t]:=.cons iy .nil
  obtain ⟨G',F',A⟩:=Qtu (B:=Qa7 H G σ ρ) F1 r1 (show Qo ρ1 [.fz t]=some [.fz t] from rfl) rfl
  refine ⟨G',[.fz t],A,F'.prv,?_⟩
  cases ec:p.cf f [.fz t] with
  | no=>rw [ec] at h1;exact False.elim h1
  | xn z fin=>rw [ec] at h1;exact False.elim h1
  | ok r fin =>
   rw [ec] at h1
   intro v H2 G2 C rr a ha
   have F2:=F'.called A (fun k i v e1 e2=>r1.get e2 e1) r1.len (show Qo ρ1 [.fz t]=some [.fz t] from rfl) rfl C
   have sm:=F'.same (F'.self.called A (fun k i v e1 e2=>r1.get e2 e1) r1.len (show Qo ρ1 [.fz t]=some [.fz t] from rfl) rfl C)
   have iy1:Is (dls H1 G') y t:=A.get 0 y (.fz t) rfl rfl
   obtain ⟨F3,r3⟩:=Qg8 F2 ha (Same.upd ha) Qp (.one (iy1.mono sm)) (show 1≤100000 by decide)
   exact h1 _ _ _ F3 r3
 | .fz (.lst []),h1,pv=>exact False.elim h1
 | .fz (.lst (_::_::_)),h1,pv=>exact False.elim h1
 | .fz .non,h1,pv=>exact False.elim h1
 | .fz (.bl _),h1,pv=>exact False.elim h1
 | .fz (.int _),h1,pv=>exact False.elim h1
 | .fz (.str _),h1,pv=>exact False.elim h1
 | .fz (.tup _),h1,pv=>exact False.elim h1
 | .fz (.dct _ _),h1,pv=>exact False.elim h1
 | .fz (.dtt _ _),h1,pv=>exact False.elim h1
 | .fz (.clo _ _),h1,pv=>exact False.elim h1
 | .ow _,h1,pv=>exact False.elim h1
 | .sl _,h1,pv=>exact False.elim h1
end
theorem Room.in2 {k:Nat} {A:Around} (r:Room k A) (h:1≤k):Room (k-1) A.in1.in1 :=
 ⟨r.hd,by have:=r.dp;show A.depth+3*(k-1)+5<_;omega,by have:=r.un;show A.units+1+1+16*(k-1)+200<_;omega,r.gd⟩
section
variable {X:Cx} {p:Pr} {f k:Nat} {e':E} {x:Str} {ps:List Str} {e:Expr} {p1 p2 k1 k2 kp pos:Pos}
theorem Qaba {j} (h:HasE X.prog X.w X.K X.mg X.base x ps (k-1) (spF p.cf p.mg f)) (h1:1≤k) (hr:Room k X.A) (he:QE X e (tE p e')) (hm:X.mg "sorted" = none) (hv:bootBuiltins "sorted" = some (.builtin "sorted")) (hg:Gl X "sorted" := by rfl) (hgx:Gl X x:=by rfl) (hdb:(x==("__debug__" : Str))=false:=by decide)
  (hns:Qae e=true:=by rfl) (hst:backTo pos (starEach [e] X.env)=(false,eval e X.env)::backTo pos (starEach [] X.env):=by rfl) (hpl:(backTo pos (starEach [e] X.env)).any (·.1)=false:=by rfl) :
  QE X (.Call (.Name "sorted" p1) [e] [⟨some "key",.Name x p2,k1⟩,⟨some "reverse",.Constant (.bool true) j kp,k2⟩] pos) (tE p (.srk f e')):=(Qaa9 h (hr.in2 h1) he Qxk hm hv hg hgx hdb hns hst hpl).weak fun σ H Q h=>Q7l h
end
theorem Qabb {cf:CF} {f:Nat} {e:E} {ρ ρ1 ρ2:En} {t:T} {r:PV} (he:evE cf e ρ=.ok (.fz (.lst [t])) ρ1) (hc:Qes cf f [.fz t] ρ1=.ok r ρ2):evE cf (.srk f e) ρ=.ok (.ow (.lst [t])) ρ2:=by
 rw [evE,he]
 show (match Qes cf f [.fz t] ρ1 with | .ok _ ρ2=>Out.ok (PV.ow (.lst [t])) ρ2 | _=>.no)=_
 rw [hc]
end L2
namespace L2
open PySem PySem.Spec PyProof.Rows PySem.W PySem.Calls
theorem Qnu {f:Slot→Slot} (hf:f .un=.un) (ρ:En) (j:Nat):Qc (ρ.map f) j=f (Qc ρ j):=by
 unfold Qc
 rw [List.getElem?_map]
 cases ρ[j]? with
 | none=>exact hf.symm
 | some s=>rfl
theorem Qh7 {ρ ρ1:En} (h:ρ1.length=ρ.length) (j:Nat):Qc (List.zipWith lkB ρ ρ1) j=lkB (Qc ρ j) (Qc ρ1 j):=by
 unfold Qc
 by_cases hj:j<ρ.length
 ·have h1:j<ρ1.length:=by omega
  rw [List.getElem?_eq_getElem hj,List.getElem?_eq_getElem h1,List.getElem?_eq_getElem (by rw [List.length_zipWith];omega),List.getElem_zipWith]
 ·have h0:(List.zipWith lkB ρ ρ1)[j]?=none:=List.getElem?_eq_none (by rw [List.length_zipWith];omega)
  have h1:ρ[j]?=none:=List.getElem?_eq_none (by omega)
  have h2:ρ1[j]?=none:=List.getElem?_eq_none (by omega)
  rw [h0,h1,h2]
  rfl
section
variable {X:Cx} {p:Pr} {st:Stmt} {B:Bs} {H H1:Hp} {G G1:Addr→Prop} {σ σ1:St} {ρ ρ1:En} {i:Nat} {ts:List T}
theorem Qqj {f:Slot→Bool} (hf:f .un=true) (h:ρ.all f=true) (j:Nat):f (Qc ρ j)=true:=by
 unfold Qc
 cases e:ρ[j]? with
 | none=>exact hf
 | some s=>exact List.all_eq_true.mp h s (List.mem_of_getElem? e)
noncomputable abbrev lkE (i:Nat) (ts:List T) (ρ:En):En:=(ρ.set i (.fz (.lst ts))).map lkS
theorem Qom (hi:i<ρ.length) (j:Nat):Qc (lkE i ts ρ) j=if j=i then .fx (.lst ts) else lkS (Qc ρ j):=by
 rw [Qnu rfl,Qdj]
 by_cases e:j=i
 ·rw [if_pos ⟨e,hi⟩,if_pos e];rfl
 ·rw [if_neg (fun z=>e z.1),if_neg e]
theorem FI.look (F:FI B H G σ ρ) (hO:∀ a,¬ B.O a) (hs:Qc ρ i=.ow (.lst ts)) (hk:(ρ.set i .un).all Qmv=true) :
  ∃ a G',σ[i]?=some (some (.ref a))∧G a∧B.H a=none∧(∀ b,G' b↔G b∧b≠a)∧FI ⟨B.H,B.G,B.O,B.M,PnA σ (lkE i ts ρ)⟩ H G' σ (lkE i ts ρ):=by
 have hi:i<ρ.length:=Qjl (by rw [hs];intro z;cases z)
 have q:=F.slot i
 rw [hs] at q
 obtain ⟨a,e,g,ob,ea,il⟩:=q
 have hb:B.H a=none:=by
  rcases F.newO a ⟨i,_,hs,e⟩ with z | z
  ·exact z
  ·exact (hO a z).elim
 have ok:∀ j,j≠i→Qmv (Qc ρ j)=true:=fun j hj=>by
  have:=Qqj rfl hk j
  rwa [Qdj,if_neg (fun z=>hj z.1)] at this
 have sub:Same (dls H G) (dls H fun b=>G b∧b≠a):=Qc6 fun b h=>h.1
 refine ⟨a,fun b=>G b∧b≠a,e,g,hb,fun b=>Iff.rfl,?_⟩
 have npv:∀ j c,¬ PrvAt σ (lkE i ts ρ) j c:=fun j c h=>by
  obtain ⟨⟨u,h⟩,_⟩:=h
  rw [Qom hi] at h
  by_cases z:j=i
  ·rw [if_pos z] at h;cases h
  ·rw [if_neg z] at h
   have k:=ok j z
   cases hs2:Qc ρ j <;> rw [hs2] at h k <;> first | (cases h;done) | (cases k;done) | skip
   rename_i t
   have h:(if Qvs t=true then Slot.fx t else Slot.fz t).prv=some u:=h
   by_cases r:Qvs t=true
   ·rw [if_pos r] at h;cases h
   ·rw [if_neg r] at h;cases h
 exact {
  len:=by rw [List.length_map,List.length_set];exact F.len
  slot:=fun j=>by
   rw [Qom hi]
   by_cases z:j=i
   ·rw [if_pos z,z]
    refine ⟨a,ob,e,by rw [Qb4 fun y=>y.2 rfl];exact ea,il.is (by rw [Qb4 fun y=>y.2 rfl];exact ea) sub⟩
   ·rw [if_neg z]
    have q:=F.slot j
    have k:=ok j z
    cases hs2:Qc ρ j <;> rw [hs2] at q k <;> first | (cases k;done) | trivial | exact q | skip
    rename_i t
    obtain ⟨v,ev,iv⟩:=q
    have iv:=iv.mono sub
    by_cases r:Qvs t=true
    ·show Qlo _ _ _ _ (if Qvs t=true then _ else _)
     rw [if_pos r]
     cases t <;> first | (cases r;done) | skip
     ·obtain ⟨c,vs,rfl,hc,_⟩:=iv.tup_inv;exact ⟨c,_,ev,hc,iv⟩
     ·obtain ⟨c,vs,rfl,hc,_⟩:=iv.lst_inv;exact ⟨c,_,ev,hc,iv⟩
    ·show Qlo _ _ _ _ (if Qvs t=true then _ else _)
     rw [if_neg r]
     exact ⟨v,ev,iv⟩
  apart:=fun j k c h _=>(npv j c h).elim
  prv:=fun b h=>F.prv b h.1
  chg:=F.chg
  keep:=F.keep
  newO:=fun c h=>let ⟨j,h⟩:=OwA.prv h;(npv j c h).elim
  newM:=fun c h=>let ⟨j,h⟩:=MlA.prv h;(npv j c h).elim
  fix:=fun _ _ h=>h
  gg:=fun b h=>⟨F.gg b h,fun z=>by obtain ⟨o,e⟩:=F.bp b h;rw [z,hb] at e;cases e⟩
  gn:=fun b h=>F.gn b h.1
  bp:=F.bp }
theorem Qnv (s0 s1:Slot):(∃ t,s1=.fx t∧lkB s0 s1=s0)∨(∃ t,s1=.fz t∧Qvr t=true∧lkB s0 s1=.fz t)∨(∃ a,s1=.pin a∧lkB s0 s1=.pin a)∨lkB s0 s1=.un:=by
 cases s1 with
 | fx t=>exact .inl ⟨t,rfl,rfl⟩
 | fz t =>
  by_cases h:Qvr t=true
  ·exact .inr (.inl ⟨t,rfl,h,if_pos h⟩)
  ·exact .inr (.inr (.inr (if_neg h)))
 | pin a=>exact .inr (.inr (.inl ⟨a,rfl,rfl⟩))
 | un=>exact .inr (.inr (.inr rfl))
 | ow t=>exact .inr (.inr (.inr rfl))
 | ml t=>exact .inr (.inr (.inr rfl))
 | ro t=>exact .inr (.inr (.inr rfl))
theorem Qt0 {D D1:Hp} {v:V} {t:T} (h:flaT t=true) (r:Is D v t):Is D1 v t:=by
 cases t <;> first | (cases h;done) | (unfold Is at r ⊢;exact r)
theorem Qqk {D D1:Hp}:∀ {ts:List T} {vs:List V},ts.all flaT=true→IsL D vs ts→IsL D1 vs ts
 | [],vs,_,r=>by rw [r.nil_inv];exact .nil
 | t::ts,vs,h,r=>by
  rw [List.all_cons,Bool.and_eq_true] at h
  obtain ⟨v,w,rfl,a,b⟩:=r.cons_inv
  exact .cons (Qt0 h.1 a) (Qqk h.2 b)
theorem Qy1 {D D1:Hp} {v:V} {t:T} (h:Qvr t=true) (k:∀ b xs,D b=some (.tup xs)→D1 b=some (.tup xs)) (r:Is D v t):Is D1 v t:=by
 cases t with
 | tup ts =>
  have z:ts.length≤100000:=by unfold Is at r;exact r.1
  obtain ⟨b,vs,rfl,e,l⟩:=r.tup_inv
  exact .tup (k b vs e) (Qqk h l) z
 | _=>exact Qt0 h r
theorem FI.unlook {a:Addr} {G':Addr→Prop} (F:FI B H G σ ρ) (hO:∀ a,¬ B.O a) (hs:Qc ρ i=.ow (.lst ts)) (hk:(ρ.set i .un).all Qmv=true) (ea:σ[i]?=some (some (.ref a))) (ga:G a) (hb:B.H a=none) (hG:∀ b,G' b↔G b∧b≠a)
  (F1:FI ⟨B.H,B.G,B.O,B.M,PnA σ (lkE i ts ρ)⟩ H1 G1 σ1 ρ1) (s1:Same (dls H G') (dls H1 G1)) (hx:Q1s (Qc ρ1 i)=true) (hl:ρ1.length=ρ.length) :
  FI B H1 (fun b=>G1 b∨b=a) σ1 (List.zipWith lkB ρ ρ1)∧Same (dls H G) (dls H1 fun b=>G1 b∨b=a):=by
 have hi:i<ρ.length:=Qjl (by rw [hs];intro z;cases z)
 have ok:∀ j,j≠i→Qmv (Qc ρ j)=true:=fun j hj=>by
  have:=Qqj rfl hk j
  rwa [Qdj,if_neg (fun z=>hj z.1)] at this
 obtain ⟨ob,eo,il⟩:∃ ob,H a=some ob∧OwnO (dls H G) (.lst ts) ob:=by
  have q:=F.slot i
  rw [hs] at q
  obtain ⟨c,e,_,ob,eo,il⟩:=q
  rw [ea] at e
  cases e
  exact ⟨ob,eo,il⟩
 have a0:dls H G' a=some ob:=by rw [Qb4 fun z=>((hG a).mp z).2 rfl];exact eo
 obtain ⟨na,a1⟩:=Qal (s1 _ _ a0)
 have sm:Same (dls H G) (dls H1 fun b=>G1 b∨b=a):=fun b o e=>by
  obtain ⟨nb,e⟩:=Qal e
  have nba:b≠a:=fun z=>nb (z ▸ ga)
  have e2:dls H G' b=some o:=by rw [Qb4 fun z=>nb ((hG b).mp z).1];exact e
  obtain ⟨n1,e3⟩:=Qal (s1 _ _ e2)
  rw [Qb4 fun z=>z.elim n1 nba]
  exact e3
 have fx1:∀ j t,Qc ρ1 j=.fx t→∃ c,σ1[j]?=some (some (.ref c))∧σ[j]?=some (some (.ref c)):=fun j t e=>by
  have q:=F1.slot j
  rw [e] at q
  obtain ⟨c,o,ec,_,_⟩:=q
  have:=F1.fix j c ⟨⟨t,.inr (.inr e)⟩,ec⟩
  exact ⟨c,ec,this.2⟩
 have fx0:∀ j t,Qc ρ1 j=.fx t→j≠i→∃ u,Qc ρ j=.fz u:=fun j t e hj=>by
  obtain ⟨c,ec,_⟩:=fx1 j t e
  obtain ⟨⟨u,z⟩,_⟩:=F1.fix j c ⟨⟨t,.inr (.inr e)⟩,ec⟩
  rw [Qom hi,if_neg hj] at z
  have k:=ok j hj
  cases hs2:Qc ρ j with
  | fz u=>exact ⟨u,rfl⟩
  | un=>rw [hs2] at z;rcases z with z | z | z <;> cases z
  | ow t=>rw [hs2] at k;cases k
  | ml t=>rw [hs2] at k;cases k
  | ro t=>rw [hs2] at k;cases k
  | pin a=>rw [hs2] at z;rcases z with z | z | z <;> cases z
  | fx t=>rw [hs2] at k;cases k
 have ei:Qc (List.zipWith lkB ρ ρ1) i=.ow (.lst ts):=by
  rw [Qh7 hl,hs]
  cases h:Qc ρ1 i <;> rw [h] at hx <;> first | (cases hx;done) | rfl
 have ai:σ1[i]?=some (some (.ref a)):=by
  cases h:Qc ρ1 i <;> rw [h] at hx <;> first | (cases hx;done) | skip
  obtain ⟨c,ec,ec0⟩:=fx1 i _ h
  rw [ea] at ec0
  cases ec0
  exact ec
 have kinds:∀ j,j≠i→Qc (List.zipWith lkB ρ ρ1) j=.un∨(∃ t,Qc (List.zipWith lkB ρ ρ1) j=.fz t)∨∃ c,Qc (List.zipWith lkB ρ ρ1) j=.pin c:=fun j hj=>by
  rw [Qh7 hl]
  rcases Qnv (Qc ρ j) (Qc ρ1 j) with ⟨t,e1,e2⟩ | ⟨t,e1,f,e2⟩ | ⟨c,e1,e2⟩ | e2
  ·obtain ⟨u,e3⟩:=fx0 j t e1 hj
   rw [e2,e3]
   exact .inr (.inl ⟨u,rfl⟩)
  ·rw [e2];exact .inr (.inl ⟨t,rfl⟩)
  ·rw [e2];exact .inr (.inr ⟨c,rfl⟩)
  ·rw [e2];exact .inl rfl
 have only:∀ j c,PrvAt σ1 (List.zipWith lkB ρ ρ1) j c→j=i∧c=a:=fun j c h=>by
  obtain ⟨⟨u,h⟩,q⟩:=h
  by_cases hj:j=i
  ·subst hj;rw [ai] at q;cases q;exact ⟨rfl,rfl⟩
  ·rcases kinds j hj with z | ⟨t,z⟩ | ⟨c,z⟩ <;> rw [z] at h <;> cases h
 refine ⟨?_,sm⟩
 exact {
  len:=by rw [List.length_zipWith,F1.len];omega
  slot:=fun j=>by
   by_cases hj:j=i
   ·subst hj
    rw [ei]
    exact ⟨a,ai,.inr rfl,ob,a1,il.mono sm⟩
   ·rw [Qh7 hl]
    rcases Qnv (Qc ρ j) (Qc ρ1 j) with ⟨t,e1,e2⟩ | ⟨t,e1,f,e2⟩ | ⟨c,e1,e2⟩ | e2
    ·obtain ⟨u,e3⟩:=fx0 j t e1 hj
     obtain ⟨c,ec,ec0⟩:=fx1 j t e1
     rw [e2,e3]
     have q:=F.slot j
     rw [e3] at q
     obtain ⟨v,ev,iv⟩:=q
     rw [ec0] at ev
     cases ev
     exact ⟨_,ec,iv.mono sm⟩
    ·rw [e2]
     have q:=F1.slot j
     rw [e1] at q
     obtain ⟨v,ev,iv⟩:=q
     exact ⟨v,ev,Qy1 f (fun b xs e=>by
      obtain ⟨n1,e3⟩:=Qal e
      have nb:b≠a:=fun z=>by
       rw [z,a1] at e3
       cases e3
       exact il
      rw [Qb4 fun z=>z.elim n1 nb]
      exact e3) iv⟩
    ·rw [e2]
     have q:=F1.slot j
     rw [e1] at q
     exact q
    ·rw [e2];trivial
  apart:=fun j k c h1 h2=>by rw [(only j c h1).1,(only k c h2).1]
  prv:=fun b h=>by
   rcases h with h | h
   ·exact F1.prv b h
   ·rw [h];exact ⟨ob,a1,il.pen⟩
  chg:=F1.chg
  keep:=F1.keep
  newO:=fun c h=>by
   obtain ⟨j,h⟩:=OwA.prv h
   rw [(only j c h).2]
   exact .inl hb
  newM:=fun c h=>by
   obtain ⟨j,t,e,q⟩:=h
   by_cases hj:j=i
   ·subst hj;rw [ei] at e;cases e
   ·rcases kinds j hj with z | ⟨t,z⟩ | ⟨c,z⟩ <;> rw [z] at e <;> cases e
  fix:=fun j c h=>by
   obtain ⟨⟨t,e⟩,q⟩:=h
   by_cases hj:j=i
   ·subst hj;rw [ei] at e;rcases e with e | e | e <;> cases e
   ·rcases kinds j hj with z | ⟨t,z⟩ | ⟨c,z⟩ <;> rw [z] at e <;> rcases e with e | e | e <;> cases e
  gg:=fun b h=>.inl (F1.gg b h)
  gn:=fun b h=>by
   rcases h with h | h
   ·exact F1.gn b h
   ·rw [h];exact .inr hb
  bp:=F1.bp }
theorem Qy2 {s:S} (h:QS X st (tS p s)):QS X st (tS p (.look i s)):=h.weak fun D σ H ⟨B,G,ρ,F,hO,h⟩=>by
 unfold exS at h
 cases hs:Qc ρ i with
 | un=>rw [hs] at h;exact False.elim h
 | fz t=>rw [hs] at h;exact False.elim h
 | ml t=>rw [hs] at h;exact False.elim h
 | ro t=>rw [hs] at h;exact False.elim h
 | pin t=>rw [hs] at h;exact False.elim h
 | fx t=>rw [hs] at h;exact False.elim h
 | ow t =>
  rw [hs] at h
  cases t <;> first | exact False.elim h | skip
  rename_i ts
  replace h:SFin p B H G D (if (ρ.set i .un).all Qmv=true then lkO i ρ (exS p.cf s (lkE i ts ρ)) else .no):=h
  by_cases hk:(ρ.set i .un).all Qmv=true
  ·rw [if_pos hk] at h
   obtain ⟨a,G',ea,ga,hb,hG,F0⟩:=F.look hO hs hk
   refine ⟨_,G',_,F0,hO,?_⟩
   cases e:exS p.cf s (lkE i ts ρ) with
   | nx ρ1 =>
    rw [e] at h
    replace h:SFin p B H G D (if Q1s (Qc ρ1 i)=true∧ρ1.length=ρ.length then .nx (List.zipWith lkB ρ ρ1) else .no):=h
    by_cases c:Q1s (Qc ρ1 i)=true∧ρ1.length=ρ.length
    ·rw [if_pos c] at h
     intro σ1 H1 G1 F1 s1
     obtain ⟨F2,s2⟩:=F.unlook hO hs hk ea ga hb hG F1 s1 c.1 c.2
     exact h σ1 H1 _ F2 s2
    ·rw [if_neg c] at h;exact False.elim h
   | rt r ρ1 =>
    rw [e] at h
    cases r with
    | ow t=>exact False.elim h
    | sl j=>exact False.elim h
    | fz t =>
     cases t <;> first | exact False.elim h | skip
     rename_i b
     replace h:SFin p B H G D (.rt (.fz (.bl b)) (ρ1.map fun _=>.un)):=h
     intro v σ1 H1 G1 F1 pv
     have un:∀ j,Qc (ρ1.map fun _=>Slot.un) j=.un:=fun j=>by rw [Qnu rfl]
     refine h v σ1 H1 G1 ?_ pv
     exact {
      len:=by rw [List.length_map];exact F1.len
      slot:=fun j=>by rw [un];trivial
      apart:=fun j k c h1 _=>by obtain ⟨⟨u,z⟩,_⟩:=h1;rw [un] at z;cases z
      prv:=F1.prv
      chg:=F1.chg
      keep:=F1.keep
      newO:=fun c z=>by obtain ⟨j,t,e,_⟩:=z;rw [un] at e;cases e
      newM:=fun c z=>by obtain ⟨j,t,e,_⟩:=z;rw [un] at e;cases e
      fix:=fun j c z=>by obtain ⟨⟨t,e⟩,_⟩:=z;rw [un] at e;rcases e with e | e | e <;> cases e
      gg:=F1.gg
      gn:=F1.gn
      bp:=F1.bp }
   | bk ρ1=>rw [e] at h;exact False.elim h
   | ct ρ1=>rw [e] at h;exact False.elim h
   | xn x ρ1=>rw [e] at h;exact False.elim h
   | no=>rw [e] at h;exact False.elim h
  ·rw [if_neg hk] at h;exact False.elim h
end
section
variable {X:Cx} {p:Pr} {e a b:Expr} {e' a' b':E} {pos p1 p2 pos':Pos} {x:Str}
end
section
variable {P:Program} {w:World} {H:Hp}
open Classical in
theorem Qt1 {s:Shared} {A:Around} {ts:List T} {vs:List V} {its:List Value} {tx:T} {u:Value} (i1:IsL H vs ts) (r1:Vals vs its) (ok:HOk P w H s.heap) (h1:ts.all (Qm 49)=true) (h2:Qm 49 tx=true) (sx:Shp P w H s.heap tx u) (hu:A.units+64<cLine) :
  ∃ e:Value→Bool,(∀ y,y∈its.toArray→SeqAt.EqAt A.in1 s y u (e y))∧its.toArray.any e=ts.any fun t=>eqT t tx:=by
 have key:∀ (j:Nat) (y:Value),its[j]?=some y→∃ t,ts[j]?=some t∧SeqAt.EqAt A.in1 s y u (eqT t tx):=fun j y hy=>by
  have hj:j<its.length:=by
   rcases Nat.lt_or_ge j its.length with z | z
   ·exact z
   ·rw [List.getElem?_eq_none z] at hy;cases hy
  have l1:j<vs.length:=by rw [r1.length];exact hj
  obtain ⟨y',hy',ry⟩:=r1.get (List.getElem?_eq_getElem l1)
  rw [hy] at hy'
  cases hy'
  obtain ⟨t,ht,it⟩:=i1.get (List.getElem?_eq_getElem l1)
  exact ⟨t,ht,Qx0 49 ok (by show A.units+1+49<cLine;omega) t tx y u (List.all_eq_true.mp h1 t (List.mem_of_getElem? ht)) h2 (it.shp ry ok) sx⟩
 have len:its.length=ts.length:=by rw [←r1.length,i1.length]
 refine ⟨fun y=>decide (∃ (j:Nat) (t:T),its[j]?=some y∧ts[j]?=some t∧eqT t tx=true),fun y hy=>?_,?_⟩
 ·have hy:y∈its:=by simpa using hy
  obtain ⟨j,hj⟩:=List.getElem?_of_mem hy
  obtain ⟨t,ht,et⟩:=key j y hj
  show SeqAt.EqAt A.in1 s y u (decide (∃ (j:Nat) (t:T),its[j]?=some y∧ts[j]?=some t∧eqT t tx=true))
  by_cases z:∃ (j:Nat) (t:T),its[j]?=some y∧ts[j]?=some t∧eqT t tx=true
  ·rw [decide_eq_true z]
   obtain ⟨k,t',hk,hk',e'⟩:=z
   obtain ⟨t2,e2,q⟩:=key k y hk
   rw [hk'] at e2
   cases e2
   rw [e'] at q
   exact q
  ·rw [decide_eq_false z]
   have:eqT t tx=false:=by
    cases e:eqT t tx with
    | false=>rfl
    | true=>exact absurd ⟨j,t,hj,ht,e⟩ z
   rw [this] at et
   exact et
 ·rw [Bool.eq_iff_iff]
  constructor
  ·intro z
   have z:its.any (fun y=>decide (∃ (j:Nat) (t:T),its[j]?=some y∧ts[j]?=some t∧eqT t tx=true))=true:=by simpa only [List.any_toArray] using z
   obtain ⟨y,hy,z⟩:=List.any_eq_true.mp z
   obtain ⟨j,t,_,ht,et⟩:=of_decide_eq_true z
   exact List.any_eq_true.mpr ⟨t,List.mem_of_getElem? ht,et⟩
  ·intro z
   obtain ⟨t,ht,et⟩:=List.any_eq_true.mp z
   obtain ⟨j,hj⟩:=List.getElem?_of_mem ht
   have hl:j<its.length:=by
    rw [len]
    rcases Nat.lt_or_ge j ts.length with z | z
    ·exact z
    ·rw [List.getElem?_eq_none z] at hj;cases hj
   have:its.any (fun y=>decide (∃ (j:Nat) (t:T),its[j]?=some y∧ts[j]?=some t∧eqT t tx=true))=true :=
    List.any_eq_true.mpr ⟨its[j],List.getElem_mem hl,decide_eq_true ⟨j,t,List.getElem?_eq_getElem hl,hj,et⟩⟩
   simpa only [List.any_toArray] using this
end
section
variable {X:Cx} {p:Pr} {a b:Expr} {a' b':E} {pos:Pos}
noncomputable def rInS (neg:Bool):R2:=fun x y H Q=>∃ t t' ts,Is H x t∧Is H y t'∧Qdv t'=some ts∧Qm 49 t=true∧ts.all (Qm 49)=true∧Q (.bl (if neg then !(ts.any fun u=>eqT u t) else ts.any fun u=>eqT u t)) H
theorem Q7m (hu:X.A.units+64<cLine):QOp X (compareOp .NotIn) (rInS true):=⟨by
 intro pins s σ H x y v u Q I rx ry ⟨t,t',ts,i,j,hs,h1,h2,q⟩
 have s1:=i.shp rx I.hok (P:=X.prog) (w:=X.w)
 have s2:=j.shp ry I.hok (P:=X.prog) (w:=X.w)
 cases s2 <;> first | (cases hs;done) | skip
 ·rename_i j1 i1 r1 p1
  cases hs
  obtain ⟨e,he,hq⟩:=Qt1 i1 r1 I.hok h2 h1 s1 hu
  exact SeqAt.notIn_tupleAt e p1 he ⟨.bl _,H,I,rfl,by rw [hq];exact q⟩
 ·rename_i j1 i1 r1 p1
  cases hs
  obtain ⟨e,he,hq⟩:=Qt1 i1 r1 I.hok h2 h1 s1 hu
  exact SeqAt.notIn_listAt e p1 he ⟨.bl _,H,I,rfl,by rw [hq];exact q⟩⟩
theorem Q2c {t u:T} {k:Bool} (e:inO t u=some k):∃ ts,Qdv u=some ts∧Qm 49 t=true∧ts.all (Qm 49)=true∧k=ts.any fun u=>eqT u t:=by
 unfold inO at e
 cases es:Qdv u with
 | none=>rw [es] at e;cases e
 | some ts =>
  rw [es] at e
  have e:(if Qm 49 t=true∧ts.all (Qm 49)=true then some (ts.any fun u=>eqT u t) else none)=some k:=e
  by_cases z:Qm 49 t=true∧ts.all (Qm 49)=true
  ·rw [if_pos z] at e
   exact ⟨ts,rfl,z.1,z.2,(Option.some.inj e).symm⟩
  ·rw [if_neg z] at e;cases e
theorem Q2d:Oc2 (rInS true) (opC .nin):=by
 intro H G x y t u k Q hx hy e q
 have e:(inO t u).map (!·)=some k:=e
 cases e0:inO t u with
 | none=>rw [e0] at e;cases e
 | some k0 =>
  rw [e0] at e
  obtain ⟨ts,h1,h2,h3,rfl⟩:=Q2c e0
  have e:=Option.some.inj e
  subst e
  exact ⟨t,u,ts,hx.is,hy.is,h1,h2,h3,q⟩
theorem Qabd (hu:X.A.units+64<cLine) (ha:QE X a (tE p a')) (hb:QE X b (tE p b')) (hm:behindInMarks .NotIn b=false:=by rfl):QT X (.Compare a [.NotIn] [b] pos) (tT p (.cmp .nin a' b')):=Qlr (Q7m hu) Q2d ha hb hm
end
section
variable {X:Cx} {k v:Expr} {tk tv:TE} {pos:Pos}
end
section
variable {X:Cx} {p:Pr} {a b:Expr} {a' b':E} {pos:Pos}
end
section
variable {prog:Program} {w:World} {A:Around} {E:Value→Shared→Prop} {s:Shared}
end
section
variable {X:Cx}
end
end L2
namespace L2
open PySem PySem.Spec PyProof.Rows PySem.W
section
variable {prog:Program} {w:World} {A:Around} {E:Value→Shared→Prop} {s:Shared} {it d:Addr} {i ep:Nat} {es:Array DictEntry}
end
section
variable {X:Cx}
end
section
variable {prog:Program} {w:World} {A:Around} {E:Value→Shared→Prop} {h:Heap} {g:Array GenState} {d:Drawn} {t:Nat} {os:OsState} {a:Addr} {its:Array Value} {n:Nat}
end
section
variable {prog:Program} {w:World} {A:Around} {E:Value→Shared→Prop} {s:Shared}
end
section
variable {X:Cx}
end
section
variable {prog:Program} {w:World} {A:Around} {E:Value→Shared→Prop} {s:Shared} {l:Addr} {xs:Array (Int×Tok)}
end
section
variable {X:Cx}
end
section
variable {prog:Program} {w:World} {A:Around} {E:Value→Shared→Prop} {s:Shared} {l:Addr} {xs:Array (Int×Tok)}
end
section
variable {X:Cx}
end
end L2
namespace L2
open PySem PySem.Spec PyProof.Rows PySem.W PySem.Calls
section
variable {prog:Program} {w:World} {A:Around} {E:Value→Shared→Prop} {s:Shared}
end
inductive TupsI (h:Heap):List Value→List (List Int)→Prop
 | nil:TupsI h [] []
 | cons {a:Addr} {its:List Value} {k:List Int} {vs:List Value} {ks:List (List Int)} (ht:h.IsTuple a its.toArray) (hi:IntsAre its k) (t:TupsI h vs ks):TupsI h (.ref a::vs) (k::ks)
section
variable {prog:Program} {w:World} {A:Around} {E:Value→Shared→Prop} {s:Shared}
end
section
variable {prog:Program} {w:World} {A:Around} {E:Value→Shared→Prop} {s:Shared}
end
inductive TupsV (K:PySem.W.Frag) (H:Hp):List V→List (List Int)→Prop
 | nil:TupsV K H [] []
 | cons {b:Addr} {k:List Int} {ys:List V} {ks:List (List Int)} (hq:SqT K H b (k.map V.int)) (t:TupsV K H ys ks):TupsV K H (.ref b::ys) (k::ks)
section
variable {X:Cx}
end
end L2
namespace L2
open PySem PySem.Spec PyProof.Rows PySem.W PySem.Calls
section
variable {prog:Program} {w:World} {A:Around} {E:Value→Shared→Prop} {s:Shared}
noncomputable def elt (vs:List Value) (ks:List (List Int)) (j:Nat):Int×Value:=(Qtm (Qlm ks j),vs.getD j Value.none)
structure MOk (ks:List (List Int)) (led:Bool) (r:SetTable×Array Nat):Prop where
 fits:r.1.fits r.2.size=true
 plain:r.1.plain=true
 gave:r.1.gaveWay=false
 led:r.1.led=led
 size:r.2.size≤1000
 lt:∀ x∈r.2,x<ks.length
end
section
variable {prog:Program} {w:World} {A:Around} {R:Result→Shared→Prop} {I:Addr} {fp wr:List Addr} {G:Array GenState→Array GenState→Prop} {n:Nat} {P:Nat→Value→Prop} {St:Nat→Shared→Prop}
end
section
variable {prog:Program} {w:World} {A:Around} {E:Value→Shared→Prop} {s:Shared}
end
end L2
namespace L2
open PySem PySem.Spec PyProof.Rows PySem.W PySem.Calls
section
variable {prog:Program} {w:World} {A:Around} {E:Value→Shared→Prop} {s:Shared}
end
section
variable {X:Cx}
end
theorem Q2e {js:List (Option Nat)} {σ:St} {ρ:En} {k:Nat} {a:Addr} (h:PrvAt (Qd4 js σ) (Qb5 js ρ) k a):∃ j,js[k]?=some (some j)∧PrvAt σ ρ j a:=by
 obtain ⟨⟨t,e1⟩,e2⟩:=h
 rw [Qc1] at e1
 rw [Qgs] at e2
 cases hj:js[k]? with
 | none=>rw [hj] at e1;cases e1
 | some o =>
  cases o with
  | none=>rw [hj] at e1;cases e1
  | some j =>
   rw [hj] at e1 e2
   refine ⟨j,rfl,?_,?_⟩
   ·have e1:((Qc ρ j).lend).prv=some t:=e1
    cases hs:Qc ρ j <;> rw [hs] at e1 <;> first | (cases e1;done) | exact ⟨_,rfl⟩
   ·have e2:some ((σ[j]?).join)=some (some (.ref a)):=e2
    cases hσ:σ[j]? with
    | none=>rw [hσ] at e2;cases e2
    | some v=>rw [hσ] at e2;exact e2
theorem WkR.imp {J:It} {H:Hp} {G:Addr→Prop} {Ok Ok':Hp→Prop} {ts:List T} (h:WkR J H G Ok ts) (q:∀ H,Ok' H→Ok H):WkR J H G Ok' ts:=⟨fun i H' hi ok=>h.go i H' hi (q _ ok),fun i H' hi ok=>h.stop i H' hi (q _ ok),fun i H' x H2 hi ok=>h.yld i H' x H2 hi (q _ ok)⟩
theorem Qy3 {K:PySem.W.Frag} {p:Pr} {i0:Nat} {js:List (Option Nat)} {tg:Tg} {cs:Es} {e':E} {σ:St} {ρ:En} {H:Hp} {G:Addr→Prop} {Q:VK} {lw l:Addr} {vs:List V} {ts:List T} {J:It} {Z:Hp→Prop} (F:FI (Qa7 H G σ ρ) H G σ ρ) (pw:PrvAt σ ρ i0 lw) (elw:H lw=some (.lst vs))
  (wk:WkR J H G (fun H'=>SqL K H' lw vs∧Z H') ts) (hZ:∀ H' G',Same (dls H G) (dls H' G')→Z H')
  (h1:Fin p (Qa7 H G σ ρ) σ (if js.all (fun j=>decide (j≠some i0))=true then (match Qc8 tg (evC p.cf cs) (evE p.cf e') ts [] (Qb5 js ρ) with
   | .ok us ρi=>if Qee (Qb5 js ρ) ρi=true∧Qbm js=true then .ok (.ow (.lst us)) (Qjj js ρi ρ) else .no
   | _=>.no) else .no) fun r ρ1=>∀ v H1 G1,FI (Qa7 H G σ ρ) H1 G1 σ ρ1→PVR H H1 G1 σ ρ1 v r→Q v H1) (hl:H l=none):Q3m J l (Qd4 js σ) H (tG tg) (tCs p.calm cs) (tE p.calm e') Q:=by
 by_cases hj:js.all (fun j=>decide (j≠some i0))=true
 ·simp only [if_pos hj] at h1
  have F1:=F
  have hne:lw≠l:=fun z=>by rw [z,hl] at elw;cases elw
  have npw0:∀ k,¬ PrvAt (Qd4 js σ) (Qb5 js ρ) k lw:=fun k hk=>by
   obtain ⟨j,ej,pj⟩:=Q2e hk
   have:=F.apart j i0 lw pj pw
   subst this
   have:=List.all_eq_true.mp hj _ (List.mem_of_getElem? ej)
   simp at this
  cases ec:Qc8 tg (evC p.cf cs) (evE p.cf e') ts [] (Qb5 js ρ) with
  | no=>rw [ec] at h1;exact False.elim h1
  | xn x ρx=>rw [ec] at h1;exact False.elim h1
  | ok tsF ρF =>
   rw [ec] at h1
   by_cases hz:Qee (Qb5 js ρ) ρF=true∧Qbm js=true
   ·simp only [if_pos hz] at h1
    obtain ⟨hkept,hap⟩:=hz
    have Fc:=F1.cap hap
    refine ⟨fun i m ys σ2 H2=>i+m=ts.length∧∃ G2 ρi acc,FI (Qa7 H G (Qd4 js σ) (Qb5 js ρ)) H2 G2 σ2 ρi∧G2 l∧(∀ k,¬ PrvAt σ2 ρi k l)∧H2 l=some (.lst ys)∧IsL (dls H2 G2) ys acc∧acc.length≤100000 ∧
     (∀ k,¬ PrvAt σ2 ρi k lw)∧H2 lw=some (.lst vs) ∧
     Qc8 tg (evC p.cf cs) (evE p.cf e') (ts.drop i) acc ρi=.ok tsF ρF,⟨ts.length,Nat.zero_add _,_,_,[],Fc.addG hl (Same.upd hl) Qp rfl,.inr rfl,fun k hk=>?_,Qp,.nil,Nat.zero_le _,npw0,by rw [Qz hne];exact elw,ec⟩,?_⟩
    ·obtain ⟨_,t,ob,ea,_⟩:=PrvAt.at Fc hk
     rw [hl] at ea
     cases ea
    rintro i m ys σ2 H2 ⟨him,G2,ρi,acc,I2,gl,np,el,il,zl,npw,ew,cl⟩
    have ok2:SqL K H2 lw vs∧Z H2:=⟨SqL.of ew,hZ H2 G2 (Fc.same I2)⟩
    by_cases hlt:i<ts.length
    ·refine .inr ⟨wk.go i H2 hlt ok2,fun x H3 y=>?_⟩
     obtain ⟨s3,t,et,ix⟩:=wk.yld i H2 x H3 hlt ok2 y
     have I3:=I2.grow s3
     have ix3:=ix G2 I2.prv (Fc.same I2)
     rw [List.drop_eq_getElem_cons hlt] at cl
     have et':ts[i]=t:=by rw [List.getElem?_eq_getElem hlt] at et;exact Option.some.inj et
     rw [et'] at cl
     unfold Qc8 at cl
     cases est:Qgj tg t ρi with
     | none=>rw [est] at cl;cases cl
     | some ρ4 =>
      rw [est] at cl
      replace cl:(evC p.cf cs ρ4).bind _=.ok tsF ρF:=cl
      obtain ⟨b,ρ5,eb,cl⟩:=Qkx cl
      refine ⟨_,G2,ρi,t,ρ4,I3,ix3,est,fun σ4 I4 old=>?_⟩
      have np4:∀ k,¬ PrvAt σ4 ρ4 k l:=fun k hk=>np k (old k l hk)
      have npw4:∀ k,¬ PrvAt σ4 ρ4 k lw:=fun k hk=>npw k (old k lw hk)
      refine ⟨G2,ρ4,I4.self,?_⟩
      rw [show p.calm.cf=p.cf from rfl,eb]
      intro H5 G5 I5
      have np5:=I4.nobody I5 (s3 _ _ el) np4
      have npw5:=I4.nobody I5 (s3 _ _ ew) npw4
      have I5':=I4.trans I5
      have el5:H5 l=some (.lst ys):=I5.chg l _ (fun z=>by obtain ⟨j,z⟩:=OwA.prv z;exact np4 j z) (fun z=>by obtain ⟨j,z⟩:=MlA.prv z;exact np4 j z) (s3 _ _ el)
      have ew5:H5 lw=some (.lst vs):=I5.chg lw _ (fun z=>by obtain ⟨j,z⟩:=OwA.prv z;exact npw4 j z) (fun z=>by obtain ⟨j,z⟩:=MlA.prv z;exact npw4 j z) (s3 _ _ ew)
      have il5:IsL (dls H5 G5) ys acc:=(il.mono (Qbl s3)).mono (I4.same I5)
      cases b with
      | false =>
       simp only [Bool.false_eq_true,if_false] at cl ⊢
       exact ⟨m-1,by omega,by omega,G5,ρ5,acc,I5',I5.gg l gl,np5,el5,il5,zl,npw5,ew5,cl⟩
      | true =>
       simp only [if_true] at cl ⊢
       obtain ⟨r,ρ6,er,cl⟩:=Qkx cl
       refine ⟨G5,ρ5,I5'.self,?_⟩
       rw [show p.calm.cf=p.cf from rfl,er]
       intro v H6 G6 I6 r6
       cases ef:frz r with
       | none=>rw [ef] at cl;cases cl
       | some t6 =>
        rw [ef] at cl
        replace cl:(if acc.length<100000 then Qc8 tg (evC p.cf cs) (evE p.cf e') (ts.drop (i+1)) (acc++[t6]) ρ6 else .no)=.ok tsF ρF:=cl
        by_cases za:acc.length<100000
        ·rw [if_pos za] at cl
         have np6:=I5'.nobody I6 el5 np5
         have npw6:=I5'.nobody I6 ew5 npw5
         have el6:H6 l=some (.lst ys):=I6.chg l _ (fun z=>by obtain ⟨j,z⟩:=OwA.prv z;exact np5 j z) (fun z=>by obtain ⟨j,z⟩:=MlA.prv z;exact np5 j z) el5
         have ew6:H6 lw=some (.lst vs):=I6.chg lw _ (fun z=>by obtain ⟨j,z⟩:=OwA.prv z;exact npw5 j z) (fun z=>by obtain ⟨j,z⟩:=MlA.prv z;exact npw5 j z) ew5
         have il6:IsL (dls H6 G6) ys acc:=il5.mono (I5'.same I6)
         obtain ⟨G7,I7,i7,s7⟩:=PVR.lay (B:=Qa7 H5 G5 σ4 ρ5) r6 I6 ef
         have g7:G7 l:=I7.gg l (I5.gg l gl)
         have I7':=I5'.trans I7
         have hb:(Qa7 H G (Qd4 js σ) (Qb5 js ρ)).H l=none:=hl
         obtain ⟨I8,s8⟩:=I7'.under (ys:=ys++[v]) g7 np6 hb
         have zy:=il6.length
         refine ⟨el6,by rw [zy,sizeLine_eq];omega,m-1,by omega,by omega,G7,ρ6,acc++[t6],I8,g7,np6,Qp,((il6.mono (Qc6 s7)).append (.one i7)).mono s8,by rw [List.length_append,List.length_singleton];omega,npw6,by rw [Qz hne];exact ew6,cl⟩
        ·rw [if_neg za] at cl;cases cl
    ·have e0:ts.drop i=[]:=List.drop_of_length_le (by omega)
     rw [e0] at cl
     cases cl
     refine .inl ⟨wk.stop i H2 (by omega) ok2,h1 _ H2 G2 (F1.uncap hap I2 hkept) ?_⟩
     refine ⟨l,rfl,F1.free hl,gl,fun k hk=>?_,.lst ys,el,zl,il⟩
     obtain ⟨⟨u,eu⟩,q⟩:=hk
     rw [Qe7] at eu
     have:∃ u,(Qc ρ k).prv=some u:=by
      rcases Qc2 js ρF k (Qc ρ k) with z | ⟨_,t,_,_,z⟩
      ·rw [z] at eu;exact ⟨u,eu⟩
      ·rw [z] at eu;exact Qkw eu
     obtain ⟨_,t,ob,ea,_⟩:=PrvAt.at F1 ⟨this,q⟩
     rw [hl] at ea
     cases ea
   ·simp only [if_neg hz] at h1
    exact False.elim h1
 ·simp only [if_neg hj] at h1
  exact False.elim h1
theorem Q7n {σ:St} {ρ:En} {B:Bs} {H:Hp} {G:Addr→Prop} {i0:Nat} {ts:List T} (F:FI B H G σ ρ) (hs:(Qc ρ i0).prv=some (.lst ts)):∃ lw vs,σ[i0]?=some (some (.ref lw))∧PrvAt σ ρ i0 lw∧H lw=some (.lst vs)∧IsL (dls H G) vs ts:=by
 have hpv:∃ lw,σ[i0]?=some (some (.ref lw))∧OwnAt H G lw (.lst ts):=by
  have q:=F.slot i0
  cases he:Qc ρ i0 <;> rw [he] at hs q <;> first | (cases hs;done) | skip
  all_goals
   cases hs
   obtain ⟨l,sl,gl,o0⟩:=q
   exact ⟨l,sl,o0⟩
 obtain ⟨lw,sl,o0⟩:=hpv
 obtain ⟨vs,z,elw,ilw⟩:=o0.lst_inv
 exact ⟨lw,vs,sl,⟨⟨_,hs⟩,sl⟩,elw,ilw⟩
theorem Qy4 {K:PySem.W.Frag} {p:Pr} {i0:Nat} {js:List (Option Nat)} {tg:Tg} {cs:Es} {e':E} {σ:St} {H:Hp} {Q:VK} (h:tE p (.compS i0 js tg cs e') σ H Q):Qm9 (Qva K (Qmq i0)) js (tG tg) (tCs p.calm cs) (tE p.calm e') σ H Q:=by
 obtain ⟨G,ρ,F,h1⟩:=h
 unfold evE at h1
 cases hs:(Qc ρ i0).prv with
 | none=>rw [hs] at h1;exact False.elim h1
 | some t0 =>
  rw [hs] at h1
  cases t0 <;> first | exact False.elim h1 | skip
  obtain ⟨lw,vs,sl,pw,elw,ilw⟩:=Q7n F hs
  exact ⟨_,sl,lw,rfl,.inl ⟨⟨vs,SqL.of elw⟩,fun l hl=>Qy3 (K:=K) F pw elw (Z:=fun _=>True) ((wk_l ilw).imp fun _ z=>z.1) (fun _ _ _=>trivial) h1 hl⟩⟩
theorem Q2f {X:Cx} {p:Pr} {K:PySem.W.Frag} {tgE elt iter:Expr} {ifs:List Expr} {scope:Scope} {x:Str} {p1 p2 pos:Pos} {e':E} (N:List Str) (js:List (Option Nat)) {i0 i:Nat} {tg:Tg} {cs:Es} (hcalm:X.calm=true)
  (hi:QI X tgE iter (Qva K (Qmq i0))) (hg:∀ s H fp,QG (Qag X scope N s H fp) tgE (tG tg)) (hc:∀ s H fp,QC (Qag X scope N s H fp) ifs (tCs p.calm cs)) (he:∀ s H fp,QE (Qag X scope N s H fp) elt (tE p.calm e')) (hn:QG X (.Name x p2) (Qgi i))
  (hk:scope.kind=.function:=by rfl) (h1:scOk X scope=true:=by rfl) (h2:Qim X scope N js=true:=by rfl) (hs:∀ x,foldedSetIterable iter X.env x=pure x:=by intro _;rfl)
  (hsw:swapsWithSole [.Name x p2] (.ListComp elt [⟨tgE,iter,ifs,0⟩] scope p1) pos.line X.env=pure true:=by rfl) (ha:(assignEach [.Name x p2] X.env).map (·.2)=[assign (.Name x p2) X.env]:=by rfl) :
  QS X (.Assign [.Name x p2] (.ListComp elt [⟨tgE,iter,ifs,0⟩] scope p1) pos) (Qmr (tE p (.compS i0 js tg cs e')) (Qgi i)) :=
 QS.weak ⟨Qr5 hcalm hi.h (fun s H fp=>(hg s H fp).h) (fun s H fp=>(hc s H fp).h) (fun s H fp=>(he s H fp).h) hn.h hk h1 h2 hs hsw ha⟩ fun D σ H h=>Qy4 h
section
variable {H H1:Hp} {b:Addr} {o:HO}
end
section
variable {X:Cx}
end
section
variable {X:Cx} {p:Pr} {e a b:Expr} {e' a' k':E} {st:Stmt} {pos p1 apos:Pos} {x:Str} {K:PySem.W.Frag}
end
end L2
namespace L2
open PySem PySem.Spec PyProof.Rows PySem.W
section
variable {X:Cx} {tg l e:Expr} {tl:TE}
end
section
variable {X:Cx} {p:Pr} {tg e:Expr} {e':E}
end
section
variable {B:Bs} {H H1:Hp} {G G1:Addr→Prop} {σ σ1:St} {ρ ρ1:En} {b:Addr} {o:HO}
noncomputable def RowR (H:Hp) (G:Addr→Prop) (r:Addr) (is:List Int):Prop:=¬ G r∧H r=some (.lst (is.map V.int))∧is.length≤1000
noncomputable def TabR (H:Hp) (G:Addr→Prop) (q:Addr×List Addr) (M:List (List Int)):Prop:=¬ G q.1∧H q.1=some (.lst (q.2.map V.ref))∧Paired (RowR H G) q.2 M∧M.length≤1000
noncomputable abbrev Q2g (ps:List (Addr×List Addr)):List Addr:=ps.map (·.1)++ps.flatMap (·.2)
structure Tree (H:Hp) (G:Addr→Prop) (lf:Addr) (ps:List (Addr×List Addr)) (Ms:List (List (List Int))):Prop where
 own:G lf
 top:H lf=some (.lst (ps.map fun q=>V.ref q.1))
 tabs:Paired (TabR H G) ps Ms
 nd:(Q2g ps).Nodup
structure Lv (B:Bs) (iF iR:Nat) (H:Hp) (G:Addr→Prop) (σ:St) (ρ:En) (lf lr:Addr) (ps:List (Addr×List Addr)) (Ms:List (List (List Int))) (rs:List Addr) (R:List (List Int)):Prop where
 F:FI B H G σ ρ
 sF:Qc ρ iF=.ow (.lst (Ms.map Qef))
 eF:σ[iF]?=some (some (.ref lf))
 sR:Qc ρ iR=.ow (.lst (R.map Qnj))
 eR:σ[iR]?=some (some (.ref lr))
 tr:Tree H G lf ps Ms
 hr:H lr=some (.lst (rs.map V.ref))
 rows:Paired (RowR H G) rs R
 nd:(rs++Q2g ps).Nodup
 fr:∀ b∈rs++Q2g ps,B.H b=none
structure Lf (B:Bs) (iF:Nat) (H:Hp) (G:Addr→Prop) (σ:St) (ρ:En) (lf:Addr) (ps:List (Addr×List Addr)) (Ms:List (List (List Int))):Prop where
 F:FI B H G σ ρ
 sF:Qc ρ iF=.ow (.lst (Ms.map Qef))
 eF:σ[iF]?=some (some (.ref lf))
 tr:Tree H G lf ps Ms
 fr:∀ b∈Q2g ps,B.H b=none
variable {iF iR iH:Nat} {lf lr:Addr} {ps:List (Addr×List Addr)} {Ms:List (List (List Int))} {rs:List Addr} {R:List (List Int)} {is:List Int}
end
theorem argR.mono {H H':Hp} {dx:Option Addr} (s:Same H H'):∀ {arg:List Int},argR H dx arg→argR H' dx arg
 | [],h=>h
 | [_],⟨d,e,q⟩=>⟨d,e,s _ _ q⟩
 | [_,_],⟨d,e,q⟩=>⟨d,e,s _ _ q⟩
 | _::_::_::_,h=>h.elim
noncomputable def ExAt (mg:Str→Option Value) (H:Hp) (a:Addr) (c:Nat) (arg:List Int):Prop:=∃ nm dx,Qbg[c]?=some nm∧H a=some (Qrz a (.ref (cad mg nm)) dx)∧argR H dx arg
noncomputable def Qy5:T→Option V
 | .non=>some .non
 | .bl b=>some (.bl b)
 | .int i=>some (.int i)
 | .str s=>some (.str s)
 | _=>none
noncomputable def Qt2:List T→Option (List V)
 | []=>some []
 | t::ts=>match Qy5 t,Qt2 ts with
  | some v,some vs=>some (v::vs)
  | _,_=>none
noncomputable def NewT (H H2:Hp) (v:V) (t:T):Prop:=Qy5 t=some v∨∃ ts vs q,t=.tup ts∧ts.length≤1000∧Qt2 ts=some vs∧v=.ref q∧H q=none∧H2 q=some (.tup vs)
theorem Qt3 {D:Hp} {t:T} {v:V} (h:Qy5 t=some v):Is D v t:=by
 cases t <;> first | (cases h;done) | skip
 ·cases h;exact Is.non
 ·cases h;exact Is.bl
 ·cases h;exact Is.int
 ·cases h;exact Is.str
theorem Qql {D:Hp}:∀ {ts:List T} {vs:List V},Qt2 ts=some vs→IsL D vs ts
 | [],vs,h=>by cases h;exact .nil
 | t::ts,vs,h=>by
  unfold Qt2 at h
  split at h
  ·rename_i v ws e1 e2
   cases h
   exact .cons (Qt3 e1) (Qql e2)
  ·cases h
noncomputable def Q7o (mg:Str→Option Value) (i n:Nat) (h:Nat→List Int→Option T):TS:=fun D σ H=>∃ a c arg t,σ.length=n∧σ[i]?=some (some (.ref a))∧ExAt mg H a c arg∧h c arg=some t∧∀ v H2,Same H H2→NewT H H2 v t→D.rt v H2
section
variable {X:Cx} {p:Pr} {body suite:List Stmt} {b0:Stmt} {n:Str} {np hpos pos:Pos} {i:Nat} {b:S} {h:Nat→List Int→Option T}
theorem Q2h (ex:Exs X.K p.mg) {D:Ends} {σ:St} {H:Hp} (hi:i<σ.length) (q:tS p (.tryR i b h) D σ H):Q96 i X.K (cad p.mg "NoughtError") (fun R=>tS ⟨p.cf,R,p.mg⟩ b) (Q7o p.mg i σ.length h) D σ H:=by
 obtain ⟨B,G,ρ,F,hO,q⟩:=q
 unfold exS at q
 refine ⟨fun cls dx σ' H'=>∃ x ρ1 G',FI B H' G' σ' ρ1∧Q1t p.mg H' x cls dx∧exS p.cf b ρ=.xn x ρ1,⟨B,G,ρ,F,hO,?_⟩,?_⟩
 ·cases e:exS p.cf b ρ with
  | nx ρ1=>rw [e] at q;exact q
  | rt r ρ1=>rw [e] at q;exact q
  | bk ρ1=>rw [e] at q;exact q
  | ct ρ1=>rw [e] at q;exact q
  | no=>rw [e] at q;exact q
  | xn x ρ1=>exact fun cls dx σ1 H1 G1 F1 xr=>⟨x,ρ1,G1,F1,xr,rfl⟩
 ·rintro cls dx σ' H' a ⟨x,ρ1,G',F1,xr,e⟩ ha hl
  rw [e] at q
  obtain ⟨nm,hn,rfl,hd⟩:=xr
  refine ⟨⟨_,rfl,ex.sub x.c hn⟩,?_⟩
  dsimp only at q
  cases ht:h x.c x.arg with
  | none=>rw [ht] at q;exact q.elim
  | some t =>
   rw [ht] at q
   have sa:Same H' (upd H' a (Qrz a (.ref (cad p.mg nm)) dx)):=Same.upd ha
   refine ⟨a,x.c,x.arg,t,by rw [List.length_set,hl],st_set (by rw [hl];exact hi),⟨nm,dx,hn,Qp,?_⟩,ht,fun v H2 s2 nw=>?_⟩
   ·exact hd.mono sa
   ·have s3:=sa.trans s2
    have F2:=F1.grow s3
    refine q v σ' H2 G' F2 ?_
    show Is (dls H2 G') v t
    rcases nw with z | ⟨ts,vs,w,rfl,hz,e1,rfl,e2,e3⟩
    ·exact Qt3 z
    ·have hw:H' w=none:=by
      cases z:H' w with
      | none=>rfl
      | some o=>rw [sa _ _ z] at e2;cases e2
     have ng:¬ G' w:=fun g=>by
      obtain ⟨_,z,_⟩:=F1.prv w g
      rw [hw] at z
      cases z
     exact .tup (by rw [Qb4 ng];exact e3) (Qql e1) (by omega)
end
section
variable {X:Cx} {p:Pr} {e:Expr} {es:List Expr} {es':Es} {x nm:Str} {np cpos pos:Pos} {c k:Nat} {D:Ends} {σ:St} {H:Hp}
theorem Qvx (hx:Qbg[c]?=some nm) (hc:c<6) (h:tS p (.raise c es') D σ H):tA p es' σ H (fun vs H1=>vs.length≤sizeLine∧p.R (.ref (cad p.mg nm)) none σ H1):=by
 obtain ⟨B,G,ρ,F,hO,h⟩:=h
 unfold exS at h
 refine Qyd F (Qet h) fun rs ρ2 vs H2 G2 k F2 _ r2=>?_
 split at k
 ·rw [if_neg (by omega)] at k
  exact False.elim k
 ·rw [if_pos hc] at k
  cases r2 with
  | cons pv r3 =>
   cases r3
   exact ⟨by show 1≤sizeLine;decide,k _ _ σ H2 G2 F2 ⟨nm,hx,rfl,rfl⟩⟩
 ·rw [if_neg (by omega)] at k
  exact False.elim k
 ·exact False.elim k
theorem Qvy (hx:Qbg[9]?=some nm) (h:tS p (.raise 9 es') D σ H):tA p es' σ H (fun vs H1=>∃ v v2,vs=[v,v2]∧∀ d,H1 d=none→p.R (.ref (cad p.mg nm)) (some d) σ (upd H1 d (.xd [("many",v),("most",v2)]))):=by
 obtain ⟨B,G,ρ,F,hO,h⟩:=h
 unfold exS at h
 refine Qyd F (Qet h) fun rs ρ2 vs H2 G2 k F2 _ r2=>?_
 split at k
 ·rw [if_neg (by omega)] at k
  exact False.elim k
 ·rw [if_neg (by omega)] at k
  exact False.elim k
 ·rw [if_pos rfl] at k
  cases r2 with
  | cons pv r3 =>
   cases r3 with
   | cons pv2 r4 =>
    cases r4
    have e:=pv.is
    have e2:=pv2.is
    unfold Is at e e2
    subst e e2
    exact ⟨_,_,rfl,fun d hd=>k _ _ σ _ G2 (F2.grow (Same.upd hd)) ⟨nm,hx,rfl,d,rfl,Qp⟩⟩
 ·exact False.elim k
theorem Ql1 (c:Nat) (pz:Qe5 X p.R) (hc:X.calm=true) (ex:Exs X.K p.mg) (hx:Qbg[c]?=some x) (h6:c<6) (ha:QA X (e::es) (tA p es')) (hm:X.mg x=p.mg x:=by rfl) (hg:Gl X x:=by rfl)
  (hdb:(x==("__debug__" : Str))=false:=by decide) (he:starEach (e::es) X.env=(false,eval e X.env)::starEach es X.env:=by rfl) (hpl:(backTo cpos (starEach es X.env)).any (·.1)=false:=by rfl) :
  QS X (.Raise (some (.Call (.Name x np) (e::es) [] cpos)) none pos) (tS p (.raise c es')) :=
 (Q1k pz hc F.excBase_ValueError (ex.rz c h6 hx) (hm.trans (ex.m c x hx)) ha hg hdb he hpl).weak fun D σ H h=>Qvx hx h6 h
theorem Qy6 {e2:Expr} (pz:Qe5 X p.R) (hc:X.calm=true) (ex:Exs X.K p.mg) (i:Ini2 X.K (cad p.mg "NoughtError") (cad p.mg x)) (hr:Room k X.A) (hx:Qbg[9]?=some x) (ha:QA X [e,e2] (tA p es')) (hm:X.mg x=p.mg x:=by rfl) (hg:Gl X x:=by rfl)
  (hdb:(x==("__debug__" : Str))=false:=by decide) (he:starEach [e,e2] X.env=[(false,eval e X.env),(false,eval e2 X.env)]:=by rfl) :
  QS X (.Raise (some (.Call (.Name x np) [e,e2] [] cpos)) none pos) (tS p (.raise 9 es')) :=
 (Qvo pz hc i hr (hm.trans (ex.m 9 x hx)) ha hg hdb he).weak fun D σ H h=>Qvy hx h
end
section
variable {X:Cx} {p:Pr} {body suite:List Stmt} {b0:Stmt} {n:Str} {np hpos pos:Pos} {i:Nat} {b:S} {h:Nat→List Int→Option T}
theorem Q7p (ex:Exs X.K p.mg) (hb:∀ (pins:List (Addr×Obj)) (R:XR),Qe5 (Qli X pins R) R→QB (Qli X pins R) body (tS ⟨p.cf,R,p.mg⟩ b)) (hs:∀ (pins:List (Addr×Obj)) (e:Addr),QB (Qlj X pins e) (b0::suite) (Q7o p.mg i X.N.length h))
  (hN:X.N.Nodup) (hm:X.mg "NoughtError" = p.mg "NoughtError" := by rfl) (hi:X.N[i]?=some n:=by rfl) (hl:X.env.scope.names.lookup n=some .local:=by rfl) (hg:Gl X "NoughtError" := by rfl)
  (hst:∃ env outer L,X.stack=env::outer∧X.env=env∧env.frame=some L:=by exact ⟨_,_,_,rfl,rfl,rfl⟩):QS X (.Try body [.ExceptHandler (some (.Name "NoughtError" np)) (some n) (b0::suite) hpos] [] [] pos) (tS p (.tryR i b h)) :=
 ⟨fun pins s σ H D I z=>(Q97 hb hs hN ex.nou F.excBase_ValueError.hasBase (hm.trans ex.m0) hi hl hg hst (by decide)).h pins s σ H D I (I.len ▸ Q2h ex (by rw [I.len];exact (List.getElem?_eq_some_iff.mp hi).1) z)⟩
end
section
variable {X:Cx} {p:Pr} {a b c:Expr} {a' b' c':E} {pos:Pos}
end
section
variable {prog:Program} {w:World} {A:Around} {E:Value→Shared→Prop} {s:Shared}
end
section
variable {X:Cx} {a b:Expr} {rest:List Expr} {ta tb:TE} {pos:Pos}
end
section
variable {cf:CF} {ρ:En}
end
section
variable {X:Cx} {pins:List (Addr×Obj)} {σ:St} {H:Hp} {s:Shared}
end
section
variable {X:Cx} {p:Pr}
end
section
variable {X:Cx} {p:Pr} {x:Str} {i n:Nat} {e:Expr} {es:List Expr} {es':Es} {p1 pos:Pos}
end
structure LamSc (l:LamT):Prop where
 kind:l.scope.kind=.function
 co:l.scope.isCoroutine=false
 gen:l.scope.isGenerator=false
 nd:(l.ps++l.caps).Nodup
 par:∀ x∈l.ps,l.scope.names.lookup x=some .local
 cap:∀ x∈l.caps,l.scope.names.lookup x=some .free
 nocell:∀ y∈l.scope.names,y.2≠.cell
 free:∀ y∈l.scope.names,y.2=.free→y.1∈l.caps
 bind:∀ (cl:List (Str×Addr)) (pm cdv ctv:Value) (us:List Value),us.length=l.ps.length→bindArgs (PySem.W.kla_fn "<lambda>" l.qual l.params l.body l.scope cl pm cdv ctv) ⟨us,[]⟩=pure (l.ps.zip us)
section
variable {P:Program} {w:World} {K:PySem.W.Frag} {mg:Str→Option Value} {base:Heap}
noncomputable abbrev swX (X:Cx) (g:Str→Bool):Cx:={ X with fn:=g }
structure QB0 (X:Cx) (g:Str→Bool) (st:List Stmt) (t:TS):Prop where
 h:∀ (pins:List (Addr×Obj)) (s:Shared) (σ:St) (H:Hp) (D:Ends),Inv X pins σ H s→t D σ H→wpAny (model X.prog X.w) X.A (execs st X.env) (SP (swX X g) pins D) X.xe s
end
section
variable {K:PySem.W.Frag} {tb:Addr} {qn:Str} {mg:Str→Option Value}
structure MakesL (K:PySem.W.Frag) (mg:Str→Option Value) (x:Str) (c tb:Addr):Prop where
 tab:K.lookup tb=none
 of:Qrx K mg x (.ref c)
 hd:∃ o vs file tf flags tg inF text tt,K.lookup c=some o∧o.cls=.type "code" ∧ o.data=.fields vs∧vs[11]?=some (.ref tb)∧vs.getD 11 .none=.ref tb∧vs.getD 18 .none=.str file tf∧vs.getD 7 .none=.int flags tg∧vs.getD 9 .none=.bool inF∧vs.getD 10 .none=.int text tt
end
section
variable {X:Cx} {p:Pr} {x:Str} {e:Expr} {es:List Expr} {es':Es} {p1 pos:Pos}
end
noncomputable abbrev uns (n:Nat):En:=List.replicate n .un
theorem Qdk (n i:Nat):Qc (uns n) i=.un:=by
 unfold Qc uns
 rw [List.getElem?_replicate]
 split <;> rename_i e
 ·split at e <;> cases e
  rfl
 ·rfl
noncomputable abbrev bs0 (H:Hp):Bs:=⟨H,fun _=>False,fun _=>False,fun _=>False,fun _ _=>False⟩
theorem Q7q (H:Hp) {σ:St} {n:Nat} (hl:σ.length=n):FI (bs0 H) H (fun _=>False) σ (uns n) where
 len:=by rw [hl,List.length_replicate]
 slot:=fun i=>by rw [Qdk];trivial
 apart:=fun i j a h _=>by obtain ⟨⟨t,e⟩,_⟩:=h;rw [Qdk] at e;cases e
 prv:=fun b h=>h.elim
 chg:=fun _ _ _ _ e=>e
 keep:=fun _ o e=>⟨o,e⟩
 newO:=fun a h=>by obtain ⟨i,t,e,_⟩:=h;rw [Qdk] at e;cases e
 newM:=fun a h=>by obtain ⟨i,t,e,_⟩:=h;rw [Qdk] at e;cases e
 fix:=fun i a h=>by obtain ⟨⟨t,e⟩,_⟩:=h;rw [Qdk] at e;rcases e with e | e | e <;> cases e
 gg:=fun _ h=>h
 gn:=fun _ h=>.inl h
 bp:=fun _ h=>h.elim
noncomputable def Ql2 (K:PySem.W.Frag):Sp:=fun vs H Q _=>∃ (a:Addr) (ns:List Int) (k:Nat),vs=[.ref a,.int k]∧SqL K H a (ns.map V.int)∧∀ i:Int,Q (.int i) H
noncomputable abbrev Qy7 (K:PySem.W.Frag) (hi:Int):TI:=Qva K (tOp (Qna K) (Q3s (Qgp (Qm5 (Ql2 K) [] E0 (Qgp (Qmq 0) (Qgp (tC (.int 0)) Qpq))) Qpq)) (tSl (Q1d K) (Qmq 0) (Qte (tC (.int 1))) (Qte (tC (.int hi)))))
theorem Qy8 {p:Pr} {K:PySem.W.Frag} {σ:St} {H:Hp} {D:Ends} {a:Addr} {ns:List Int} {ic n:Nat} {body:S} {hi:Int} (hσ:σ[0]?=some (some (.ref a))) (hs:SqL K H a (ns.map V.int)) (hns:ns.length≤63) (hl:σ.length=n) (hic:ic<n)
  (hb:∀ m:Int,∃ ρ',exS p.cf body ((uns n).set ic (.fz (.int m)))=.nx ρ'∧ρ'.length=n) (hD:∀ σ' H',D.nx σ' H'):Qww (Qy7 K hi) (Qgi ic) (tS p body) D σ H:=by
 refine ⟨_,hσ,a,ns,0,rfl,hs,fun c0=>⟨by show 1≤sizeLine;decide,fun l7 n7=>?_⟩⟩
 have hs7:=(Same.upd (o:=.lst [.int c0]) n7).seq hs
 refine ⟨_,hσ,_,rfl,_,rfl,.inl ⟨a,_,rfl,hs7,fun l8 n8=>?_⟩⟩
 have n78:l7≠l8:=Qbw Qp n8
 have hcl:=Qgq (ns.map V.int) (some 1) (some hi)
 refine .inr (.inl ⟨l7,l8,_,_,rfl,rfl,by rw [Qz n78,Qp],Qp,?_,fun l9 n9=>?_⟩)
 ·refine Qcu ?_
  rw [List.length_map] at hcl
  show 1+_≤100000
  omega
 generalize hH9:upd (upd (upd H l7 (.lst [.int c0])) l8 (.lst (Qh0 (ns.map V.int) (some 1) (some hi)))) l9 (.lst ([.int c0]++Qh0 (ns.map V.int) (some 1) (some hi)))=H9
 have e9:H9 l9=some (.lst ([.int c0]++Qh0 (ns.map V.int) (some 1) (some hi))):=by rw [←hH9,Qp]
 have allI:∀ x∈[V.int c0]++Qh0 (ns.map V.int) (some 1) (some hi),∃ i:Int,x=.int i:=fun x hx=>by
  rcases List.mem_append.mp hx with hx | hx
  ·exact ⟨c0,List.mem_singleton.mp hx⟩
  ·have hx:=List.mem_of_mem_drop (List.mem_of_mem_take hx)
   obtain ⟨n,_,e⟩:=List.mem_map.mp hx
   exact ⟨n,e.symm⟩
 refine ⟨l9,rfl,.inl ⟨⟨_,SqL.of e9⟩,Qwx (K:=K) (a:=l9) (xs:=[V.int c0]++Qh0 (ns.map V.int) (some 1) (some hi)) (fun i σ H10=>σ.length=n∧H10 l9=some (.lst ([.int c0]++Qh0 (ns.map V.int) (some 1) (some hi)))) ⟨hl,e9⟩ (fun i σ H10 _ h=>SqL.of h.2) ?_ ?_⟩⟩
 ·rintro i x σ2 H2 hx ⟨hl2,e2⟩
  obtain ⟨m,rfl⟩:=allI x (List.mem_of_getElem? hx)
  obtain ⟨ρ',eb,lb⟩:=hb m
  have F0:=(Q7q H2 hl2).setFz (i:=ic) (v:=.int m) (t:=.int m) (by rw [List.length_replicate];exact hic) Is.int
  refine ⟨bs0 H2,fun _=>False,_,F0,fun _ z=>z,?_⟩
  rw [eb]
  exact fun σ1 H1 G1 F1 _=>⟨by rw [F1.len,lb],F1.chg l9 _ (fun z=>z) (fun z=>z) e2⟩
 ·rintro σ2 H2 _
  exact hD σ2 H2
noncomputable def Qsf (K:PySem.W.Frag):Sp:=fun vs H Q _=>∃ (a:Addr) (ns:List Int),vs=[.ref a]∧SqL K H a (ns.map V.int)∧ns.length≤63∧∀ H',Q (.bl true) H'
noncomputable def Qfu:Slot→Bool
 | .ml _=>false
 | _=>true
theorem Qt4:∀ {ρ:En},ρ.all Qfu=true→∀ k t,Qc ρ k≠.ml t
 | [],_,k,t,e=>by rw [Qf2] at e;cases e
 | s::ρ,h,0,t,e=>by
  rw [Qb] at e
  subst e
  simp [Qfu] at h
 | s::ρ,h,k+1,t,e=>by
  rw [List.all_cons,Bool.and_eq_true] at h
  rw [Qd] at e
  exact Qt4 h.2 k t e
theorem Ql3 {js:List (Option Nat)} {ρi:En} (h:ρi.all Qfu=true):∀ (ρ:En) (n:Nat),Qdu js ρi n ρ=ρ
 | [],_=>rfl
 | s::ρ,n=>by
  unfold Qdu
  rw [Ql3 h ρ (n+1)]
  rcases Qc2 js ρi n s with e | ⟨k,t,_,e,_⟩
  ·rw [e]
  ·exact absurd e (Qt4 h k t)
theorem Q2i {js:List (Option Nat)} {ρi ρ:En} (h:ρi.all Qfu=true):Qjj js ρi ρ=ρ:=Ql3 h ρ 0
theorem Qqm:∀ {ρ0 ρ:En},ρ0.all Qfu=true→ρ0.length=ρ.length→Qee ρ0 ρ=true
 | [],[],_,_=>rfl
 | [],_::_,_,h=>by cases h
 | _::_,[],_,h=>by cases h
 | s0::ρ0,s::ρ,h,hl=>by
  rw [List.all_cons,Bool.and_eq_true] at h
  have q:=Qqm (ρ0:=ρ0) (ρ:=ρ) h.2 (by simpa using hl)
  cases s0 <;> first | exact q | (simp [Qfu] at h)
noncomputable def Qfn:Slot→Bool
 | .un=>true
 | .fz _=>true
 | _=>false
theorem Qy9 {s:Slot} {rest:En} {x:T} (h:Qfn s=true):Qgj (.nm 0) x (s::rest)=some (.fz x::rest):=by
 cases s <;> first | rfl | cases h
theorem Ql4 {c:En→Out Bool} {el:En→Out PV} {rest:En} {g:T→Bool} {f:T→T}:∀ {xs acc:List T} {s0:Slot},Qfn s0=true→(∀ x∈xs,c (.fz x::rest)=.ok (g x) (.fz x::rest))→(∀ x∈xs,g x=true→∃ r,el (.fz x::rest)=.ok r (.fz x::rest)∧frz r=some (f x))→acc.length+xs.length≤100000 →
  ∃ s,Qc8 (.nm 0) c el xs acc (s0::rest)=.ok (acc++(xs.filter g).map f) (s::rest)∧Qfn s=true
 | [],acc,s0,h0,hc,he,hz=>⟨s0,by unfold Qc8;simp,h0⟩
 | x::xs,acc,s0,h0,hc,he,hz=>by
  rw [List.length_cons] at hz
  have ih:=fun acc' (hz':acc'.length+xs.length≤100000)=>Ql4 (c:=c) (el:=el) (rest:=rest) (g:=g) (f:=f) (xs:=xs) (acc:=acc') (s0:=.fz x) rfl (fun y hy=>hc y (List.mem_cons_of_mem _ hy)) (fun y hy=>he y (List.mem_cons_of_mem _ hy)) hz'
  unfold Qc8
  rw [Qy9 h0]
  simp only [hc x List.mem_cons_self,Out.bind]
  cases hg:g x with
  | false =>
   obtain ⟨s,e,o⟩:=ih acc (by omega)
   refine ⟨s,?_,o⟩
   simp only [Bool.false_eq_true,if_false,e,List.filter_cons,hg]
  | true =>
   obtain ⟨r,er,fr⟩:=he x List.mem_cons_self hg
   simp only [if_true,er,fr]
   have za:acc.length<100000:=by omega
   rw [if_pos za]
   obtain ⟨s,e,o⟩:=ih (acc++[f x]) (by rw [List.length_append,List.length_singleton];omega)
   refine ⟨s,?_,o⟩
   simp only [e,List.filter_cons,hg,if_true,List.map_cons,List.append_assoc,List.singleton_append]
theorem Qky {cf:CF} {w:W} {js:List (Option Nat)} {cs:Es} {e:E} {ρ rest:En} {xs:List T} {g:T→Bool} {f:T→T} (hw:evW cf w ρ=.ok (xs,none) ρ) (hcap:Qb5 js ρ=.un::rest) (hml:rest.all Qfu=true) (hap:Qbm js=true)
  (hc:∀ x∈xs,evC cf cs (.fz x::rest)=.ok (g x) (.fz x::rest)) (he:∀ x∈xs,g x=true→∃ r,evE cf e (.fz x::rest)=.ok r (.fz x::rest)∧frz r=some (f x)) (hz:xs.length≤100000) :
  evE cf (.comp w js (.nm 0) cs e) ρ=.ok (.ow (.lst ((xs.filter g).map f))) ρ:=by
 obtain ⟨s,e1,o⟩:=Ql4 (c:=evC cf cs) (el:=evE cf e) (rest:=rest) (g:=g) (f:=f) (xs:=xs) (acc:=[]) (s0:=.un) rfl hc he (by simpa using hz)
 have hs:(s::rest).all Qfu=true:=by
  rw [List.all_cons,hml]
  cases s <;> first | rfl | cases o
 unfold evE
 rw [hw]
 simp only [Out.bind,hcap,e1]
 rw [if_pos ⟨Qqm (by rw [List.all_cons,hml];rfl) rfl,hap⟩,Q2i hs]
 rfl
theorem Qcj {cf:CF} {w:W} {js:List (Option Nat)} {e:E} {ρ rest:En} {xs:List T} {f:T→T} (hw:evW cf w ρ=.ok (xs,none) ρ) (hcap:Qb5 js ρ=.un::rest) (hml:rest.all Qfu=true) (hap:Qbm js=true)
  (he:∀ x∈xs,∃ r,evE cf e (.fz x::rest)=.ok r (.fz x::rest)∧frz r=some (f x)) (hz:xs.length≤100000) :
  evE cf (.comp w js (.nm 0) .nil e) ρ=.ok (.ow (.lst (xs.map f))) ρ:=by
 rw [Qky (g:=fun _=>true) (f:=f) hw hcap hml hap (fun x _=>by unfold evC;rfl) (fun x hx _=>he x hx) hz,List.filter_eq_self.mpr (fun _ _=>rfl)]
theorem Qi0 {tg:Tg} {b:En→SO} (J:Nat→En→Prop):∀ {xs:List T} {n:Nat} {ρ:En},J n ρ→(∀ (i:Nat) x ρ,xs[i]?=some x→J (n+i) ρ→∃ ρ1 ρ2,Qgj tg x ρ=some ρ1∧(b ρ1=.nx ρ2∨b ρ1=.ct ρ2)∧J (n+i+1) ρ2)→∃ ρ',Qca tg b xs ρ=.nx ρ'∧J (n+xs.length) ρ'
 | [],n,ρ,h,_=>⟨ρ,rfl,h⟩
 | x::xs,n,ρ,h,hs=>by
  obtain ⟨ρ1,ρ2,e1,e2,j⟩:=hs 0 x ρ rfl h
  obtain ⟨ρ',e3,j3⟩:=Qi0 (tg:=tg) (b:=b) J (xs:=xs) (n:=n+1) (ρ:=ρ2) (by simpa using j) fun i y ρ hy hj=>by
   have:=hs (i+1) y ρ (by rw [List.getElem?_cons_succ];exact hy) (by rw [show n+(i+1)=n+1+i by omega];exact hj)
   rw [show n+(i+1)+1=n+1+i+1 by omega] at this
   exact this
  refine ⟨ρ',?_,by rw [List.length_cons,show n+(xs.length+1)=n+1+xs.length by omega];exact j3⟩
  unfold Qca
  rw [e1]
  rcases e2 with e2 | e2 <;> simp only [e2] <;> exact e3
noncomputable def Q7r (Q:Df→Prop):List Df→Prop
 | []=>True
 | d::ds=>Q d∧Q7r Q ds
theorem Qza {Q:Df→Prop}:∀ {ds:List Df},Q7r Q ds→∀ (f:Nat) (d:Df),ds[f]?=some d→Q d
 | [],_,f,d,e=>by simp at e
 | c::ds,h,0,d,e=>by simp at e;subst e;exact h.1
 | c::ds,h,f+1,d,e=>by rw [List.getElem?_cons_succ] at e;exact Qza h.2 f d e
variable {cf:CF} {ρ ρ1 ρ2:En} {α β:Type}
theorem Qv {a:α} {k:α→En→Out β}:(Out.ok a ρ).bind k=k a ρ:=rfl
theorem x_xn {x:Xn} {k:α→En→Out β}:(Out.xn x ρ:Out α).bind k=.xn x ρ:=rfl
noncomputable def Qx (i:Nat) (ρ:En):Slot→Out PV
 | .fz t=>.ok (.fz t) ρ
 | .un=>.no
 | .pin _=>.no
 | .fx t=>.ok (.fz t) ρ
 | _=>.ok (.sl i) ρ
theorem Qk {i:Nat}:evE cf (.var i) ρ=Qx i ρ (Qc ρ i):=by rw [evE];cases Qc ρ i <;> rfl
theorem Qah {i:Int}:evE cf (.int i) ρ=.ok (.fz (.int i)) ρ:=by rw [evE]
theorem Qi1:evE cf .non ρ=.ok (.fz .non) ρ:=by rw [evE]
theorem Ql5 {i:Str}:evE cf (.str i) ρ=.ok (.fz (.str i)) ρ:=by rw [evE]
noncomputable def Qkk (rs:List PV) (ρ:En):Out PV:=match Qc3 rs with
 | some ts=>if ts.length≤100000 then .ok (.fz (.tup ts)) ρ else .no
 | none=>.no
noncomputable def Qkl (rs:List PV) (ρ:En):Out PV:=match Qc3 rs with
 | some ts=>if ts.length≤100000 then .ok (.ow (.lst ts)) ρ else .no
 | none=>.no
theorem Qfv {es:Es}:evE cf (.tup es) ρ=(evA cf es ρ).bind Qkk:=by rw [evE];rfl
theorem Qgu {es:Es}:evE cf (.lst es) ρ=(evA cf es ρ).bind Qkl:=by rw [evE];rfl
noncomputable def Qbn (o:BOp) (ρ:En):Option T→Option T→Out PV
 | some x,some y=>.opt (opB o x y) ρ
 | _,_=>.no
noncomputable def Qbo (o:BOp) (ra rb:PV) (ρ:En):Out PV:=Qbn o ρ (cont ρ ra) (cont ρ rb)
noncomputable def Qbp (cf:CF) (o:BOp) (b:E) (ra:PV) (ρ:En):Out PV:=(evE cf b ρ).bind (Qbo o ra)
theorem Qbu {o:BOp} {a b:E}:evE cf (.bin o a b) ρ=(evE cf a ρ).bind (Qbp cf o b):=by rw [evE];rfl
noncomputable def Qsg:PV→En→Out PV
 | .fz (.int i),ρ=>.ok (.fz (.int (-i))) ρ
 | _,_=>.no
theorem Qnw {a:E}:evE cf (.neg a) ρ=(evE cf a ρ).bind Qsg:=by rw [evE];congr 1;funext r ρ1;cases r with
 | fz t=>cases t <;> rfl
 | ow t=>rfl
 | sl i=>rfl
noncomputable def yBl:PV→En→Out Bool
 | .fz (.bl b),ρ=>.ok b ρ
 | _,_=>.no
theorem Qw {o:Out PV}:Qam o=o.bind yBl:=by unfold Qam;congr 1;funext r ρ1;cases r with
 | fz t=>cases t <;> rfl
 | ow t=>rfl
 | sl i=>rfl
noncomputable def Qqn (b:Bool) (ρ:En):Out PV:=.ok (.fz (.bl (!b))) ρ
theorem Ql6 {a:E}:evE cf (.not a) ρ=(Qam (evE cf a ρ)).bind Qqn:=by rw [evE];rfl
noncomputable def yB (b:Bool) (ρ:En):Out PV:=.ok (.fz (.bl b)) ρ
noncomputable def Q2j (cf:CF) (b:E):Bool→En→Out PV
 | true,ρ=>(Qam (evE cf b ρ)).bind yB
 | false,ρ=>.ok (.fz (.bl false)) ρ
noncomputable def yOr (cf:CF) (b:E):Bool→En→Out PV
 | false,ρ=>(Qam (evE cf b ρ)).bind yB
 | true,ρ=>.ok (.fz (.bl true)) ρ
theorem Qzb {a b:E}:evE cf (.and a b) ρ=(Qam (evE cf a ρ)).bind (Q2j cf b):=by rw [evE];congr 1;funext c ρ1;cases c <;> rfl
theorem Qmw {a b:E}:evE cf (.or a b) ρ=(Qam (evE cf a ρ)).bind (yOr cf b):=by rw [evE];congr 1;funext c ρ1;cases c <;> rfl
noncomputable def Qzc (cf:CF) (a b:E):Bool→En→Out PV
 | true,ρ=>evE cf a ρ
 | false,ρ=>evE cf b ρ
theorem Qt5 {c a b:E}:evE cf (.ite c a b) ρ=(Qam (evE cf c ρ)).bind (Qzc cf a b):=by rw [evE];congr 1;funext c ρ1;cases c <;> rfl
noncomputable def Qao (ρ:En):Option Bool→Out PV
 | some k=>.ok (.fz (.bl k)) ρ
 | none=>.no
noncomputable def Qap (o:COp) (ρ:En):Option T→Option T→Out PV
 | some x,some y=>Qao ρ (opC o x y)
 | _,_=>.no
noncomputable def Qaq (o:COp) (ra rb:PV) (ρ:En):Out PV:=Qap o ρ (cont ρ ra) (cont ρ rb)
noncomputable def Qar (cf:CF) (o:COp) (b:E) (ra:PV) (ρ:En):Out PV:=(evE cf b ρ).bind (Qaq o ra)
theorem Qav {o:COp} {a b:E}:evE cf (.cmp o a b) ρ=(evE cf a ρ).bind (Qar cf o b):=by
 rw [evE]
 rfl
noncomputable def Qt6 (n:String) (ρ:En):Option T→Out PV
 | some t=>if Qnh n && !Qio t then .ok (.fz (.bl (Qnb (tyT t) n))) ρ else .no
 | none=>.no
noncomputable def Q2k (n:String) (ra:PV) (ρ:En):Out PV:=Qt6 n ρ (cont ρ ra)
theorem Qzd {a:E} {n:String}:evE cf (.isI a n) ρ=(evE cf a ρ).bind (Q2k n):=by
 rw [evE]
 rfl
theorem Q4 {f:Nat} {es:Es}:evE cf (.call f es) ρ=(evA cf es ρ).bind (Qes cf f):=by rw [evE]
noncomputable def Qb0 (b:Bi) (ρ:En):Option (List T)→Out PV
 | some ts=>.opt (Qgn b ts) ρ
 | none=>.no
noncomputable def yBi (b:Bi) (rs:List PV) (ρ:En):Out PV:=Qb0 b ρ (Qan ρ rs)
theorem Qb2 {b:Bi} {es:Es}:evE cf (.bi b es) ρ=(evA cf es ρ).bind (yBi b):=by
 rw [evE]
 rfl
noncomputable def Qd6 (ρ:En):Option T→Out PV
 | some t=>.ok (.fz t) ρ
 | none=>.no
noncomputable def Qd7 (ρ:En):Option T→Option T→Out PV
 | some x,some y=>Qd6 ρ (Qyb x y)
 | _,_=>.no
noncomputable def Qd8 (ra rb:PV) (ρ:En):Out PV:=Qd7 ρ (cont ρ ra) (cont ρ rb)
noncomputable def Qd9 (cf:CF) (b:E) (ra:PV) (ρ:En):Out PV:=(evE cf b ρ).bind (Qd8 ra)
theorem Qej {a b:E}:evE cf (.ix a b) ρ=(evE cf a ρ).bind (Qd9 cf b):=by
 rw [evE]
 rfl
noncomputable def Qabh (ρ:En):PV→Option (List Int)→Out PV
 | .fz (.int j),some is=>.ok (.fz (.int (is.count j:Nat))) ρ
 | _,_=>.no
noncomputable def Qabi (ts:List T) (rb:PV) (ρ:En):Out PV:=Qabh ρ rb (Qdi ts)
noncomputable def yCnt1 (cf:CF) (b:E):PV→En→Out PV
 | .fz (.tup ts),ρ=>(evE cf b ρ).bind (Qabi ts)
 | _,_=>.no
theorem Qt:evA cf .nil ρ=.ok [] ρ:=by rw [evA]
noncomputable def yC2 (r:PV) (rs:List PV) (ρ:En):Out (List PV):=.ok (r::rs) ρ
noncomputable def yC1 (cf:CF) (es:Es) (r:PV) (ρ:En):Out (List PV):=(evA cf es ρ).bind (yC2 r)
theorem Ql {e:E} {es:Es}:evA cf (.cons e es) ρ=(evE cf e ρ).bind (yC1 cf es):=by rw [evA];rfl
noncomputable def Qi2 (r:PV) (ρ:En):Option (List T)→Out (List T×Option Nat)
 | some ts=>.ok (ts,Qh5 r) ρ
 | none=>.no
noncomputable def Qi3 (r:PV) (ρ:En):Option T→Out (List T×Option Nat)
 | some t=>Qi2 r ρ (Qdv t)
 | none=>.no
noncomputable def Qon (r:PV) (ρ:En):Out (List T×Option Nat):=Qi3 r ρ (cont ρ r)
theorem Qke {e:E}:evW cf (.seq e) ρ=(evE cf e ρ).bind Qon:=by
 rw [evW]
 rfl
noncomputable def Ql7:PV→En→Out (List T×Option Nat)
 | .fz (.int j),ρ=>if j.natAbs≤100000 then .ok (Qbt 0 j.toNat,none) ρ else .no
 | _,_=>.no
theorem Qdl {a:E}:evW cf (.rng1 a) ρ=(evE cf a ρ).bind Ql7:=by
 rw [evW]
 congr 1;funext r ρ1
 cases r with
 | fz t=>cases t <;> rfl
 | ow t=>rfl
 | sl i=>rfl
noncomputable def Q2 (rs:List PV) (ρ:En):FR→Out PV
 | .ok r fin=>.ok r (Qat ρ rs fin)
 | .xn x fin=>.xn x (Qat ρ rs fin)
 | .no=>.no
noncomputable def Q3 (cf:CF) (f:Nat) (rs:List PV) (ρ:En):Option (List Arg)→Out PV
 | some as=>Q2 rs ρ (cf f as)
 | none=>.no
theorem Q2l {f:Nat} {rs:List PV} (h:Qq rs=true):Qes cf f rs ρ=Q3 cf f rs ρ (Qo ρ rs):=by
 unfold Qes
 rw [if_pos h]
 cases Qo ρ rs with
 | none=>rfl
 | some as =>
  show (match cf f as with | .ok r fin=>Out.ok r (Qat ρ rs fin) | .xn x fin=>.xn x (Qat ρ rs fin) | .no=>.no)=Q2 rs ρ (cf f as)
  cases cf f as <;> rfl
theorem Qai {a:α} {k:α→En→SO}:ofO (.ok a ρ) k=k a ρ:=rfl
theorem Qbe {k:En→SO}:(SO.nx ρ).seq k=k ρ:=rfl
theorem Qvz {r:PV} {k:En→SO}:(SO.rt r ρ).seq k=.rt r ρ:=rfl
theorem Qcq:exS cf .nil ρ=.nx ρ:=by rw [exS]
theorem Qab {a b:S}:exS cf (.seq a b) ρ=(exS cf a ρ).seq (exS cf b):=by rw [exS]
noncomputable def Ql8 (_:PV) (ρ:En):SO:=.nx ρ
theorem Qgv {e:E}:exS cf (.expr e) ρ=ofO (evE cf e ρ) Ql8:=by rw [exS];rfl
theorem Qnx {i:Nat} {e:E}:exS cf (.set i e) ρ=ofO (evE cf e ρ) (Qoj i):=by rw [exS]
noncomputable def Qa8 (i:Nat) (ρ:En):Option T→SO
 | some t=>Q8 (Qbb i (.fz t) ρ) .nx
 | none=>.no
noncomputable def Qbq (i:Nat) (r:PV) (ρ:En):SO:=Qa8 i ρ (frz r)
theorem Qa2 {i:Nat} {e:E}:exS cf (.setF i e) ρ=ofO (evE cf e ρ) (Qbq i):=by
 rw [exS]
 rfl
noncomputable def Q2m (is:List Nat):PV→En→SO
 | .fz (.tup ts),ρ=>Q8 (Qbi is ts ρ) .nx
 | _,_=>.no
theorem Qze {is:List Nat} {e:E}:exS cf (.unp is e) ρ=ofO (evE cf e ρ) (Q2m is):=by
 rw [exS]
 congr 1;funext r ρ1
 cases r with
 | fz t=>cases t <;> rfl
 | ow t=>rfl
 | sl i=>rfl
noncomputable def Q4j (i j:Nat):PV→PV→En→SO
 | .fz x,.fz y,ρ=>Q8 (Qbi [i,j] [x,y] ρ) .nx
 | _,_,_=>.no
noncomputable def Q4k (cf:CF) (i j:Nat) (b:E) (ra:PV) (ρ:En):SO:=ofO (evE cf b ρ) (Q4j i j ra)
theorem Qabj {i j:Nat} {a b:E}:exS cf (.par i j a b) ρ=ofO (evE cf a ρ) (Q4k cf i j b):=by
 rw [exS]
 congr 1;funext ra ρ1
 show _=ofO (evE cf b ρ1) _
 congr 1;funext rb ρ2
 cases ra <;> cases rb <;> rfl
noncomputable def Ql9 (i:Nat) (ρ:En) (t:T):Slot→SO
 | .ow (.lst ts)=>if ts.length<100000 then .nx (ρ.set i (.ow (.lst (ts++[t])))) else .no
 | .ml (.lst ts)=>if ts.length<100000 then .nx (ρ.set i (.ml (.lst (ts++[t])))) else .no
 | _=>.no
noncomputable def Qma (i:Nat) (ρ:En):Option T→SO
 | none=>.no
 | some t=>Ql9 i ρ t (Qc ρ i)
noncomputable def Qqo (i:Nat) (r:PV) (ρ:En):SO:=Qma i ρ (frz r)
theorem Qabk {i:Nat} {e:E} (h:(Qc ρ i).mut=true):exS cf (.app i e) ρ=ofO (evE cf e ρ) (Qqo i):=by
 rw [exS,if_pos h]
 rfl
noncomputable def Qzf (i:Nat) (t:T) (j:Int) (ρ:En):Slot→SO
 | .ow (.lst ts)=>Q8 (ixN ts.length j) fun n=>.nx (ρ.set i (.ow (.lst (ts.set n t))))
 | .ml (.lst ts)=>Q8 (ixN ts.length j) fun n=>.nx (ρ.set i (.ml (.lst (ts.set n t))))
 | _=>.no
noncomputable def Qt7 (i:Nat) (t:T):PV→En→SO
 | .fz (.int j),ρ=>Qzf i t j ρ (Qc ρ i)
 | _,_=>.no
noncomputable def Qzg (cf:CF) (i:Nat) (k:E) (ρ:En):Option T→SO
 | none=>.no
 | some t=>if (Qc ρ i).mut=true then ofO (evE cf k ρ) (Qt7 i t) else .no
noncomputable def Q2n (cf:CF) (i:Nat) (k:E) (r:PV) (ρ:En):SO:=Qzg cf i k ρ (frz r)
theorem Q4l {i:Nat} {k e:E}:exS cf (.put i k e) ρ=ofO (evE cf e ρ) (Q2n cf i k):=by
 rw [exS]
 congr 1;funext r ρ1
 unfold Q2n
 cases frz r with
 | none=>rfl
 | some t =>
  show _=(if (Qc ρ1 i).mut=true then ofO (evE cf k ρ1) (Qt7 i t) else .no)
  by_cases h:(Qc ρ1 i).mut=true
  ·simp only [if_pos h]
   congr 1;funext rk ρ2
   cases rk with
   | fz u=>cases u <;> rfl
   | ow u=>rfl
   | sl j=>rfl
  ·simp only [if_neg h]
theorem Qjp {i:Nat} {e:E}:exS cf (.app i e) ρ=if (Qc ρ i).mut=true then ofO (evE cf e ρ) (Qqo i) else .no:=by
 by_cases h:(Qc ρ i).mut=true
 ·rw [if_pos h,Qabk h]
 ·rw [if_neg h,exS,if_neg h]
theorem Qs {f:Nat} {rs:List PV}:Qes cf f rs ρ=if Qq rs=true then Q3 cf f rs ρ (Qo ρ rs) else .no:=by
 by_cases h:Qq rs=true
 ·rw [if_pos h,Q2l h]
 ·rw [if_neg h];unfold Qes;rw [if_neg h]
noncomputable def Qb7 (r:PV) (ρ:En):SO:=.rt r ρ
theorem Qa9 {e:E}:exS cf (.ret e) ρ=ofO (evE cf e ρ) Qb7:=by rw [exS];rfl
noncomputable def yIf (cf:CF) (a b:S):Bool→En→SO
 | true,ρ=>exS cf a ρ
 | false,ρ=>exS cf b ρ
theorem Qbc {c:E} {a b:S}:exS cf (.ite c a b) ρ=ofO (Qam (evE cf c ρ)) (yIf cf a b):=by rw [exS];congr 1;funext k ρ1;cases k <;> rfl
noncomputable def Qho (cf:CF) (tg:Tg) (b:S):List T×Option Nat→En→SO
 | (ts,none),ρ=>Qca tg (exS cf b) ts ρ
 | (_,some _),_=>.no
theorem Qev {w:W} {tg:Tg} {b:S}:exS cf (.for_ w tg b) ρ=Qni (ofO (evW cf w ρ) (Qho cf tg b)):=by
 rw [exS]
 congr 2;funext its ρ1
 obtain ⟨ts,lk⟩:=its
 cases lk <;> rfl
noncomputable def Qaz (r:PV):Option (List T)→FR
 | some fin=>.ok r fin
 | none=>.no
noncomputable def Qa5 (o:Option (List T)):Option PV→FR
 | some r=>Qaz r o
 | none=>.no
noncomputable def Qb1 (as:List Arg):SO→FR
 | .nx ρ=>Qaz (.fz .non) (Q1 as ρ)
 | .rt r ρ=>Qa5 (Q1 as ρ) (Qau ρ r)
 | .xn x ρ=>match Q1 as ρ with
  | some fin=>.xn x fin
  | none=>.no
 | _=>.no
theorem Qbd {fn:Fn} {as:List Arg} (h:as.length=fn.ps):Qbr cf fn as=Qb1 as (exS cf fn.body (Qfl fn as)):=by
 unfold Qbr
 rw [if_pos h]
 cases exS cf fn.body (Qfl fn as) with
 | nx ρ=>show (match Q1 as ρ with | some fin=>FR.ok (.fz .non) fin | none=>.no)=Qaz _ (Q1 as ρ);cases Q1 as ρ <;> rfl
 | rt r ρ =>
  show (match Qau ρ r,Q1 as ρ with | some r,some fin=>FR.ok r fin | _,_=>.no)=Qa5 (Q1 as ρ) (Qau ρ r)
  cases Qau ρ r <;> cases Q1 as ρ <;> rfl
 | xn x ρ=>rfl
 | bk ρ=>rfl
 | ct ρ=>rfl
 | no=>rfl
section
variable {b:Bool} {i:Int} {x:Str} {ts:List T}
theorem Qmb:Qnh "tuple" = true:=rfl
theorem Qf4:Qnb (tyT (.tup ts)) "tuple" = true:=rfl
end
theorem Qzh {as:List Arg} {ρ:En}:Qb1 as (.nx ρ)=Qaz (.fz .non) (Q1 as ρ):=rfl
theorem Qaj {as:List Arg} {ρ:En} {r:PV}:Qb1 as (.rt r ρ)=Qa5 (Q1 as ρ) (Qau ρ r):=rfl
theorem Qcn {ρ:En}:Qni (.nx ρ)=.nx ρ:=rfl
theorem Qt8 {ρ:En} {r:PV}:Qni (.rt r ρ)=.rt r ρ:=rfl
theorem Qqp {α:Type} (g:α→Bool):∀ (xs:List α),Qki (xs.map fun x=>T.bl (g x))=some (xs.map g)
 | []=>rfl
 | x::xs=>by
  rw [List.map_cons,List.map_cons]
  unfold Qki
  rw [Qqp g xs]
  rfl
theorem Qny (n:Nat) (xs:List Int):Qm (n+1) (.tup (xs.map T.int))=true:=by
 rw [Qm,List.all_eq_true]
 intro t ht
 obtain ⟨i,_,rfl⟩:=List.mem_map.mp ht
 simp [Qm]
theorem Qqq:∀ (xs ys:List Int),eqL (xs.map T.int) (ys.map T.int)=decide (xs=ys)
 | [],[]=>by rw [List.map_nil,Qiq];rfl
 | [],y::ys=>by rw [Qg7 (by simp)];simp
 | x::xs,[]=>by rw [Qg7 (by simp)];simp
 | x::xs,y::ys=>by
  rw [List.map_cons,List.map_cons,Qfr,Qqq xs ys,eqT]
  by_cases h:x=y
  ·subst h;simp
  ·simp [h]
theorem Q2o {xs ys:List Int}:eqO (.tup (xs.map T.int)) (.tup (ys.map T.int))=some (decide (xs=ys)):=by
 show (if _ then _ else _)=_
 rw [if_pos ⟨Qny 49 xs,Qny 49 ys⟩,eqT,Qqq]
theorem Qkm {a:T} {l:List T}:atI (a::l) 0=some a:=by
 have:atI (a::l) ((0:Nat):Int)=some a:=Qfz rfl
 exact this
theorem Qoo {a b:T} {l:List T}:atI (a::b::l) 1=some b:=by
 have:atI (a::b::l) ((1:Nat):Int)=some b:=Qfz rfl
 exact this
theorem Q4m {n:Nat}:ixN (n+1) 0=some 0:=by
 unfold ixN
 rw [if_pos (by omega),if_pos (by omega)]
 rfl
inductive All2 (F:T→T→Prop):List T→List T→Prop where
 | nil:All2 F [] []
 | cons {x y xs ys}:F x y→All2 F xs ys→All2 F (x::xs) (y::ys)
inductive Ran (F:T→T→Prop):List T→List T→Prop where
 | nil:Ran F [] []
 | skip {x xs ys}:Ran F xs ys→Ran F (x::xs) ys
 | take {x y xs ys}:F x y→Ran F xs ys→Ran F (x::xs) (y::ys)
variable {cf:CF} {P:T→Prop} {F:T→T→Prop} {rest:T→En}
theorem Qzi {e:E} {ρ:En}:evC cf (.cons e .nil) ρ=Qam (evE cf e ρ):=by rw [evC]
theorem rngI {j:Int} {ρ:En} (h0:0≤j) (h:j≤100000):Ql7 (.fz (.int j)) ρ=.ok (Qbt 0 j.toNat,none) ρ:=by
 show (if j.natAbs≤100000 then _ else _)=_
 rw [if_pos (by omega)]
theorem Qzj {n:Nat} {ρ:En} (h:n≤100000):Ql7 (.fz (.int (n:Int))) ρ=.ok (Qbt 0 n,none) ρ:=by
 rw [rngI (by omega) (by omega),Int.toNat_natCast]
theorem Qt9 {α:Type} {xs:List α}:Qki (xs.map fun _=>T.bl true)=some (xs.map fun _=>true):=Qqp (fun _=>true) xs
theorem Qzk {α:Type} {xs:List α}:(xs.map fun _=>true).all id=true:=by rw [List.all_eq_true];intro b hb;obtain ⟨_,_,rfl⟩:=List.mem_map.mp hb;rfl
theorem rngA {j:Int} {ρ:En} (h:j.natAbs≤100000):Ql7 (.fz (.int j)) ρ=.ok (Qbt 0 j.toNat,none) ρ:=by
 show (if j.natAbs≤100000 then _ else _)=_
 rw [if_pos h]
theorem Qa0 {i j:Int}:eqO (.int i) (.int j)=some (decide (i=j)):=rfl
theorem Q2p {i j:Str}:eqO (.str i) (.str j)=some (decide (i=j)):=rfl
theorem Qew {a:Addr} {n i:Nat}:Qc (.pin a::uns n) i=.un∨(i=0∧Qc (.pin a::uns n) i=.pin a):=by
 cases i with
 | zero=>exact .inr ⟨rfl,rfl⟩
 | succ i=>left;rw [Qd];exact Qdk n i
theorem Q7s (H:Hp) {σ:St} {n:Nat} {a:Addr} (hl:σ.length=n+1) (h0:σ[0]?=some (some (.ref a))):FI (bs0 H) H (fun _=>False) σ (.pin a::uns n) where
 len:=by rw [hl,List.length_cons,List.length_replicate]
 slot:=fun i=>by
  rcases Qew (a:=a) (n:=n) (i:=i) with e | ⟨rfl,e⟩
  ·rw [e];trivial
  ·rw [e];exact h0
 apart:=fun i j b h _=>by
  obtain ⟨⟨t,e⟩,_⟩:=h
  rcases Qew (a:=a) (n:=n) (i:=i) with z | ⟨_,z⟩ <;> rw [z] at e <;> cases e
 prv:=fun b h=>h.elim
 chg:=fun _ _ _ _ e=>e
 keep:=fun _ o e=>⟨o,e⟩
 newO:=fun b h=>by
  obtain ⟨i,t,e,_⟩:=h
  rcases Qew (a:=a) (n:=n) (i:=i) with z | ⟨_,z⟩ <;> rw [z] at e <;> cases e
 newM:=fun b h=>by
  obtain ⟨i,t,e,_⟩:=h
  rcases Qew (a:=a) (n:=n) (i:=i) with z | ⟨_,z⟩ <;> rw [z] at e <;> cases e
 fix:=fun i b h=>by
  obtain ⟨⟨t,e⟩,_⟩:=h
  rcases Qew (a:=a) (n:=n) (i:=i) with z | ⟨_,z⟩ <;> rw [z] at e <;> rcases e with e | e | e <;> cases e
 gg:=fun _ h=>h
 gn:=fun _ h=>.inl h
 bp:=fun _ h=>h.elim
noncomputable abbrev Q4n (p:Pr) (K:PySem.W.Frag) (pre:S) (ic:Nat) (hi:Int) (body:S):TS:=Qwn (tS p pre) (Qwn (Qww (Qy7 K hi) (Qgi ic) (tS p body)) (Q0o (tC (.bl true))))
theorem Q2q {p:Pr} {K:PySem.W.Frag} {H:Hp} {vs:List V} {Q:VK} {E:XK} {N:List Str} {pre:S} {ic:Nat} {hi:Int} {body:S} (h:Qsf K vs H Q E) (hN:1≤N.length) (hic:ic<N.length)
  (hc:∀ a:Addr,∃ ρ',exS p.cf pre (.pin a::uns (N.length-1))=.nx (.pin a::ρ')∧ρ'.length=N.length-1)
  (hb:∀ m:Int,∃ ρ',exS p.cf body ((uns N.length).set ic (.fz (.int m)))=.nx ρ'∧ρ'.length=N.length):Q4n p K pre ic hi body { nx:=fun _ H'=>Q .non H',rt:=Q } (Qbj N vs) H:=by
 obtain ⟨a,ns,rfl,hs,hns,q⟩:=h
 have hl:(Qbj N [.ref a]).length=N.length:=by unfold Qbj;simp only [List.length_append,List.length_map,List.length_replicate,List.length_cons,List.length_nil];omega
 obtain ⟨ρ',e,hρ⟩:=hc a
 refine ⟨bs0 H,fun _=>False,_,Q7s H (n:=N.length-1) (by rw [hl];omega) (Qnr rfl),fun _ z=>z,?_⟩
 rw [e]
 intro σ1 H1 G1 F1 _
 have h0:σ1[0]?=some (some (.ref a)):=F1.slot 0
 have hl1:σ1.length=N.length:=by rw [F1.len,List.length_cons,hρ];omega
 have s1:Same H H1:=fun b o eb=>F1.chg b o (fun z=>z) (fun z=>z) eb
 exact Qy8 h0 (s1.seq hs) hns hl1 hic hb fun σ' H'=>q H'
end L2
namespace L2
variable {i j:Int} {a b:List T} {x y:T} {lo hi:Option Int} {c:Bool}
theorem uo1:opB .add (.int i) (.int j)=some (.fz (.int (i+j))):=rfl
theorem uo4:opB .sub (.int i) (.int j)=some (.fz (.int (i-j))):=rfl
theorem uo5:opB .mul (.int i) (.int j)=if Qby i j=true then some (.fz (.int (i*j))) else none:=rfl
theorem uo7:opB .fdv (.int i) (.int j)=if 0<j∧j.natAbs<2^64 then some (.fz (.int (i / j))) else if j≠0∧j.natAbs<2^250 then some (.fz (.int (i.fdiv j))) else none:=rfl
theorem uo8:opB .mod (.int i) (.int j)=if 0<j then some (.fz (.int (i%j))) else if j<0 then some (.fz (.int (i.fmod j))) else none:=rfl
theorem uo9:opB .pow (.int i) (.int j)=if 0≤j∧j.natAbs≤1000000∧i.natAbs<2^64 then some (.fz (.int (i^j.toNat))) else none:=rfl
theorem uc1:opC .eq x y=eqO x y:=rfl
theorem uc2:opC .ne x y=(eqO x y).map (!·):=rfl
theorem uc3:opC .lt (.int i) (.int j)=some (decide (i<j)):=rfl
theorem uc5:opC .gt (.int i) (.int j)=some (decide (j<i)):=rfl
theorem uc6:opC .ge (.int i) (.int j)=some (decide (j≤i)):=rfl
theorem uc7:opC .isn x .non=some (Qer x):=rfl
theorem uc8:opC .isnn x .non=some (!Qer x):=rfl
theorem ui1:Qyb (.lst a) (.int i)=atI a i:=rfl
theorem ui2:Qyb (.tup a) (.int i)=atI a i:=rfl
theorem ub1:Qgn .len [.lst a]=some (.fz (.int a.length)):=rfl
theorem ub2:Qgn .len [.tup a]=some (.fz (.int a.length)):=rfl
theorem ub3:Qgn .all [.lst a]=(Qki a).map fun bs=>.fz (.bl (bs.all id)):=rfl
theorem ub5:Qgn .sum [.lst a]=(Qdi a).map fun is=>.fz (.int is.sum):=rfl
theorem ub6:Qgn .max [.int i,.int j]=some (.fz (.int (if j>i then j else i))):=rfl
theorem ub7:Qgn .dvm [.int i,.int j]=if 0<j∧j.natAbs<2^64 then some (.fz (.tup [.int (i / j),.int (i%j)])) else none:=rfl
theorem ub8:Qgn .int [.bl c]=some (.fz (.int (if c then 1 else 0))):=rfl
theorem ub9:Qgn .tup [.lst a]=some (.fz (.tup a)):=rfl
section
variable {cf:CF} {ρ:En}
end
section
variable {cf:CF} {ρ ρ1 ρ2:En}
theorem intL_mp:∀ (xs:List Int),Qdi (xs.map T.int)=some xs
 | []=>rfl
 | x::xs=>by
  show (match Qdi (xs.map T.int) with | some is=>some (x::is) | none=>none)=_
  rw [intL_mp xs]
theorem Qop {c:En→Out Bool} {b:En→SO} {Z:En→Prop} (J:Nat→En→Prop) (h:∀ i ρ,J i ρ→(∃ ρ1,c ρ=.ok false ρ1∧Z ρ1)∨(∃ i' ρ1 ρ2,i=i'+1∧c ρ=.ok true ρ1∧b ρ1=.nx ρ2∧J i' ρ2)) :
  ∀ (i fuel:Nat) (ρ:En),i<fuel→J i ρ→∃ ρ',Qjk c b fuel ρ=.nx ρ'∧Z ρ'
 | i,0,ρ,hf,_=>absurd hf (Nat.not_lt_zero _)
 | i,fuel+1,ρ,hf,hj=>by
  rcases h i ρ hj with ⟨ρ1,e,z⟩ | ⟨i',ρ1,ρ2,rfl,e1,e2,j⟩
  ·refine ⟨ρ1,?_,z⟩
   unfold Qjk
   rw [e]
   rfl
  ·obtain ⟨ρ',e3,z⟩:=Qop J h i' fuel ρ2 (by omega) j
   refine ⟨ρ',?_,z⟩
   unfold Qjk
   rw [e1]
   show (match b ρ1 with | .nx ρ2=>Qjk c b fuel ρ2 | .ct ρ2=>Qjk c b fuel ρ2 | .bk ρ2=>.nx ρ2 | o=>o)=_
   rw [e2]
   exact e3
end
section
variable {fA f0:En→SO} {fc:En→Out Bool} {fV f1 f2:En→Out PV} {iF iR iH iW iS iT iN:Nat} {Ms:List (List (List Int))} {R M:List (List Int)} {is:List Int} {ρ ρ1 ρ2 ρ3:En}
end
noncomputable def Qua (K:PySem.W.Frag):Bool:=match K.getLast? with
 | some (_,o)=>(match o.data with
  | .fields a=>a.size != 2
  | _=>true)
 | none=>true
theorem Qabm {K:PySem.W.Frag} (h:Qua K=true) (a:PySem.Addr) (q:PySem.Str):¬ Qwi K a q:=fun ⟨b,t,e⟩=>by
 unfold Qua at h
 rw [e] at h
 cases h
section
variable {cf:CF} {ρ ρ1 ρ2:En}
end
section
variable {cf:CF} {ρ:En} {x:Xn} {α β:Type}
theorem Q2r {k:α→En→SO}:ofO (Out.xn x ρ:Out α) k=.xn x ρ:=rfl
theorem q_xn {k:En→SO}:(SO.xn x ρ).seq k=.xn x ρ:=rfl
noncomputable def yRev:PV→En→Out PV
 | .fz (.tup ts),ρ=>.ok (.fz (.tup ts.reverse)) ρ
 | _,_=>.no
theorem Qabp {a:E}:evE cf (.rev a) ρ=(evE cf a ρ).bind yRev:=by
 rw [evE]
 congr 1;funext r ρ1
 cases r with
 | fz t=>cases t <;> rfl
 | ow t=>rfl
 | sl i=>rfl
noncomputable def yXn (x:Xn):Option (List T)→FR
 | some fin=>.xn x fin
 | none=>.no
theorem Qsh {as:List Arg}:Qb1 as (.xn x ρ)=yXn x (Q1 as ρ):=by
 show (match Q1 as ρ with | some fin=>FR.xn x fin | none=>.no)=_
 cases Q1 as ρ <;> rfl
theorem Qmc {fin:List T}:yXn x (some fin)=.xn x fin:=rfl
noncomputable def Qzl (c:Nat) (rs:List PV) (ρ1:En):SO:=match rs with
 | [.fz (.int i)]=>if 6≤c∧c<9 then .xn ⟨c,[i]⟩ ρ1 else .no
 | [.fz (.str _)]=>if c<6 then .xn ⟨c,[]⟩ ρ1 else .no
 | [.fz (.int i),.fz (.int j)]=>if c=9 then .xn ⟨c,[i,j]⟩ ρ1 else .no
 | _=>.no
theorem Q2s {c:Nat} {es:Es}:exS cf (.raise c es) ρ=ofO (evA cf es ρ) (Qzl c):=by rw [exS];rfl
noncomputable def Q7t (h:Nat→List Int→Option T):SO→SO
 | .xn x ρ1=>match h x.c x.arg with
  | some t=>.rt (.fz t) ρ1
  | none=>.no
 | o=>o
theorem Qzm {i:Nat} {b:S} {h:Nat→List Int→Option T}:exS cf (.tryR i b h) ρ=Q7t h (exS cf b ρ):=by
 rw [exS]
 cases exS cf b ρ <;> rfl
theorem Qzn {h:Nat→List Int→Option T} {r:PV}:Q7t h (.rt r ρ)=.rt r ρ:=rfl
end
end L2
set_option maxHeartbeats 4000000
namespace My
open PySem L2
noncomputable def top (i:Nat):Stmt:=PySem.Challenge.pw_noughtways_k33_lines_lost_and_made.main.body.getD i (.Pass ⟨0,0,0,0⟩)
theorem Qea {x:Str} {st:Stmt} {p0:Str} (h:∀ (kV doc pm:Value) (an:Option Addr) (cdv ct:Value) (a0:Value),bindArgs (PySem.W.fnOf x x (Qa3 st) (Q9 st) (Qf st) .none kV doc pm an cdv ct) ⟨[a0],[]⟩=pure [(p0,a0)]):Q7 x st [p0]:=fun a b c d e f us hl=>match us,hl with | [a0],_=>h a b c d e f a0
theorem Qmd {x:Str} {st:Stmt} {p0 p1:Str} (h:∀ (kV doc pm:Value) (an:Option Addr) (cdv ct:Value) (a0 a1:Value),bindArgs (PySem.W.fnOf x x (Qa3 st) (Q9 st) (Qf st) .none kV doc pm an cdv ct) ⟨[a0,a1],[]⟩=pure [(p0,a0),(p1,a1)]):Q7 x st [p0,p1]:=fun a b c d e f us hl=>match us,hl with | [a0,a1],_=>h a b c d e f a0 a1
theorem bdN3 {x:Str} {st:Stmt} {p0 p1 p2:Str} (h:∀ (kV doc pm:Value) (an:Option Addr) (cdv ct:Value) (a0 a1 a2:Value),bindArgs (PySem.W.fnOf x x (Qa3 st) (Q9 st) (Qf st) .none kV doc pm an cdv ct) ⟨[a0,a1,a2],[]⟩=pure [(p0,a0),(p1,a1),(p2,a2)]):Q7 x st [p0,p1,p2]:=fun a b c d e f us hl=>match us,hl with | [a0,a1,a2],_=>h a b c d e f a0 a1 a2
noncomputable abbrev Qf5:Stmt:=top 14
theorem Qqr:FnScope ["thing"] ["thing"] (Qf Qf5):=⟨rfl,rfl,rfl,by decide +kernel,rfl,by decide +kernel,by decide +kernel⟩
theorem Qqs:Q7 "is_whole" Qf5 ["thing"]:=Qea fun _ _ _ _ _ _ _=>rfl
noncomputable abbrev Qi4:Stmt:=top 15
theorem Qv0:FnScope ["thing","size"] ["thing","size"] (Qf Qi4):=⟨rfl,rfl,rfl,by decide +kernel,rfl,by decide +kernel,by decide +kernel⟩
theorem Qv1:Q7 "is_row" Qi4 ["thing","size"]:=Qmd fun _ _ _ _ _ _ _ _=>rfl
noncomputable abbrev Qha:Stmt:=top 16
theorem Qsi:FnScope ["thing"] ["thing"] (Qf Qha):=⟨rfl,rfl,rfl,by decide +kernel,rfl,by decide +kernel,by decide +kernel⟩
theorem Qsj:Q7 "is_grid" Qha ["thing"]:=Qea fun _ _ _ _ _ _ _=>rfl
noncomputable abbrev Qek:Stmt:=top 17
theorem Qmx:FnScope ["thing"] ["thing"] (Qf Qek):=⟨rfl,rfl,rfl,by decide +kernel,rfl,by decide +kernel,by decide +kernel⟩
theorem Qmy:Q7 "need_table" Qek ["thing"]:=Qea fun _ _ _ _ _ _ _=>rfl
noncomputable abbrev Qe8:Stmt:=top 19
theorem Qoq:FnScope ["table","at"] ["table","at"] (Qf Qe8):=⟨rfl,rfl,rfl,by decide +kernel,rfl,by decide +kernel,by decide +kernel⟩
theorem Qor:Q7 "column_at" Qe8 ["table","at"]:=Qmd fun _ _ _ _ _ _ _ _=>rfl
noncomputable abbrev Qel:Stmt:=top 20
theorem Qmz:FnScope ["table"] ["table"] (Qf Qel):=⟨rfl,rfl,rfl,by decide +kernel,rfl,by decide +kernel,by decide +kernel⟩
theorem Qm0:Q7 "columns_of" Qel ["table"]:=Qea fun _ _ _ _ _ _ _=>rfl
noncomputable abbrev Qb8:Stmt:=top 21
theorem Qhp:FnScope ["row","column"] ["row","column"] (Qf Qb8):=⟨rfl,rfl,rfl,by decide +kernel,rfl,by decide +kernel,by decide +kernel⟩
theorem Qhq:Q7 "row_times_column" Qb8 ["row","column"]:=Qmd fun _ _ _ _ _ _ _ _=>rfl
noncomputable abbrev Qco:Stmt:=top 23
theorem Qcf:FnScope ["one","other","rest"] ["one","other"] (Qf Qco):=⟨rfl,rfl,rfl,by decide +kernel,rfl,by decide +kernel,by decide +kernel⟩
theorem Qi5:Q7 "shared_divisor" Qco ["one","other"]:=Qmd fun _ _ _ _ _ _ _ _=>rfl
noncomputable abbrev Qhb:Stmt:=top 24
theorem Qme:FnScope ["row","at"] ["row"] (Qf Qhb):=⟨rfl,rfl,rfl,by decide +kernel,rfl,by decide +kernel,by decide +kernel⟩
theorem Qsk:Q7 "lead_of" Qhb ["row"]:=Qea fun _ _ _ _ _ _ _=>rfl
noncomputable abbrev Qhc:Stmt:=top 25
theorem Qdm:FnScope ["row","lead","divisor","number"] ["row"] (Qf Qhc):=⟨rfl,rfl,rfl,by decide +kernel,rfl,by decide +kernel,by decide +kernel⟩
theorem Qsl:Q7 "line_of" Qhc ["row"]:=Qea fun _ _ _ _ _ _ _=>rfl
noncomputable abbrev Qe9:Stmt:=top 26
theorem Qos:FnScope ["size","at"] ["size","at"] (Qf Qe9):=⟨rfl,rfl,rfl,by decide +kernel,rfl,by decide +kernel,by decide +kernel⟩
theorem Qot:Q7 "unit_line" Qe9 ["size","at"]:=Qmd fun _ _ _ _ _ _ _ _=>rfl
noncomputable abbrev Qhd:Stmt:=top 27
theorem Qmf:FnScope ["row","step","lead"] ["row","step"] (Qf Qhd):=⟨rfl,rfl,rfl,by decide +kernel,rfl,by decide +kernel,by decide +kernel⟩
theorem Qsm:Q7 "cleared" Qhd ["row","step"]:=Qmd fun _ _ _ _ _ _ _ _=>rfl
noncomputable abbrev Qhe:Stmt:=top 28
theorem Qh8:FnScope ["row","steps","step"] ["row","steps"] (Qf Qhe):=⟨rfl,rfl,rfl,by decide +kernel,rfl,by decide +kernel,by decide +kernel⟩
theorem Qsn:Q7 "left_of" Qhe ["row","steps"]:=Qmd fun _ _ _ _ _ _ _ _=>rfl
noncomputable abbrev Qf6:Stmt:=top 29
theorem Qfa:FnScope ["rows","steps","row","line"] ["rows"] (Qf Qf6):=⟨rfl,rfl,rfl,by decide +kernel,rfl,by decide +kernel,by decide +kernel⟩
theorem Qqt:Q7 "steps_of" Qf6 ["rows"]:=Qea fun _ _ _ _ _ _ _=>rfl
noncomputable abbrev Qou:Stmt:=top 30
theorem Q2t:FnScope ["table"] ["table"] (Qf Qou):=⟨rfl,rfl,rfl,by decide +kernel,rfl,by decide +kernel,by decide +kernel⟩
theorem Q2u:Q7 "rank" Qou ["table"]:=Qea fun _ _ _ _ _ _ _=>rfl
noncomputable abbrev Qhf:Stmt:=top 31
theorem Qdn:FnScope ["steps","size","at","numbers","step","lead","known"] ["steps","size","at"] (Qf Qhf):=⟨rfl,rfl,rfl,by decide +kernel,rfl,by decide +kernel,by decide +kernel⟩
theorem Qso:Q7 "lost_at" Qhf ["steps","size","at"]:=bdN3 fun _ _ _ _ _ _ _ _ _=>rfl
noncomputable abbrev Qov:Stmt:=top 32
theorem Qkz:FnScope ["table","size","steps","leads"] ["table"] (Qf Qov):=⟨rfl,rfl,rfl,by decide +kernel,rfl,by decide +kernel,by decide +kernel⟩
theorem Q2v:Q7 "lost" Qov ["table"]:=Qea fun _ _ _ _ _ _ _=>rfl
noncomputable abbrev Qcr:Stmt:=top 34
theorem Qjq:FnScope ["size"] ["size"] (Qf Qcr):=⟨rfl,rfl,rfl,by decide +kernel,rfl,by decide +kernel,by decide +kernel⟩
theorem Qjr:Q7 "need_size_two" Qcr ["size"]:=Qea fun _ _ _ _ _ _ _=>rfl
noncomputable abbrev Qcs:Stmt:=top 35
theorem Qjs:FnScope ["table"] ["table"] (Qf Qcs):=⟨rfl,rfl,rfl,by decide +kernel,rfl,by decide +kernel,by decide +kernel⟩
theorem Qjt:Q7 "need_rank_one" Qcs ["table"]:=Qea fun _ _ _ _ _ _ _=>rfl
noncomputable abbrev Qfb:Stmt:=top 36
theorem Qow:FnScope ["table"] ["table"] (Qf Qfb):=⟨rfl,rfl,rfl,by decide +kernel,rfl,by decide +kernel,by decide +kernel⟩
theorem Qox:Q7 "lost_line" Qfb ["table"]:=Qea fun _ _ _ _ _ _ _=>rfl
noncomputable abbrev Qfc:Stmt:=top 37
theorem Qoy:FnScope ["table"] ["table"] (Qf Qfc):=⟨rfl,rfl,rfl,by decide +kernel,rfl,by decide +kernel,by decide +kernel⟩
theorem Qoz:Q7 "made_line" Qfc ["table"]:=Qea fun _ _ _ _ _ _ _=>rfl
noncomputable abbrev Qex:Stmt:=top 39
theorem Qqu:FnScope ["_law_script","_law_k"] ["_law_script","_law_k"] (Qf Qex):=⟨rfl,rfl,rfl,by decide +kernel,rfl,by decide +kernel,by decide +kernel⟩
theorem Qqv:Q7 "_law_cell" Qex ["_law_script","_law_k"]:=Qmd fun _ _ _ _ _ _ _ _=>rfl
noncomputable abbrev Qhg:Stmt:=top 40
theorem Qmg:FnScope ["_law_cell_here","_law_left"] ["_law_cell_here"] (Qf Qhg):=⟨rfl,rfl,rfl,by decide +kernel,rfl,by decide +kernel,by decide +kernel⟩
theorem Qsp:Q7 "_law_pen" Qhg ["_law_cell_here"]:=Qea fun _ _ _ _ _ _ _=>rfl
noncomputable abbrev Qf7:Stmt:=top 41
theorem Qdx:FnScope ["_law_pen_here","_law_many","_law_left","_law_found","_law_stir"] ["_law_pen_here","_law_many"] (Qf Qf7):=⟨rfl,rfl,rfl,by decide +kernel,rfl,by decide +kernel,by decide +kernel⟩
theorem Qqw:Q7 "_law_draw" Qf7 ["_law_pen_here","_law_many"]:=Qmd fun _ _ _ _ _ _ _ _=>rfl
noncomputable abbrev Qdy:Stmt:=top 42
theorem Qo0:FnScope ["_law_thing"] ["_law_thing"] (Qf Qdy):=⟨rfl,rfl,rfl,by decide +kernel,rfl,by decide +kernel,by decide +kernel⟩
theorem Qo1:Q7 "_law_whole" Qdy ["_law_thing"]:=Qea fun _ _ _ _ _ _ _=>rfl
noncomputable abbrev Qey:Stmt:=top 43
theorem Qdz:FnScope ["_law_e","_law_marks","_law_words"] ["_law_e"] (Qf Qey):=⟨rfl,rfl,rfl,by decide +kernel,rfl,by decide +kernel,by decide +kernel⟩
theorem Qqx:Q7 "_law_kind" Qey ["_law_e"]:=Qea fun _ _ _ _ _ _ _=>rfl
noncomputable abbrev Qfd:Stmt:=top 44
theorem Qbv:FnScope ["_law_pen_here","_law_size","_law_way","_law_rows","_law_row","_law_numbers","_law_column","_law_number"] ["_law_pen_here","_law_size","_law_way"] (Qf Qfd):=⟨rfl,rfl,rfl,by decide +kernel,rfl,by decide +kernel,by decide +kernel⟩
theorem Qo2:Q7 "_law_table" Qfd ["_law_pen_here","_law_size","_law_way"]:=bdN3 fun _ _ _ _ _ _ _ _ _=>rfl
noncomputable abbrev Qf8:Stmt:=top 45
theorem Qd0:FnScope ["_law_numbers","_law_found","_law_number","_law_other"] ["_law_numbers"] (Qf Qf8):=⟨rfl,rfl,rfl,by decide +kernel,rfl,by decide +kernel,by decide +kernel⟩
theorem Qqy:Q7 "_law_part" Qf8 ["_law_numbers"]:=Qea fun _ _ _ _ _ _ _=>rfl
noncomputable abbrev Qf9:Stmt:=top 46
theorem Qfe:FnScope ["_law_row","_law_part_here","_law_first"] ["_law_row"] (Qf Qf9):=⟨rfl,rfl,rfl,by decide +kernel,rfl,by decide +kernel,by decide +kernel⟩
theorem Qqz:Q7 "_law_line" Qf9 ["_law_row"]:=Qea fun _ _ _ _ _ _ _=>rfl
noncomputable abbrev Qhh:Stmt:=top 47
theorem Qsq:FnScope ["_law_row","_law_table_here"] ["_law_row","_law_table_here"] (Qf Qhh):=⟨rfl,rfl,rfl,by decide +kernel,rfl,by decide +kernel,by decide +kernel⟩
theorem Qsr:Q7 "_law_led" Qhh ["_law_row","_law_table_here"]:=Qmd fun _ _ _ _ _ _ _ _=>rfl
noncomputable abbrev Qdc:Stmt:=top 48
theorem Qcb:FnScope ["_law_pen_here","_law_column","_law_row"] ["_law_pen_here"] (Qf Qdc):=⟨rfl,rfl,rfl,by decide +kernel,rfl,by decide +kernel,by decide +kernel⟩
theorem Qkn:Q7 "_law_one_rank" Qdc ["_law_pen_here"]:=Qea fun _ _ _ _ _ _ _=>rfl
noncomputable abbrev Qcp:Stmt:=top 49
theorem Qdd:FnScope ["_law_pen_here","_law_some"] ["_law_pen_here"] (Qf Qcp):=⟨rfl,rfl,rfl,by decide +kernel,rfl,by decide +kernel,by decide +kernel⟩
theorem Qi6:Q7 "_law_whole_rank" Qcp ["_law_pen_here"]:=Qea fun _ _ _ _ _ _ _=>rfl
noncomputable abbrev Qhi:Stmt:=top 50
theorem Qga:FnScope ["_law_pen_here","_law_found","_law_turn","_law_way"] ["_law_pen_here"] (Qf Qhi):=⟨rfl,rfl,rfl,by decide +kernel,rfl,by decide +kernel,by decide +kernel⟩
theorem Qss:Q7 "_law_two" Qhi ["_law_pen_here"]:=Qea fun _ _ _ _ _ _ _=>rfl
noncomputable abbrev Qff:Stmt:=top 51
theorem Qo3:FnScope ["_law_table_here"] ["_law_table_here"] (Qf Qff):=⟨rfl,rfl,rfl,by decide +kernel,rfl,by decide +kernel,by decide +kernel⟩
theorem Qo4:Q7 "_law_worth" Qff ["_law_table_here"]:=Qea fun _ _ _ _ _ _ _=>rfl
noncomputable abbrev Qgb:Stmt:=top 52
theorem Qkf:FnScope ["_law_way","_law_table_here","_law_e"] ["_law_way","_law_table_here"] (Qf Qgb):=⟨rfl,rfl,rfl,by decide +kernel,rfl,by decide +kernel,by decide +kernel⟩
theorem Qq0:Q7 "_law_told" Qgb ["_law_way","_law_table_here"]:=Qmd fun _ _ _ _ _ _ _ _=>rfl
noncomputable abbrev Qem:Stmt:=top 53
theorem Qm1:FnScope ["_law_found"] ["_law_found"] (Qf Qem):=⟨rfl,rfl,rfl,by decide +kernel,rfl,by decide +kernel,by decide +kernel⟩
theorem Qm2:Q7 "_law_is_one" Qem ["_law_found"]:=Qea fun _ _ _ _ _ _ _=>rfl
noncomputable abbrev Qfg:Stmt:=top 54
theorem Qb9:FnScope ["_law_table_here","_law_word","_law_lost_here","_law_other","_law_made_here","_law_row","_law_there"] ["_law_table_here"] (Qf Qfg):=⟨rfl,rfl,rfl,by decide +kernel,rfl,by decide +kernel,by decide +kernel⟩
theorem Qo5:Q7 "_law_right" Qfg ["_law_table_here"]:=Qea fun _ _ _ _ _ _ _=>rfl
noncomputable abbrev Qkg:Stmt:=top 55
theorem Qh9:FnScope ["_law_script","_law_table_here","_law_cell_here","_law_pen_here","_law_often","_law_wide"] ["_law_script"] (Qf Qkg):=⟨rfl,rfl,rfl,by decide +kernel,rfl,by decide +kernel,by decide +kernel⟩
theorem Q7u:Q7 "law" Qkg ["_law_script"]:=Qea fun _ _ _ _ _ _ _=>rfl
theorem Qm3:PySem.bootBuiltins "ValueError" = some (.type "ValueError"):=by decide +kernel
theorem Q7v:PySem.bootBuiltins "abs" = some (.builtin "abs"):=by decide +kernel
theorem Qst:PySem.bootBuiltins "all" = some (.builtin "all"):=by decide +kernel
theorem Qub:PySem.bootBuiltins "bool" = some (.type "bool"):=by decide +kernel
theorem Qv2:PySem.bootBuiltins "divmod" = some (.builtin "divmod"):=by decide +kernel
theorem Qo6:PySem.bootBuiltins "int" = some (.type "int"):=by decide +kernel
theorem Q6:PySem.bootBuiltins "isinstance" = some (.builtin "isinstance"):=by decide +kernel
theorem Qcv:PySem.bootBuiltins "len" = some (.builtin "len"):=by decide +kernel
theorem Q2w:PySem.bootBuiltins "list" = some (.type "list"):=by decide +kernel
theorem Qsu:PySem.bootBuiltins "max" = some (.builtin "max"):=by decide +kernel
theorem Qv3:PySem.bootBuiltins "sorted" = some (.builtin "sorted"):=by decide +kernel
theorem Qzo:PySem.bootBuiltins "sum" = some (.builtin "sum"):=by decide +kernel
theorem Qbf:PySem.bootBuiltins "tuple" = some (.type "tuple"):=by decide +kernel
structure Txt (K:PySem.W.Frag) (mg:Str→Option Value):Prop where
 n_ValueError:mg "ValueError" = none
 n_abs:mg "abs" = none
 n_all:mg "all" = none
 n_bool:mg "bool" = none
 n_divmod:mg "divmod" = none
 n_int:mg "int" = none
 n_isinstance:mg "isinstance" = none
 n_len:mg "len" = none
 n_list:mg "list" = none
 n_max:mg "max" = none
 n_range:mg "range" = none
 n_sorted:mg "sorted" = none
 n_sum:mg "sum" = none
 n_tuple:mg "tuple" = none
 m_MOST_ROWS:∃ u,mg "MOST_ROWS" = some u∧RelV (.int (4)) u
 ex:Exs K mg
 i_TooGreat:Ini2 K (cad mg "NoughtError") (cad mg "TooGreat")
 k_kind:Dfn K mg "_law_kind" Qey
 k_whole:Dfn K mg "_law_whole" Qdy
noncomputable def Qq1:List Str:=["table","way","set","rest","line","row","tables","below","text","great"]
noncomputable def Quc:Nat→List Int→Option T:=fun c _=>(Qq1[c]?).map fun w=>.tup [.str w,.non]
noncomputable abbrev Qcc:Stmt:=Q06 (top 11) 0
theorem Qju:FnScope ["self","many","most"] ["self","many","most"] (Qf Qcc):=⟨rfl,rfl,rfl,by decide +kernel,rfl,by decide +kernel,by decide +kernel⟩
theorem Qjv:∀ (kV doc pm:Value) (an:Option Addr) (cdv ct:Value) (us:List Value),us.length=3→bindArgs (PySem.W.fnOf "__init__" "TooGreat.__init__" (Qa3 Qcc) (Q9 Qcc) (Qf Qcc) .none kV doc pm an cdv ct) ⟨us,[]⟩=pure ((["self","many","most"]:List Str).zip us):=fun _ _ _ _ _ _ us hl=>match us,hl with | [_,_,_],_=>rfl
noncomputable abbrev Qsv:L2.S:=(.ret (.and (.isI (.var 0) "int") (.not (.isI (.var 0) "bool"))))
noncomputable abbrev Qia:L2.Df:=⟨"is_whole",Qf5,["thing"],["thing"],⟨1,1,Qsv⟩,fun _=>true,fun _=>true⟩
noncomputable abbrev Qmh:L2.S:=(.seq (.ite (.or (.not (.isI (.var 0) "tuple")) (.cmp .ne (.bi .len (.cons (.var 0) .nil)) (.var 1))) (.ret (.bl false)) .nil)
 (.ret (.bi .all (.cons (.comp (.seq (.var 0)) [none] (.nm 0) .nil (.call 0 (.cons (.var 0) .nil))) .nil))))
noncomputable abbrev Qmi:L2.Df:=⟨"is_row",Qi4,["thing","size"],["thing","size"],⟨2,2,Qmh⟩,fun _=>true,fun _=>true⟩
noncomputable abbrev Qjw:L2.S:=(.seq (.ite (.or (.not (.isI (.var 0) "tuple")) (.or (.cmp .lt (.bi .len (.cons (.var 0) .nil)) (.int 1)) (.cmp .gt (.bi .len (.cons (.var 0) .nil)) (.int (4))))) (.ret (.bl false)) .nil)
 (.ret (.bi .all (.cons (.comp (.seq (.var 0)) [none,some 0] (.nm 0) .nil (.call 1 (.cons (.var 0) (.cons (.bi .len (.cons (.var 1) .nil)) .nil)))) .nil))))
noncomputable abbrev Qjx:L2.Df:=⟨"is_grid",Qha,["thing"],["thing"],⟨1,1,Qjw⟩,fun _=>true,fun _=>true⟩
noncomputable abbrev Qgc:L2.S:=(.ite (.not (.call 2 (.cons (.var 0) .nil))) (.raise 0 (.cons (.str "this is no table") .nil)) .nil)
noncomputable abbrev Qde:L2.Df:=⟨"need_table",Qek,["thing"],["thing"],⟨1,1,Qgc⟩,fun _=>true,fun _=>true⟩
noncomputable abbrev Qgw:L2.S:=(.ret (.bi .tup (.cons (.comp (.seq (.var 0)) [none,some 1] (.nm 0) .nil (.ix (.var 0) (.var 1))) .nil)))
noncomputable abbrev Qgx:L2.Df:=⟨"column_at",Qe8,["table","at"],["table","at"],⟨2,2,Qgw⟩,fun _=>true,fun _=>true⟩
noncomputable abbrev Qgd:L2.S:=(.ret (.bi .tup (.cons (.comp (.rng1 (.bi .len (.cons (.var 0) .nil))) [none,some 0] (.nm 0) .nil (.call 4 (.cons (.var 1) (.cons (.var 0) .nil)))) .nil)))
noncomputable abbrev Qge:L2.Df:=⟨"columns_of",Qel,["table"],["table"],⟨1,1,Qgd⟩,fun _=>true,fun _=>true⟩
noncomputable abbrev Qcw:L2.S:=(.ret (.bi .sum (.cons (.comp (.rng1 (.bi .len (.cons (.var 0) .nil))) [none,some 0,some 1] (.nm 0) .nil (.bin .mul (.ix (.var 1) (.var 0)) (.ix (.var 2) (.var 0)))) .nil)))
noncomputable abbrev Qcx:L2.Df:=⟨"row_times_column",Qb8,["row","column"],["row","column"],⟨2,2,Qcw⟩,fun _=>true,fun _=>true⟩
noncomputable abbrev Qdo:L2.S:=(.seq (.whl (.cmp .ne (.var 1) (.int 0)) (.seq (.setF 2 (.bin .mod (.var 0) (.var 1)))
 (.seq (.setF 0 (.var 1))
 (.setF 1 (.var 2)))))
 (.ret (.bi .abs (.cons (.var 0) .nil))))
noncomputable abbrev Qdp:L2.Df:=⟨"shared_divisor",Qco,["one","other","rest"],["one","other"],⟨2,3,Qdo⟩,fun _=>true,fun _=>true⟩
noncomputable abbrev Qhj:L2.S:=(.seq (.for_ (.rng1 (.bi .len (.cons (.var 0) .nil))) (.nm 1) (.ite (.cmp .ne (.ix (.var 0) (.var 1)) (.int 0)) (.ret (.var 1)) .nil))
 (.ret .non))
noncomputable abbrev Qdq:L2.Df:=⟨"lead_of",Qhb,["row","at"],["row"],⟨1,2,Qhj⟩,fun _=>true,fun _=>true⟩
noncomputable abbrev Qjy:L2.S:=(.seq (.setF 1 (.call 8 (.cons (.var 0) .nil)))
 (.seq (.ite (.cmp .isn (.var 1) .non) (.ret .non) .nil)
 (.seq (.setF 2 (.int 0))
 (.seq (.for_ (.seq (.var 0)) (.nm 3) (.setF 2 (.call 7 (.cons (.var 2) (.cons (.var 3) .nil)))))
 (.seq (.ite (.cmp .lt (.ix (.var 0) (.var 1)) (.int 0)) (.setF 2 (.neg (.var 2))) .nil)
 (.ret (.bi .tup (.cons (.comp (.seq (.var 0)) [none,some 2] (.nm 0) .nil (.bin .fdv (.var 0) (.var 1))) .nil))))))))
noncomputable abbrev Qhk:L2.Df:=⟨"line_of",Qhc,["row","lead","divisor","number"],["row"],⟨1,4,Qjy⟩,fun _=>true,fun _=>true⟩
noncomputable abbrev Qq2:L2.S:=(.ret (.bi .tup (.cons (.comp (.rng1 (.var 0)) [none,some 1] (.nm 0) .nil (.bi .int (.cons (.cmp .eq (.var 0) (.var 1)) .nil))) .nil)))
noncomputable abbrev Qgy:L2.Df:=⟨"unit_line",Qe9,["size","at"],["size","at"],⟨2,2,Qq2⟩,fun _=>true,fun _=>true⟩
noncomputable abbrev Qnz:L2.S:=(.seq (.setF 2 (.call 8 (.cons (.var 1) .nil)))
 (.ret (.bi .tup (.cons (.comp (.rng1 (.bi .len (.cons (.var 0) .nil))) [none,some 0,some 1,some 2] (.nm 0) .nil (.bin .sub (.bin .mul (.ix (.var 1) (.var 0)) (.ix (.var 2) (.var 3))) (.bin .mul (.ix (.var 2) (.var 0)) (.ix (.var 1) (.var 3))))) .nil))))
noncomputable abbrev Qjz:L2.Df:=⟨"cleared",Qhd,["row","step","lead"],["row","step"],⟨2,3,Qnz⟩,fun _=>true,fun _=>true⟩
noncomputable abbrev Qfw:L2.S:=(.seq (.for_ (.seq (.var 1)) (.nm 2) (.setF 0 (.call 11 (.cons (.var 0) (.cons (.var 2) .nil)))))
 (.ret (.var 0)))
noncomputable abbrev Qj0:L2.Df:=⟨"left_of",Qhe,["row","steps","step"],["row","steps"],⟨2,3,Qfw⟩,fun _=>true,fun _=>true⟩
noncomputable abbrev Qmj:L2.S:=(.seq (.set 1 (.lst .nil))
 (.seq (.for_ (.seq (.var 0)) (.nm 2) (.seq (.look 1 (.setF 3 (.call 9 (.cons (.call 12 (.cons (.var 2) (.cons (.var 1) .nil))) .nil))))
 (.ite (.cmp .isnn (.var 3) .non) (.app 1 (.var 3)) .nil)))
 (.ret (.var 1))))
noncomputable abbrev Qez:L2.Df:=⟨"steps_of",Qf6,["rows","steps","row","line"],["rows"],⟨1,4,Qmj⟩,fun _=>true,fun _=>true⟩
noncomputable abbrev Qsw:L2.S:=(.seq (.expr (.call 3 (.cons (.var 0) .nil)))
 (.ret (.bi .len (.cons (.call 13 (.cons (.var 0) .nil)) .nil))))
noncomputable abbrev Qsx:L2.Df:=⟨"rank",Qou,["table"],["table"],⟨1,1,Qsw⟩,fun _=>true,fun _=>true⟩
noncomputable abbrev Qn0:L2.S:=(.seq (.set 3 (.bi .list (.cons (.call 10 (.cons (.var 1) (.cons (.var 2) .nil))) .nil)))
 (.seq (.for_ (.seq (.srk 8 (.var 0))) (.nm 4) (.seq (.setF 5 (.call 8 (.cons (.var 4) .nil)))
 (.seq (.look 3 (.setF 6 (.call 6 (.cons (.var 4) (.cons (.var 3) .nil)))))
 (.seq (.set 3 (.compS 3 [none,some 4,some 5] (.nm 0) .nil (.bin .mul (.var 0) (.ix (.var 1) (.var 2)))))
 (.put 3 (.var 5) (.neg (.var 6)))))))
 (.ret (.call 9 (.cons (.bi .tup (.cons (.var 3) .nil)) .nil)))))
noncomputable abbrev Qj1:L2.Df:=⟨"lost_at",Qhf,["steps","size","at","numbers","step","lead","known"],["steps","size","at"],⟨3,7,Qn0⟩,fun _=>true,fun _=>true⟩
noncomputable abbrev Qsy:L2.S:=(.seq (.expr (.call 3 (.cons (.var 0) .nil)))
 (.seq (.setF 1 (.bi .len (.cons (.var 0) .nil)))
 (.seq (.setF 2 (.call 13 (.cons (.call 5 (.cons (.var 0) .nil)) .nil)))
 (.seq (.setF 3 (.comp (.seq (.var 2)) [none] (.nm 0) .nil (.call 8 (.cons (.var 0) .nil))))
 (.ret (.comp (.rng1 (.var 1)) [none,some 2,some 1,some 3] (.nm 0) (.cons (.cmp .nin (.var 0) (.var 3)) .nil) (.call 15 (.cons (.var 1) (.cons (.var 2) (.cons (.var 0) .nil))))))))))
noncomputable abbrev Qsz:L2.Df:=⟨"lost",Qov,["table","size","steps","leads"],["table"],⟨1,4,Qsy⟩,fun _=>true,fun _=>true⟩
noncomputable abbrev Qko:L2.S:=(.seq (.ite (.cmp .gt (.var 0) (.int 2)) (.raise 9 (.cons (.var 0) (.cons (.int 2) .nil))) .nil)
 (.ite (.cmp .lt (.var 0) (.int 2)) (.raise 0 (.cons (.str "this is no table of size 2") .nil)) .nil))
noncomputable abbrev Qeb:L2.Df:=⟨"need_size_two",Qcr,["size"],["size"],⟨1,1,Qko⟩,fun _=>true,fun _=>true⟩
noncomputable abbrev Qec:L2.S:=(.seq (.expr (.call 3 (.cons (.var 0) .nil)))
 (.seq (.expr (.call 17 (.cons (.bi .len (.cons (.var 0) .nil)) .nil)))
 (.ite (.cmp .ne (.call 14 (.cons (.var 0) .nil)) (.int 1)) (.raise 4 (.cons (.str "this is no table of rank 1") .nil)) .nil)))
noncomputable abbrev Qct:L2.Df:=⟨"need_rank_one",Qcs,["table"],["table"],⟨1,1,Qec⟩,fun _=>true,fun _=>true⟩
noncomputable abbrev Qd1:L2.S:=(.seq (.expr (.call 18 (.cons (.var 0) .nil)))
 (.ret (.ix (.call 16 (.cons (.var 0) .nil)) (.int 0))))
noncomputable abbrev Qgz:L2.Df:=⟨"lost_line",Qfb,["table"],["table"],⟨1,1,Qd1⟩,fun _=>true,fun _=>true⟩
noncomputable abbrev Qd2:L2.S:=(.seq (.expr (.call 18 (.cons (.var 0) .nil)))
 (.ret (.ix (.call 13 (.cons (.var 0) .nil)) (.int 0))))
noncomputable abbrev Qg0:L2.Df:=⟨"made_line",Qfc,["table"],["table"],⟨1,1,Qd2⟩,fun _=>true,fun _=>true⟩
noncomputable abbrev Qj2:L2.S:=(.seq (.setF 1 (.bi .max (.cons (.var 0) (.cons (.bin .sub (.int 0) (.var 0)) .nil))))
 (.ret (.lst (.cons (.var 1) (.cons (.bi .int (.cons (.cmp .ge (.var 1) (.bin .pow (.int 10) (.int 18))) .nil)) .nil)))))
noncomputable abbrev Qj3:L2.Df:=⟨"_law_pen",Qhg,["_law_cell_here","_law_left"],["_law_cell_here"],⟨1,2,Qj2⟩,fun _=>true,fun _=>true⟩
noncomputable abbrev Qe0:L2.S:=(.seq (.ite (.cmp .eq (.ix (.var 0) (.int 1)) (.int 1)) (.seq (.unp [2,3] (.bi .dvm (.cons (.ix (.var 0) (.int 0)) (.cons (.var 1) .nil))))
 (.seq (.put 0 (.int 0) (.var 2))
 (.ret (.var 3)))) .nil)
 (.seq (.setF 4 (.bin .mod (.bin .mul (.bin .add (.bin .mod (.ix (.var 0) (.int 0)) (.int 2147483647)) (.int 40503)) (.int 69621)) (.int 2147483629)))
 (.seq (.setF 4 (.bin .mod (.bin .add (.bin .mul (.var 4) (.var 4)) (.int 7817)) (.int 2147483587)))
 (.seq (.put 0 (.int 0) (.bin .mod (.bin .add (.bin .mul (.var 4) (.int 48271)) (.int 11)) (.int 2147483629)))
 (.ret (.bin .mod (.bin .fdv (.ix (.var 0) (.int 0)) (.int 32)) (.var 1)))))))
noncomputable abbrev Qa4:L2.Df:=⟨"_law_draw",Qf7,["_law_pen_here","_law_many","_law_left","_law_found","_law_stir"],["_law_pen_here","_law_many"],⟨2,5,Qe0⟩,fun _=>true,fun _=>true⟩
noncomputable abbrev Qq3:L2.S:=(.ret (.and (.isI (.var 0) "int") (.not (.isI (.var 0) "bool"))))
noncomputable abbrev Qg1:L2.Df:=⟨"_law_whole",Qdy,["_law_thing"],["_law_thing"],⟨1,1,Qq3⟩,fun _=>true,fun _=>true⟩
noncomputable abbrev Qg2:L2.S:=(.seq (.set 3 (.lst .nil))
 (.seq (.for_ (.rng1 (.var 1)) (.nm 4) (.seq (.set 5 (.lst .nil))
 (.seq (.for_ (.rng1 (.var 1)) (.nm 6) (.seq (.setF 7 (.bi .max (.cons (.int 0) (.cons (.bin .sub (.call 22 (.cons (.var 0) (.cons (.int 5) .nil))) (.int 2)) .nil))))
 (.seq (.ite (.cmp .eq (.var 2) (.int 1)) (.setF 7 (.bin .sub (.call 22 (.cons (.var 0) (.cons (.int 5) .nil))) (.int 2))) .nil)
 (.seq (.ite (.cmp .eq (.var 2) (.int 2)) (.setF 7 (.bin .sub (.call 22 (.cons (.var 0) (.cons (.bin .add (.bin .mul (.int 2) (.bin .pow (.int 10) (.int 11))) (.int 1)) .nil))) (.bin .pow (.int 10) (.int 11)))) .nil)
 (.app 5 (.var 7))))))
 (.app 3 (.bi .tup (.cons (.var 5) .nil))))))
 (.ret (.bi .tup (.cons (.var 3) .nil)))))
noncomputable abbrev Qfh:L2.Df:=⟨"_law_table",Qfd,["_law_pen_here","_law_size","_law_way","_law_rows","_law_row","_law_numbers","_law_column","_law_number"],["_law_pen_here","_law_size","_law_way"],⟨3,8,Qg2⟩,fun _=>true,fun _=>true⟩
noncomputable abbrev Qib:L2.S:=(.seq (.setF 1 (.int 0))
 (.seq (.for_ (.seq (.var 0)) (.nm 2) (.seq (.setF 3 (.bi .max (.cons (.var 2) (.cons (.bin .sub (.int 0) (.var 2)) .nil))))
 (.whl (.cmp .gt (.var 3) (.int 0)) (.par 1 3 (.var 3) (.bin .mod (.var 1) (.var 3))))))
 (.ret (.var 1))))
noncomputable abbrev Qic:L2.Df:=⟨"_law_part",Qf8,["_law_numbers","_law_found","_law_number","_law_other"],["_law_numbers"],⟨1,4,Qib⟩,fun _=>true,fun _=>true⟩
noncomputable abbrev Qid:L2.S:=(.seq (.setF 1 (.call 25 (.cons (.var 0) .nil)))
 (.seq (.ite (.cmp .eq (.var 1) (.int 0)) (.ret .non) .nil)
 (.seq (.setF 2 (.ix (.comp (.seq (.var 0)) [none] (.nm 0) (.cons (.cmp .ne (.var 0) (.int 0)) .nil) (.var 0)) (.int 0)))
 (.seq (.ite (.cmp .lt (.var 2) (.int 0)) (.setF 1 (.bin .sub (.int 0) (.var 1))) .nil)
 (.ret (.bi .tup (.cons (.comp (.seq (.var 0)) [none,some 1] (.nm 0) .nil (.bin .fdv (.var 0) (.var 1))) .nil)))))))
noncomputable abbrev Qe1:L2.Df:=⟨"_law_line",Qf9,["_law_row","_law_part_here","_law_first"],["_law_row"],⟨1,3,Qid⟩,fun _=>true,fun _=>true⟩
noncomputable abbrev Qj4:L2.S:=(.ret (.bi .tup (.cons (.comp (.rng1 (.bi .len (.cons (.var 0) .nil))) [none,some 0,some 1] (.nm 0) .nil (.bi .sum (.cons (.comp (.rng1 (.bi .len (.cons (.var 1) .nil))) [none,some 1,some 0,some 2] (.nm 0) .nil (.bin .mul (.ix (.var 1) (.var 0)) (.ix (.ix (.var 3) (.var 0)) (.var 2)))) .nil))) .nil)))
noncomputable abbrev Qhl:L2.Df:=⟨"_law_led",Qhh,["_law_row","_law_table_here"],["_law_row","_law_table_here"],⟨2,2,Qj4⟩,fun _=>true,fun _=>true⟩
noncomputable abbrev Qe2:L2.S:=(.seq (.setF 1 (.tup (.cons (.bin .sub (.call 22 (.cons (.var 0) (.cons (.int 5) .nil))) (.int 2)) (.cons (.bin .add (.int 1) (.call 22 (.cons (.var 0) (.cons (.int 2) .nil)))) .nil))))
 (.seq (.setF 2 (.tup (.cons (.bin .add (.int 1) (.call 22 (.cons (.var 0) (.cons (.int 2) .nil)))) (.cons (.bin .sub (.call 22 (.cons (.var 0) (.cons (.int 5) .nil))) (.int 2)) .nil))))
 (.seq (.ite (.cmp .eq (.call 22 (.cons (.var 0) (.cons (.int 2) .nil))) (.int 0)) (.unp [1,2] (.tup (.cons (.rev (.var 1)) (.cons (.rev (.var 2)) .nil)))) .nil)
 (.ret (.bi .tup (.cons (.comp (.seq (.var 1)) [none,some 2] (.nm 0) .nil (.bi .tup (.cons (.comp (.seq (.var 1)) [none,some 0] (.nm 0) .nil (.bin .mul (.var 1) (.var 0))) .nil))) .nil))))))
noncomputable abbrev Qdf:L2.Df:=⟨"_law_one_rank",Qdc,["_law_pen_here","_law_column","_law_row"],["_law_pen_here"],⟨1,3,Qe2⟩,fun _=>true,fun _=>true⟩
noncomputable abbrev Qdr:L2.S:=(.seq (.setF 1 (.lst (.cons (.tup (.cons (.tup (.cons (.int 0) (.cons (.int 1) .nil))) (.cons (.tup (.cons (.int 1) (.cons (.int 0) .nil))) .nil))) (.cons (.tup (.cons (.tup (.cons (.int 0) (.cons (.neg (.int 1)) .nil))) (.cons (.tup (.cons (.int 1) (.cons (.int 0) .nil))) .nil))) (.cons (.tup (.cons (.tup (.cons (.int 1) (.cons (.int 0) .nil))) (.cons (.tup (.cons (.int 0) (.cons (.neg (.int 1)) .nil))) .nil))) (.cons (.tup (.cons (.tup (.cons (.int 0) (.cons (.neg (.int 1)) .nil))) (.cons (.tup (.cons (.int 1) (.cons (.int 1) .nil))) .nil))) (.cons (.tup (.cons (.tup (.cons (.int 1) (.cons (.int 0) .nil))) (.cons (.tup (.cons (.int 0) (.cons (.int 1) .nil))) .nil))) .nil)))))))
 (.seq (.setF 1 (.bin .add (.var 1) (.lst (.cons (.tup (.cons (.tup (.cons (.int 1) (.cons (.int 1) .nil))) (.cons (.tup (.cons (.int 0) (.cons (.int 1) .nil))) .nil))) (.cons (.tup (.cons (.tup (.cons (.int 1) (.cons (.int 0) .nil))) (.cons (.tup (.cons (.neg (.int 1)) (.cons (.int 1) .nil))) .nil))) (.cons (.tup (.cons (.tup (.cons (.int 2) (.cons (.int 0) .nil))) (.cons (.tup (.cons (.int 0) (.cons (.int 1) .nil))) .nil))) (.cons (.tup (.cons (.tup (.cons (.int 1) (.cons (.int 1) .nil))) (.cons (.tup (.cons (.int 1) (.cons (.int 0) .nil))) .nil))) (.cons (.tup (.cons (.tup (.cons (.int 0) (.cons (.int 1) .nil))) (.cons (.tup (.cons (.neg (.int 1)) (.cons (.int 1) .nil))) .nil))) .nil))))))))
 (.ret (.ix (.var 1) (.call 22 (.cons (.var 0) (.cons (.int 10) .nil)))))))
noncomputable abbrev Qds:L2.Df:=⟨"_law_whole_rank",Qcp,["_law_pen_here","_law_some"],["_law_pen_here"],⟨1,2,Qdr⟩,fun _=>true,fun _=>true⟩
noncomputable abbrev Qj5:L2.S:=(.seq (.set 1 (.lst .nil))
 (.seq (.for_ (.rng1 (.bin .add (.int 1) (.call 22 (.cons (.var 0) (.cons (.int 3) .nil))))) (.nm 2) (.seq (.setF 3 (.call 22 (.cons (.var 0) (.cons (.int 8) .nil))))
 (.ite (.cmp .lt (.var 3) (.int 3)) (.app 1 (.call 28 (.cons (.var 0) .nil))) (.ite (.cmp .lt (.var 3) (.int 7)) (.app 1 (.call 29 (.cons (.var 0) .nil))) (.app 1 (.call 24 (.cons (.var 0) (.cons (.int 2) (.cons (.call 22 (.cons (.var 0) (.cons (.int 2) .nil))) .nil)))))))))
 (.ret (.var 1))))
noncomputable abbrev Qj6:L2.Df:=⟨"_law_two",Qhi,["_law_pen_here","_law_found","_law_turn","_law_way"],["_law_pen_here"],⟨1,4,Qj5⟩,fun _=>true,fun _=>true⟩
noncomputable abbrev Qg3:L2.S:=(.ret (.bin .sub (.bin .mul (.ix (.ix (.var 0) (.int 0)) (.int 0)) (.ix (.ix (.var 0) (.int 1)) (.int 1))) (.bin .mul (.ix (.ix (.var 0) (.int 0)) (.int 1)) (.ix (.ix (.var 0) (.int 1)) (.int 0)))))
noncomputable abbrev Qg4:L2.Df:=⟨"_law_worth",Qff,["_law_table_here"],["_law_table_here"],⟨1,1,Qg3⟩,fun _=>true,fun _=>true⟩
noncomputable abbrev Qe3:L2.S:=(.tryR 2 (.ret (.tup (.cons (.str "told") (.cons (.ite (.cmp .eq (.var 0) (.int 0)) (.call 19 (.cons (.var 1) .nil)) (.call 20 (.cons (.var 1) .nil))) .nil)))) Quc)
noncomputable abbrev Qcy:L2.Df:=⟨"_law_told",Qgb,["_law_way","_law_table_here","_law_e"],["_law_way","_law_table_here"],⟨2,3,Qe3⟩,fun _=>true,fun _=>true⟩
noncomputable abbrev Qgf:L2.S:=(.seq (.ite (.or (.not (.isI (.var 0) "tuple")) (.or (.cmp .ne (.bi .len (.cons (.var 0) .nil)) (.int 2)) (.not (.bi .all (.cons (.comp (.seq (.var 0)) [none] (.nm 0) .nil (.call 23 (.cons (.var 0) .nil))) .nil))))) (.ret (.bl false)) .nil)
 (.ret (.cmp .eq (.call 26 (.cons (.var 0) .nil)) (.var 0))))
noncomputable abbrev Qen:L2.Df:=⟨"_law_is_one",Qem,["_law_found"],["_law_found"],⟨1,1,Qgf⟩,fun _=>true,fun _=>true⟩
noncomputable abbrev Qkh:L2.S:=(.seq (.ite (.or (.cmp .ne (.call 31 (.cons (.var 0) .nil)) (.int 0)) (.cmp .eq (.comp (.seq (.var 0)) [none] (.nm 0) (.cons (.cmp .ne (.var 0) (.tup (.cons (.int 0) (.cons (.int 0) .nil)))) .nil) (.var 0)) (.lst .nil))) (.ret (.and (.cmp .eq (.call 32 (.cons (.int 0) (.cons (.var 0) .nil))) (.tup (.cons (.str "line") (.cons .non .nil)))) (.cmp .eq (.call 32 (.cons (.int 1) (.cons (.var 0) .nil))) (.tup (.cons (.str "line") (.cons .non .nil)))))) .nil)
 (.seq (.unp [1,2] (.call 32 (.cons (.int 0) (.cons (.var 0) .nil))))
 (.seq (.unp [3,4] (.call 32 (.cons (.int 1) (.cons (.var 0) .nil))))
 (.seq (.ite (.or (.cmp .ne (.var 1) (.str "told")) (.or (.cmp .ne (.var 3) (.str "told")) (.or (.not (.call 33 (.cons (.var 2) .nil))) (.not (.call 33 (.cons (.var 4) .nil)))))) (.ret (.bl false)) .nil)
 (.seq (.ite (.cmp .ne (.call 27 (.cons (.var 2) (.cons (.var 0) .nil))) (.tup (.cons (.int 0) (.cons (.int 0) .nil)))) (.ret (.bl false)) .nil)
 (.seq (.for_ (.seq (.lst (.cons (.tup (.cons (.int 1) (.cons (.int 0) .nil))) (.cons (.tup (.cons (.int 0) (.cons (.int 1) .nil))) (.cons (.tup (.cons (.int 1) (.cons (.int 1) .nil))) (.cons (.tup (.cons (.int 2) (.cons (.neg (.int 3)) .nil))) .nil)))))) (.nm 5) (.seq (.setF 6 (.call 26 (.cons (.call 27 (.cons (.var 5) (.cons (.var 0) .nil))) .nil)))
 (.ite (.or (.and (.cmp .isn (.var 6) .non) (.cmp .ne (.call 26 (.cons (.var 5) .nil)) (.var 2))) (.and (.cmp .isnn (.var 6) .non) (.cmp .ne (.var 6) (.var 4)))) (.ret (.bl false)) .nil)))
 (.ret (.cmp .eq (.call 32 (.cons (.int 0) (.cons (.var 0) .nil))) (.tup (.cons (.var 1) (.cons (.var 2) .nil)))))))))))
noncomputable abbrev Qd3:L2.Df:=⟨"_law_right",Qfg,["_law_table_here","_law_word","_law_lost_here","_law_other","_law_made_here","_law_row","_law_there"],["_law_table_here"],⟨1,7,Qkh⟩,fun _=>true,fun _=>true⟩
noncomputable abbrev ds:List L2.Df:=[Qia,Qmi,Qjx,Qde,Qgx,Qge,Qcx,Qdp,Qdq,Qhk,Qgy,Qjz,Qj0,Qez,Qsx,Qj1,Qsz,Qeb,Qct,Qgz,Qg0,Qj3,Qa4,Qg1,Qfh,Qic,Qe1,Qhl,Qdf,Qds,Qj6,Qg4,Qcy,Qen,Qd3]
section
variable {P:Program} {w:World} {K:PySem.W.Frag} {mg:Str→Option Value} {base:Heap}
noncomputable def XcAt (mg:Str→Option Value) (H:Hp) (a:Addr) (i:Nat):Prop:=∃ x dx,Qbg[i]?=some x∧H a=some (Qrz a (.ref (cad mg x)) dx)∧∀ d,dx=some d→∃ fs,H d=some (.xd fs)
noncomputable def Qud (mg:Str→Option Value):Sp:=fun vs H Q _=>∃ a i x,vs=[.ref a]∧XcAt mg H a i∧Qq1[i]?=some x∧∀ H',Same H H'→Q (.str x) H'
theorem Qfo {H:Hp} {a:Addr} {i:Nat} {y:Str} {Q:VK} (ex:Exs K mg) (j:Nat) (h:XcAt mg H a i) (hy:Qbg[j]?=some y) (k:Q (.bl (i==j)) H):Qog K [.ref a,.ref (cad mg y)] H Q:=by
 obtain ⟨x,dx,hx,ha,hd⟩:=h
 exact ⟨a,_,dx,_,_,rfl,ha,hd,ex.xc i hx,.inl ⟨_,rfl⟩,ex.kit i j hx hy,k⟩
theorem Q7w {H:Hp} {a:Addr} {i:Nat} {Q:VK} (ex:Exs K mg) (h:XcAt mg H a i) (k:Q (.bl true) H):Qog K [.ref a,.ty "ValueError"] H Q:=by
 obtain ⟨x,dx,hx,ha,hd⟩:=h
 exact ⟨a,_,dx,_,_,rfl,ha,hd,ex.xc i hx,.inr ⟨_,rfl⟩,ex.val i hx,k⟩
theorem XcAt.mono {H H':Hp} {a:Addr} {i:Nat} (h:XcAt mg H a i) (s:Same H H'):XcAt mg H' a i:=by
 obtain ⟨x,dx,hx,ha,hd⟩:=h
 exact ⟨x,dx,hx,s _ _ ha,fun d e=>let ⟨fs,q⟩:=hd d e;⟨fs,s _ _ q⟩⟩
noncomputable def Qhm (i:Nat):List Bool:=[i==0,i==1,i==2,i==3]++[i==4,i==5,i==6,i==7]++[i==8,i==9]
theorem Qzp:∀ i,i<10→(Qhm i).count true=1∧(Qhm i)[i]?=some true∧∀ m,m<i→(Qhm i)[m]?≠some true:=by decide
theorem Qo7 (d:Dfn K mg "_law_kind" Qey) (tx:Txt K mg):Q6p P w K mg base "_law_kind" ["_law_e"] 1 (Qud mg):=by
 refine Q6q (k:=0) d Qdz Qqx (fun vs H Q E h=>?_) (fun f cdv A outer s H vs Q E hr h=>?_)
 ·obtain ⟨a,i,x,rfl,_⟩:=h
  rfl
 ·obtain ⟨a,i,x,rfl,xa,hi,q⟩:=h
  refine ⟨_,(Qeg (Qay (i:=1) Qdz.nd (Qpz (Q5 (Qip (Qc7 K rfl) tx.n_isinstance Q6 (Q5 (Qcm 0) (Q5 (Qht (tx.ex.m 0 _ rfl)) Qbk))) (Q5 (Qip (Qc7 K rfl) tx.n_isinstance Q6 (Q5 (Qcm 0) (Q5 (Qht (tx.ex.m 1 _ rfl)) Qbk))) (Q5 (Qip (Qc7 K rfl) tx.n_isinstance Q6 (Q5 (Qcm 0) (Q5 (Qht (tx.ex.m 2 _ rfl)) Qbk))) (Q5 (Qip (Qc7 K rfl) tx.n_isinstance Q6 (Q5 (Qcm 0) (Q5 (Qht (tx.ex.m 3 _ rfl)) Qbk))) Qbk))))))
   (Qeg (Qay (i:=1) Qdz.nd (Q1h (Qth K rfl) (Qcm 1) (Qpz (Q5 (Qip (Qc7 K rfl) tx.n_isinstance Q6 (Q5 (Qcm 0) (Q5 (Qht (tx.ex.m 4 _ rfl)) Qbk))) (Q5 (Qip (Qc7 K rfl) tx.n_isinstance Q6 (Q5 (Qcm 0) (Q5 (Qht (tx.ex.m 5 _ rfl)) Qbk))) (Q5 (Qip (Qc7 K rfl) tx.n_isinstance Q6 (Q5 (Qcm 0) (Q5 (Qht (tx.ex.m 6 _ rfl)) Qbk))) (Q5 (Qip (Qc7 K rfl) tx.n_isinstance Q6 (Q5 (Qcm 0) (Q5 (Qht (tx.ex.m 7 _ rfl)) Qbk))) Qbk)))))))
   (Qeg (Qay (i:=1) Qdz.nd (Q1h (Qth K rfl) (Qcm 1) (Qpz (Q5 (Qip (Qc7 K rfl) tx.n_isinstance Q6 (Q5 (Qcm 0) (Q5 (Qht (tx.ex.m 8 _ rfl)) Qbk))) (Q5 (Qip (Qc7 K rfl) tx.n_isinstance Q6 (Q5 (Qcm 0) (Q5 (Qht (tx.ex.m 9 _ rfl)) Qbk))) Qbk)))))
   (Qeg (Qxq (Q9l (Q3v (Qxm (Qxl (Qip (Qc7 K rfl) tx.n_isinstance Q6 (Q5 (Qcm 0) (Q5 (Qpy "ValueError" tx.n_ValueError Qm3) Qbk))))) (Qxn (Qru Q9t (Qp0 K rfl PySem.F.plainAttrs_list PySem.F.slot_list_count PySem.F.type_list_count (Qx3 K rfl) (Qcm 1) (Q5 Qxk Qbk)) Qlf (Qwz _))))) (Qh2 (Qlg Q3u)) Qrw)
   (Qeg (Qay (i:=2) Qdz.nd (Q9n (Qfk Qhs (Qfk Qhs (Qfk Qhs (Qfk Qhs (Qfk Qhs (Qfk Qhs (Qfk Qhs (Qfk Qhs (Qfk Qhs (Qfk Qhs Q9m))))))))))))
   (Qh2 (Qlg (Q59 (Q6d K rfl) (Qcm 2) (Qp0 K rfl PySem.F.plainAttrs_list PySem.F.slot_list_index PySem.F.type_list_index (Qx4 K rfl) (Qcm 1) (Q5 Qxk Qbk)))))))))),?_⟩
  have hi10:i<10:=(List.getElem?_eq_some_iff.mp hi).1
  obtain ⟨mc,mi,mn⟩:=Qzp i hi10
  refine ⟨_,rfl,Qfo tx.ex 0 xa rfl ⟨_,rfl,Qfo tx.ex 1 xa rfl ⟨_,rfl,Qfo tx.ex 2 xa rfl ⟨_,rfl,Qfo tx.ex 3 xa rfl ⟨by show 4≤sizeLine;decide,fun l1 n1=>?_⟩⟩⟩⟩⟩
  have xa1:=xa.mono (Same.upd (o:=.lst [.bl (i==0),.bl (i==1),.bl (i==2),.bl (i==3)]) n1)
  refine ⟨_,rfl,_,rfl,Qfo tx.ex 4 xa1 rfl ⟨_,rfl,Qfo tx.ex 5 xa1 rfl ⟨_,rfl,Qfo tx.ex 6 xa1 rfl ⟨_,rfl,Qfo tx.ex 7 xa1 rfl ⟨by show 4≤sizeLine;decide,fun l2 n2=>?_⟩⟩⟩⟩⟩
  have n12:l1≠l2:=Qbw Qp n2
  have S2:=Same.upd (o:=.lst [.bl (i==4),.bl (i==5),.bl (i==6),.bl (i==7)]) n2
  refine .inr (.inl ⟨l1,l2,_,_,rfl,rfl,by rw [Qz n12,Qp],Qp,by show 4+4≤sizeLine;decide,fun l3 n3=>?_⟩)
  have S3:=S2.trans (Same.upd (o:=.lst ([.bl (i==0),.bl (i==1),.bl (i==2),.bl (i==3)]++[.bl (i==4),.bl (i==5),.bl (i==6),.bl (i==7)])) n3)
  have xa3:=xa1.mono S3
  refine ⟨_,rfl,_,rfl,Qfo tx.ex 8 xa3 rfl ⟨_,rfl,Qfo tx.ex 9 xa3 rfl ⟨by show 2≤sizeLine;decide,fun l4 n4=>?_⟩⟩⟩
  have n34:l3≠l4:=Qbw Qp n4
  have S4:=S3.trans (Same.upd (o:=.lst [.bl (i==8),.bl (i==9)]) n4)
  refine .inr (.inl ⟨l3,l4,_,_,rfl,rfl,by rw [Qz n34,Qp],Qp,by show 8+2≤sizeLine;decide,fun l5 n5=>?_⟩)
  have S5:=S4.trans (Same.upd (o:=.lst ([.bl (i==0),.bl (i==1),.bl (i==2),.bl (i==3)]++[.bl (i==4),.bl (i==5),.bl (i==6),.bl (i==7)]++[.bl (i==8),.bl (i==9)])) n5)
  have xa5:=xa1.mono S5
  generalize hH5:upd _ l5 _=H5 at xa5 S5 ⊢
  have e5:H5 l5=some (.lst ((Qhm i).map V.bl)):=by rw [←hH5,Qp];rfl
  have S50:=(Same.upd (o:=.lst [.bl (i==0),.bl (i==1),.bl (i==2),.bl (i==3)]) n1).trans S5
  refine ⟨_,rfl,Q7w tx.ex xa5 ⟨_,rfl,Q88 ?_⟩⟩
  refine ⟨_,rfl,.inl ⟨rfl,_,SqL.of e5⟩,l5,Qhm i,true,rfl,rfl,e5,rfl,_,rfl,?_⟩
  rw [mc]
  refine Q88 ?_
  intro v6 H6 s6 r6
  obtain ⟨l6,ws,rfl,e6,i6⟩:=r6.lst_inv
  obtain ⟨n6,e6⟩:=Qle e6
  refine ⟨_,rfl,_,rfl,.inl ⟨rfl,_,SqL.of (s6 _ _ e5)⟩,l5,Qhm i,true,i,rfl,rfl,s6 _ _ e5,by show 10≤1000;decide,mi,mn,?_⟩
  have ht:(Qq1.map T.str)[i]?=some (.str x):=by rw [List.getElem?_map,hi];rfl
  obtain ⟨v,hv,iv⟩:=IsL.getT (ts:=Qq1.map T.str) i6 ht
  have:v=.str x:=by unfold Is at iv;exact iv
  subst this
  exact .inl ⟨l6,_,_,_,rfl,rfl,SqL.of e6,Qfz hv,q H6 (S50.trans s6)⟩
theorem Qabr {H:Hp} {a:Addr} {c:Nat} {arg:List Int} (h:ExAt mg H a c arg):XcAt mg H a c:=by
 obtain ⟨nm,dx,hn,ha,hd⟩:=h
 refine ⟨nm,dx,hn,ha,fun d e=>?_⟩
 match arg,hd with
 | [],hd=>exact nomatch (hd.symm.trans e)
 | [_],⟨_,e',q⟩=>cases e'.symm.trans e;exact ⟨_,q⟩
 | [_,_],⟨_,e',q⟩=>cases e'.symm.trans e;exact ⟨_,q⟩
theorem Q2x {H H':Hp} {p:Addr} (s:Same H H') (h:H' p=none):H p=none:=by
 cases e:H p with
 | none=>rfl
 | some o=>rw [s _ _ e] at h;cases h
theorem Qzq (tx:Txt K mg) {D:Ends} {σ:St} {H:Hp} {v n:Nat} (z:Q7o mg v n Quc D σ H) :
  Q0o (Q3r (Qgp (Qm5 (Qud mg) [] E0 (Qgp (Qmq v) Qpq)) (Qgp (tC V.non) Qpq))) D σ H:=by
 obtain ⟨a,c,arg,t,hl,hs,xa,e,q⟩:=z
 unfold Quc at e
 cases hx:Qq1[c]? with
 | none=>rw [hx] at e;cases e
 | some x =>
  rw [hx] at e
  cases e
  refine ⟨_,hs,a,c,x,rfl,Qabr xa,hx,fun H2 s2=>⟨by show 2≤sizeLine;decide,fun p hp=>?_⟩⟩
  exact q _ _ (s2.trans (Same.upd hp)) (.inr ⟨_,[.str x,.non],p,rfl,by show 2≤1000;decide,rfl,rfl,Q2x s2 hp,Qp⟩)
theorem Qs0 (tx:Txt K mg):Qak P w K mg base ds Qia:=fun cf n R f cdv A outer s H E hc h1 co pz hr =>
 (Qy (Qax (Qyh (Ql0 tx.n_isinstance Q6 (Qe 0) (Qpy "int" tx.n_int Qo6)) (Qyi (Q4a (Ql0 tx.n_isinstance Q6 (Qe 0) (Qpy "bool" tx.n_bool Qub)))))))
theorem Qzr (tx:Txt K mg):Qak P w K mg base ds Qmi:=fun cf n R f cdv A outer s H E hc h1 co pz hr =>
 (Qn (Qd5 (t_w (Qlq (Qhw (Qfm (Ql0 tx.n_isinstance Q6 (Qe 0) (Qpy "tuple" tx.n_tuple Qbf)))) (Qit (Qjn hr.units (Qei (Qep K rfl) (Qc9 K) tx.n_len Qcv (Qa (Qe 0) Qg)) (Qe 1))))) (Qy (Qax Qqb)) Qci)
  (Qy (Qax (Qei (Qxr K rfl) (Qr8 K) tx.n_all Qst (Qa (Qbz ["number"] [none] rfl (Qbx rfl (Qe 0)) (fun _ _ _=>(Qaf (Qad (i:=0) (show List.Nodup (["number"]:List PySem.Str) by decide +kernel)))) (fun _ _ _=>Qcd) (fun _ _ _=>(Qr (hc 0 Qia rfl) Q0 hr (Qa (Qe 0) Qg)))) Qg)))))
theorem Qv4 (tx:Txt K mg):Qak P w K mg base ds Qjx:=fun cf n R f cdv A outer s H E hc h1 co pz hr =>
 (Qn (Qd5 (t_w (Qlq (Qhw (Qfm (Ql0 tx.n_isinstance Q6 (Qe 0) (Qpy "tuple" tx.n_tuple Qbf)))) (Qlq (Qvv (Qei (Qep K rfl) (Qc9 K) tx.n_len Qcv (Qa (Qe 0) Qg)) Qh) (Qit (Q7k (Qei (Qep K rfl) (Qc9 K) tx.n_len Qcv (Qa (Qe 0) Qg)) (Q7j tx.m_MOST_ROWS)))))) (Qy (Qax Qqb)) Qci)
  (Qy (Qax (Qei (Qxr K rfl) (Qr8 K) tx.n_all Qst (Qa (Qbz ["row","thing"] [none,some 0] rfl (Qbx rfl (Qe 0)) (fun _ _ _=>(Qaf (Qad (i:=0) (show List.Nodup (["row","thing"]:List PySem.Str) by decide +kernel)))) (fun _ _ _=>Qcd) (fun _ _ _=>(Qr (hc 1 Qmi rfl) Q0 hr (Qa (Qe 0) (Qa (Qei (Qep K rfl) (Qc9 K) tx.n_len Qcv (Qa (Qe 1) Qg)) Qg))))) Qg)))))
theorem Qo8 (tx:Txt K mg):Qak P w K mg base ds Qde:=fun cf n R f cdv A outer s H E hc h1 co pz hr =>
 (Qy (Qd5 (Qhw (Qfm (Qr (hc 2 Qjx rfl) pz hr (Qa (Qe 0) Qg)))) (Qy (Ql1 0 pz rfl tx.ex rfl (by decide) (Qa Qka Qg))) Qci))
theorem Qq4 (tx:Txt K mg):Qak P w K mg base ds Qgx:=fun cf n R f cdv A outer s H E hc h1 co pz hr =>
 (Qy (Qax (Qdw (Qce K rfl) (Qda K) tx.n_tuple Qbf (Qa (Qbz ["row","at"] [none,some 1] rfl (Qbx rfl (Qe 0)) (fun _ _ _=>(Qaf (Qad (i:=0) (show List.Nodup (["row","at"]:List PySem.Str) by decide +kernel)))) (fun _ _ _=>Qcd) (fun _ _ _=>(Qc4 rfl (Qe 0) (Qe 1)))) Qg))))
theorem Qo9 (tx:Txt K mg):Qak P w K mg base ds Qge:=fun cf n R f cdv A outer s H E hc h1 co pz hr =>
 (Qy (Qax (Qdw (Qce K rfl) (Qda K) tx.n_tuple Qbf (Qa (Qbz ["at","table"] [none,some 0] rfl (Qeu tx.n_range (Qei (Qep K rfl) (Qc9 K) tx.n_len Qcv (Qa (Qe 0) Qg))) (fun _ _ _=>(Qaf (Qad (i:=0) (show List.Nodup (["at","table"]:List PySem.Str) by decide +kernel)))) (fun _ _ _=>Qcd) (fun _ _ _=>(Qr (hc 4 Qgx rfl) Q0 hr (Qa (Qe 1) (Qa (Qe 0) Qg))))) Qg))))
theorem Qie (tx:Txt K mg):Qak P w K mg base ds Qcx:=fun cf n R f cdv A outer s H E hc h1 co pz hr =>
 (Qy (Qax (Qei (Q30 K rfl) (Qyn K) tx.n_sum Qzo (Qa (Qbz ["k","row","column"] [none,some 0,some 1] rfl (Qeu tx.n_range (Qei (Qep K rfl) (Qc9 K) tx.n_len Qcv (Qa (Qe 0) Qg))) (fun _ _ _=>(Qaf (Qad (i:=0) (show List.Nodup (["k","row","column"]:List PySem.Str) by decide +kernel)))) (fun _ _ _=>Qcd) (fun _ _ _=>(Qft (Qc4 rfl (Qe 1) (Qe 0)) (Qc4 rfl (Qe 2) (Qe 0))))) Qg))))
theorem Qj7 (tx:Txt K mg):Qak P w K mg base ds Qdp:=fun cf n R f cdv A outer s H E hc h1 co pz hr =>
 (Qn (Q4h (Qjn hr.units (Qe 1) Qh) (Qn (Qaw (Qay (i:=2) Qcf.nd (Qlz (Qe 0) (Qe 1))))
  (Qn (Qaw (Qay (i:=0) Qcf.nd (Qe 1)))
  (Qy (Qaw (Qay (i:=1) Qcf.nd (Qe 2)))))))
  (Qy (Qax (Qei Q9y Q7b tx.n_abs Q7v (Qa (Qe 0) Qg)))))
theorem Qv5 (tx:Txt K mg):Qak P w K mg base ds Qdq:=fun cf n R f cdv A outer s H E hc h1 co pz hr =>
 (Qn (Qgm rfl (Qeu tx.n_range (Qei (Qep K rfl) (Qc9 K) tx.n_len Qcv (Qa (Qe 0) Qg))) (Qaf (Qad (i:=1) Qme.nd)) (Qy (Qd5 (Qjn hr.units (Qc4 rfl (Qe 0) (Qe 1)) Qh) (Qy (Qax (Qe 1))) Qci)))
  (Qy (Qax Qis)))
theorem Qv6 (tx:Txt K mg):Qak P w K mg base ds Qhk:=fun cf n R f cdv A outer s H E hc h1 co pz hr =>
 (Qn (Qaw (Qay (i:=1) Qdm.nd (Qr (hc 8 Qdq rfl) pz hr (Qa (Qe 0) Qg))))
  (Qn (Qd5 (Q4i (Qe 1) Qis) (Qy (Qax Qis)) Qci)
  (Qn (Qaw (Qay (i:=2) Qdm.nd Qh))
  (Qn (Qgm rfl (Qbx rfl (Qe 0)) (Qaf (Qad (i:=3) Qdm.nd)) (Qy (Qaw (Qay (i:=2) Qdm.nd (Qr (hc 7 Qdp rfl) Q0 hr (Qa (Qe 2) (Qa (Qe 3) Qg)))))))
  (Qn (Qd5 (Qvv (Qc4 rfl (Qe 0) (Qe 1)) Qh) (Qy (Qaw (Qay (i:=2) Qdm.nd (Qhv (Qe 2))))) Qci)
  (Qy (Qax (Qdw (Qce K rfl) (Qda K) tx.n_tuple Qbf (Qa (Qbz ["number","divisor"] [none,some 2] rfl (Qbx rfl (Qe 0)) (fun _ _ _=>(Qaf (Qad (i:=0) (show List.Nodup (["number","divisor"]:List PySem.Str) by decide +kernel)))) (fun _ _ _=>Qcd) (fun _ _ _=>(Qyy (Qe 0) (Qe 1)))) Qg)))))))))
theorem Qq5 (tx:Txt K mg):Qak P w K mg base ds Qgy:=fun cf n R f cdv A outer s H E hc h1 co pz hr =>
 (Qy (Qax (Qdw (Qce K rfl) (Qda K) tx.n_tuple Qbf (Qa (Qbz ["k","at"] [none,some 1] rfl (Qeu tx.n_range (Qe 0)) (fun _ _ _=>(Qaf (Qad (i:=0) (show List.Nodup (["k","at"]:List PySem.Str) by decide +kernel)))) (fun _ _ _=>Qcd) (fun _ _ _=>(Qdw Qxs Qyo tx.n_int Qo6 (Qa (Qyz hr.units (Qe 0) (Qe 1)) Qg)))) Qg))))
theorem Qv7 (tx:Txt K mg):Qak P w K mg base ds Qjz:=fun cf n R f cdv A outer s H E hc h1 co pz hr =>
 (Qn (Qaw (Qay (i:=2) Qmf.nd (Qr (hc 8 Qdq rfl) pz hr (Qa (Qe 1) Qg))))
  (Qy (Qax (Qdw (Qce K rfl) (Qda K) tx.n_tuple Qbf (Qa (Qbz ["k","row","step","lead"] [none,some 0,some 1,some 2] rfl (Qeu tx.n_range (Qei (Qep K rfl) (Qc9 K) tx.n_len Qcv (Qa (Qe 0) Qg))) (fun _ _ _=>(Qaf (Qad (i:=0) (show List.Nodup (["k","row","step","lead"]:List PySem.Str) by decide +kernel)))) (fun _ _ _=>Qcd) (fun _ _ _=>(Qhx (Qft (Qc4 rfl (Qe 1) (Qe 0)) (Qc4 rfl (Qe 2) (Qe 3))) (Qft (Qc4 rfl (Qe 2) (Qe 0)) (Qc4 rfl (Qe 1) (Qe 3)))))) Qg)))))
theorem Qv8 (tx:Txt K mg):Qak P w K mg base ds Qj0:=fun cf n R f cdv A outer s H E hc h1 co pz hr =>
 (Qn (Qgm rfl (Qbx rfl (Qe 1)) (Qaf (Qad (i:=2) Qh8.nd)) (Qy (Qaw (Qay (i:=0) Qh8.nd (Qr (hc 11 Qjz rfl) Q0 hr (Qa (Qe 0) (Qa (Qe 2) Qg)))))))
  (Qy (Qax (Qe 0))))
theorem Qs1 (tx:Txt K mg):Qak P w K mg base ds Qez:=fun cf n R f cdv A outer s H E hc h1 co pz hr =>
 (Qn (Qlx (Qay (i:=1) Qfa.nd (Qgk Qg)))
  (Qn (Qgm rfl (Qbx rfl (Qe 0)) (Qaf (Qad (i:=2) Qfa.nd)) (Qn (Qy2 (i:=1) (Qaw (Qay (i:=3) Qfa.nd (Qr (hc 9 Qhk rfl) Q0 hr (Qa (Qr (hc 12 Qj0 rfl) Q0 hr (Qa (Qe 2) (Qa (Qe 1) Qg))) Qg)))))
  (Qy (Qd5 (Qy0 (Qe 3) Qis) (Qy (Qno (Qh3 (Qp0 K rfl PySem.F.plainAttrs_list PySem.F.slot_list_append PySem.F.type_list_append Qfq (Qcm 1) (Q5 (Qe 3) Qbk))))) Qci))))
  (Qy (Qax (Qe 1)))))
theorem Q7x (tx:Txt K mg):Qak P w K mg base ds Qsx:=fun cf n R f cdv A outer s H E hc h1 co pz hr =>
 (Qn (Qjo (Qr (hc 3 Qde rfl) pz hr (Qa (Qe 0) Qg)))
  (Qy (Qax (Qei (Qep K rfl) (Qc9 K) tx.n_len Qcv (Qa (Qr (hc 13 Qez rfl) pz hr (Qa (Qe 0) Qg)) Qg)))))
theorem Qv9 (tx:Txt K mg):Qak P w K mg base ds Qj1:=fun cf n R f cdv A outer s H E hc h1 co pz hr =>
 (Qn (Qlx (Qay (i:=3) Qdn.nd (Qdw (Q6h K rfl) (Q12 K) tx.n_list Q2w (Qa (Qr (hc 10 Qgy rfl) pz hr (Qa (Qe 1) (Qa (Qe 2) Qg))) Qg))))
  (Qn (Qgm rfl (Qbx rfl (Qaba (h1.2 8 Qdq rfl) h1.1 hr (Qe 0) tx.n_sorted Qv3)) (Qaf (Qad (i:=4) Qdn.nd)) (Qn (Qaw (Qay (i:=5) Qdn.nd (Qr (hc 8 Qdq rfl) Q0 hr (Qa (Qe 4) Qg))))
  (Qn (Qy2 (i:=3) (Qaw (Qay (i:=6) Qdn.nd (Qr (hc 6 Qcx rfl) Q0 hr (Qa (Qe 4) (Qa (Qe 3) Qg))))))
  (Qn (Qlx (Q2f (K:=K) ["number","step","lead"] [none,some 4,some 5] rfl (Qxp K rfl (Qcm 3)) (fun _ _ _=>(Qaf (Qad (i:=0) (show List.Nodup (["number","step","lead"]:List PySem.Str) by decide +kernel)))) (fun _ _ _=>Qcd) (fun _ _ _=>(Qft (Qe 0) (Qc4 rfl (Qe 1) (Qe 2)))) (Qad (i:=3) Qdn.nd)))
  (Qy (Qyv (Qlh (Qhv (Qe 6)) (Qrv (Qcm 3) (Qe 5)))))))))
  (Qy (Qax (Qr (hc 9 Qhk rfl) pz hr (Qa (Qdw (Qce K rfl) (Qda K) tx.n_tuple Qbf (Qa (Qe 3) Qg)) Qg))))))
theorem Q7y (tx:Txt K mg):Qak P w K mg base ds Qsz:=fun cf n R f cdv A outer s H E hc h1 co pz hr =>
 (Qn (Qjo (Qr (hc 3 Qde rfl) pz hr (Qa (Qe 0) Qg)))
  (Qn (Qaw (Qay (i:=1) Qkz.nd (Qei (Qep K rfl) (Qc9 K) tx.n_len Qcv (Qa (Qe 0) Qg))))
  (Qn (Qaw (Qay (i:=2) Qkz.nd (Qr (hc 13 Qez rfl) pz hr (Qa (Qr (hc 5 Qge rfl) pz hr (Qa (Qe 0) Qg)) Qg))))
  (Qn (Qaw (Qay (i:=3) Qkz.nd (Qbz ["step"] [none] rfl (Qbx rfl (Qe 2)) (fun _ _ _=>(Qaf (Qad (i:=0) (show List.Nodup (["step"]:List PySem.Str) by decide +kernel)))) (fun _ _ _=>Qcd) (fun _ _ _=>(Qr (hc 8 Qdq rfl) Q0 hr (Qa (Qe 0) Qg))))))
  (Qy (Qax (Qbz ["at","steps","size","leads"] [none,some 2,some 1,some 3] rfl (Qeu tx.n_range (Qe 1)) (fun _ _ _=>(Qaf (Qad (i:=0) (show List.Nodup (["at","steps","size","leads"]:List PySem.Str) by decide +kernel)))) (fun _ _ _=>(Qsb (Qabd hr.units (Qe 0) (Qe 3)))) (fun _ _ _=>(Qr (hc 15 Qj1 rfl) Q0 hr (Qa (Qe 1) (Qa (Qe 2) (Qa (Qe 0) Qg))))))))))))
theorem Qkp (tx:Txt K mg):Qak P w K mg base ds Qeb:=fun cf n R f cdv A outer s H E hc h1 co pz hr =>
 (Qn (Qd5 (Q7k (Qe 0) Qh) (Qy (Qy6 pz rfl tx.ex tx.i_TooGreat hr rfl (Qa (Qe 0) (Qa Qh Qg)))) Qci)
  (Qy (Qd5 (Qvv (Qe 0) Qh) (Qy (Ql1 0 pz rfl tx.ex rfl (by decide) (Qa Qka Qg))) Qci)))
theorem Qkq (tx:Txt K mg):Qak P w K mg base ds Qct:=fun cf n R f cdv A outer s H E hc h1 co pz hr =>
 (Qn (Qjo (Qr (hc 3 Qde rfl) pz hr (Qa (Qe 0) Qg)))
  (Qn (Qjo (Qr (hc 17 Qeb rfl) pz hr (Qa (Qei (Qep K rfl) (Qc9 K) tx.n_len Qcv (Qa (Qe 0) Qg)) Qg)))
  (Qy (Qd5 (Qjn hr.units (Qr (hc 14 Qsx rfl) pz hr (Qa (Qe 0) Qg)) Qh) (Qy (Ql1 4 pz rfl tx.ex rfl (by decide) (Qa Qka Qg))) Qci))))
theorem Qq6 (tx:Txt K mg):Qak P w K mg base ds Qgz:=fun cf n R f cdv A outer s H E hc h1 co pz hr =>
 (Qn (Qjo (Qr (hc 18 Qct rfl) pz hr (Qa (Qe 0) Qg)))
  (Qy (Qax (Qc4 rfl (Qr (hc 16 Qsz rfl) pz hr (Qa (Qe 0) Qg)) Qh))))
theorem Qq7 (tx:Txt K mg):Qak P w K mg base ds Qg0:=fun cf n R f cdv A outer s H E hc h1 co pz hr =>
 (Qn (Qjo (Qr (hc 18 Qct rfl) pz hr (Qa (Qe 0) Qg)))
  (Qy (Qax (Qc4 rfl (Qr (hc 13 Qez rfl) pz hr (Qa (Qe 0) Qg)) Qh))))
theorem Qwa (tx:Txt K mg):Qak P w K mg base ds Qj3:=fun cf n R f cdv A outer s H E hc h1 co pz hr =>
 (Qn (Qaw (Qay (i:=1) Qmg.nd (Qei (Qr9 K rfl rfl) (Qsa K) tx.n_max Qsu (Qa (Qe 0) (Qa (Qhx Qh (Qe 0)) Qg)))))
  (Qy (Qax (Qgk (Qa (Qe 1) (Qa (Qdw Qxs Qyo tx.n_int Qo6 (Qa (g_ge (Qe 1) (Qtz Qh Qh)) Qg)) Qg))))))
theorem Qs2 (tx:Txt K mg):Qak P w K mg base ds Qa4:=fun cf n R f cdv A outer s H E hc h1 co pz hr =>
 (Qn (Qd5 (Qse hr.units (Qc4 rfl (Qe 0) Qh) Qh) (Qn (Qtx (Qlh (Qei Q90 Q7c tx.n_divmod Qv2 (Qa (Qc4 rfl (Qe 0) Qh) (Qa (Qe 1) Qg))) (Qok (is:=[2,3]) (Qoe K rfl rfl (Qe4 (Qad (i:=2) Qdx.nd) (Qe4 (Qad (i:=3) Qdx.nd) Qod))) rfl)))
  (Qn (Qyv (Qlh (Qe 2) (Qrv (Qcm 0) Qh)))
  (Qy (Qax (Qe 3))))) Qci)
  (Qn (Qaw (Qay (i:=4) Qdx.nd (Qlz (Qft (Qiz rfl (Qlz (Qc4 rfl (Qe 0) Qh) Qh) Qh) Qh) Qh)))
  (Qn (Qaw (Qay (i:=4) Qdx.nd (Qlz (Qiz rfl (Qft (Qe 4) (Qe 4)) Qh) Qh)))
  (Qn (Qyv (Qlh (Qlz (Qiz rfl (Qft (Qe 4) Qh) Qh) Qh) (Qrv (Qcm 0) Qh)))
  (Qy (Qax (Qlz (Qyy (Qc4 rfl (Qe 0) Qh) Qh) (Qe 1))))))))
theorem Qq8 (tx:Txt K mg):Qak P w K mg base ds Qg1:=fun cf n R f cdv A outer s H E hc h1 co pz hr =>
 (Qy (Qax (Qyh (Ql0 tx.n_isinstance Q6 (Qe 0) (Qpy "int" tx.n_int Qo6)) (Qyi (Q4a (Ql0 tx.n_isinstance Q6 (Qe 0) (Qpy "bool" tx.n_bool Qub)))))))
theorem Qq9 (tx:Txt K mg):Qak P w K mg base ds Qfh:=fun cf n R f cdv A outer s H E hc h1 co pz hr =>
 (Qn (Qlx (Qay (i:=3) Qbv.nd (Qgk Qg)))
  (Qn (Qgm rfl (Qeu tx.n_range (Qe 1)) (Qaf (Qad (i:=4) Qbv.nd)) (Qn (Qlx (Qay (i:=5) Qbv.nd (Qgk Qg)))
  (Qn (Qgm rfl (Qeu tx.n_range (Qe 1)) (Qaf (Qad (i:=6) Qbv.nd)) (Qn (Qaw (Qay (i:=7) Qbv.nd (Qei (Qr9 K rfl rfl) (Qsa K) tx.n_max Qsu (Qa Qh (Qa (Qhx (Qr (hc 22 Qa4 rfl) Q0 hr (Qa (Qe 0) (Qa Qh Qg))) Qh) Qg)))))
  (Qn (Qd5 (Qse hr.units (Qe 2) Qh) (Qy (Qaw (Qay (i:=7) Qbv.nd (Qhx (Qr (hc 22 Qa4 rfl) Q0 hr (Qa (Qe 0) (Qa Qh Qg))) Qh)))) Qci)
  (Qn (Qd5 (Qse hr.units (Qe 2) Qh) (Qy (Qaw (Qay (i:=7) Qbv.nd (Qhx (Qr (hc 22 Qa4 rfl) Q0 hr (Qa (Qe 0) (Qa (Qiz rfl (Qft Qh (Qtz Qh Qh)) Qh) Qg))) (Qtz Qh Qh))))) Qci)
  (Qy (Qno (Qh3 (Qp0 K rfl PySem.F.plainAttrs_list PySem.F.slot_list_append PySem.F.type_list_append Qfq (Qcm 5) (Q5 (Qe 7) Qbk)))))))))
  (Qy (Qno (Qh3 (Qp0 K rfl PySem.F.plainAttrs_list PySem.F.slot_list_append PySem.F.type_list_append Qfq (Qcm 3) (Q5 (Qdw (Qce K rfl) (Qda K) tx.n_tuple Qbf (Qa (Qe 5) Qg)) Qbk))))))))
  (Qy (Qax (Qdw (Qce K rfl) (Qda K) tx.n_tuple Qbf (Qa (Qe 3) Qg))))))
theorem Qs3 (tx:Txt K mg):Qak P w K mg base ds Qic:=fun cf n R f cdv A outer s H E hc h1 co pz hr =>
 (Qn (Qaw (Qay (i:=1) Qd0.nd Qh))
  (Qn (Qgm rfl (Qbx rfl (Qe 0)) (Qaf (Qad (i:=2) Qd0.nd)) (Qn (Qaw (Qay (i:=3) Qd0.nd (Qei (Qr9 K rfl rfl) (Qsa K) tx.n_max Qsu (Qa (Qe 2) (Qa (Qhx Qh (Qe 2)) Qg)))))
  (Qy (Q4h (Q7k (Qe 3) Qh) (Qy (Qaa5 (Q9q 1 3 Qd0.nd (by decide) (Qa (Qe 3) (Qa (Qlz (Qe 1) (Qe 3)) Qg)))))))))
  (Qy (Qax (Qe 1)))))
theorem Qs4 (tx:Txt K mg):Qak P w K mg base ds Qe1:=fun cf n R f cdv A outer s H E hc h1 co pz hr =>
 (Qn (Qaw (Qay (i:=1) Qfe.nd (Qr (hc 25 Qic rfl) pz hr (Qa (Qe 0) Qg))))
  (Qn (Qd5 (Qse hr.units (Qe 1) Qh) (Qy (Qax Qis)) Qci)
  (Qn (Qaw (Qay (i:=2) Qfe.nd (Qc4 rfl (Qbz ["_law_number"] [none] rfl (Qbx rfl (Qe 0)) (fun _ _ _=>(Qaf (Qad (i:=0) (show List.Nodup (["_law_number"]:List PySem.Str) by decide +kernel)))) (fun _ _ _=>(Qsb (Qjn hr.units (Qe 0) Qh))) (fun _ _ _=>(Qe 0))) Qh)))
  (Qn (Qd5 (Qvv (Qe 2) Qh) (Qy (Qaw (Qay (i:=1) Qfe.nd (Qhx Qh (Qe 1))))) Qci)
  (Qy (Qax (Qdw (Qce K rfl) (Qda K) tx.n_tuple Qbf (Qa (Qbz ["_law_number","_law_part_here"] [none,some 1] rfl (Qbx rfl (Qe 0)) (fun _ _ _=>(Qaf (Qad (i:=0) (show List.Nodup (["_law_number","_law_part_here"]:List PySem.Str) by decide +kernel)))) (fun _ _ _=>Qcd) (fun _ _ _=>(Qyy (Qe 0) (Qe 1)))) Qg))))))))
theorem Qwb (tx:Txt K mg):Qak P w K mg base ds Qhl:=fun cf n R f cdv A outer s H E hc h1 co pz hr =>
 (Qy (Qax (Qdw (Qce K rfl) (Qda K) tx.n_tuple Qbf (Qa (Qbz ["_law_at","_law_row","_law_table_here"] [none,some 0,some 1] rfl (Qeu tx.n_range (Qei (Qep K rfl) (Qc9 K) tx.n_len Qcv (Qa (Qe 0) Qg))) (fun _ _ _=>(Qaf (Qad (i:=0) (show List.Nodup (["_law_at","_law_row","_law_table_here"]:List PySem.Str) by decide +kernel)))) (fun _ _ _=>Qcd) (fun _ _ _=>(Qei (Q30 K rfl) (Qyn K) tx.n_sum Qzo (Qa (Qbz ["_law_k","_law_row","_law_at","_law_table_here"] [none,some 1,some 0,some 2] rfl (Qeu tx.n_range (Qei (Qep K rfl) (Qc9 K) tx.n_len Qcv (Qa (Qe 1) Qg))) (fun _ _ _=>(Qaf (Qad (i:=0) (show List.Nodup (["_law_k","_law_row","_law_at","_law_table_here"]:List PySem.Str) by decide +kernel)))) (fun _ _ _=>Qcd) (fun _ _ _=>(Qft (Qc4 rfl (Qe 1) (Qe 0)) (Qc4 rfl (Qc4 rfl (Qe 3) (Qe 0)) (Qe 2))))) Qg)))) Qg))))
theorem Qmk (tx:Txt K mg):Qak P w K mg base ds Qdf:=fun cf n R f cdv A outer s H E hc h1 co pz hr =>
 (Qn (Qaw (Qay (i:=1) Qcb.nd (Qac (Qa (Qhx (Qr (hc 22 Qa4 rfl) pz hr (Qa (Qe 0) (Qa Qh Qg))) Qh) (Qa (Qiz rfl Qh (Qr (hc 22 Qa4 rfl) pz hr (Qa (Qe 0) (Qa Qh Qg)))) Qg)))))
  (Qn (Qaw (Qay (i:=2) Qcb.nd (Qac (Qa (Qiz rfl Qh (Qr (hc 22 Qa4 rfl) pz hr (Qa (Qe 0) (Qa Qh Qg)))) (Qa (Qhx (Qr (hc 22 Qa4 rfl) pz hr (Qa (Qe 0) (Qa Qh Qg))) Qh) Qg)))))
  (Qn (Qd5 (Qse hr.units (Qr (hc 22 Qa4 rfl) pz hr (Qa (Qe 0) (Qa Qh Qg))) Qh) (Qy (Qtx (Qlh (Qac (Qa (Q4g (Qe 1) q_m1) (Qa (Q4g (Qe 2) q_m1) Qg))) (Qok (is:=[1,2]) (Qoe K rfl rfl (Qe4 (Qad (i:=1) Qcb.nd) (Qe4 (Qad (i:=2) Qcb.nd) Qod))) rfl)))) Qci)
  (Qy (Qax (Qdw (Qce K rfl) (Qda K) tx.n_tuple Qbf (Qa (Qbz ["_law_one","_law_row"] [none,some 2] rfl (Qbx rfl (Qe 1)) (fun _ _ _=>(Qaf (Qad (i:=0) (show List.Nodup (["_law_one","_law_row"]:List PySem.Str) by decide +kernel)))) (fun _ _ _=>Qcd) (fun _ _ _=>(Qdw (Qce K rfl) (Qda K) tx.n_tuple Qbf (Qa (Qbz ["_law_other","_law_one"] [none,some 0] rfl (Qbx rfl (Qe 1)) (fun _ _ _=>(Qaf (Qad (i:=0) (show List.Nodup (["_law_other","_law_one"]:List PySem.Str) by decide +kernel)))) (fun _ _ _=>Qcd) (fun _ _ _=>(Qft (Qe 1) (Qe 0)))) Qg)))) Qg)))))))
theorem Qj8 (tx:Txt K mg):Qak P w K mg base ds Qds:=fun cf n R f cdv A outer s H E hc h1 co pz hr =>
 (Qn (Qaw (Qay (i:=1) Qdd.nd (Qgk (Qa (Qac (Qa (Qac (Qa Qh (Qa Qh Qg))) (Qa (Qac (Qa Qh (Qa Qh Qg))) Qg))) (Qa (Qac (Qa (Qac (Qa Qh (Qa (Qhv Qh) Qg))) (Qa (Qac (Qa Qh (Qa Qh Qg))) Qg))) (Qa (Qac (Qa (Qac (Qa Qh (Qa Qh Qg))) (Qa (Qac (Qa Qh (Qa (Qhv Qh) Qg))) Qg))) (Qa (Qac (Qa (Qac (Qa Qh (Qa (Qhv Qh) Qg))) (Qa (Qac (Qa Qh (Qa Qh Qg))) Qg))) (Qa (Qac (Qa (Qac (Qa Qh (Qa Qh Qg))) (Qa (Qac (Qa Qh (Qa Qh Qg))) Qg))) Qg))))))))
  (Qn (Qaw (Qay (i:=1) Qdd.nd (Qiz rfl (Qe 1) (Qgk (Qa (Qac (Qa (Qac (Qa Qh (Qa Qh Qg))) (Qa (Qac (Qa Qh (Qa Qh Qg))) Qg))) (Qa (Qac (Qa (Qac (Qa Qh (Qa Qh Qg))) (Qa (Qac (Qa (Qhv Qh) (Qa Qh Qg))) Qg))) (Qa (Qac (Qa (Qac (Qa Qh (Qa Qh Qg))) (Qa (Qac (Qa Qh (Qa Qh Qg))) Qg))) (Qa (Qac (Qa (Qac (Qa Qh (Qa Qh Qg))) (Qa (Qac (Qa Qh (Qa Qh Qg))) Qg))) (Qa (Qac (Qa (Qac (Qa Qh (Qa Qh Qg))) (Qa (Qac (Qa (Qhv Qh) (Qa Qh Qg))) Qg))) Qg)))))))))
  (Qy (Qax (Qc4 rfl (Qe 1) (Qr (hc 22 Qa4 rfl) pz hr (Qa (Qe 0) (Qa Qh Qg))))))))
theorem Qwc (tx:Txt K mg):Qak P w K mg base ds Qj6:=fun cf n R f cdv A outer s H E hc h1 co pz hr =>
 (Qn (Qlx (Qay (i:=1) Qga.nd (Qgk Qg)))
  (Qn (Qgm rfl (Qeu tx.n_range (Qiz rfl Qh (Qr (hc 22 Qa4 rfl) Q0 hr (Qa (Qe 0) (Qa Qh Qg))))) (Qaf (Qad (i:=2) Qga.nd)) (Qn (Qaw (Qay (i:=3) Qga.nd (Qr (hc 22 Qa4 rfl) Q0 hr (Qa (Qe 0) (Qa Qh Qg)))))
  (Qy (Qd5 (Qvv (Qe 3) Qh) (Qy (Qno (Qh3 (Qp0 K rfl PySem.F.plainAttrs_list PySem.F.slot_list_append PySem.F.type_list_append Qfq (Qcm 1) (Q5 (Qr (hc 28 Qdf rfl) Q0 hr (Qa (Qe 0) Qg)) Qbk))))) (Qy (Qd5 (Qvv (Qe 3) Qh) (Qy (Qno (Qh3 (Qp0 K rfl PySem.F.plainAttrs_list PySem.F.slot_list_append PySem.F.type_list_append Qfq (Qcm 1) (Q5 (Qr (hc 29 Qds rfl) Q0 hr (Qa (Qe 0) Qg)) Qbk))))) (Qy (Qno (Qh3 (Qp0 K rfl PySem.F.plainAttrs_list PySem.F.slot_list_append PySem.F.type_list_append Qfq (Qcm 1) (Q5 (Qr (hc 24 Qfh rfl) Q0 hr (Qa (Qe 0) (Qa Qh (Qa (Qr (hc 22 Qa4 rfl) Q0 hr (Qa (Qe 0) (Qa Qh Qg))) Qg)))) Qbk)))))))))))
  (Qy (Qax (Qe 1)))))
theorem Qra (tx:Txt K mg):Qak P w K mg base ds Qg4:=fun cf n R f cdv A outer s H E hc h1 co pz hr =>
 (Qy (Qax (Qhx (Qft (Qc4 rfl (Qc4 rfl (Qe 0) Qh) Qh) (Qc4 rfl (Qc4 rfl (Qe 0) Qh) Qh)) (Qft (Qc4 rfl (Qc4 rfl (Qe 0) Qh) Qh) (Qc4 rfl (Qc4 rfl (Qe 0) Qh) Qh)))))
theorem Qs5 (tx:Txt K mg):Qak P w K mg base ds Qcy:=fun cf n R f cdv A outer s H E hc h1 co pz hr =>
 (Qy (Q7p (i:=2) tx.ex (fun pins R' pz'=>(Qy (Qax (Qac (Qa Qka (Qa (Qaav (Qse hr.units (Qe 0) Qh) (Qr (hc 19 Qgz rfl) pz' hr (Qa (Qe 1) Qg)) (Qr (hc 20 Qg0 rfl) pz' hr (Qa (Qe 1) Qg))) Qg)))))) (fun pins e=>QB.weak (Qh2 (Qlg (Q3w (Q5 (Qaad (Qo7 tx.k_kind tx) ((hr.mono h1.1).mark _) (Q5 (Qcm 2) Qbk)) (Q5 Q3t Qbk))))) fun D σ H z=>Qzq tx z) Qkf.nd))
theorem Qpa (tx:Txt K mg):Qak P w K mg base ds Qen:=fun cf n R f cdv A outer s H E hc h1 co pz hr =>
 (Qn (Qd5 (t_w (Qlq (Qhw (Qfm (Ql0 tx.n_isinstance Q6 (Qe 0) (Qpy "tuple" tx.n_tuple Qbf)))) (Qlq (Qjn hr.units (Qei (Qep K rfl) (Qc9 K) tx.n_len Qcv (Qa (Qe 0) Qg)) Qh) (Qit (Qhw (Qfm (Qei (Qxr K rfl) (Qr8 K) tx.n_all Qst (Qa (Qbz ["_law_one"] [none] rfl (Qbx rfl (Qe 0)) (fun _ _ _=>(Qaf (Qad (i:=0) (show List.Nodup (["_law_one"]:List PySem.Str) by decide +kernel)))) (fun _ _ _=>Qcd) (fun _ _ _=>(Qr (hc 23 Qg1 rfl) Q0 hr (Qa (Qe 0) Qg)))) Qg)))))))) (Qy (Qax Qqb)) Qci)
  (Qy (Qax (Qyz hr.units (Qr (hc 26 Qe1 rfl) pz hr (Qa (Qe 0) Qg)) (Qe 0)))))
theorem Qrb (tx:Txt K mg):Qak P w K mg base ds Qd3:=fun cf n R f cdv A outer s H E hc h1 co pz hr =>
 (Qn (Qd5 (t_w (Qlq (Qjn hr.units (Qr (hc 31 Qg4 rfl) pz hr (Qa (Qe 0) Qg)) Qh) (Qit (Qse hr.units (Qbz ["_law_row"] [none] rfl (Qbx rfl (Qe 0)) (fun _ _ _=>(Qaf (Qad (i:=0) (show List.Nodup (["_law_row"]:List PySem.Str) by decide +kernel)))) (fun _ _ _=>(Qsb (Qjn hr.units (Qe 0) (Qac (Qa Qh (Qa Qh Qg)))))) (fun _ _ _=>(Qe 0))) (Qgk Qg))))) (Qy (Qax (Qyh (Qyz hr.units (Qr (hc 32 Qcy rfl) pz hr (Qa Qh (Qa (Qe 0) Qg))) (Qac (Qa Qka (Qa Qis Qg)))) (Qyi (Qyz hr.units (Qr (hc 32 Qcy rfl) pz hr (Qa Qh (Qa (Qe 0) Qg))) (Qac (Qa Qka (Qa Qis Qg)))))))) Qci)
  (Qn (Qtx (Qlh (Qr (hc 32 Qcy rfl) pz hr (Qa Qh (Qa (Qe 0) Qg))) (Qok (is:=[1,2]) (Qoe K rfl rfl (Qe4 (Qad (i:=1) Qb9.nd) (Qe4 (Qad (i:=2) Qb9.nd) Qod))) rfl)))
  (Qn (Qtx (Qlh (Qr (hc 32 Qcy rfl) pz hr (Qa Qh (Qa (Qe 0) Qg))) (Qok (is:=[3,4]) (Qoe K rfl rfl (Qe4 (Qad (i:=3) Qb9.nd) (Qe4 (Qad (i:=4) Qb9.nd) Qod))) rfl)))
  (Qn (Qd5 (t_w (Qlq (Qjn hr.units (Qe 1) Qka) (Qlq (Qjn hr.units (Qe 3) Qka) (Qlq (Qhw (Qfm (Qr (hc 33 Qen rfl) pz hr (Qa (Qe 2) Qg)))) (Qit (Qhw (Qfm (Qr (hc 33 Qen rfl) pz hr (Qa (Qe 4) Qg))))))))) (Qy (Qax Qqb)) Qci)
  (Qn (Qd5 (Qjn hr.units (Qr (hc 27 Qhl rfl) pz hr (Qa (Qe 2) (Qa (Qe 0) Qg))) (Qac (Qa Qh (Qa Qh Qg)))) (Qy (Qax Qqb)) Qci)
  (Qn (Qgm rfl (Qbx rfl (Qgk (Qa (Qac (Qa Qh (Qa Qh Qg))) (Qa (Qac (Qa Qh (Qa Qh Qg))) (Qa (Qac (Qa Qh (Qa Qh Qg))) (Qa (Qac (Qa Qh (Qa (Qhv Qh) Qg))) Qg)))))) (Qaf (Qad (i:=5) Qb9.nd)) (Qn (Qaw (Qay (i:=6) Qb9.nd (Qr (hc 26 Qe1 rfl) Q0 hr (Qa (Qr (hc 27 Qhl rfl) Q0 hr (Qa (Qe 5) (Qa (Qe 0) Qg))) Qg))))
  (Qy (Qd5 (t_w (Qlq (t_w (Q4b (Q4i (Qe 6) Qis) (Qit (Qjn hr.units (Qr (hc 26 Qe1 rfl) Q0 hr (Qa (Qe 5) Qg)) (Qe 2))))) (Qit (t_w (Q4b (Qy0 (Qe 6) Qis) (Qit (Qjn hr.units (Qe 6) (Qe 4)))))))) (Qy (Qax Qqb)) Qci))))
  (Qy (Qax (Qyz hr.units (Qr (hc 32 Qcy rfl) pz hr (Qa Qh (Qa (Qe 0) Qg))) (Qac (Qa (Qe 1) (Qa (Qe 2) Qg))))))))))))
theorem Qpb (d:Dfn K mg "_law_cell" Qex) (tx:Txt K mg):Has P w K mg base "_law_cell" ["_law_script","_law_k"] 1 (Ql2 K):=by
 refine Q91 (k:=0) d Qqu Qqv (fun vs H Q E h=>?_) (fun f cdv A outer s H vs Q E hr h=>?_)
 ·obtain ⟨a,ns,k,rfl,_⟩:=h
  rfl
 ·obtain ⟨a,ns,k,rfl,hs,q⟩:=h
  refine ⟨_,(Qeg (Qxq (Qru Q9u (Qcm 1) (Qip (Qep K rfl) tx.n_len Qcv (Q5 (Qcm 0) Qbk)) (Qwz _)) (Qh2 (Qlg (Q59 (Q6d K rfl) (Qcm 0) (Qcm 1)))) Qrw)
   (Qh2 (Qlg Qlf))),?_⟩
  refine ⟨_,rfl,_,rfl,a,_,rfl,.inl hs,_,_,rfl,rfl,_,rfl,?_⟩
  refine ite2 (fun c=>?_) (fun c=>?_)
  ·have c:(k:Int)<(ns.map V.int).length:=by simpa using c
   have hk:k<ns.length:=by rw [List.length_map] at c;omega
   refine ⟨_,rfl,_,rfl,.inl ⟨a,_,_,_,rfl,rfl,hs,Qfz (v:=V.int ns[k]) ?_,q _⟩⟩
   rw [List.getElem?_map,List.getElem?_eq_getElem hk]
   rfl
  ·exact q _
noncomputable abbrev Qzs:L2.S:=(.for_ (.seq (.lst (.cons (.tup (.cons (.tup (.cons (.int 0) (.cons (.int 0) .nil))) (.cons (.tup (.cons (.int 0) (.cons (.int 0) .nil))) .nil))) (.cons (.tup (.cons (.tup (.cons (.int 0) (.cons (.int 5) .nil))) (.cons (.tup (.cons (.int 0) (.cons (.int 0) .nil))) .nil))) (.cons (.tup (.cons (.tup (.cons (.int 0) (.cons (.int 0) .nil))) (.cons (.tup (.cons (.neg (.int 3)) (.cons (.int 0) .nil))) .nil))) (.cons (.tup (.cons (.tup (.cons (.int 1) (.cons (.int 2) .nil))) (.cons (.tup (.cons (.int 2) (.cons (.int 4) .nil))) .nil))) (.cons (.tup (.cons (.tup (.cons (.int 1) (.cons (.int 0) .nil))) (.cons (.tup (.cons (.int 0) (.cons (.int 1) .nil))) .nil))) .nil))))))) (.nm 1) (.ite (.not (.call 34 (.cons (.var 1) .nil))) (.ret (.bl false)) .nil))
noncomputable abbrev Qzt:L2.S:=(.seq (.set 3 (.call 21 (.cons (.var 2) .nil)))
 (.seq (.setF 4 (.ix (.lst (.cons (.int 1) (.cons (.neg (.int 1)) (.cons (.int 7) (.cons (.bin .pow (.int 10) (.int 9)) .nil))))) (.call 22 (.cons (.var 3) (.cons (.int 4) .nil)))))
 (.for_ (.seq (.bin .add (.call 30 (.cons (.var 3) .nil)) (.lst (.cons (.call 28 (.cons (.var 3) .nil)) (.cons (.call 24 (.cons (.var 3) (.cons (.int 2) (.cons (.int 1) .nil)))) .nil))))) (.nm 1) (.seq (.setF 5 (.bi .tup (.cons (.comp (.seq (.var 1)) [none,some 4] (.nm 0) .nil (.bi .tup (.cons (.comp (.seq (.var 0)) [none,some 1] (.nm 0) .nil (.bin .mul (.var 1) (.var 0))) .nil))) .nil)))
 (.ite (.or (.not (.call 34 (.cons (.var 1) .nil))) (.not (.call 34 (.cons (.var 5) .nil)))) (.ret (.bl false)) .nil)))))
theorem Qabs (tx:Txt K mg) {cf:CF} {f:Addr} {cdv:Value} {A:Around} {outer:List Env} {s:Shared} {H:Hp} {E:XK} (hc:Qol P w K mg base ds cf 29) (h_cell:Has P w K mg base "_law_cell" ["_law_script","_law_k"] 1 (Ql2 K)) (hr:Room 29 (A.deeper (PyProof.Rows.envOfC "law" (Qf Qkg) s.heap.objs.size f cdv))) :
  QB (Qhn (fun _=>true) CX0 P w K mg base ["_law_script","_law_table_here","_law_cell_here","_law_pen_here","_law_often","_law_wide"] "law" (Qf Qkg) f cdv A outer s H E).nox (Q9 Qkg) (Q4n ⟨cf,fun _ _ _ _=>False,mg⟩ K Qzs 2 5 Qzt) :=
 Qeg (Qgm rfl (Qbx rfl (Qgk (Qa (Qac (Qa (Qac (Qa Qh (Qa Qh Qg))) (Qa (Qac (Qa Qh (Qa Qh Qg))) Qg))) (Qa (Qac (Qa (Qac (Qa Qh (Qa Qh Qg))) (Qa (Qac (Qa Qh (Qa Qh Qg))) Qg))) (Qa (Qac (Qa (Qac (Qa Qh (Qa Qh Qg))) (Qa (Qac (Qa (Qhv Qh) (Qa Qh Qg))) Qg))) (Qa (Qac (Qa (Qac (Qa Qh (Qa Qh Qg))) (Qa (Qac (Qa Qh (Qa Qh Qg))) Qg))) (Qa (Qac (Qa (Qac (Qa Qh (Qa Qh Qg))) (Qa (Qac (Qa Qh (Qa Qh Qg))) Qg))) Qg))))))) (Qaf (Qad (i:=1) Qh9.nd)) (Qy (Qd5 (Qhw (Qfm (Qr (hc 34 Qd3 rfl) Q0 hr (Qa (Qe 1) Qg)))) (Qy (Qax Qqb)) Qci)))
  (Qeg (Q3x PassesOwn.never rfl (Qxp K rfl (Q1h (Qth K rfl) (Qpz (Q5 (q_fn h_cell (hr.mono (by decide)) (Q5 (Qcm 0) (Q5 Qlf Qbk))) Qbk)) (q_sl (o_sl K rfl) (Qcm 0) (Qxo Qlf) (Qxo Qlf)))) (Qad (i:=2) Qh9.nd)
   (Qn (Qlx (Qay (i:=3) Qh9.nd (Qr (hc 21 Qj3 rfl) Q0 hr (Qa (Qe 2) Qg))))
  (Qn (Qaw (Qay (i:=4) Qh9.nd (Qc4 rfl (Qgk (Qa Qh (Qa (Qhv Qh) (Qa Qh (Qa (Qtz Qh Qh) Qg))))) (Qr (hc 22 Qa4 rfl) Q0 hr (Qa (Qe 3) (Qa Qh Qg))))))
  (Qy (Qgm rfl (Qbx rfl (Qiz rfl (Qr (hc 30 Qj6 rfl) Q0 hr (Qa (Qe 3) Qg)) (Qgk (Qa (Qr (hc 28 Qdf rfl) Q0 hr (Qa (Qe 3) Qg)) (Qa (Qr (hc 24 Qfh rfl) Q0 hr (Qa (Qe 3) (Qa Qh (Qa Qh Qg)))) Qg))))) (Qaf (Qad (i:=1) Qh9.nd)) (Qn (Qaw (Qay (i:=5) Qh9.nd (Qdw (Qce K rfl) (Qda K) tx.n_tuple Qbf (Qa (Qbz ["_law_row","_law_often"] [none,some 4] rfl (Qbx rfl (Qe 1)) (fun _ _ _=>(Qaf (Qad (i:=0) (show List.Nodup (["_law_row","_law_often"]:List PySem.Str) by decide +kernel)))) (fun _ _ _=>Qcd) (fun _ _ _=>(Qdw (Qce K rfl) (Qda K) tx.n_tuple Qbf (Qa (Qbz ["_law_number","_law_often"] [none,some 1] rfl (Qbx rfl (Qe 0)) (fun _ _ _=>(Qaf (Qad (i:=0) (show List.Nodup (["_law_number","_law_often"]:List PySem.Str) by decide +kernel)))) (fun _ _ _=>Qcd) (fun _ _ _=>(Qft (Qe 1) (Qe 0)))) Qg)))) Qg))))
  (Qy (Qd5 (t_w (Qlq (Qhw (Qfm (Qr (hc 34 Qd3 rfl) Q0 hr (Qa (Qe 1) Qg)))) (Qit (Qhw (Qfm (Qr (hc 34 Qd3 rfl) Q0 hr (Qa (Qe 5) Qg))))))) (Qy (Qax Qqb)) Qci))))))))
  (Qh2 (Qlg Qxk)))
end
open PySem L2
theorem Que {a b:Int} (h:b≠0):opB .mod (.int a) (.int b)=some (.fz (.int (a.fmod b))):=by
 show opN .mod a b=_
 unfold opN
 dsimp only
 by_cases c:0<b
 ·rw [if_pos c,Int.fmod_eq_emod_of_nonneg a (by omega)]
 ·rw [if_neg c,if_pos (by omega)]
theorem Q2y {a b:Int} (h:b≠0) (hb:b.natAbs<2^125):opB .fdv (.int a) (.int b)=some (.fz (.int (a.fdiv b))):=by
 show opN .fdv a b=_
 unfold opN
 dsimp only
 by_cases c:0<b∧b.natAbs<2^64
 ·rw [if_pos c,Int.fdiv_eq_ediv_of_nonneg a (by omega)]
 ·have hc:b≠0∧b.natAbs<2^250:=⟨h,by omega⟩
  rw [if_neg c,if_pos hc]
noncomputable def Eu (G:Nat) (i:Nat) (a b:Int):Prop:=a.gcd b=G∧a.natAbs<2^125∧b.natAbs<2^125∧(i=252∨((0≤a∧0≤b∨a≤0∧b≤0)∧b.natAbs≤a.natAbs∧a.natAbs*b.natAbs<2^i))
theorem Qrc (a:Int) {b:Int} (h:b≠0):((0≤b∧0≤a.fmod b)∨(b≤0∧a.fmod b≤0))∧(a.fmod b).natAbs<b.natAbs:=by
 by_cases c:0<b
 ·rw [Int.fmod_eq_emod_of_nonneg a (by omega)]
  have m0:=Int.emod_nonneg a h
  have m1:=Int.emod_lt_of_pos a c
  exact ⟨.inl ⟨by omega,m0⟩,by omega⟩
 ·have e:=Int.neg_fmod_neg (-a) (-b)
  rw [Int.neg_neg,Int.neg_neg,Int.fmod_eq_emod_of_nonneg (-a) (show 0 ≤ -b by omega)] at e
  have m0:=Int.emod_nonneg (-a) (show -b≠0 by omega)
  have m1:=Int.emod_lt_of_pos (-a) (show 0 < -b by omega)
  rw [e]
  exact ⟨.inr ⟨by omega,by omega⟩,by omega⟩
theorem Qzu {a b:Int} (h:0≤a∧0≤b∨a≤0∧b≤0):(a.fmod b).natAbs=a.natAbs%b.natAbs:=by
 rcases h with ⟨ha,hb⟩ | ⟨ha,hb⟩
 ·obtain ⟨m,rfl⟩:=Int.eq_ofNat_of_zero_le ha
  obtain ⟨n,rfl⟩:=Int.eq_ofNat_of_zero_le hb
  rw [Int.fmod_eq_emod_of_nonneg _ hb,←Int.natCast_emod,Int.natAbs_natCast,Int.natAbs_natCast,Int.natAbs_natCast]
 ·obtain ⟨m,hm⟩:=Int.eq_ofNat_of_zero_le (show 0 ≤ -a by omega)
  obtain ⟨n,hn⟩:=Int.eq_ofNat_of_zero_le (show 0 ≤ -b by omega)
  have e:=Int.neg_fmod_neg (-a) (-b)
  rw [Int.neg_neg,Int.neg_neg] at e
  rw [e,hm,hn,Int.fmod_eq_emod_of_nonneg _ (by omega),←Int.natCast_emod,Int.natAbs_neg,Int.natAbs_natCast]
  have h1:a.natAbs=m:=by omega
  have h2:b.natAbs=n:=by omega
  rw [h1,h2]
theorem Q7z {A B i:Nat} (b1:0<B) (ba:B≤A) (hab:A*B<2^i):∃ i',i=i'+1∧B*(A%B)<2^i':=by
 have hm:=Nat.mod_lt A b1
 have hq:1≤A / B:=(Nat.le_div_iff_mul_le b1).mpr (by omega)
 have hd:=Nat.mod_add_div A B
 have h1:B*1≤B*(A / B):=Nat.mul_le_mul_left _ hq
 have h2:2*(A%B)≤A:=by omega
 have h4:B*(2*(A%B))≤B*A:=Nat.mul_le_mul_left _ h2
 have h5:B*A=A*B:=Nat.mul_comm _ _
 have h6:B*(2*(A%B))=2*(B*(A%B)):=by rw [←Nat.mul_assoc,Nat.mul_comm B 2,Nat.mul_assoc]
 cases i with
 | zero =>
  have:1*1≤A*B:=Nat.mul_le_mul (by omega) b1
  have h3:(2:Nat)^0=1:=rfl
  omega
 | succ i =>
  refine ⟨i,rfl,?_⟩
  have h7:(2:Nat)^(i+1)=2^i*2:=Nat.pow_succ 2 i
  omega
theorem Qrd {a b:Int} (ha:a.natAbs<2^125) (hb:b.natAbs<2^125):Eu (a.gcd b) 252 a b:=⟨rfl,ha,hb,.inl rfl⟩
theorem Q4o {G i:Nat} {a b:Int} (h:Eu G i a b) (hb:b≠0):∃ i',i=i'+1∧Eu G i' b (a.fmod b):=by
 obtain ⟨e,za,zb,h⟩:=h
 obtain ⟨s,l⟩:=Qrc a hb
 have eg:b.gcd (a.fmod b)=G:=by rw [Int.fmod_def,Int.gcd_sub_mul_left_right,Int.gcd_comm,e]
 have b1:0<b.natAbs:=by omega
 rcases h with rfl | ⟨sg,ba,hab⟩
 ·refine ⟨251,rfl,eg,zb,by omega,.inr ⟨s,by omega,?_⟩⟩
  have h1:b.natAbs*(a.fmod b).natAbs≤b.natAbs*b.natAbs:=Nat.mul_le_mul_left _ (by omega)
  have h2:b.natAbs*b.natAbs<2^125*2^125:=Nat.mul_lt_mul'' zb zb
  have h3:(2:Nat)^125*2^125<2^251:=by decide
  omega
 ·obtain ⟨i',ei,hi⟩:=Q7z b1 ba hab
  rw [←Qzu sg] at hi
  exact ⟨i',ei,eg,zb,by omega,.inr ⟨s,by omega,hi⟩⟩
theorem Qzv {G i:Nat} {a:Int} (h:Eu G i a 0):a.natAbs=G:=by
 have:=h.1
 rwa [Int.gcd_zero_right] at this
noncomputable def sgn (x y:Int):Int:=if (if x=0 then y else x)<0 then -(x.gcd y:Int) else (x.gcd y:Int)
noncomputable def lnO (x y:Int):Option (Int×Int):=if x=0∧y=0 then none else some (x.fdiv (sgn x y),y.fdiv (sgn x y))
noncomputable def lnT:Option (Int×Int)→T
 | none=>.non
 | some (p,q)=>.tup [.int p,.int q]
structure Ln (p q:Int):Prop where
 g:p.gcd q=1
 s:0<p∨(p=0∧0<q)
theorem Qi7 {x y:Int} (h:¬ (x=0∧y=0)):0<x.gcd y:=Int.gcd_pos_iff.mpr (if c:x=0 then .inr fun z=>h ⟨c,z⟩ else .inl c)
theorem Qzw {x y:Int} {B:Nat} (hx:x.natAbs<B) (hy:y.natAbs<B):x.gcd y<B:=by
 by_cases c:x=0
 ·rw [c,Int.gcd_zero_left];exact hy
 ·exact Nat.lt_of_le_of_lt (Int.gcd_le_natAbs_left y c) hx
theorem Qpc (x y:Int):sgn x y=(x.gcd y:Int)∨sgn x y = -(x.gcd y:Int):=by
 unfold sgn
 by_cases c:(if x=0 then y else x)<0
 ·exact .inr (if_pos c)
 ·exact .inl (if_neg c)
theorem Qk0 (x y:Int):(sgn x y).natAbs=x.gcd y:=by
 rcases Qpc x y with h | h <;> rw [h]
 ·rw [Int.natAbs_natCast]
 ·rw [Int.natAbs_neg,Int.natAbs_natCast]
theorem Qn1 {x y p q:Int} (h:lnO x y=some (p,q)):Ln p q∧p.natAbs≤x.natAbs∧q.natAbs≤y.natAbs:=by
 unfold lnO at h
 split at h
 ·cases h
 rename_i c
 have g0:=Qi7 c
 have sa:=Qk0 x y
 have s0:sgn x y≠0:=by intro z;rw [z] at sa;rw [Int.natAbs_zero] at sa;omega
 have dx:sgn x y ∣ x:=by
  have:=Int.gcd_dvd_left x y
  rcases Qpc x y with h | h <;> rw [h]
  ·exact this
  ·exact Int.neg_dvd.mpr this
 have dy:sgn x y ∣ y:=by
  have:=Int.gcd_dvd_right x y
  rcases Qpc x y with h | h <;> rw [h]
  ·exact this
  ·exact Int.neg_dvd.mpr this
 obtain ⟨p',hp⟩:=dx
 obtain ⟨q',hq⟩:=dy
 have ep:p=p':=by
  have:x.fdiv (sgn x y)=p':=by
   conv=>lhs;lhs;rw [hp]
   exact Int.mul_fdiv_cancel_left _ s0
  rw [←this]
  exact ((Prod.mk.inj (Option.some.inj h)).1).symm
 have eq:q=q':=by
  have:y.fdiv (sgn x y)=q':=by
   conv=>lhs;lhs;rw [hq]
   exact Int.mul_fdiv_cancel_left _ s0
  rw [←this]
  exact ((Prod.mk.inj (Option.some.inj h)).2).symm
 subst ep
 subst eq
 have hg:x.gcd y=x.gcd y*p.gcd q:=by
  have z:=Int.gcd_mul_left (sgn x y) p q
  rw [←hp,←hq,sa] at z
  exact z
 have g1:p.gcd q=1:=by
  have:x.gcd y*p.gcd q=x.gcd y*1:=by omega
  exact Nat.eq_of_mul_eq_mul_left g0 this
 have ax:x.natAbs=(sgn x y).natAbs*p.natAbs:=by conv=>lhs;rw [hp,Int.natAbs_mul]
 have ay:y.natAbs=(sgn x y).natAbs*q.natAbs:=by conv=>lhs;rw [hq,Int.natAbs_mul]
 refine ⟨⟨g1,?_⟩,?_,?_⟩
 ·have sgq:∀ {u v w:Int},u=v*w→v≠0→u≠0→(u<0↔v<0)→0<w:=by
   intro u v w e hv hu hi
   by_cases c1:v<0
   ·have hu':=hi.mpr c1
    by_cases c2:0<w
    ·exact c2
    ·have:=Int.mul_nonneg_of_nonpos_of_nonpos (show v≤0 by omega) (show w≤0 by omega)
     omega
   ·have hu':¬ u<0:=fun z=>c1 (hi.mp z)
    by_cases c2:0<w
    ·exact c2
    ·have:=Int.mul_nonpos_of_nonneg_of_nonpos (show 0≤v by omega) (show w≤0 by omega)
     omega
  by_cases cx:x=0
  ·have p0:p=0:=by
    have z:sgn x y*p=0:=by rw [←hp];exact cx
    rcases Int.mul_eq_zero.mp z with z | z
    ·exact absurd z s0
    ·exact z
   refine .inr ⟨p0,sgq hq s0 (fun z=>c ⟨cx,z⟩) ?_⟩
   unfold sgn
   rw [if_pos cx]
   by_cases cy:y<0
   ·rw [if_pos cy];exact ⟨fun _=>by omega,fun _=>cy⟩
   ·rw [if_neg cy];exact ⟨fun z=>absurd z cy,fun z=>by omega⟩
  ·refine .inl (sgq hp s0 cx ?_)
   unfold sgn
   rw [if_neg cx]
   by_cases cy:x<0
   ·rw [if_pos cy];exact ⟨fun _=>by omega,fun _=>cy⟩
   ·rw [if_neg cy];exact ⟨fun z=>absurd z cy,fun z=>by omega⟩
 ·rw [ax,sa];exact Nat.le_mul_of_pos_left _ g0
 ·rw [ay,sa];exact Nat.le_mul_of_pos_left _ g0
theorem Quf {p q:Int} (h:Ln p q):lnO p q=some (p,q):=by
 have hs:=h.s
 have e:sgn p q=1:=by
  unfold sgn
  rw [h.g,if_neg (by split <;> omega)]
  rfl
 unfold lnO
 rw [if_neg (by omega),e,Int.fdiv_one,Int.fdiv_one]
theorem Qug (x y:Int):sgn x y ∣ x∧sgn x y ∣ y:=by
 have a:=Int.gcd_dvd_left x y
 have b:=Int.gcd_dvd_right x y
 rcases Qpc x y with h | h <;> rw [h]
 ·exact ⟨a,b⟩
 ·exact ⟨Int.neg_dvd.mpr a,Int.neg_dvd.mpr b⟩
theorem Qi8 {x y:Int} (h:¬ (x=0∧y=0)):∃ p q g,lnO x y=some (p,q)∧Ln p q∧g≠0∧x=g*p∧y=g*q∧p.natAbs≤x.natAbs∧q.natAbs≤y.natAbs:=by
 have e:lnO x y=some (x.fdiv (sgn x y),y.fdiv (sgn x y)):=if_neg h
 obtain ⟨l,b1,b2⟩:=Qn1 e
 have g0:=Qi7 h
 have sa:=Qk0 x y
 have s0:sgn x y≠0:=by intro z;rw [z] at sa;rw [Int.natAbs_zero] at sa;omega
 obtain ⟨u,hu⟩:=(Qug x y).1
 obtain ⟨v,hv⟩:=(Qug x y).2
 have f1:x.fdiv (sgn x y)=u:=by
  generalize sgn x y=g at hu s0
  rw [hu,Int.mul_fdiv_cancel_left _ s0]
 have f2:y.fdiv (sgn x y)=v:=by
  generalize sgn x y=g at hv s0
  rw [hv,Int.mul_fdiv_cancel_left _ s0]
 rw [f1] at b1 l e
 rw [f2] at b2 l e
 exact ⟨u,v,sgn x y,e,l,s0,hu,hv,b1,b2⟩
theorem Q2z {p q p' q':Int} (h:Ln p q) (h':Ln p' q') (e:p*q'=p'*q):p=p'∧q=q':=by
 have n:=congrArg Int.natAbs e
 rw [Int.natAbs_mul,Int.natAbs_mul] at n
 have g:Nat.Coprime p.natAbs q.natAbs:=h.g
 have g':Nat.Coprime p'.natAbs q'.natAbs:=h'.g
 have d1:p.natAbs ∣ p'.natAbs:=g.dvd_of_dvd_mul_right ⟨_,n.symm⟩
 have d2:p'.natAbs ∣ p.natAbs:=g'.dvd_of_dvd_mul_right ⟨_,n⟩
 have a:=Nat.dvd_antisymm d1 d2
 have s:=h.s
 have s':=h'.s
 have ep:p=p':=by omega
 subst ep
 refine ⟨rfl,?_⟩
 rcases s with s | ⟨s,t⟩
 ·exact (Int.eq_of_mul_eq_mul_left (by omega) e).symm
 ·have g1:q.natAbs=1:=by have:=g;rw [s] at this;exact (Nat.gcd_zero_left _).symm.trans this
  have g2:q'.natAbs=1:=by have:=g';rw [s] at this;exact (Nat.gcd_zero_left _).symm.trans this
  omega
theorem Quh {x y x' y':Int} (h:¬ (x=0∧y=0)) (h':¬ (x'=0∧y'=0)) (e:x*y'=x'*y):lnO x y=lnO x' y':=by
 obtain ⟨p,q,g,e1,l1,g1,rfl,rfl,_,_⟩:=Qi8 h
 obtain ⟨p',q',g',e2,l2,g2,rfl,rfl,_,_⟩:=Qi8 h'
 have k:p*q'=p'*q:=by
  have:(g*g')*(p*q')=(g*g')*(p'*q):=by grind
  exact Int.eq_of_mul_eq_mul_left (Int.mul_ne_zero g1 g2) this
 obtain ⟨rfl,rfl⟩:=Q2z l1 l2 k
 rw [e1,e2]
open PySem L2
noncomputable abbrev cfn (k:Nat):CF:=evF (Qiy ds) k
noncomputable abbrev Tb:=List (List Int)
noncomputable abbrev Qdg (r:List Int):T:=.tup (r.map .int)
noncomputable abbrev Qba (M:Tb):T:=.tup (M.map Qdg)
noncomputable abbrev Qhy (Ms:List Tb):T:=.lst (Ms.map Qba)
structure Sq (n:Nat) (M:Tb):Prop where
 len:M.length=n
 row:∀ r∈M,r.length=n
 bd:∀ r∈M,∀ x∈r,(x:Int).natAbs≤1000000000000
noncomputable def whole:T→Bool
 | .int _=>true
 | _=>false
noncomputable def nc:T→Bool
 | .clo _ _=>false
 | _=>true
theorem Qzx (k:Nat) (r:List Int) (hr:r.length≤1000):cfn (k+2) 1 [.fz (Qdg r),.fz (.int r.length)]=.ok (.fz (.bl true)) [.non,.non]:=by
 have hcomp:evE (cfn (k+1)) (.comp (.seq (.var 0)) [none] (.nm 0) .nil (.call 0 (.cons (.var 0) .nil))) [.fz (Qdg r),.fz (.int r.length)]=.ok (.ow (.lst ((r.map T.int).map fun _=>T.bl true))) [.fz (Qdg r),.fz (.int r.length)] :=
  Qcj (rest:=[]) rfl rfl rfl rfl (fun x hx=>by
   obtain ⟨i,_,rfl⟩:=List.mem_map.mp hx
   exact ⟨.fz (.bl true),rfl,rfl⟩) (by rw [List.length_map];omega)
 show Qbr (cfn (k+1)) ⟨2,2,Qmh⟩ _=_
 rw [Qbd rfl]
 show Qb1 _ (exS _ Qmh [.fz (Qdg r),.fz (.int r.length)])=_
 simp only [Qab,Qbc,Qmw,Ql6,Qzd,Qk,Qx,Qb,Qv,Q2k,Qt6,cont,Qmb,Qio,Bool.not_false,Bool.and_true,Qf4,if_true,Qw,yBl,Qqn,Bool.not_true,yOr,Qav,Qb2,Ql,yC1,Qt,yC2,yBi,Qb0,Qan,Out.opt,ub2,List.length_map,Qar,Qd,Qaq,Qap,Qao,uc2,Option.map,Qa0,decide_true,yB,Qai,yIf,Qcq,Qbe,Qa9,hcomp,ub3,Qt9,Qzk,Qb7,Qaj,Qa5,Qau,Qaz,Q1]
theorem Qwd (k:Nat) {n:Nat} {M:Tb} (h:Sq n M) (h1:1≤n) (h4:n≤4):cfn (k+3) 2 [.fz (Qba M)]=.ok (.fz (.bl true)) [.non]:=by
 have hl:=h.len
 have hcomp:evE (cfn (k+2)) (.comp (.seq (.var 0)) [none,some 0] (.nm 0) .nil (.call 1 (.cons (.var 0) (.cons (.bi .len (.cons (.var 1) .nil)) .nil)))) [.fz (Qba M)]=.ok (.ow (.lst ((M.map Qdg).map fun _=>T.bl true))) [.fz (Qba M)] :=
  Qcj (rest:=[.fz (Qba M)]) rfl rfl rfl rfl (fun x hx=>by
   obtain ⟨r,hr,rfl⟩:=List.mem_map.mp hx
   have hrl:=h.row r hr
   have q:=Qzx k r (by omega)
   rw [show ((r.length:Nat):Int)=(M.length:Nat) by omega] at q
   refine ⟨.fz (.bl true),?_,rfl⟩
   simp only [Q4,Ql,Qk,Qx,Qb,Qv,yC1,Qb2,Qd,Qt,yC2,yBi,Qb0,Qan,cont,Out.opt,ub2,List.length_map,Qs,Qq,Q3,Qo,Qaa,Q2,q,Qat,Qj,Qu,L2.Qi,Option.map,if_true]) (by rw [List.length_map];omega)
 show Qbr (cfn (k+2)) ⟨1,1,Qjw⟩ _=_
 rw [Qbd rfl]
 show Qb1 _ (exS _ Qjw [.fz (Qba M)])=_
 have c1:¬ ((M.length:Int)<1):=by omega
 have c2:¬ (4<(M.length:Int)):=by omega
 simp only [Qab,Qbc,Qmw,Ql6,Qzd,Qk,Qx,Qb,Qv,Q2k,Qt6,cont,Qmb,Qio,Bool.not_false,Bool.and_true,Qf4,if_true,Qw,yBl,Qqn,Bool.not_true,yOr,Qav,Qb2,Ql,yC1,Qt,yC2,yBi,Qb0,Qan,Out.opt,ub2,List.length_map,Qar,Qah,Qaq,Qap,Qao,uc3,c1,decide_false,uc5,c2,yB,Qai,yIf,Qcq,Qbe,Qa9,hcomp,ub3,Option.map,Qt9,Qzk,Qb7,Qaj,Qa5,Qau,Qaz,Q1]
noncomputable def gd:Nat→T→Bool
 | _,.clo _ _=>false
 | n+1,.tup ts=>decide (ts.length≤1000)&&ts.all (gd n)
 | n+1,.lst ts=>decide (ts.length≤1000)&&ts.all (gd n)
 | 0,.tup _=>false
 | 0,.lst _=>false
 | _,_=>true
noncomputable def isTp:T→Bool
 | .tup _=>true
 | _=>false
theorem Qpd (k:Nat) {M:Tb} (h:Sq 2 M):cfn (k+4) 3 [.fz (Qba M)]=.ok (.fz .non) [.non]:=by
 have e1:=Qwd k h (by decide) (by decide)
 show Qbr (cfn (k+3)) ⟨1,1,Qgc⟩ _=_
 rw [Qbd rfl]
 show Qb1 _ (exS _ Qgc [.fz (Qba M)])=_
 simp only [Qbc,Ql6,Q4,Ql,Qk,Qx,Qb,Qv,yC1,Qt,yC2,Qs,Qq,Q3,Qo,Qaa,Q2,e1,Qat,Qj,Qu,L2.Qi,Option.map,if_true,Qw,yBl,Qqn,Bool.not_true,Qai,yIf,Qcq,Qzh,Qaz,Q1]
theorem intL_mp:∀ (xs:List Int),Qdi (xs.map T.int)=some xs
 | []=>rfl
 | x::xs=>by
  rw [List.map_cons]
  unfold Qdi
  rw [intL_mp xs]
noncomputable def ge (r:List Int) (k:Nat):Int:=r.getD k 0
noncomputable def Qwe (r c:List Int):Int:=((List.range r.length).map fun k=>ge r k*ge c k).sum
noncomputable def col (M:Tb) (j:Nat):List Int:=M.map fun l=>ge l j
noncomputable def rb (M:Tb) (r:List Int):List Int:=(List.range M.length).map fun j=>Qwe r (col M j)
theorem Qzy {r:List Int} {j:Nat} (h:j<r.length):atI (r.map T.int) (j:Int)=some (.int (ge r j)):=by
 refine Qfz ?_
 rw [List.getElem?_map,List.getElem?_eq_getElem h]
 show some (T.int _)=some (T.int _)
 congr 2
 unfold ge
 rw [List.getD_eq_getElem?_getD,List.getElem?_eq_getElem h,Option.getD_some]
theorem Qcg {i j:Int} (h:j.natAbs≤1000000000000):Qby i j=true:=by
 unfold Qby
 simp only [Bool.or_eq_true,decide_eq_true_eq]
 exact .inr (by omega)
noncomputable def jOf:T→Nat
 | .int i=>i.toNat
 | _=>0
noncomputable def iOf:T→List Int
 | .tup ts=>ts.map fun t=>match t with | .int i=>i | _=>0
 | _=>[]
theorem Qui (r:List Int):iOf (Qdg r)=r:=by
 show (r.map T.int).map _=r
 rw [List.map_map]
 conv=>rhs;rw [←List.map_id r]
 rfl
theorem Qpe (j:Nat):jOf (.int (0+(j:Int)))=j:=by
 show (0+(j:Int)).toNat=j
 rw [Int.zero_add,Int.toNat_natCast]
theorem Qs6 {f:Nat→T} (n:Nat):((Qbt 0 n).map fun x=>f (jOf x))=(List.range n).map f:=by
 unfold Qbt
 rw [List.map_map]
 apply List.map_congr_left
 intro j _
 show f (jOf (.int (0+(j:Int))))=f j
 rw [Qpe]
theorem Qabt {c:List Int} (h:∀ x∈c,(x:Int).natAbs≤1000000000000) (k:Nat):(ge c k).natAbs≤1000000000000:=by
 unfold ge
 rw [List.getD_eq_getElem?_getD]
 cases e:c[k]? with
 | none=>decide
 | some v=>exact h v (List.mem_of_getElem? e)
theorem Qre (k:Nat) {n:Nat} {M:Tb} (h:Sq n M) (h4:n≤4) {j:Nat} (hj:j<n):cfn (k+1) 4 [.fz (Qba M),.fz (.int j)]=.ok (.fz (Qdg (col M j))) [.non,.non]:=by
 have hl:=h.len
 have hcomp:evE (cfn k) (.comp (.seq (.var 0)) [none,some 1] (.nm 0) .nil (.ix (.var 0) (.var 1))) [.fz (Qba M),.fz (.int j)]=.ok (.ow (.lst ((M.map Qdg).map fun x=>T.int (ge (iOf x) j)))) [.fz (Qba M),.fz (.int j)] :=
  Qcj (rest:=[.fz (.int j)]) rfl rfl rfl rfl (fun x hx=>by
   obtain ⟨l,hm,rfl⟩:=List.mem_map.mp hx
   have a:=Qzy (r:=l) (j:=j) (by rw [h.row l hm];exact hj)
   refine ⟨.fz (.int (ge l j)),?_,by rw [Qui];rfl⟩
   simp only [Qej,Qk,Qx,Qb,Qv,Qd9,Qd,Qd8,Qd7,cont,Qd6,ui2,a]) (by rw [List.length_map];omega)
 have em:((M.map Qdg).map fun x=>T.int (ge (iOf x) j))=(col M j).map T.int:=by
  unfold col
  rw [List.map_map,List.map_map]
  apply List.map_congr_left
  intro l _
  show T.int (ge (iOf (Qdg l)) j)=T.int (ge l j)
  rw [Qui]
 rw [em] at hcomp
 show Qbr (cfn k) ⟨2,2,Qgw⟩ _=_
 rw [Qbd rfl]
 show Qb1 _ (exS _ Qgw [.fz (Qba M),.fz (.int j)])=_
 simp only [Qa9,Qb2,Ql,hcomp,Qv,yC1,Qt,yC2,yBi,Qb0,Qan,cont,Out.opt,ub9,Qai,Qb7,Qaj,Qa5,Qau,Qaz,Q1,Option.map]
theorem Qpf (k:Nat) {n:Nat} {M:Tb} (h:Sq n M) (h4:n≤4):cfn (k+2) 5 [.fz (Qba M)]=.ok (.fz (Qba ((List.range M.length).map (col M)))) [.non]:=by
 have hl:=h.len
 have hw:evW (cfn (k+1)) (.rng1 (.bi .len (.cons (.var 0) .nil))) [.fz (Qba M)]=.ok (Qbt 0 M.length,none) [.fz (Qba M)]:=by
  have c:M.length≤100000:=by omega
  simp only [Qdl,Qb2,Ql,Qk,Qx,Qb,Qv,yC1,Qt,yC2,yBi,Qb0,Qan,cont,Out.opt,ub2,List.length_map,Qzj c]
 have hcomp:evE (cfn (k+1)) (.comp (.rng1 (.bi .len (.cons (.var 0) .nil))) [none,some 0] (.nm 0) .nil (.call 4 (.cons (.var 1) (.cons (.var 0) .nil)))) [.fz (Qba M)]=.ok (.ow (.lst ((Qbt 0 M.length).map fun x=>Qdg (col M (jOf x))))) [.fz (Qba M)] :=
  Qcj (rest:=[.fz (Qba M)]) hw rfl rfl rfl (fun x hx=>by
   unfold Qbt at hx
   obtain ⟨j,hj,rfl⟩:=List.mem_map.mp hx
   have hj:=List.mem_range.mp hj
   have e:=Qre k h h4 (j:=j) (by omega)
   refine ⟨.fz (Qdg (col M j)),?_,by rw [Qpe];rfl⟩
   simp only [Int.zero_add,Q4,Ql,Qk,Qx,Qd,Qb,Qv,yC1,Qt,yC2,Qs,Qq,Q3,Qo,Qaa,Q2,e,Qat,Qj,Qu,L2.Qi,Option.map,if_true]) (by rw [Qc0];omega)
 rw [Qs6 (f:=fun j=>Qdg (col M j))] at hcomp
 show Qbr (cfn (k+1)) ⟨1,1,Qgd⟩ _=_
 rw [Qbd rfl]
 show Qb1 _ (exS _ Qgd [.fz (Qba M)])=_
 simp only [Qa9,Qb2,Ql,hcomp,Qv,yC1,Qt,yC2,yBi,Qb0,Qan,cont,Out.opt,ub9,Qai,Qb7,Qaj,Qa5,Qau,Qaz,Q1,Option.map]
 unfold Qba
 rw [List.map_map]
 rfl
theorem Q70 {M:Tb} {k j:Nat} (h:k<M.length):ge (col M j) k=ge M[k] j:=by
 unfold col
 conv=>lhs;unfold ge
 rw [List.getD_eq_getElem?_getD,List.getElem?_map,List.getElem?_eq_getElem h]
 rfl
theorem Qwf (k:Nat) {n:Nat} {M:Tb} (h:Sq n M) (h4:n≤4) {r:List Int} (hr:r.length=n):cfn (k+1) 27 [.fz (Qdg r),.fz (Qba M)]=.ok (.fz (Qdg (rb M r))) [.non,.non]:=by
 have hl:=h.len
 have c:r.length≤100000:=by omega
 have hw:evW (cfn k) (.rng1 (.bi .len (.cons (.var 0) .nil))) [.fz (Qdg r),.fz (Qba M)]=.ok (Qbt 0 r.length,none) [.fz (Qdg r),.fz (Qba M)]:=by
  simp only [Qdl,Qb2,Ql,Qk,Qx,Qb,Qv,yC1,Qt,yC2,yBi,Qb0,Qan,cont,Out.opt,ub2,List.length_map,Qzj c]
 have hcomp:evE (cfn k) (.comp (.rng1 (.bi .len (.cons (.var 0) .nil))) [none,some 0,some 1] (.nm 0) .nil (.bi .sum (.cons (.comp (.rng1 (.bi .len (.cons (.var 1) .nil))) [none,some 1,some 0,some 2] (.nm 0) .nil (.bin .mul (.ix (.var 1) (.var 0)) (.ix (.ix (.var 3) (.var 0)) (.var 2)))) .nil))) [.fz (Qdg r),.fz (Qba M)]=.ok (.ow (.lst ((Qbt 0 r.length).map fun x=>T.int (Qwe r (col M (jOf x)))))) [.fz (Qdg r),.fz (Qba M)] :=
  Qcj (rest:=[.fz (Qdg r),.fz (Qba M)]) hw rfl rfl rfl (fun x hx=>by
   unfold Qbt at hx
   obtain ⟨j,hj,rfl⟩:=List.mem_map.mp hx
   have hj:=List.mem_range.mp hj
   have hw2:evW (cfn k) (.rng1 (.bi .len (.cons (.var 1) .nil))) [.fz (.int (0+(j:Int))),.fz (Qdg r),.fz (Qba M)]=.ok (Qbt 0 r.length,none) [.fz (.int (0+(j:Int))),.fz (Qdg r),.fz (Qba M)]:=by
    simp only [Qdl,Qb2,Ql,Qk,Qx,Qd,Qb,Qv,yC1,Qt,yC2,yBi,Qb0,Qan,cont,Out.opt,ub2,List.length_map,Qzj c]
   have hi:evE (cfn k) (.comp (.rng1 (.bi .len (.cons (.var 1) .nil))) [none,some 1,some 0,some 2] (.nm 0) .nil (.bin .mul (.ix (.var 1) (.var 0)) (.ix (.ix (.var 3) (.var 0)) (.var 2)))) [.fz (.int (0+(j:Int))),.fz (Qdg r),.fz (Qba M)]=.ok (.ow (.lst ((Qbt 0 r.length).map fun x=>T.int (ge r (jOf x)*ge (col M j) (jOf x))))) [.fz (.int (0+(j:Int))),.fz (Qdg r),.fz (Qba M)] :=
    Qcj (rest:=[.fz (Qdg r),.fz (.int (0+(j:Int))),.fz (Qba M)]) hw2 rfl rfl rfl (fun x hx=>by
     unfold Qbt at hx
     obtain ⟨i,hi,rfl⟩:=List.mem_map.mp hx
     have hi:=List.mem_range.mp hi
     have hi':i<M.length:=by omega
     have a1:=Qzy (r:=r) (j:=i) hi
     have a2:atI (M.map Qdg) (i:Int)=some (Qdg M[i]):=Qfz (by rw [List.getElem?_map,List.getElem?_eq_getElem hi'];rfl)
     have hm:=List.getElem_mem hi'
     have a3:=Qzy (r:=M[i]) (j:=j) (by rw [h.row _ hm];omega)
     have mo:Qby (ge r i) (ge M[i] j)=true:=Qcg (Qabt (h.bd _ hm) j)
     refine ⟨.fz (.int (ge r i*ge M[i] j)),?_,by rw [Qpe,Q70 hi'];rfl⟩
     simp only [Int.zero_add,Qbu,Qej,Qk,Qx,Qd,Qb,Qv,Qd9,Qd8,Qd7,cont,Qd6,ui2,a1,Qbp,a2,a3,Qbo,Qbn,Out.opt,uo5,mo,if_true]) (by rw [Qc0];omega)
   rw [Qs6 (f:=fun i=>T.int (ge r i*ge (col M j) i))] at hi
   have em:((List.range r.length).map fun i=>T.int (ge r i*ge (col M j) i))=((List.range r.length).map fun i=>ge r i*ge (col M j) i).map T.int:=by rw [List.map_map];rfl
   rw [em] at hi
   refine ⟨.fz (.int (Qwe r (col M j))),?_,by rw [Qpe];rfl⟩
   simp only [Qb2,Ql,hi,Qv,yC1,Qt,yC2,yBi,Qb0,Qan,cont,Out.opt,ub5,Option.map,intL_mp]
   rfl) (by rw [Qc0];omega)
 rw [Qs6 (f:=fun j=>T.int (Qwe r (col M j)))] at hcomp
 have em:((List.range r.length).map fun j=>T.int (Qwe r (col M j)))=(rb M r).map T.int:=by unfold rb;rw [hl,hr,List.map_map];rfl
 rw [em] at hcomp
 show Qbr (cfn k) ⟨2,2,Qj4⟩ _=_
 rw [Qbd rfl]
 show Qb1 _ (exS _ Qj4 [.fz (Qdg r),.fz (Qba M)])=_
 simp only [Qa9,Qb2,Ql,hcomp,Qv,yC1,Qt,yC2,yBi,Qb0,Qan,cont,Out.opt,ub9,Qai,Qb7,Qaj,Qa5,Qau,Qaz,Q1,Option.map]
open PySem L2
theorem Qa6 {tg:Tg} {b:En→SO} {x:T} {xs:List T} {ρ ρ1 ρ2:En} (h:Qgj tg x ρ=some ρ1) (hb:b ρ1=.nx ρ2):Qca tg b (x::xs) ρ=Qca tg b xs ρ2:=by
 rw [Qca]
 simp only [h,hb]
theorem Qrf {tg:Tg} {b:En→SO} {x:T} {xs:List T} {ρ ρ1 ρ2:En} {v:PV} (h:Qgj tg x ρ=some ρ1) (hb:b ρ1=.rt v ρ2):Qca tg b (x::xs) ρ=.rt v ρ2:=by
 rw [Qca]
 simp only [h,hb]
noncomputable abbrev Qpg:E:=.cmp .ne (.var 1) (.int 0)
noncomputable abbrev Quj:S:=.seq (.setF 2 (.bin .mod (.var 0) (.var 1))) (.seq (.setF 0 (.var 1)) (.setF 1 (.var 2)))
theorem Q71 (G:Int):Qgn .abs [.int G]=some (.fz (.int (G.natAbs:Int))):=by
 show some (PV.fz (.int (if G<0 then -G else G)))=_
 congr 3
 split <;> omega
theorem Qrg (k:Nat) {a b:Int} (ha:a.natAbs<2^125) (hb:b.natAbs<2^125):cfn (k+1) 7 [.fz (.int a),.fz (.int b)]=.ok (.fz (.int (a.gcd b:Nat))) [.non,.non]:=by
 obtain ⟨ρ',e,a',s1,s2,g0,rfl⟩:=Qop (c:=fun ρ=>Qam (evE (cfn k) Qpg ρ)) (b:=exS (cfn k) Quj)
  (Z:=fun ρ=>∃ (a':Int) (s1 s2:Slot),a'.natAbs=a.gcd b∧ρ=[.fz (.int a'),s1,s2])
  (fun i ρ=>∃ (x y:Int) (s2:Slot),Qfn s2=true∧Eu (a.gcd b) i x y∧ρ=[.fz (.int x),.fz (.int y),s2]) (by
  rintro i ρ ⟨x,y,s2,o2,h,rfl⟩
  have et:Qam (evE (cfn k) Qpg [.fz (.int x),.fz (.int y),s2])=.ok (!decide (y=0)) [.fz (.int x),.fz (.int y),s2]:=by
   simp only [Qav,Qk,Qx,Qd,Qb,Qv,Qar,Qah,Qaq,Qap,cont,Qao,uc2,Option.map,Qa0,Qw,yBl]
  by_cases hy:y=0
  ·left
   subst hy
   exact ⟨[.fz (.int x),.fz (.int 0),s2],by show Qam _=_;rw [et];rfl,x,.fz (.int 0),s2,Qzv h,rfl⟩
  ·right
   obtain ⟨i',ei,h'⟩:=Q4o h hy
   have om:=Que (a:=x) hy
   refine ⟨i',[.fz (.int x),.fz (.int y),s2],[.fz (.int y),.fz (.int (x.fmod y)),.fz (.int (x.fmod y))],ei,?_,?_,y,x.fmod y,_,rfl,h',rfl⟩
   ·show Qam _=_
    rw [et,decide_eq_false hy]
    rfl
   ·have es:exS (cfn k) (.setF 2 (.bin .mod (.var 0) (.var 1))) [.fz (.int x),.fz (.int y),s2]=.nx [.fz (.int x),.fz (.int y),.fz (.int (x.fmod y))]:=by
     have e':evE (cfn k) (.bin .mod (.var 0) (.var 1)) [.fz (.int x),.fz (.int y),s2]=.ok (.fz (.int (x.fmod y))) [.fz (.int x),.fz (.int y),s2]:=by
      simp only [Qbu,Qk,Qx,Qb,Qv,Qbp,Qd,Qbo,Qbn,cont,Out.opt,om]
     rw [Qa2,e']
     cases s2 <;> first | rfl | (cases o2;done)
    rw [Qab,es,Qbe]
    simp only [Qab,Qa2,Qk,Qx,Qd,Qb,Qai,Qbq,Qa8,frz,Q8,Qbb,List.length_cons,List.length_nil,Nat.reduceAdd,Nat.reduceLT,List.set,if_true,Qbe])
  252 1000000 [.fz (.int a),.fz (.int b),.un] (by decide) ⟨a,b,.un,rfl,Qrd ha hb,rfl⟩
 have ew:exS (cfn k) (.whl Qpg Quj) [.fz (.int a),.fz (.int b),.un]=.nx [.fz (.int a'),s1,s2]:=by
  rw [exS,e]
  rfl
 have ab:=Q71 a'
 rw [g0] at ab
 show Qbr (cfn k) ⟨2,3,Qdo⟩ _=_
 rw [Qbd rfl]
 show Qb1 _ (exS _ Qdo [.fz (.int a),.fz (.int b),.un])=_
 simp only [Qab,ew,Qbe,Qa9,Qb2,Ql,Qk,Qx,Qb,Qv,yC1,Qt,yC2,yBi,Qb0,Qan,cont,Out.opt,ab,Qai,Qb7,Qaj,Qa5,Qau,Qaz,Q1,Option.map]
noncomputable abbrev pr (x y:Int):T:=.tup [.int x,.int y]
noncomputable abbrev Qfi:S:=.ite (.cmp .ne (.ix (.var 0) (.var 1)) (.int 0)) (.ret (.var 1)) .nil
theorem Qph (k:Nat) (x y:Int):cfn (k+1) 8 [.fz (pr x y)]=.ok (.fz (if x=0 then if y=0 then .non else .int 1 else .int 0)) [.non]:=by
 have c2:(2:Nat)≤100000:=by decide
 have r2:∀ ρ,Ql7 (.fz (.int (2:Nat))) ρ=.ok (Qbt 0 2,none) ρ:=fun ρ=>Qzj c2
 have u2:Qbt 0 2=[.int 0,.int 1]:=rfl
 have ef:exS (cfn k) (.seq (.for_ (.rng1 (.bi .len (.cons (.var 0) .nil))) (.nm 1) Qfi) (.ret .non)) [.fz (pr x y),.un]=.rt (.fz (if x=0 then if y=0 then .non else .int 1 else .int 0)) [.fz (pr x y),if x=0 then .fz (.int 1) else .fz (.int 0)]:=by
  by_cases hx:x=0
  ·have b0:exS (cfn k) Qfi [.fz (pr x y),.fz (.int 0)]=.nx [.fz (pr x y),.fz (.int 0)]:=by simp only [hx,Qbc,Qav,Qej,Qk,Qx,Qb,Qv,Qd9,Qd,Qd8,Qd7,cont,Qd6,ui2,Qkm,Qar,Qah,Qaq,Qap,Qao,uc2,Option.map,Qa0,decide_true,Bool.not_true,Qw,yBl,Qai,yIf,Qcq]
   by_cases hy:y=0
   ·have b1:exS (cfn k) Qfi [.fz (pr x y),.fz (.int 1)]=.nx [.fz (pr x y),.fz (.int 1)]:=by simp only [hy,Qbc,Qav,Qej,Qk,Qx,Qb,Qv,Qd9,Qd,Qd8,Qd7,cont,Qd6,ui2,Qoo,Qar,Qah,Qaq,Qap,Qao,uc2,Option.map,Qa0,decide_true,Bool.not_true,Qw,yBl,Qai,yIf,Qcq]
    have e:Qca (.nm 1) (exS (cfn k) Qfi) [.int 0,.int 1] [.fz (pr x y),.un]=.nx [.fz (pr x y),.fz (.int 1)]:=by
     rw [Qa6 rfl b0,Qa6 rfl b1];rfl
    simp only [Qab,Qev,Qdl,Qb2,Ql,Qk,Qx,Qb,Qv,yC1,Qt,yC2,yBi,Qb0,Qan,cont,Out.opt,ub2,List.length_cons,List.length_nil,Nat.reduceAdd,r2,u2,Qai,Qho,e,Qcn,Qbe,Qa9,Qi1,Qb7,if_pos hy,if_pos hx]
   ·have b1:exS (cfn k) Qfi [.fz (pr x y),.fz (.int 1)]=.rt (.fz (.int 1)) [.fz (pr x y),.fz (.int 1)]:=by simp only [Qbc,Qav,Qej,Qk,Qx,Qb,Qv,Qd9,Qd,Qd8,Qd7,cont,Qd6,ui2,Qoo,Qar,Qah,Qaq,Qap,Qao,uc2,Option.map,Qa0,hy,decide_false,Bool.not_false,Qw,yBl,Qai,yIf,Qa9,Qb7]
    have e:Qca (.nm 1) (exS (cfn k) Qfi) [.int 0,.int 1] [.fz (pr x y),.un]=.rt (.fz (.int 1)) [.fz (pr x y),.fz (.int 1)]:=by
     rw [Qa6 rfl b0,Qrf rfl b1]
    simp only [Qab,Qev,Qdl,Qb2,Ql,Qk,Qx,Qb,Qv,yC1,Qt,yC2,yBi,Qb0,Qan,cont,Out.opt,ub2,List.length_cons,List.length_nil,Nat.reduceAdd,r2,u2,Qai,Qho,e,Qt8,Qvz,if_neg hy,if_pos hx]
  ·have b0:exS (cfn k) Qfi [.fz (pr x y),.fz (.int 0)]=.rt (.fz (.int 0)) [.fz (pr x y),.fz (.int 0)]:=by simp only [Qbc,Qav,Qej,Qk,Qx,Qb,Qv,Qd9,Qd,Qd8,Qd7,cont,Qd6,ui2,Qkm,Qar,Qah,Qaq,Qap,Qao,uc2,Option.map,Qa0,hx,decide_false,Bool.not_false,Qw,yBl,Qai,yIf,Qa9,Qb7]
   have e:Qca (.nm 1) (exS (cfn k) Qfi) [.int 0,.int 1] [.fz (pr x y),.un]=.rt (.fz (.int 0)) [.fz (pr x y),.fz (.int 0)]:=Qrf rfl b0
   simp only [Qab,Qev,Qdl,Qb2,Ql,Qk,Qx,Qb,Qv,yC1,Qt,yC2,yBi,Qb0,Qan,cont,Out.opt,ub2,List.length_cons,List.length_nil,Nat.reduceAdd,r2,u2,Qai,Qho,e,Qt8,Qvz,if_neg hx]
 show Qbr (cfn k) ⟨1,2,Qhj⟩ _=_
 rw [Qbd rfl]
 show Qb1 _ (exS _ Qhj [.fz (pr x y),.un])=_
 have ef':exS (cfn k) Qhj [.fz (pr x y),.un]=_:=ef
 rw [ef']
 split <;> simp only [Qaj,Qa5,Qau,Qaz,Q1,Option.map]
noncomputable abbrev Qzz:E:=.bin .fdv (.var 0) (.var 1)
theorem Qrh {x y:Int} (h:¬ (x=0∧y=0)):lnO x y=some (x.fdiv (sgn x y),y.fdiv (sgn x y)):=if_neg h
theorem Q20 (x y:Int):Int.gcd (x.natAbs:Int) y=x.gcd y:=by rw [Int.gcd_eq_natAbs_gcd_natAbs,Int.gcd_eq_natAbs_gcd_natAbs,Int.natAbs_natCast]
theorem Quk {cf:CF} {ρ:En} {js:List (Option Nat)} {x y s:Int} {e:E} (hw:evW cf (.seq e) ρ=.ok ([.int x,.int y],none) ρ) (hj:Qb5 js ρ=[.un,.fz (.int s)]) (hp:Qbm js=true) (s0:s≠0) (sb:s.natAbs<2^125):evE cf (.comp (.seq e) js (.nm 0) .nil Qzz) ρ=.ok (.ow (.lst [.int (x.fdiv s),.int (y.fdiv s)])) ρ:=by
 have q:=Qcj (cf:=cf) (w:=.seq e) (js:=js) (e:=Qzz) (ρ:=ρ) (rest:=[.fz (.int s)]) (xs:=[.int x,.int y]) (f:=fun t=>match t with | .int v=>T.int (v.fdiv s) | t=>t) hw hj rfl hp (fun t ht=>by
  have o:∀ v:Int,opB .fdv (.int v) (.int s)=_:=fun v=>Q2y s0 sb
  rcases List.mem_cons.mp ht with rfl | ht
  ·refine ⟨.fz (.int (x.fdiv s)),?_,rfl⟩
   simp only [Qbu,Qk,Qx,Qb,Qv,Qbp,Qd,Qbo,Qbn,cont,Out.opt,o]
  ·rw [List.mem_singleton.mp ht]
   refine ⟨.fz (.int (y.fdiv s)),?_,rfl⟩
   simp only [Qbu,Qk,Qx,Qb,Qv,Qbp,Qd,Qbo,Qbn,cont,Out.opt,o]) (by show 2≤100000;decide)
 exact q
theorem Qn2 (k:Nat) {x y:Int} (hx:x.natAbs<2^125) (hy:y.natAbs<2^125):cfn (k+2) 9 [.fz (pr x y)]=.ok (.fz (lnT (lnO x y))) [.non]:=by
 have e1:=Qph k x y
 show Qbr (cfn (k+1)) ⟨1,4,Qjy⟩ _=_
 rw [Qbd rfl]
 show Qb1 _ (exS _ Qjy [.fz (pr x y),.un,.un,.un])=_
 by_cases c:x=0∧y=0
 ·have en:lnO x y=none:=if_pos c
  rw [if_pos c.1,if_pos c.2] at e1
  simp only [Qab,Qa2,Q4,Ql,Qk,Qx,Qb,Qv,yC1,Qt,yC2,Qs,Qq,Q3,Qo,Qaa,Q2,e1,Qat,Qj,Qu,L2.Qi,Option.map,if_true,Qai,Qbq,Qa8,frz,Q8,Qbb,List.length_cons,List.length_nil,Nat.reduceAdd,Nat.reduceLT,Qd,List.set,Qbe,Qbc,Qav,Qar,Qi1,Qaq,Qap,cont,Qao,uc7,Qer,Qw,yBl,yIf,Qa9,Qb7,Qvz,Qaj,Qa5,Qau,Qaz,Q1,lnT,en]
 ·have g0:=Qi7 c
  have gl:=Qzw hx hy
  have sa:=Qk0 x y
  have s0:sgn x y≠0:=by intro z;rw [z,Int.natAbs_zero] at sa;omega
  have en:=Qrh c
  obtain ⟨l,v,el,hv,ev⟩:∃ l v:Int,cfn (k+1) 8 [.fz (pr x y)]=.ok (.fz (.int l)) [.non]∧atI [T.int x,.int y] l=some (.int v)∧v=if x=0 then y else x:=by
   by_cases cx:x=0
   ·have cy:¬ y=0:=fun z=>c ⟨cx,z⟩
    rw [if_pos cx,if_neg cy] at e1
    exact ⟨1,y,e1,rfl,by rw [if_pos cx]⟩
   ·rw [if_neg cx] at e1
    exact ⟨0,x,e1,rfl,by rw [if_neg cx]⟩
  have z0:(0:Int).natAbs<2^125:=by decide
  have d1:=Qrg k (a:=0) (b:=x) z0 hx
  rw [Int.gcd_zero_left] at d1
  have d2:=Qrg k (a:=(x.natAbs:Int)) (b:=y) (by rw [Int.natAbs_natCast];exact hx) hy
  rw [Q20] at d2
  have ef:Qca (.nm 3) (exS (cfn (k+1)) (.setF 2 (.call 7 (.cons (.var 2) (.cons (.var 3) .nil))))) [.int x,.int y] [.fz (pr x y),.fz (.int l),.fz (.int 0),.un]=.nx [.fz (pr x y),.fz (.int l),.fz (.int (x.gcd y:Nat)),.fz (.int y)]:=by
   have b1:exS (cfn (k+1)) (.setF 2 (.call 7 (.cons (.var 2) (.cons (.var 3) .nil)))) [.fz (pr x y),.fz (.int l),.fz (.int 0),.fz (.int x)]=.nx [.fz (pr x y),.fz (.int l),.fz (.int (x.natAbs:Nat)),.fz (.int x)]:=by simp only [Qa2,Q4,Ql,Qk,Qx,Qd,Qb,Qv,yC1,Qt,yC2,Qs,Qq,Q3,Qo,Qaa,Q2,d1,Qat,Qj,Qu,L2.Qi,Option.map,if_true,Qai,Qbq,Qa8,frz,Q8,Qbb,List.length_cons,List.length_nil,Nat.reduceAdd,Nat.reduceLT,List.set]
   have b2:exS (cfn (k+1)) (.setF 2 (.call 7 (.cons (.var 2) (.cons (.var 3) .nil)))) [.fz (pr x y),.fz (.int l),.fz (.int (x.natAbs:Nat)),.fz (.int y)]=.nx [.fz (pr x y),.fz (.int l),.fz (.int (x.gcd y:Nat)),.fz (.int y)]:=by simp only [Qa2,Q4,Ql,Qk,Qx,Qd,Qb,Qv,yC1,Qt,yC2,Qs,Qq,Q3,Qo,Qaa,Q2,d2,Qat,Qj,Qu,L2.Qi,Option.map,if_true,Qai,Qbq,Qa8,frz,Q8,Qbb,List.length_cons,List.length_nil,Nat.reduceAdd,Nat.reduceLT,List.set]
   rw [Qa6 rfl b1,Qa6 rfl b2]
   rfl
  have es:exS (cfn (k+1)) (.ite (.cmp .lt (.ix (.var 0) (.var 1)) (.int 0)) (.setF 2 (.neg (.var 2))) .nil) [.fz (pr x y),.fz (.int l),.fz (.int (x.gcd y:Nat)),.fz (.int y)]=.nx [.fz (pr x y),.fz (.int l),.fz (.int (sgn x y)),.fz (.int y)]:=by
   unfold sgn
   rw [←ev]
   by_cases cv:v<0
   ·rw [if_pos cv]
    simp only [Qbc,Qav,Qej,Qk,Qx,Qb,Qv,Qd9,Qd,Qd8,Qd7,cont,Qd6,ui2,hv,Qar,Qah,Qaq,Qap,Qao,uc3,cv,decide_true,Qw,yBl,Qai,yIf,Qa2,Qnw,Qsg,Qbq,Qa8,frz,Q8,Qbb,List.length_cons,List.length_nil,Nat.reduceAdd,Nat.reduceLT,List.set,if_true]
   ·rw [if_neg cv]
    simp only [Qbc,Qav,Qej,Qk,Qx,Qb,Qv,Qd9,Qd,Qd8,Qd7,cont,Qd6,ui2,hv,Qar,Qah,Qaq,Qap,Qao,uc3,cv,decide_false,Qw,yBl,Qai,yIf,Qcq]
  have ec:=Quk (cf:=cfn (k+1)) (e:=.var 0) (ρ:=[.fz (pr x y),.fz (.int l),.fz (.int (sgn x y)),.fz (.int y)]) (js:=[none,some 2]) (x:=x) (y:=y) (s:=sgn x y) rfl rfl rfl s0 (by rw [sa];exact gl)
  simp only [Qab,Qa2,Q4,Ql,Qk,Qx,Qb,Qv,yC1,Qt,yC2,Qs,Qq,Q3,Qo,Qaa,Q2,el,Qat,Qj,Qu,L2.Qi,Option.map,if_true,Qai,Qbq,Qa8,frz,Q8,Qbb,List.length_cons,List.length_nil,Nat.reduceAdd,Nat.reduceLT,Qd,List.set,Qbe,Qbc,Qav,Qar,Qi1,Qaq,Qap,cont,Qao,uc7,Qer,Qw,yBl,yIf,Qcq,Qah,Qev,Qke,Qon,Qi3,Qi2,Qdv,Qh5,Qho,ef,Qcn,es,Qa9,Qb2,ec,yBi,Qb0,Qan,Out.opt,ub9,Qb7,Qaj,Qa5,Qau,Qaz,Q1,lnT,en]
noncomputable abbrev Qpi:E:=.cmp .gt (.var 3) (.int 0)
noncomputable abbrev Qri:S:=.whl Qpi (.par 1 3 (.var 3) (.bin .mod (.var 1) (.var 3)))
noncomputable abbrev Qpj:S:=.seq (.setF 3 (.bi .max (.cons (.var 2) (.cons (.bin .sub (.int 0) (.var 2)) .nil)))) Qri
theorem Qul (k:Nat) {a b:Nat} {r n:Slot} (ha:a<2^125) (hb:b<2^125):∃ z:Int,exS (cfn k) Qri [r,.fz (.int a),n,.fz (.int b)]=.nx [r,.fz (.int (Nat.gcd a b)),n,.fz (.int z)]:=by
 obtain ⟨ρ',e,z,rfl⟩:=Qop (c:=fun ρ=>Qam (evE (cfn k) Qpi ρ)) (b:=exS (cfn k) (.par 1 3 (.var 3) (.bin .mod (.var 1) (.var 3))))
  (Z:=fun ρ=>∃ z:Int,ρ=[r,.fz (.int (Nat.gcd a b)),n,.fz (.int z)])
  (fun i ρ=>∃ x y:Int,0≤x∧0≤y∧Eu (Nat.gcd a b) i x y∧ρ=[r,.fz (.int x),n,.fz (.int y)]) (by
  rintro i ρ ⟨x,y,x0,y0,h,rfl⟩
  have et:Qam (evE (cfn k) Qpi [r,.fz (.int x),n,.fz (.int y)])=.ok (decide (0<y)) [r,.fz (.int x),n,.fz (.int y)]:=by
   simp only [Qav,Qk,Qx,Qd,Qb,Qv,Qar,Qah,Qaq,Qap,cont,Qao,uc5,Qw,yBl]
  by_cases hy:y=0
  ·left
   subst hy
   have g:=Qzv h
   refine ⟨[r,.fz (.int x),n,.fz (.int 0)],by show Qam _=_;rw [et];rfl,0,?_⟩
   rw [←g]
   have:((x.natAbs:Nat):Int)=x:=by omega
   rw [this]
  ·right
   obtain ⟨i',ei,h'⟩:=Q4o h hy
   have om:=Que (a:=x) hy
   obtain ⟨sg,_⟩:=Qrc x hy
   refine ⟨i',[r,.fz (.int x),n,.fz (.int y)],[r,.fz (.int y),n,.fz (.int (x.fmod y))],ei,?_,?_,y,x.fmod y,y0,by omega,h',rfl⟩
   ·show Qam _=_
    rw [et,decide_eq_true (by omega)]
   ·simp only [Qabj,Qk,Qx,Qd,Qb,Qai,Q4k,Qbu,Qv,Qbp,Qbo,Qbn,cont,Out.opt,om,Q4j,Q8,Qbi,Qbb,List.length_cons,List.length_nil,Nat.reduceAdd,Nat.reduceLT,List.set,if_true])
  252 1000000 [r,.fz (.int a),n,.fz (.int b)] (by decide) ⟨a,b,by omega,by omega,Qrd (by rw [Int.natAbs_natCast];exact ha) (by rw [Int.natAbs_natCast];exact hb),rfl⟩
 refine ⟨z,?_⟩
 rw [exS,e]
 rfl
theorem Q21 (x:Int):(if 0-x>x then 0-x else x)=(x.natAbs:Int):=by split <;> omega
theorem Q72 (k:Nat) {x y:Int} (hx:x.natAbs<2^125) (hy:y.natAbs<2^125):cfn (k+1) 25 [.fz (pr x y)]=.ok (.fz (.int (x.gcd y:Nat))) [.non]:=by
 have m1:∀ (r:Slot) (f:Int) (v:Int) (s:Slot),Qfn s=true→exS (cfn k) (.setF 3 (.bi .max (.cons (.var 2) (.cons (.bin .sub (.int 0) (.var 2)) .nil)))) [r,.fz (.int f),.fz (.int v),s]=.nx [r,.fz (.int f),.fz (.int v),.fz (.int (v.natAbs:Nat))]:=by
  intro r f v s os
  have mx:Qgn .max [.int v,.int (0-v)]=some (.fz (.int (v.natAbs:Nat))):=by
   show some (PV.fz (.int (if 0-v>v then 0-v else v)))=_
   rw [Q21]
  have e':evE (cfn k) (.bi .max (.cons (.var 2) (.cons (.bin .sub (.int 0) (.var 2)) .nil))) [r,.fz (.int f),.fz (.int v),s]=.ok (.fz (.int (v.natAbs:Nat))) [r,.fz (.int f),.fz (.int v),s]:=by
   simp only [Qb2,Ql,Qk,Qx,Qd,Qb,Qv,yC1,Qbu,Qah,Qbp,Qbo,Qbn,cont,Out.opt,uo4,Qt,yC2,yBi,Qb0,Qan,mx]
  rw [Qa2,e']
  cases s <;> first | rfl | (cases os;done)
 obtain ⟨z1,w1⟩:=Qul k (a:=0) (b:=x.natAbs) (r:=.fz (pr x y)) (n:=.fz (.int x)) (by decide) hx
 rw [Nat.gcd_zero_left] at w1
 obtain ⟨z2,w2⟩:=Qul k (a:=x.natAbs) (b:=y.natAbs) (r:=.fz (pr x y)) (n:=.fz (.int y)) hx hy
 rw [←Int.gcd_eq_natAbs_gcd_natAbs] at w2
 have b1:exS (cfn k) Qpj [.fz (pr x y),.fz (.int 0),.fz (.int x),.un]=.nx [.fz (pr x y),.fz (.int (x.natAbs:Nat)),.fz (.int x),.fz (.int z1)]:=by
  rw [Qab,m1 _ _ _ _ rfl,Qbe]
  exact w1
 have b2:exS (cfn k) Qpj [.fz (pr x y),.fz (.int (x.natAbs:Nat)),.fz (.int y),.fz (.int z1)]=.nx [.fz (pr x y),.fz (.int (x.gcd y:Nat)),.fz (.int y),.fz (.int z2)]:=by
  rw [Qab,m1 _ _ _ _ rfl,Qbe]
  exact w2
 have ef:Qca (.nm 2) (exS (cfn k) Qpj) [.int x,.int y] [.fz (pr x y),.fz (.int 0),.un,.un]=.nx [.fz (pr x y),.fz (.int (x.gcd y:Nat)),.fz (.int y),.fz (.int z2)]:=by
  rw [Qa6 rfl b1,Qa6 rfl b2]
  rfl
 show Qbr (cfn k) ⟨1,4,Qib⟩ _=_
 rw [Qbd rfl]
 show Qb1 _ (exS _ Qib [.fz (pr x y),.un,.un,.un])=_
 simp only [Qab,Qa2,Qah,Qai,Qbq,Qa8,frz,Q8,Qbb,List.length_cons,List.length_nil,Nat.reduceAdd,Nat.reduceLT,Qd,Qb,List.set,if_true,Qbe,Qev,Qke,Qk,Qx,Qv,Qon,Qi3,cont,Qi2,Qdv,Qh5,Qho,ef,Qcn,Qa9,Qb7,Qaj,Qa5,Qau,Qaz,Q1,Option.map]
noncomputable def nz:T→Bool
 | .int v=>!decide (v=0)
 | _=>false
theorem Qif (k:Nat) {x y:Int} (hx:x.natAbs<2^125) (hy:y.natAbs<2^125):cfn (k+2) 26 [.fz (pr x y)]=.ok (.fz (lnT (lnO x y))) [.non]:=by
 have e1:=Q72 k hx hy
 show Qbr (cfn (k+1)) ⟨1,3,Qid⟩ _=_
 rw [Qbd rfl]
 show Qb1 _ (exS _ Qid [.fz (pr x y),.un,.un])=_
 by_cases c:x=0∧y=0
 ·have en:lnO x y=none:=if_pos c
  have g:((x.gcd y:Nat):Int)=0:=by rw [c.1,c.2];rfl
  rw [g] at e1
  simp only [Qab,Qa2,Q4,Ql,Qk,Qx,Qb,Qv,yC1,Qt,yC2,Qs,Qq,Q3,Qo,Qaa,Q2,e1,Qat,Qj,Qu,L2.Qi,Option.map,if_true,Qai,Qbq,Qa8,frz,Q8,Qbb,List.length_cons,List.length_nil,Nat.reduceAdd,Nat.reduceLT,Qd,List.set,Qbe,Qbc,Qav,Qar,Qah,Qaq,Qap,cont,Qao,uc1,Qa0,decide_true,Qw,yBl,yIf,Qa9,Qi1,Qb7,Qvz,Qaj,Qa5,Qau,Qaz,Q1,lnT,en]
 ·have g0:=Qi7 c
  have g1:¬ ((x.gcd y:Nat):Int)=0:=by omega
  have gl:=Qzw hx hy
  have sa:=Qk0 x y
  have s0:sgn x y≠0:=by intro z;rw [z,Int.natAbs_zero] at sa;omega
  have en:=Qrh c
  obtain ⟨v,L,hL,ev⟩:∃ (v:Int) (L:List T),(([T.int x,.int y].filter nz).map id)=T.int v::L∧v=if x=0 then y else x:=by
   by_cases cx:x=0
   ·have cy:¬ y=0:=fun z=>c ⟨cx,z⟩
    refine ⟨y,[],?_,by rw [if_pos cx]⟩
    have n1:nz (.int x)=false:=by show (!decide (x=0))=false;rw [decide_eq_true cx];rfl
    have n2:nz (.int y)=true:=by show (!decide (y=0))=true;rw [decide_eq_false cy];rfl
    simp only [List.filter_cons,n1,n2,List.filter_nil,List.map_cons,List.map_nil,id,if_true,if_false,Bool.false_eq_true]
   ·refine ⟨x,([T.int y].filter nz).map id,?_,by rw [if_neg cx]⟩
    have n1:nz (.int x)=true:=by show (!decide (x=0))=true;rw [decide_eq_false cx];rfl
    rw [List.filter_cons,if_pos n1]
    rfl
  have hc:evE (cfn (k+1)) (.comp (.seq (.var 0)) [none] (.nm 0) (.cons (.cmp .ne (.var 0) (.int 0)) .nil) (.var 0)) [.fz (pr x y),.fz (.int (x.gcd y:Nat)),.un]=.ok (.ow (.lst (T.int v::L))) [.fz (pr x y),.fz (.int (x.gcd y:Nat)),.un]:=by
   rw [←hL]
   refine Qky (cf:=cfn (k+1)) (w:=.seq (.var 0)) (js:=[none]) (cs:=.cons (.cmp .ne (.var 0) (.int 0)) .nil) (e:=.var 0) (rest:=[]) (xs:=[.int x,.int y]) (f:=id) (g:=nz) rfl rfl rfl rfl (fun t ht=>?_) (fun t ht _=>?_) (by show 2≤100000;decide)
   ·obtain ⟨u,rfl⟩:∃ u:Int,t=.int u:=by
     rcases List.mem_cons.mp ht with rfl | ht
     ·exact ⟨_,rfl⟩
     ·exact ⟨_,List.mem_singleton.mp ht⟩
    rw [Qzi]
    simp only [Qav,Qk,Qx,Qb,Qv,Qar,Qah,Qaq,Qap,cont,Qao,uc2,Option.map,Qa0,Qw,yBl,nz]
   ·obtain ⟨u,rfl⟩:∃ u:Int,t=.int u:=by
     rcases List.mem_cons.mp ht with rfl | ht
     ·exact ⟨_,rfl⟩
     ·exact ⟨_,List.mem_singleton.mp ht⟩
    exact ⟨.fz (.int u),by simp only [Qk,Qx,Qb],rfl⟩
  have es:exS (cfn (k+1)) (.ite (.cmp .lt (.var 2) (.int 0)) (.setF 1 (.bin .sub (.int 0) (.var 1))) .nil) [.fz (pr x y),.fz (.int (x.gcd y:Nat)),.fz (.int v)]=.nx [.fz (pr x y),.fz (.int (sgn x y)),.fz (.int v)]:=by
   unfold sgn
   rw [←ev,←Int.zero_sub]
   by_cases cv:v<0
   ·rw [if_pos cv]
    simp only [Qbc,Qav,Qk,Qx,Qd,Qb,Qv,Qar,Qah,Qaq,Qap,cont,Qao,uc3,cv,decide_true,Qw,yBl,Qai,yIf,Qa2,Qbu,Qbp,Qbo,Qbn,Out.opt,uo4,Qbq,Qa8,frz,Q8,Qbb,List.length_cons,List.length_nil,Nat.reduceAdd,Nat.reduceLT,List.set,if_true]
   ·rw [if_neg cv]
    simp only [Qbc,Qav,Qk,Qx,Qd,Qb,Qv,Qar,Qah,Qaq,Qap,cont,Qao,uc3,cv,decide_false,Qw,yBl,Qai,yIf,Qcq]
  have ec:=Quk (cf:=cfn (k+1)) (e:=.var 0) (ρ:=[.fz (pr x y),.fz (.int (sgn x y)),.fz (.int v)]) (js:=[none,some 1]) (x:=x) (y:=y) (s:=sgn x y) rfl rfl rfl s0 (by rw [sa];exact gl)
  simp only [Qab,Qa2,Q4,Ql,Qk,Qx,Qb,Qv,yC1,Qt,yC2,Qs,Qq,Q3,Qo,Qaa,Q2,e1,Qat,Qj,Qu,L2.Qi,Option.map,if_true,Qai,Qbq,Qa8,frz,Q8,Qbb,List.length_cons,List.length_nil,Nat.reduceAdd,Nat.reduceLT,Qd,List.set,Qbe,Qbc,Qav,Qar,Qah,Qaq,Qap,cont,Qao,uc1,Qa0,g1,decide_false,Qw,yBl,yIf,Qcq,Qej,hc,Qd9,Qd8,Qd7,Qd6,ui1,Qkm,es,Qa9,Qb2,ec,yBi,Qb0,Qan,Out.opt,ub9,Qb7,Qaj,Qa5,Qau,Qaz,Q1,lnT,en]
open PySem L2
theorem Qml {cf:CF} {w:W} {js:List (Option Nat)} {e:E} {ρ rest:En} {u v a b:T} (hw:evW cf w ρ=.ok ([u,v],none) ρ) (hcap:Qb5 js ρ=.un::rest) (hml:rest.all Qfu=true) (hap:Qbm js=true) (h1:evE cf e (.fz u::rest)=.ok (.fz a) (.fz u::rest)) (h2:evE cf e (.fz v::rest)=.ok (.fz b) (.fz v::rest)) :
  evE cf (.comp w js (.nm 0) .nil e) ρ=.ok (.ow (.lst [a,b])) ρ:=by
 classical
 have hf:(if v=u then a else b)=b:=by
  split
  ·rename_i h
   subst h
   rw [h1] at h2
   cases h2
   rfl
  ·rfl
 have q:=Qcj (f:=fun t=>if t=u then a else b) hw hcap hml hap (fun t ht=>by
  rcases List.mem_cons.mp ht with rfl | ht
  ·exact ⟨_,h1,by rw [if_pos rfl];rfl⟩
  ·rw [List.mem_singleton.mp ht]
   exact ⟨_,h2,by rw [hf];rfl⟩) (by show 2≤100000;decide)
 rw [List.map_cons,List.map_singleton,if_pos rfl,hf] at q
 exact q
theorem r2':∀ ρ,Ql7 (.fz (.int (2:Nat))) ρ=.ok ([T.int 0,T.int 1],none) ρ:=fun ρ=>rngA (by decide)
noncomputable abbrev B12:Nat:=1000000000000
noncomputable def clr (p q x y:Int):Int×Int:=if p=0 then (x*q-p*y,y*q-q*y) else (x*p-p*x,y*p-q*x)
noncomputable abbrev Qmm:E:=.bin .sub (.bin .mul (.ix (.var 1) (.var 0)) (.ix (.var 2) (.var 3))) (.bin .mul (.ix (.var 2) (.var 0)) (.ix (.var 1) (.var 3)))
theorem Qwg (k:Nat) {x y p q:Int} (h:¬ (p=0∧q=0)) (hx:x.natAbs≤B12) (hy:y.natAbs≤B12) (hp:p.natAbs≤B12) (hq:q.natAbs≤B12):cfn (k+2) 11 [.fz (pr x y),.fz (pr p q)]=.ok (.fz (pr (clr p q x y).1 (clr p q x y).2)) [.non,.non]:=by
 have e1:=Qph k p q
 have m1:∀ i,Qby i p=true:=fun i=>Qcg hp
 have m2:∀ i,Qby i q=true:=fun i=>Qcg hq
 have m3:∀ i,Qby i x=true:=fun i=>Qcg hx
 have m4:∀ i,Qby i y=true:=fun i=>Qcg hy
 have r2:=r2'
 show Qbr (cfn (k+1)) ⟨2,3,Qnz⟩ _=_
 rw [Qbd rfl]
 show Qb1 _ (exS _ (.seq (.setF 2 (.call 8 (.cons (.var 1) .nil))) (.ret (.bi .tup (.cons (.comp (.rng1 (.bi .len (.cons (.var 0) .nil))) [none,some 0,some 1,some 2] (.nm 0) .nil Qmm) .nil)))) [.fz (pr x y),.fz (pr p q),.un])=_
 unfold clr
 by_cases cp:p=0
 ·have cq:¬ q=0:=fun z=>h ⟨cp,z⟩
  rw [if_pos cp,if_neg cq] at e1
  rw [if_pos cp]
  have hw:evW (cfn (k+1)) (.rng1 (.bi .len (.cons (.var 0) .nil))) [.fz (pr x y),.fz (pr p q),.fz (.int 1)]=.ok ([T.int 0,T.int 1],none) [.fz (pr x y),.fz (pr p q),.fz (.int 1)]:=by simp only [Qdl,Qb2,Ql,Qk,Qx,Qb,Qv,yC1,Qt,yC2,yBi,Qb0,Qan,cont,Out.opt,ub2,List.length_cons,List.length_nil,Nat.reduceAdd,r2]
  have hc:=Qml (cf:=cfn (k+1)) (e:=Qmm) (js:=[none,some 0,some 1,some 2]) (rest:=[.fz (pr x y),.fz (pr p q),.fz (.int 1)]) (a:=.int (x*q-p*y)) (b:=.int (y*q-q*y)) hw rfl rfl rfl (by simp only [Qbu,Qej,Qk,Qx,Qd,Qb,Qv,Qd9,Qd8,Qd7,cont,Qd6,ui2,Qkm,Qbp,Qoo,Qbo,Qbn,Out.opt,uo5,m2,if_true,m4,uo4]) (by simp only [Qbu,Qej,Qk,Qx,Qd,Qb,Qv,Qd9,Qd8,Qd7,cont,Qd6,ui2,Qoo,Qbp,Qbo,Qbn,Out.opt,uo5,m2,if_true,m4,uo4])
  generalize Qmm=E0 at hc ⊢
  simp only [Qab,Qa2,Q4,Ql,Qk,Qx,Qd,Qb,Qv,yC1,Qt,yC2,Qs,Qq,Q3,Qo,Qaa,Q2,e1,Qat,Qj,Qu,L2.Qi,Option.map,if_true,Qai,Qbq,Qa8,frz,Q8,Qbb,List.length_cons,List.length_nil,Nat.reduceAdd,Nat.reduceLT,List.set,Qbe,Qa9,Qb2,hc,yBi,Qb0,Qan,cont,Out.opt,ub9,Qb7,Qaj,Qa5,Qau,Qaz,Q1]
 ·rw [if_neg cp] at e1
  rw [if_neg cp]
  have hw:evW (cfn (k+1)) (.rng1 (.bi .len (.cons (.var 0) .nil))) [.fz (pr x y),.fz (pr p q),.fz (.int 0)]=.ok ([T.int 0,T.int 1],none) [.fz (pr x y),.fz (pr p q),.fz (.int 0)]:=by simp only [Qdl,Qb2,Ql,Qk,Qx,Qb,Qv,yC1,Qt,yC2,yBi,Qb0,Qan,cont,Out.opt,ub2,List.length_cons,List.length_nil,Nat.reduceAdd,r2]
  have hc:=Qml (cf:=cfn (k+1)) (e:=Qmm) (js:=[none,some 0,some 1,some 2]) (rest:=[.fz (pr x y),.fz (pr p q),.fz (.int 0)]) (a:=.int (x*p-p*x)) (b:=.int (y*p-q*x)) hw rfl rfl rfl (by simp only [Qbu,Qej,Qk,Qx,Qd,Qb,Qv,Qd9,Qd8,Qd7,cont,Qd6,ui2,Qkm,Qbp,Qbo,Qbn,Out.opt,uo5,m1,if_true,m3,uo4]) (by simp only [Qbu,Qej,Qk,Qx,Qd,Qb,Qv,Qd9,Qd8,Qd7,cont,Qd6,ui2,Qoo,Qbp,Qkm,Qbo,Qbn,Out.opt,uo5,m1,if_true,m3,uo4])
  generalize Qmm=E0 at hc ⊢
  simp only [Qab,Qa2,Q4,Ql,Qk,Qx,Qd,Qb,Qv,yC1,Qt,yC2,Qs,Qq,Q3,Qo,Qaa,Q2,e1,Qat,Qj,Qu,L2.Qi,Option.map,if_true,Qai,Qbq,Qa8,frz,Q8,Qbb,List.length_cons,List.length_nil,Nat.reduceAdd,Nat.reduceLT,List.set,Qbe,Qa9,Qb2,hc,yBi,Qb0,Qan,cont,Out.opt,ub9,Qb7,Qaj,Qa5,Qau,Qaz,Q1]
theorem Qum (k:Nat) {x y:Int}:cfn (k+3) 12 [.fz (pr x y),.fz (.lst [])]=.ok (.fz (pr x y)) [.non,.non]:=by
 have e:Qca (.nm 2) (exS (cfn (k+2)) (.setF 0 (.call 11 (.cons (.var 0) (.cons (.var 2) .nil))))) [] [.fz (pr x y),.fz (.lst []),.un]=.nx [.fz (pr x y),.fz (.lst []),.un]:=by unfold Qca;rfl
 show Qbr (cfn (k+2)) ⟨2,3,Qfw⟩ _=_
 rw [Qbd rfl]
 show Qb1 _ (exS _ Qfw [.fz (pr x y),.fz (.lst []),.un])=_
 simp only [Qab,Qev,Qke,Qk,Qx,Qd,Qb,Qv,Qon,Qi3,cont,Qi2,Qdv,Qh5,Qai,Qho,e,Qcn,Qbe,Qa9,Qb7,Qaj,Qa5,Qau,Qaz,Q1,Option.map]
theorem Q22 (k:Nat) {x y p q u v:Int} (h:cfn (k+2) 11 [.fz (pr x y),.fz (pr p q)]=.ok (.fz (pr u v)) [.non,.non]):cfn (k+3) 12 [.fz (pr x y),.fz (.lst [pr p q])]=.ok (.fz (pr u v)) [.non,.non]:=by
 have b:exS (cfn (k+2)) (.setF 0 (.call 11 (.cons (.var 0) (.cons (.var 2) .nil)))) [.fz (pr x y),.fz (.lst [pr p q]),.fz (pr p q)]=.nx [.fz (pr u v),.fz (.lst [pr p q]),.fz (pr p q)]:=by simp only [Qa2,Q4,Ql,Qk,Qx,Qb,Qv,yC1,Qd,Qt,yC2,Qs,Qq,Q3,Qo,Qaa,Q2,h,Qat,Qj,Qu,L2.Qi,Option.map,if_true,Qai,Qbq,Qa8,frz,Q8,Qbb,List.length_cons,List.length_nil,Nat.reduceAdd,Nat.reduceLT,List.set]
 have e:Qca (.nm 2) (exS (cfn (k+2)) (.setF 0 (.call 11 (.cons (.var 0) (.cons (.var 2) .nil))))) [pr p q] [.fz (pr x y),.fz (.lst [pr p q]),.un]=.nx [.fz (pr u v),.fz (.lst [pr p q]),.fz (pr p q)]:=by
  rw [Qa6 rfl b]
  unfold Qca
  rfl
 show Qbr (cfn (k+2)) ⟨2,3,Qfw⟩ _=_
 rw [Qbd rfl]
 show Qb1 _ (exS _ Qfw [.fz (pr x y),.fz (.lst [pr p q]),.un])=_
 simp only [Qab,Qev,Qke,Qk,Qx,Qd,Qb,Qv,Qon,Qi3,cont,Qi2,Qdv,Qh5,Qai,Qho,e,Qcn,Qbe,Qa9,Qb7,Qaj,Qa5,Qau,Qaz,Q1,Option.map]
noncomputable abbrev lp (l:Int×Int):T:=pr l.1 l.2
theorem Qz0 {cf:CF} {i:Nat} {b:S} {ρ:En} {ts:List T} (hs:Qc ρ i=.ow (.lst ts)) (hk:(ρ.set i .un).all Qmv=true):exS cf (.look i b) ρ=lkO i ρ (exS cf b ((ρ.set i (.fz (.lst ts))).map lkS)):=by
 rw [exS,hs]
 simp only [if_pos hk]
noncomputable abbrev st_set:S:=.setF 3 (.call 9 (.cons (.call 12 (.cons (.var 2) (.cons (.var 1) .nil))) .nil))
noncomputable abbrev Qz1:S:=.ite (.cmp .isnn (.var 3) .non) (.app 1 (.var 3)) .nil
theorem Qpk (k:Nat) {R:List T} {L:List (Int×Int)} (hL:L.length≤10) {x y u v:Int} (hu:u.natAbs<2^125) (hv:v.natAbs<2^125) (h:cfn (k+3) 12 [.fz (pr x y),.fz (.lst (L.map lp))]=.ok (.fz (pr u v)) [.non,.non]) {s3:Slot} (o3:s3=.un∨∃ o,s3=.fz (lnT o)) :
  exS (cfn (k+3)) (.seq (.look 1 st_set) Qz1) [.fz (.tup R),.ow (.lst (L.map lp)),.fz (pr x y),s3]=.nx [.fz (.tup R),.ow (.lst ((L++(lnO u v).toList).map lp)),.fz (pr x y),.fz (lnT (lnO u v))]:=by
 have e1:=Qn2 (k+1) hu hv
 have w1:exS (cfn (k+3)) (.look 1 st_set) [.fz (.tup R),.ow (.lst (L.map lp)),.fz (pr x y),s3]=.nx [.fz (.tup R),.ow (.lst (L.map lp)),.fz (pr x y),.fz (lnT (lnO u v))]:=by
  generalize L.map lp=LL at h ⊢
  obtain ⟨R',hR1,hR2⟩:∃ R':Slot,lkS (.fz (.tup R))=R'∧lkB (.fz (.tup R)) R'=.fz (.tup R):=by
   refine ⟨_,rfl,?_⟩
   show lkB (.fz (.tup R)) (if (!R.all flaT)=true then .fx (.tup R) else .fz (.tup R))=_
   cases hr:R.all flaT with
   | true=>show (if R.all flaT=true then Slot.fz (.tup R) else .un)=_;rw [if_pos hr]
   | false=>rfl
  have fU:∀ o,Qvr (lnT o)=true:=fun o=>by
   cases o <;> rfl
  have e:∀ s:Slot,Qfn s=true→exS (cfn (k+3)) st_set [R',.fx (.lst LL),.fz (pr x y),s]=.nx [R',.fx (.lst LL),.fz (pr x y),.fz (lnT (lnO u v))]:=fun s os=>by
   (cases s <;> cases os) <;> simp only [Qa2,Q4,Ql,Qk,Qx,Qd,Qb,Qv,yC1,Qt,yC2,Qs,Qq,Q3,Qo,Qaa,Q2,h,Qat,Qj,Qu,L2.Qi,Option.map,if_true,e1,Qai,Qbq,Qa8,frz,Q8,Qbb,List.length_cons,List.length_nil,Nat.reduceAdd,Nat.reduceLT,List.set]
  have hf:=fU (lnO u v)
  have fin:∀ s:Slot,lkO 1 [.fz (.tup R),.ow (.lst LL),.fz (pr x y),s] (.nx [R',.fx (.lst LL),.fz (pr x y),.fz (lnT (lnO u v))])=.nx [.fz (.tup R),.ow (.lst LL),.fz (pr x y),.fz (lnT (lnO u v))]:=fun s=>by
   show SO.nx [lkB (.fz (.tup R)) R',.ow (.lst LL),.fz (pr x y),if Qvr (lnT (lnO u v))=true then .fz (lnT (lnO u v)) else .un]=_
   rw [if_pos hf,hR2]
  have go:∀ s:Slot,Qfn s=true→Qmv s=true→lkS s=s→exS (cfn (k+3)) (.look 1 st_set) [.fz (.tup R),.ow (.lst LL),.fz (pr x y),s]=.nx [.fz (.tup R),.ow (.lst LL),.fz (pr x y),.fz (lnT (lnO u v))]:=fun s os ok ks=>by
   rw [Qz0 (ts:=LL) rfl (by show (true&&(true&&(true&&(Qmv s&&true))))=true;rw [ok];rfl)]
   show lkO 1 _ (exS (cfn (k+3)) st_set [lkS (.fz (.tup R)),.fx (.lst LL),.fz (pr x y),lkS s])=_
   rw [ks,hR1,e s os,fin]
  rcases o3 with rfl | ⟨o,rfl⟩
  ·exact go _ rfl rfl rfl
  ·cases o with
   | none=>exact go _ rfl rfl rfl
   | some l=>exact go _ rfl rfl rfl
 rw [Qab,w1,Qbe]
 cases ho:lnO u v with
 | none =>
  rw [Option.toList_none,List.append_nil]
  generalize L.map lp=LL
  simp only [lnT,Qbc,Qav,Qk,Qx,Qd,Qb,Qv,Qar,Qi1,Qaq,Qap,cont,Qao,uc8,Qer,Bool.not_true,Qw,yBl,Qai,yIf,Qcq]
 | some l =>
  have z:L.length<100000:=by omega
  have ea:L.map lp++[lnT (some l)]=(L++[l]).map lp:=by rw [List.map_append];rfl
  have ne:lnT (some l)=lp l:=rfl
  rw [Option.toList_some]
  simp only [ne,Qbc,Qav,Qk,Qx,Qd,Qb,Qv,Qar,Qi1,Qaq,Qap,cont,Qao,uc8,Qer,Bool.not_false,Qw,yBl,Qai,yIf,Qjp,Slot.mut,Qqo,Qma,frz,Ql9,List.length_map,z,List.set,if_true]
  rw [←ea,ne]
open PySem L2
noncomputable def stp (a b c d:Int):List (Int×Int):=match lnO a b with
 | none=>(lnO c d).toList
 | some (p,q)=>(p,q)::(lnO (clr p q c d).1 (clr p q c d).2).toList
structure Sm (x:Int):Prop where
 h:x.natAbs≤B12
theorem Qgg {x:Int} (h:x.natAbs≤B12):x.natAbs<2^125:=Nat.lt_of_le_of_lt h (by decide)
theorem Q73 {p q x y:Int} (hx:x.natAbs≤B12) (hy:y.natAbs≤B12) (hp:p.natAbs≤B12) (hq:q.natAbs≤B12):(clr p q x y).1.natAbs<2^125∧(clr p q x y).2.natAbs<2^125:=by
 have m:∀ {i j:Int},i.natAbs≤B12→j.natAbs≤B12→(i*j).natAbs≤B12*B12:=fun hi hj=>by rw [Int.natAbs_mul];exact Nat.mul_le_mul hi hj
 have d:∀ {i j:Int},i.natAbs≤B12*B12→j.natAbs≤B12*B12→(i-j).natAbs<2^125:=fun {i j} hi hj=>by
  have:(i-j).natAbs≤i.natAbs+j.natAbs:=by omega
  exact Nat.lt_of_le_of_lt (Nat.le_trans this (Nat.add_le_add hi hj)) (by decide)
 unfold clr
 split
 ·exact ⟨d (m hx hq) (m hp hy),d (m hy hq) (m hq hy)⟩
 ·exact ⟨d (m hx hp) (m hp hx),d (m hy hp) (m hq hx)⟩
theorem Qz2 {x y p q:Int} (h:lnO x y=some (p,q)):¬ (p=0∧q=0):=fun z=>by
 have:=(Qn1 h).1.s
 omega
noncomputable abbrev Qpl:S:=.seq (.look 1 st_set) Qz1
theorem Qpm (k:Nat) {a b c d:Int} (ha:a.natAbs≤B12) (hb:b.natAbs≤B12) (hc:c.natAbs≤B12) (hd:d.natAbs≤B12):cfn (k+4) 13 [.fz (.tup [pr a b,pr c d])]=.ok (.ow (.lst ((stp a b c d).map lp))) [.non]:=by
 have z0:(0:Nat)≤100000:=by decide
 have t1:=Qpk k (R:=[pr a b,pr c d]) (L:=[]) (by decide) (Qgg ha) (Qgg hb) (Qum k (x:=a) (y:=b)) (s3:=.un) (.inl rfl)
 rw [List.nil_append,List.map_nil] at t1
 have e:∃ s,Qca (.nm 2) (exS (cfn (k+3)) Qpl) [pr a b,pr c d] [.fz (.tup [pr a b,pr c d]),.ow (.lst []),.un,.un]=.nx [.fz (.tup [pr a b,pr c d]),.ow (.lst ((stp a b c d).map lp)),.fz (pr c d),s]:=by
  rw [Qa6 rfl t1]
  unfold stp
  cases ho:lnO a b with
  | none =>
   have t2:=Qpk k (R:=[pr a b,pr c d]) (L:=[]) (by decide) (Qgg hc) (Qgg hd) (Qum k (x:=c) (y:=d)) (s3:=.fz (lnT none)) (.inr ⟨_,rfl⟩)
   rw [List.nil_append,List.map_nil] at t2
   rw [Option.toList_none,List.map_nil,Qa6 rfl t2]
   unfold Qca
   exact ⟨_,rfl⟩
  | some l =>
   obtain ⟨p,q⟩:=l
   obtain ⟨_,b1,b2⟩:=Qn1 ho
   have hp:=Nat.le_trans b1 ha
   have hq:=Nat.le_trans b2 hb
   have cb:=Q73 hc hd hp hq
   have t2:=Qpk k (R:=[pr a b,pr c d]) (L:=[(p,q)]) (by show 1≤10;decide) cb.1 cb.2 (Q22 k (Qwg k (Qz2 ho) hc hd hp hq)) (s3:=.fz (lnT (some (p,q)))) (.inr ⟨_,rfl⟩)
   rw [Option.toList_some,List.map_singleton]
   rw [List.map_singleton] at t2
   rw [Qa6 rfl t2]
   unfold Qca
   exact ⟨_,rfl⟩
 obtain ⟨s,e⟩:=e
 show Qbr (cfn (k+3)) ⟨1,4,Qmj⟩ _=_
 rw [Qbd rfl]
 show Qb1 _ (exS _ (.seq (.set 1 (.lst .nil)) (.seq (.for_ (.seq (.var 0)) (.nm 2) Qpl) (.ret (.var 1)))) [.fz (.tup [pr a b,pr c d]),.un,.un,.un])=_
 generalize Qpl=B0 at e ⊢
 generalize (stp a b c d).map lp=LL at e ⊢
 simp only [Qab,Qnx,Qgu,Qt,Qv,Qkl,Qc3,List.length_nil,z0,if_true,Qai,Qoj,Q8,Qbb,List.length_cons,Nat.reduceAdd,Nat.reduceLT,Qd,Qb,List.set,Qbe,Qev,Qke,Qk,Qx,Qon,Qi3,cont,Qi2,Qdv,Qh5,Qho,e,Qcn,Qa9,Qb7,Qaj,Qa5,Qau,Qaz,Q1,Option.map]
noncomputable def det (a b c d:Int):Int:=a*d-b*c
theorem Qun {a b c d p q:Int} (h:lnO a b=some (p,q)):((clr p q c d).1=0∧(clr p q c d).2=0)↔det a b c d=0:=by
 have hn:¬ (a=0∧b=0):=fun z=>by rw [show lnO a b=none from if_pos z] at h;cases h
 obtain ⟨p',q',g,e,l,g0,rfl,rfl,_,_⟩:=Qi8 hn
 rw [h] at e
 cases e
 unfold clr det
 by_cases cp:p=0
 ·subst cp
  rw [if_pos rfl]
  have q1:q≠0:=by have:=l.s;omega
  constructor
  ·rintro ⟨h1,_⟩
   have:c*q=0:=by grind
   have:c=0:=(Int.mul_eq_zero.mp this).resolve_right q1
   subst this
   grind
  ·intro h1
   have:g*(q*c)=0:=by grind
   have:c=0:=((Int.mul_eq_zero.mp ((Int.mul_eq_zero.mp this).resolve_left g0))).resolve_left q1
   subst this
   grind
 ·rw [if_neg cp]
  constructor
  ·rintro ⟨_,h2⟩
   have h2:d*p-q*c=0:=h2
   have:g*(d*p-q*c)=0:=by rw [h2,Int.mul_zero]
   grind
  ·intro h1
   have:g*(d*p-q*c)=0:=by grind
   have:=(Int.mul_eq_zero.mp this).resolve_left g0
   exact ⟨by grind,this⟩
theorem Qmn {x y:Int}:lnO x y=none↔x=0∧y=0:=by
 unfold lnO
 split
 ·rename_i hn
  exact ⟨fun _=>hn,fun _=>rfl⟩
 ·rename_i hn
  exact ⟨fun h=>(nomatch h),fun h=>absurd h hn⟩
noncomputable def Qgh (a b c d:Int):Int×Int:=if a=0∧b=0 then (c,d) else (a,b)
theorem Quo {a b c d:Int} (hd:det a b c d=0) (hz:¬ (a=0∧b=0∧c=0∧d=0)):∃ p q,stp a b c d=[(p,q)]∧lnO (Qgh a b c d).1 (Qgh a b c d).2=some (p,q)∧¬ ((Qgh a b c d).1=0∧(Qgh a b c d).2=0):=by
 unfold Qgh
 by_cases h:a=0∧b=0
 ·rw [if_pos h]
  have hn:¬ (c=0∧d=0):=fun z=>hz ⟨h.1,h.2,z.1,z.2⟩
  obtain ⟨p,q,g,e,_⟩:=Qi8 hn
  refine ⟨p,q,?_,e,hn⟩
  unfold stp
  rw [Qmn.mpr h,e]
  rfl
 ·rw [if_neg h]
  obtain ⟨p,q,g,e,_⟩:=Qi8 h
  refine ⟨p,q,?_,e,h⟩
  unfold stp
  rw [e]
  show (p,q)::(lnO _ _).toList=_
  rw [Qmn.mpr ((Qun e).mpr hd)]
  rfl
theorem Qz3 {a b c d:Int} (h:det a b c d≠0∨(a=0∧b=0∧c=0∧d=0)):(stp a b c d).length≠1:=by
 rcases h with h | ⟨rfl,rfl,rfl,rfl⟩
 ·have hn:¬ (a=0∧b=0):=fun z=>h (by unfold det;rw [z.1,z.2];omega)
  obtain ⟨p,q,g,e,_⟩:=Qi8 hn
  unfold stp
  rw [e]
  show ((p,q)::(lnO _ _).toList).length≠1
  have:¬ ((clr p q c d).1=0∧(clr p q c d).2=0):=fun z=>h ((Qun e).mp z)
  obtain ⟨p',q',g',e',_⟩:=Qi8 this
  rw [e']
  show 2≠1
  decide
 ·decide +kernel
theorem Q74 (k:Nat) {a b c d:Int} (ha:a.natAbs≤B12) (hb:b.natAbs≤B12) (hc:c.natAbs≤B12) (hd:d.natAbs≤B12) (hn:cfn (k+4) 3 [.fz (.tup [pr a b,pr c d])]=.ok (.fz .non) [.non]):cfn (k+5) 14 [.fz (.tup [pr a b,pr c d])]=.ok (.fz (.int ((stp a b c d).length:Nat))) [.non]:=by
 have e1:=Qpm k ha hb hc hd
 show Qbr (cfn (k+4)) ⟨1,1,Qsw⟩ _=_
 rw [Qbd rfl]
 show Qb1 _ (exS _ Qsw [.fz (.tup [pr a b,pr c d])])=_
 simp only [Qab,Qgv,Q4,Ql,Qk,Qx,Qb,Qv,yC1,Qt,yC2,Qs,Qq,Q3,Qo,Qaa,Q2,hn,Qat,Qj,Qu,L2.Qi,Option.map,if_true,Qai,Ql8,Qbe,Qa9,Qb2,e1,yBi,Qb0,Qan,cont,Out.opt,ub1,List.length_map,Qb7,Qaj,Qa5,Qau,Qaz,Q1]
open PySem L2
theorem sum2 (a b:Int):Qgn .sum [.lst [.int a,.int b]]=some (.fz (.int (a+b))):=by
 show some (PV.fz (.int (List.sum [a,b])))=_
 simp
theorem Qabu (k:Nat) {p q n0 n1:Int} (h0:n0.natAbs≤B12) (h1:n1.natAbs≤B12):cfn (k+1) 6 [.fz (pr p q),.fz (.lst [.int n0,.int n1])]=.ok (.fz (.int (p*n0+q*n1))) [.non,.non]:=by
 have m1:Qby p n0=true:=Qcg h0
 have m2:Qby q n1=true:=Qcg h1
 have r2:=r2'
 have hw:evW (cfn k) (.rng1 (.bi .len (.cons (.var 0) .nil))) [.fz (pr p q),.fz (.lst [.int n0,.int n1])]=.ok ([T.int 0,T.int 1],none) [.fz (pr p q),.fz (.lst [.int n0,.int n1])]:=by simp only [Qdl,Qb2,Ql,Qk,Qx,Qb,Qv,yC1,Qt,yC2,yBi,Qb0,Qan,cont,Out.opt,ub2,List.length_cons,List.length_nil,Nat.reduceAdd,r2]
 have hc:=Qml (cf:=cfn k) (e:=.bin .mul (.ix (.var 1) (.var 0)) (.ix (.var 2) (.var 0))) (js:=[none,some 0,some 1]) (rest:=[.fz (pr p q),.fz (.lst [.int n0,.int n1])]) (a:=.int (p*n0)) (b:=.int (q*n1)) hw rfl rfl rfl (by simp only [Qbu,Qej,Qk,Qx,Qd,Qb,Qv,Qd9,Qd8,Qd7,cont,Qd6,ui2,Qkm,Qbp,ui1,Qbo,Qbn,Out.opt,uo5,m1,if_true]) (by simp only [Qbu,Qej,Qk,Qx,Qd,Qb,Qv,Qd9,Qd8,Qd7,cont,Qd6,ui2,Qoo,Qbp,ui1,Qbo,Qbn,Out.opt,uo5,m2,if_true])
 have es:=sum2 (p*n0) (q*n1)
 show Qbr (cfn k) ⟨2,2,Qcw⟩ _=_
 rw [Qbd rfl]
 show Qb1 _ (exS _ Qcw [.fz (pr p q),.fz (.lst [.int n0,.int n1])])=_
 simp only [Qa9,Qb2,Ql,hc,Qv,yC1,Qt,yC2,yBi,Qb0,Qan,cont,Out.opt,es,Qai,Qb7,Qaj,Qa5,Qau,Qaz,Q1,Option.map]
theorem Q23 (k:Nat):cfn (k+1) 10 [.fz (.int 2),.fz (.int 0)]=.ok (.fz (pr 1 0)) [.non,.non]:=rfl
theorem Q24 (k:Nat):cfn (k+1) 10 [.fz (.int 2),.fz (.int 1)]=.ok (.fz (pr 0 1)) [.non,.non]:=rfl
theorem Qz4 {cf:CF} {i:Nat} {js:List (Option Nat)} {e:E} {ρ rest:En} {u v a b:T} (hs:(Qc ρ i).prv=some (.lst [u,v])) (hj:js.all (fun j=>decide (j≠some i))=true) (hcap:Qb5 js ρ=.un::rest) (hml:rest.all Qfu=true) (hap:Qbm js=true)
  (h1:evE cf e (.fz u::rest)=.ok (.fz a) (.fz u::rest)) (h2:evE cf e (.fz v::rest)=.ok (.fz b) (.fz v::rest)):evE cf (.compS i js (.nm 0) .nil e) ρ=.ok (.ow (.lst [a,b])) ρ:=by
 have q:=Qml (cf:=cf) (w:=.seq (.lit (.lst [u,v]))) (js:=js) (e:=e) (ρ:=ρ) (rest:=rest) rfl hcap hml hap h1 h2
 have q2:(match Qc8 (.nm 0) (evC cf .nil) (evE cf e) [u,v] [] (Qb5 js ρ) with
   | .ok us ρi=>if Qee (Qb5 js ρ) ρi=true∧Qbm js=true then Out.ok (PV.ow (.lst us)) (Qjj js ρi ρ) else .no
   | _=>.no)=.ok (.ow (.lst [a,b])) ρ:=q
 unfold evE
 rw [hs]
 simp only [if_pos hj]
 exact q2
noncomputable abbrev Qi9:S:=.setF 6 (.call 6 (.cons (.var 4) (.cons (.var 3) .nil)))
noncomputable abbrev Qpn:E:=.compS 3 [none,some 4,some 5] (.nm 0) .nil (.bin .mul (.var 0) (.ix (.var 1) (.var 2)))
noncomputable abbrev Qk1:S:=.seq (.setF 5 (.call 8 (.cons (.var 4) .nil))) (.seq (.look 3 Qi9) (.seq (.set 3 Qpn) (.put 3 (.var 5) (.neg (.var 6)))))
theorem Q25 (k:Nat) {p q at' l s n0 n1:Int} (hl:cfn (k+1) 8 [.fz (pr p q)]=.ok (.fz (.int l)) [.non]) (hs:atI [T.int p,.int q] l=some (.int s)) (sb:s.natAbs≤B12) (h0:n0.natAbs≤B12) (h1:n1.natAbs≤B12) {m0 m1:Int}
  (hm:l=0∧m0 = -(p*n0+q*n1)∧m1=n1*s∨l=1∧m0=n0*s∧m1 = -(p*n0+q*n1)) :
  exS (cfn (k+1)) Qk1 [.fz (.lst [pr p q]),.fz (.int 2),.fz (.int at'),.ow (.lst [.int n0,.int n1]),.fz (pr p q),.un,.un]=.nx [.fz (.lst [pr p q]),.fz (.int 2),.fz (.int at'),.ow (.lst [.int m0,.int m1]),.fz (pr p q),.fz (.int l),.fz (.int (p*n0+q*n1))]:=by
 have e1:=Qabu k (p:=p) (q:=q) h0 h1
 have w1:exS (cfn (k+1)) (.setF 5 (.call 8 (.cons (.var 4) .nil))) [.fz (.lst [pr p q]),.fz (.int 2),.fz (.int at'),.ow (.lst [.int n0,.int n1]),.fz (pr p q),.un,.un]=.nx [.fz (.lst [pr p q]),.fz (.int 2),.fz (.int at'),.ow (.lst [.int n0,.int n1]),.fz (pr p q),.fz (.int l),.un]:=by simp only [Qa2,Q4,Ql,Qk,Qx,Qd,Qb,Qv,yC1,Qt,yC2,Qs,Qq,Q3,Qo,Qaa,Q2,hl,Qat,Qj,Qu,L2.Qi,Option.map,if_true,Qai,Qbq,Qa8,frz,Q8,Qbb,List.length_cons,List.length_nil,Nat.reduceAdd,Nat.reduceLT,List.set]
 have w2:exS (cfn (k+1)) (.look 3 Qi9) [.fz (.lst [pr p q]),.fz (.int 2),.fz (.int at'),.ow (.lst [.int n0,.int n1]),.fz (pr p q),.fz (.int l),.un]=.nx [.fz (.lst [pr p q]),.fz (.int 2),.fz (.int at'),.ow (.lst [.int n0,.int n1]),.fz (pr p q),.fz (.int l),.fz (.int (p*n0+q*n1))]:=by
  have e:exS (cfn (k+1)) Qi9 [.fx (.lst [pr p q]),.fz (.int 2),.fz (.int at'),.fx (.lst [.int n0,.int n1]),.fz (pr p q),.fz (.int l),.un]=.nx [.fx (.lst [pr p q]),.fz (.int 2),.fz (.int at'),.fx (.lst [.int n0,.int n1]),.fz (pr p q),.fz (.int l),.fz (.int (p*n0+q*n1))]:=by simp only [Qa2,Q4,Ql,Qk,Qx,Qd,Qb,Qv,yC1,Qt,yC2,Qs,Qq,Q3,Qo,Qaa,Q2,e1,Qat,Qj,Qu,L2.Qi,Option.map,if_true,Qai,Qbq,Qa8,frz,Q8,Qbb,List.length_cons,List.length_nil,Nat.reduceAdd,Nat.reduceLT,List.set]
  rw [Qz0 (ts:=[.int n0,.int n1]) rfl rfl]
  show lkO 3 _ (exS (cfn (k+1)) Qi9 [.fx (.lst [pr p q]),.fz (.int 2),.fz (.int at'),.fx (.lst [.int n0,.int n1]),.fz (pr p q),.fz (.int l),.un])=_
  rw [e]
  rfl
 generalize hK:p*n0+q*n1=K0 at *
 have mm:∀ i,Qby i s=true:=fun i=>Qcg sb
 have hc:evE (cfn (k+1)) Qpn [.fz (.lst [pr p q]),.fz (.int 2),.fz (.int at'),.ow (.lst [.int n0,.int n1]),.fz (pr p q),.fz (.int l),.fz (.int K0)]=.ok (.ow (.lst [.int (n0*s),.int (n1*s)])) [.fz (.lst [pr p q]),.fz (.int 2),.fz (.int at'),.ow (.lst [.int n0,.int n1]),.fz (pr p q),.fz (.int l),.fz (.int K0)] :=
  Qz4 (rest:=[.fz (pr p q),.fz (.int l)]) rfl rfl rfl rfl rfl (by simp only [Qbu,Qk,Qx,Qb,Qv,Qbp,Qej,Qd,Qd9,Qd8,Qd7,cont,Qd6,ui2,hs,Qbo,Qbn,Out.opt,uo5,mm,if_true]) (by simp only [Qbu,Qk,Qx,Qb,Qv,Qbp,Qej,Qd,Qd9,Qd8,Qd7,cont,Qd6,ui2,hs,Qbo,Qbn,Out.opt,uo5,mm,if_true])
 have w3:exS (cfn (k+1)) (.set 3 Qpn) [.fz (.lst [pr p q]),.fz (.int 2),.fz (.int at'),.ow (.lst [.int n0,.int n1]),.fz (pr p q),.fz (.int l),.fz (.int K0)]=.nx [.fz (.lst [pr p q]),.fz (.int 2),.fz (.int at'),.ow (.lst [.int (n0*s),.int (n1*s)]),.fz (pr p q),.fz (.int l),.fz (.int K0)]:=by
  generalize Qpn=E0 at hc ⊢
  simp only [Qnx,hc,Qai,Qoj,Q8,Qbb,List.length_cons,List.length_nil,Nat.reduceAdd,Nat.reduceLT,Qd,Qb,List.set,if_true]
 have i0:ixN 2 0=some 0:=rfl
 have i1:ixN 2 1=some 1:=rfl
 rw [Qab,w1,Qbe,Qab,w2,Qbe,Qab,w3,Qbe]
 rcases hm with ⟨rfl,rfl,rfl⟩ | ⟨rfl,rfl,rfl⟩
 ·rfl
 ·rfl
theorem Qn3 (k:Nat) {p q at' l s n0 n1:Int} (hu:cfn (k+3) 10 [.fz (.int 2),.fz (.int at')]=.ok (.fz (pr n0 n1)) [.non,.non]) (hl:∀ j,cfn (j+1) 8 [.fz (pr p q)]=.ok (.fz (.int l)) [.non]) (hs:atI [T.int p,.int q] l=some (.int s)) (sb:s.natAbs≤B12) (h0:n0.natAbs≤B12) (h1:n1.natAbs≤B12) {m0 m1:Int}
  (hm:l=0∧m0 = -(p*n0+q*n1)∧m1=n1*s∨l=1∧m0=n0*s∧m1 = -(p*n0+q*n1)) (b0:m0.natAbs<2^125) (b1:m1.natAbs<2^125) :
  cfn (k+4) 15 [.fz (.lst [pr p q]),.fz (.int 2),.fz (.int at')]=.ok (.fz (lnT (lnO m0 m1))) [.non,.non,.non]:=by
 have t:=Q25 (k+2) (at':=at') (hl (k+2)) hs sb h0 h1 hm
 have el:Qgn .list [pr n0 n1]=some (.ow (.lst [.int n0,.int n1])):=rfl
 have e9:=Qn2 (k+1) b0 b1
 have hw:evW (cfn (k+3)) (.seq (.srk 8 (.var 0))) [.fz (.lst [pr p q]),.fz (.int 2),.fz (.int at'),.ow (.lst [.int n0,.int n1]),.un,.un,.un]=.ok ([pr p q],none) [.fz (.lst [pr p q]),.fz (.int 2),.fz (.int at'),.ow (.lst [.int n0,.int n1]),.un,.un,.un]:=by
  have c:Qes (cfn (k+3)) 8 [.fz (pr p q)] [.fz (.lst [pr p q]),.fz (.int 2),.fz (.int at'),.ow (.lst [.int n0,.int n1]),.un,.un,.un]=.ok (.fz (.int l)) [.fz (.lst [pr p q]),.fz (.int 2),.fz (.int at'),.ow (.lst [.int n0,.int n1]),.un,.un,.un]:=by
   unfold Qes
   rw [if_pos (show Qq [PV.fz (pr p q)]=true from rfl),show Qo [.fz (.lst [pr p q]),.fz (.int 2),.fz (.int at'),.ow (.lst [.int n0,.int n1]),.un,.un,.un] [.fz (pr p q)]=some [.fz (pr p q)] from rfl]
   dsimp only
   rw [hl (k+2)]
   rfl
  unfold evW
  rw [Qabb (t:=pr p q) (ρ1:=[.fz (.lst [pr p q]),.fz (.int 2),.fz (.int at'),.ow (.lst [.int n0,.int n1]),.un,.un,.un]) (by simp only [Qk,Qx,Qb]) c]
  rfl
 have ef:Qca (.nm 4) (exS (cfn (k+3)) Qk1) [pr p q] [.fz (.lst [pr p q]),.fz (.int 2),.fz (.int at'),.ow (.lst [.int n0,.int n1]),.un,.un,.un]=.nx [.fz (.lst [pr p q]),.fz (.int 2),.fz (.int at'),.ow (.lst [.int m0,.int m1]),.fz (pr p q),.fz (.int l),.fz (.int (p*n0+q*n1))]:=by
  rw [Qa6 rfl t]
  unfold Qca
  rfl
 show Qbr (cfn (k+3)) ⟨3,7,Qn0⟩ _=_
 rw [Qbd rfl]
 show Qb1 _ (exS _ (.seq (.set 3 (.bi .list (.cons (.call 10 (.cons (.var 1) (.cons (.var 2) .nil))) .nil))) (.seq (.for_ (.seq (.srk 8 (.var 0))) (.nm 4) Qk1) (.ret (.call 9 (.cons (.bi .tup (.cons (.var 3) .nil)) .nil))))) [.fz (.lst [pr p q]),.fz (.int 2),.fz (.int at'),.un,.un,.un,.un])=_
 generalize Qk1=B0 at ef ⊢
 generalize (.seq (.srk 8 (.var 0)):W)=W0 at hw ⊢
 simp only [Qab,Qnx,Qb2,Ql,Q4,Qk,Qx,Qd,Qb,Qv,yC1,Qt,yC2,Qs,Qq,Q3,Qo,Qaa,Q2,hu,Qat,Qj,Qu,L2.Qi,Option.map,if_true,yBi,Qb0,Qan,cont,Out.opt,el,Qai,Qoj,Q8,Qbb,List.length_cons,List.length_nil,Nat.reduceAdd,Nat.reduceLT,List.set,Qbe,Qev,hw,Qho,ef,Qcn,Qa9,Slot.prv,ub9,e9,Qb7,Qaj,Qa5,Qau,Qaz,Q1]
theorem Qabv {cf:CF} {w:W} {js:List (Option Nat)} {e:E} {ρ rest:En} {u a:T} (hw:evW cf w ρ=.ok ([u],none) ρ) (hcap:Qb5 js ρ=.un::rest) (hml:rest.all Qfu=true) (hap:Qbm js=true) (h1:evE cf e (.fz u::rest)=.ok (.fz a) (.fz u::rest)):evE cf (.comp w js (.nm 0) .nil e) ρ=.ok (.ow (.lst [a])) ρ :=
 Qcj (f:=fun _=>a) hw hcap hml hap (fun t ht=>by rw [List.mem_singleton.mp ht];exact ⟨_,h1,rfl⟩) (by show 1≤100000;decide)
theorem Qs7 {cf:CF} {w:W} {js:List (Option Nat)} {e:E} {cs:Es} {ρ rest:En} {l:Int} {a:T} (hl:l=0∨l=1) (hw:evW cf w ρ=.ok ([.int 0,.int 1],none) ρ) (hcap:Qb5 js ρ=.un::rest) (hml:rest.all Qfu=true) (hap:Qbm js=true)
  (hc:∀ i:Int,evC cf cs (.fz (.int i)::rest)=.ok (!decide (i=l)) (.fz (.int i)::rest)) (h:evE cf e (.fz (.int (1-l))::rest)=.ok (.fz a) (.fz (.int (1-l))::rest)):evE cf (.comp w js (.nm 0) cs e) ρ=.ok (.ow (.lst [a])) ρ:=by
 have q:=Qky (cf:=cf) (w:=w) (js:=js) (cs:=cs) (e:=e) (ρ:=ρ) (rest:=rest) (xs:=[.int 0,.int 1]) (f:=fun _=>a) (g:=fun t=>match t with | .int i=>!decide (i=l) | _=>false) hw hcap hml hap (fun t ht=>by
  rcases List.mem_cons.mp ht with rfl | ht
  ·exact hc 0
  ·rw [List.mem_singleton.mp ht];exact hc 1) (fun t ht hg=>by
  rcases hl with rfl | rfl
  ·rcases List.mem_cons.mp ht with rfl | ht
   ·cases hg
   ·rw [List.mem_singleton.mp ht];exact ⟨_,h,rfl⟩
  ·rcases List.mem_cons.mp ht with rfl | ht
   ·exact ⟨_,h,rfl⟩
   ·rw [List.mem_singleton.mp ht] at hg;cases hg) (by show 2≤100000;decide)
 rcases hl with rfl | rfl <;> exact q
open PySem L2
theorem Q75 (i l:Int):opC .nin (.int i) (.lst [.int l])=some (!decide (i=l)):=by
 have h:inO (.int i) (.lst [.int l])=some (decide (i=l)):=by
  show (if Qm 49 (.int i)=true∧List.all [T.int l] (Qm 49)=true then some (List.any [T.int l] fun u=>eqT u (.int i)) else none)=_
  rw [if_pos ⟨rfl,rfl⟩]
  congr 1
  show ((l==i)||false)=_
  by_cases a:i=l
  ·subst a;simp
  ·rw [decide_eq_false a,show (l==i)=false by rw [beq_eq_false_iff_ne];omega]
   rfl
 show (inO (.int i) (.lst [.int l])).map (!·)=_
 rw [h]
 rfl
theorem sq2 {a b c d:Int} (ha:a.natAbs≤1000000000000) (hb:b.natAbs≤1000000000000) (hc:c.natAbs≤1000000000000) (hd:d.natAbs≤1000000000000):Sq 2 [[a,b],[c,d]]:=by
 refine ⟨rfl,?_,?_⟩
 ·intro r hr
  rcases List.mem_cons.mp hr with rfl | hr
  ·rfl
  ·rw [List.mem_singleton.mp hr];rfl
 ·intro r hr x hx
  rcases List.mem_cons.mp hr with rfl | hr
  ·rcases List.mem_cons.mp hx with rfl | hx
   ·exact ha
   ·rw [List.mem_singleton.mp hx];exact hb
  ·rw [List.mem_singleton.mp hr] at hx
   rcases List.mem_cons.mp hx with rfl | hx
   ·exact hc
   ·rw [List.mem_singleton.mp hx];exact hd
theorem Q26 {M:Tb} (h:Sq 2 M):∃ a b c d:Int,M=[[a,b],[c,d]]∧a.natAbs≤1000000000000∧b.natAbs≤1000000000000∧c.natAbs≤1000000000000∧d.natAbs≤1000000000000:=by
 obtain ⟨l,r,bd⟩:=h
 match M,l,r,bd with
 | [r1,r2],_,r,bd =>
  have h1:=r r1 List.mem_cons_self
  have h2:=r r2 (List.mem_cons_of_mem _ List.mem_cons_self)
  have b1:=bd r1 List.mem_cons_self
  have b2:=bd r2 (List.mem_cons_of_mem _ List.mem_cons_self)
  match r1,r2,h1,h2,b1,b2 with
  | [a,b],[c,d],_,_,b1,b2=>exact ⟨a,b,c,d,rfl,b1 a List.mem_cons_self,b1 b (List.mem_cons_of_mem _ List.mem_cons_self),b2 c List.mem_cons_self,b2 d (List.mem_cons_of_mem _ List.mem_cons_self)⟩
noncomputable def los (p q:Int):Int×Int:=if p=0 then (1*q,-(p*1+q*0)) else (-(p*0+q*1),1*p)
section
variable {a b c d:Int} (ha:a.natAbs≤B12) (hb:b.natAbs≤B12) (hc:c.natAbs≤B12) (hd:d.natAbs≤B12)
include ha hb hc hd
theorem Qs8 (k:Nat):cfn (k+4) 3 [.fz (.tup [pr a b,pr c d])]=.ok (.fz .non) [.non]:=Qpd k (sq2 ha hb hc hd)
theorem Q76 (k:Nat):cfn (k+2) 5 [.fz (.tup [pr a b,pr c d])]=.ok (.fz (.tup [pr a c,pr b d])) [.non]:=Qpf k (sq2 ha hb hc hd) (by decide)
theorem Q77 (k:Nat) {p q:Int} (hs:stp a c b d=[(p,q)]) (hpq:¬ (p=0∧q=0)) (hp:p.natAbs≤B12) (hq:q.natAbs≤B12):cfn (k+6) 16 [.fz (.tup [pr a b,pr c d])]=.ok (.ow (.lst [lnT (lnO (los p q).1 (los p q).2)])) [.non]:=by
 have e1:=Qs8 ha hb hc hd (k+1)
 have e2:=Q76 ha hb hc hd (k+3)
 have e3:=Qpm (k+1) ha hc hb hd
 rw [hs,List.map_singleton] at e3
 obtain ⟨l,s,hl,hls,he,hsv,sb,hlo⟩:∃ l s:Int,(l=0∨l=1)∧(∀ j,cfn (j+1) 8 [.fz (pr p q)]=.ok (.fz (.int l)) [.non])∧atI [T.int p,.int q] l=some (.int s)∧s.natAbs≤B12∧True ∧
   cfn (k+5) 15 [.fz (.lst [pr p q]),.fz (.int 2),.fz (.int (1-l))]=.ok (.fz (lnT (lnO (los p q).1 (los p q).2))) [.non,.non,.non]:=by
  unfold los
  by_cases cp:p=0
  ·have cq:¬ q=0:=fun z=>hpq ⟨cp,z⟩
   have hL:∀ j,cfn (j+1) 8 [.fz (pr p q)]=.ok (.fz (.int 1)) [.non]:=fun j=>by
    have:=Qph j p q
    rwa [if_pos cp,if_neg cq] at this
   rw [if_pos cp]
   refine ⟨1,q,.inr rfl,hL,rfl,hq,trivial,?_⟩
   exact Qn3 (k+1) (Q23 (k+3)) hL rfl hq (by decide) (by decide) (.inr ⟨rfl,rfl,rfl⟩) (by rw [Int.one_mul];exact Qgg hq) (by rw [cp];simp)
  ·have hL:∀ j,cfn (j+1) 8 [.fz (pr p q)]=.ok (.fz (.int 0)) [.non]:=fun j=>by
    have:=Qph j p q
    rwa [if_neg cp] at this
   rw [if_neg cp]
   refine ⟨0,p,.inl rfl,hL,rfl,hp,trivial,?_⟩
   exact Qn3 (k+1) (Q24 (k+3)) hL rfl hp (by decide) (by decide) (.inl ⟨rfl,rfl,rfl⟩) (by rw [Int.mul_zero,Int.zero_add,Int.mul_one,Int.natAbs_neg];exact Qgg hq) (by rw [Int.one_mul];exact Qgg hp)
 have r2:=r2'
 have c1:evE (cfn (k+5)) (.comp (.seq (.var 2)) [none] (.nm 0) .nil (.call 8 (.cons (.var 0) .nil))) [.fz (.tup [pr a b,pr c d]),.fz (.int (2:Nat)),.fz (.lst [pr p q]),.un]=.ok (.ow (.lst [.int l])) [.fz (.tup [pr a b,pr c d]),.fz (.int (2:Nat)),.fz (.lst [pr p q]),.un] :=
  Qabv (rest:=[]) rfl rfl rfl rfl (by have:=hls (k+4);simp only [Q4,Ql,Qk,Qx,Qb,Qv,yC1,Qt,yC2,Qs,Qq,Q3,Qo,Qaa,Q2,this,Qat,Qj,Qu,L2.Qi,Option.map,if_true])
 have c2:evE (cfn (k+5)) (.comp (.rng1 (.var 1)) [none,some 2,some 1,some 3] (.nm 0) (.cons (.cmp .nin (.var 0) (.var 3)) .nil) (.call 15 (.cons (.var 1) (.cons (.var 2) (.cons (.var 0) .nil))))) [.fz (.tup [pr a b,pr c d]),.fz (.int (2:Nat)),.fz (.lst [pr p q]),.fz (.lst [.int l])]=.ok (.ow (.lst [lnT (lnO (los p q).1 (los p q).2)])) [.fz (.tup [pr a b,pr c d]),.fz (.int (2:Nat)),.fz (.lst [pr p q]),.fz (.lst [.int l])] :=
  Qs7 (rest:=[.fz (.lst [pr p q]),.fz (.int (2:Nat)),.fz (.lst [.int l])]) hl (by simp only [Qdl,Qk,Qx,Qd,Qb,Qv,r2]) rfl rfl rfl (fun i=>by
   have:=Q75 i l
   rw [Qzi]
   simp only [Qav,Qk,Qx,Qb,Qv,Qar,Qd,Qaq,Qap,cont,Qao,this,Qw,yBl]) (by
   have h2:cfn (k+5) 15 [.fz (.lst [pr p q]),.fz (.int ((2:Nat):Int)),.fz (.int (1-l))]=_:=hlo
   simp only [Q4,Ql,Qk,Qx,Qd,Qb,Qv,yC1,Qt,yC2,Qs,Qq,Q3,Qo,Qaa,Q2,h2,Qat,Qj,Qu,L2.Qi,Option.map,if_true])
 show Qbr (cfn (k+5)) ⟨1,4,Qsy⟩ _=_
 rw [Qbd rfl]
 show Qb1 _ (exS _ Qsy [.fz (.tup [pr a b,pr c d]),.un,.un,.un])=_
 have n2:Qgn .len [.tup [pr a b,pr c d]]=some (.fz (.int (2:Nat))):=rfl
 simp only [Qab,Qgv,Q4,Ql,Qk,Qx,Qb,Qv,yC1,Qt,yC2,Qs,Qq,Q3,Qo,Qaa,Q2,e1,Qat,Qj,Qu,L2.Qi,Option.map,if_true,Qai,Ql8,Qbe,Qa2,Qb2,yBi,Qb0,Qan,cont,Out.opt,n2,Qbq,Qa8,frz,Q8,Qbb,List.length_cons,List.length_nil,Nat.reduceAdd,Nat.reduceLT,Qd,List.set,e2,e3,c1,Qa9,c2,Qb7,Qaj,Qa5,Qau,Qaz,Q1]
theorem Qig (k:Nat):cfn (k+6) 18 [.fz (.tup [pr a b,pr c d])]=if (stp a b c d).length=1 then .ok (.fz .non) [.non] else .xn ⟨4,[]⟩ [.non]:=by
 have e1:=Qs8 ha hb hc hd (k+1)
 have e2:cfn (k+5) 17 [.fz (.int (2:Nat))]=.ok (.fz .non) [.non]:=rfl
 have e3:=Q74 k ha hb hc hd (Qs8 ha hb hc hd k)
 have n2:Qgn .len [.tup [pr a b,pr c d]]=some (.fz (.int (2:Nat))):=rfl
 have r4:∀ s ρ,Qzl 4 [.fz (.str s)] ρ=.xn ⟨4,[]⟩ ρ:=fun _ _=>rfl
 show Qbr (cfn (k+5)) ⟨1,1,Qec⟩ _=_
 rw [Qbd rfl]
 show Qb1 _ (exS _ Qec [.fz (.tup [pr a b,pr c d])])=_
 generalize (stp a b c d).length=N at e3 ⊢
 by_cases h:N=1
 ·subst h
  rw [if_pos rfl]
  have e3':cfn (k+5) 14 [.fz (.tup [pr a b,pr c d])]=.ok (.fz (.int 1)) [.non]:=e3
  simp only [Qab,Qgv,Q4,Ql,Qk,Qx,Qb,Qv,yC1,Qt,yC2,Qs,Qq,Q3,Qo,Qaa,Q2,e1,Qat,Qj,Qu,L2.Qi,Option.map,if_true,Qai,Ql8,Qbe,Qb2,yBi,Qb0,Qan,cont,Out.opt,n2,e2,Qbc,Qav,e3',Qar,Qah,Qaq,Qap,Qao,uc2,Qa0,decide_true,Bool.not_true,Qw,yBl,yIf,Qcq,Qzh,Qaz,Q1]
 ·rw [if_neg h]
  have h':¬ ((N:Int)=1):=by omega
  simp only [Qab,Qgv,Q4,Ql,Qk,Qx,Qb,Qv,yC1,Qt,yC2,Qs,Qq,Q3,Qo,Qaa,Q2,e1,Qat,Qj,Qu,L2.Qi,Option.map,if_true,Qai,Ql8,Qbe,Qb2,yBi,Qb0,Qan,cont,Out.opt,n2,e2,Qbc,Qav,e3,Qar,Qah,Qaq,Qap,Qao,uc2,Qa0,h',decide_false,Bool.not_false,Qw,yBl,yIf,Q2s,Ql5,r4,Qsh,Q1,Qmc]
theorem Qrj (k:Nat) {p q p' q':Int} (h1:stp a b c d=[(p',q')]) (hs:stp a c b d=[(p,q)]) (hpq:¬ (p=0∧q=0)) (hp:p.natAbs≤B12) (hq:q.natAbs≤B12):cfn (k+7) 19 [.fz (.tup [pr a b,pr c d])]=.ok (.fz (lnT (lnO (los p q).1 (los p q).2))) [.non]:=by
 have e1:=Qig ha hb hc hd k
 rw [h1,List.length_singleton,if_pos rfl] at e1
 have e2:=Q77 ha hb hc hd k hs hpq hp hq
 show Qbr (cfn (k+6)) ⟨1,1,Qd1⟩ _=_
 rw [Qbd rfl]
 show Qb1 _ (exS _ Qd1 [.fz (.tup [pr a b,pr c d])])=_
 generalize lnT (lnO (los p q).1 (los p q).2)=TT at e2 ⊢
 simp only [Qab,Qgv,Q4,Ql,Qk,Qx,Qb,Qv,yC1,Qt,yC2,Qs,Qq,Q3,Qo,Qaa,Q2,e1,Qat,Qj,Qu,L2.Qi,Option.map,if_true,Qai,Ql8,Qbe,Qa9,Qej,e2,Qd9,Qah,Qd8,Qd7,cont,Qd6,ui1,Qkm,Qb7,Qaj,Qa5,Qau,Qaz,Q1]
theorem Qrk (k:Nat) {p' q':Int} (h1:stp a b c d=[(p',q')]):cfn (k+7) 20 [.fz (.tup [pr a b,pr c d])]=.ok (.fz (pr p' q')) [.non]:=by
 have e1:=Qig ha hb hc hd k
 rw [h1,List.length_singleton,if_pos rfl] at e1
 have e2:=Qpm (k+2) ha hb hc hd
 rw [h1,List.map_singleton] at e2
 show Qbr (cfn (k+6)) ⟨1,1,Qd2⟩ _=_
 rw [Qbd rfl]
 show Qb1 _ (exS _ Qd2 [.fz (.tup [pr a b,pr c d])])=_
 simp only [Qab,Qgv,Q4,Ql,Qk,Qx,Qb,Qv,yC1,Qt,yC2,Qs,Qq,Q3,Qo,Qaa,Q2,e1,Qat,Qj,Qu,L2.Qi,Option.map,if_true,Qai,Ql8,Qbe,Qa9,Qej,e2,Qd9,Qah,Qd8,Qd7,cont,Qd6,ui1,Qkm,Qb7,Qaj,Qa5,Qau,Qaz,Q1]
theorem Q27 (k:Nat) (h1:(stp a b c d).length≠1):cfn (k+7) 19 [.fz (.tup [pr a b,pr c d])]=.xn ⟨4,[]⟩ [.non]∧cfn (k+7) 20 [.fz (.tup [pr a b,pr c d])]=.xn ⟨4,[]⟩ [.non]:=by
 have e1:=Qig ha hb hc hd k
 rw [if_neg h1] at e1
 constructor
 ·show Qbr (cfn (k+6)) ⟨1,1,Qd1⟩ _=_
  rw [Qbd rfl]
  show Qb1 _ (exS _ Qd1 [.fz (.tup [pr a b,pr c d])])=_
  simp only [Qab,Qgv,Q4,Ql,Qk,Qx,Qb,Qv,yC1,Qt,yC2,Qs,Qq,Q3,Qo,Qaa,Q2,e1,Qat,Qj,Qu,L2.Qi,Option.map,if_true,Q2r,q_xn,Qsh,Q1,Qmc]
 ·show Qbr (cfn (k+6)) ⟨1,1,Qd2⟩ _=_
  rw [Qbd rfl]
  show Qb1 _ (exS _ Qd2 [.fz (.tup [pr a b,pr c d])])=_
  simp only [Qab,Qgv,Q4,Ql,Qk,Qx,Qb,Qv,yC1,Qt,yC2,Qs,Qq,Q3,Qo,Qaa,Q2,e1,Qat,Qj,Qu,L2.Qi,Option.map,if_true,Q2r,q_xn,Qsh,Q1,Qmc]
end
theorem t4' (ρ:En):Q7t Quc (.xn ⟨4,[]⟩ ρ)=.rt (.fz (.tup [.str "line",.non])) ρ:=rfl
theorem Qz5 (k:Nat) {w:Int} {t r:T} (h:cfn (k+7) (if w=0 then 19 else 20) [.fz t]=.ok (.fz r) [.non]):cfn (k+8) 32 [.fz (.int w),.fz t]=.ok (.fz (.tup [.str "told",r])) [.non,.non]:=by
 have z2:(2:Nat)≤100000:=by decide
 show Qbr (cfn (k+7)) ⟨2,3,Qe3⟩ _=_
 rw [Qbd rfl]
 show Qb1 _ (exS _ Qe3 [.fz (.int w),.fz t,.un])=_
 rw [Qzm]
 by_cases hw:w=0
 ·rw [if_pos hw] at h
  simp only [hw,Qa9,Qfv,Ql,Ql5,Qv,yC1,Qt5,Qav,Qk,Qx,Qb,Qar,Qah,Qaq,Qap,cont,Qao,uc1,Qa0,decide_true,Qw,yBl,Qzc,Q4,Qd,Qt,yC2,Qs,Qq,Q3,Qo,Qaa,Q2,h,Qat,Qj,Qu,L2.Qi,Option.map,if_true,Qkk,Qc3,frz,List.length_cons,List.length_nil,Nat.reduceAdd,z2,Qai,Qb7,Qzn,Qaj,Qa5,Qau,Qaz,Q1]
 ·rw [if_neg hw] at h
  simp only [Qa9,Qfv,Ql,Ql5,Qv,yC1,Qt5,Qav,Qk,Qx,Qb,Qar,Qah,Qaq,Qap,cont,Qao,uc1,Qa0,hw,decide_false,Qw,yBl,Qzc,Q4,Qd,Qt,yC2,Qs,Qq,Q3,Qo,Qaa,Q2,h,Qat,Qj,Qu,L2.Qi,Option.map,if_true,Qkk,Qc3,frz,List.length_cons,List.length_nil,Nat.reduceAdd,z2,Qai,Qb7,Qzn,Qaj,Qa5,Qau,Qaz,Q1]
theorem Qz6 (k:Nat) {w:Int} {t:T} (h:cfn (k+7) (if w=0 then 19 else 20) [.fz t]=.xn ⟨4,[]⟩ [.non]):cfn (k+8) 32 [.fz (.int w),.fz t]=.ok (.fz (.tup [.str "line",.non])) [.non,.non]:=by
 show Qbr (cfn (k+7)) ⟨2,3,Qe3⟩ _=_
 rw [Qbd rfl]
 show Qb1 _ (exS _ Qe3 [.fz (.int w),.fz t,.un])=_
 rw [Qzm]
 by_cases hw:w=0
 ·rw [if_pos hw] at h
  simp only [hw,Qa9,Qfv,Ql,Ql5,Qv,yC1,Qt5,Qav,Qk,Qx,Qb,Qar,Qah,Qaq,Qap,cont,Qao,uc1,Qa0,decide_true,Qw,yBl,Qzc,Q4,Qd,Qt,yC2,Qs,Qq,Q3,Qo,Qaa,Q2,h,Qat,Qj,Qu,L2.Qi,Option.map,if_true,x_xn,Q2r,t4',Qaj,Qa5,Qau,Qaz,Q1]
 ·rw [if_neg hw] at h
  simp only [Qa9,Qfv,Ql,Ql5,Qv,yC1,Qt5,Qav,Qk,Qx,Qb,Qar,Qah,Qaq,Qap,cont,Qao,uc1,Qa0,hw,decide_false,Qw,yBl,Qzc,Q4,Qd,Qt,yC2,Qs,Qq,Q3,Qo,Qaa,Q2,h,Qat,Qj,Qu,L2.Qi,Option.map,if_true,x_xn,Q2r,t4',Qaj,Qa5,Qau,Qaz,Q1]
open PySem L2
noncomputable def Qfx (q:T):Prop:=∃ n f:Int,0≤n∧q=.lst [.int n,.int f]
theorem Qed (k:Nat) {m:Int} (h0:0<m) (h1:m.natAbs<2^64) {q:T} (hq:Qfx q):∃ r q',0≤r∧r<m∧Qfx q'∧cfn (k+1) 22 [.ml q,.fz (.int m)]=.ok (.fz (.int r)) [q',.non]:=by
 obtain ⟨n,f,hn,rfl⟩:=hq
 have h1':m.natAbs<18446744073709551616:=h1
 have h32:(32:Int).natAbs<18446744073709551616:=by decide
 by_cases hf:f=1
 ·refine ⟨n%m,.lst [.int (n / m),.int f],Int.emod_nonneg _ (by omega),Int.emod_lt_of_pos _ h0,⟨_,_,Int.ediv_nonneg hn (by omega),rfl⟩,?_⟩
  show Qbr (cfn k) ⟨2,5,Qe0⟩ _=_
  rw [Qbd rfl]
  show Qb1 _ (exS _ Qe0 [.ml (.lst [.int n,.int f]),.fz (.int m),.un,.un,.un])=_
  subst hf
  simp only [Qab,Qbc,Qav,Qej,Qk,Qx,Qb,Qv,Qd9,Qah,Qd8,Qd7,cont,Slot.prv,Qd6,ui1,Qoo,Qar,Qaq,Qap,Qao,uc1,Qa0,decide_true,Qw,yBl,Qai,yIf,Qze,Qb2,Ql,Qkm,yC1,Qd,Qt,yC2,yBi,Qb0,Qan,Out.opt,ub7,h0,Nat.reducePow,h1',and_self,if_true,Q2m,Q8,Qbi,Qbb,List.length_cons,List.length_nil,Nat.reduceAdd,Nat.reduceLT,List.set,Qbe,Q4l,Q2n,Qzg,frz,Slot.mut,Qt7,Qzf,Q4m,Qa9,Qb7,Qvz,Qaj,Qa5,Qau,Qaz,Q1,Option.map]
 ·refine ⟨(((((n%2147483647+40503)*69621%2147483629)*((n%2147483647+40503)*69621%2147483629)+7817)%2147483587)*48271+11)%2147483629 / 32%m,
   .lst [.int ((((((n%2147483647+40503)*69621%2147483629)*((n%2147483647+40503)*69621%2147483629)+7817)%2147483587)*48271+11)%2147483629),.int f],Int.emod_nonneg _ (by omega),Int.emod_lt_of_pos _ h0,⟨_,_,Int.emod_nonneg _ (by decide),rfl⟩,?_⟩
  show Qbr (cfn k) ⟨2,5,Qe0⟩ _=_
  rw [Qbd rfl]
  show Qb1 _ (exS _ Qe0 [.ml (.lst [.int n,.int f]),.fz (.int m),.un,.un,.un])=_
  have b1:Qby (n%2147483647+40503) 69621=true:=by unfold Qby;simp
  have m1:0≤(n%2147483647+40503)*69621%2147483629:=Int.emod_nonneg _ (by decide)
  have m2:(n%2147483647+40503)*69621%2147483629<2147483629:=Int.emod_lt_of_pos _ (by decide)
  generalize hs:(n%2147483647+40503)*69621%2147483629=st at m1 m2 ⊢
  have b2:Qby st st=true:=by
   unfold Qby
   simp only [Bool.or_eq_true,decide_eq_true_eq]
   exact .inl (by omega)
  have b3:∀ z,Qby z 48271=true:=fun z=>by unfold Qby;simp
  simp only [Qab,Qbc,Qav,Qej,Qk,Qx,Qb,Qv,Qd9,Qah,Qd8,Qd7,cont,Slot.prv,Qd6,ui1,Qoo,Qar,Qaq,Qap,Qao,uc1,Qa0,hf,decide_false,Qw,yBl,Qai,yIf,Qcq,Qbe,Qa2,Qbu,Qkm,Qbp,Qbo,Qbn,Out.opt,uo8,Int.reduceLT,if_false,if_true,uo1,uo5,b1,hs,Qbq,Qa8,frz,Q8,Qbb,List.length_cons,List.length_nil,Nat.reduceAdd,Nat.reduceLT,Qd,List.set,b2,Q4l,b3,Q2n,Qzg,Slot.mut,Qt7,Qzf,Q4m,Qa9,uo7,Nat.reducePow,h32,and_self,h0,Qb7,Qaj,Qa5,Qau,Qaz,Q1,Option.map]
theorem Qabw (k:Nat) (c:Int):∃ q,Qfx q∧cfn (k+1) 21 [.fz (.int c)]=.ok (.ow q) [.non]:=by
 refine ⟨.lst [.int (if 0-c>c then 0-c else c),.int (if decide (10^18≤(if 0-c>c then 0-c else c))=true then 1 else 0)],⟨_,_,?_,rfl⟩,?_⟩
 ·split <;> omega
 ·have p1:(18:Int).natAbs≤1000000:=by decide
  have p2:(10:Int).natAbs<18446744073709551616:=by decide
  show Qbr (cfn k) ⟨1,2,Qj2⟩ _=_
  rw [Qbd rfl]
  show Qb1 _ (exS _ Qj2 [.fz (.int c),.un])=_
  have z2:(2:Nat)≤100000:=by decide
  simp only [Qab,Qa2,Qb2,Ql,Qk,Qx,Qb,Qv,yC1,Qbu,Qah,Qbp,Qbo,Qbn,cont,Out.opt,uo4,Qt,yC2,yBi,Qb0,Qan,ub6,Qai,Qbq,Qa8,frz,Q8,Qbb,List.length_cons,List.length_nil,Nat.reduceAdd,Nat.reduceLT,Qd,List.set,if_true,Qbe,Qa9,Qgu,Qav,Qar,uo9,Int.reduceLE,p1,Nat.reducePow,p2,and_self,Int.reduceToNat,Int.reducePow,Qaq,Qap,Qao,uc6,ub8,Qkl,Qc3,z2,Qb7,Qaj,Qa5,Qau,Qaz,Q1,Option.map]
theorem Qz7 {L:List T} {r:Int} (h0:0≤r) (h1:r<(L.length:Int)):∃ t,atI L r=some t∧t∈L:=by
 obtain ⟨j,rfl⟩:=Int.eq_ofNat_of_zero_le h0
 have hj:j<L.length:=by omega
 exact ⟨_,Qfz (List.getElem?_eq_getElem hj),List.getElem_mem hj⟩
theorem Q4p {a b:List T} (h:a.length+b.length≤100000):opB .add (.lst a) (.lst b)=some (.ow (.lst (a++b))):=if_pos h
structure Sk (M:Tb):Prop where
 len:M.length=2
 row:∀ r∈M,r.length=2
 bd:∀ r∈M,∀ x∈r,(x:Int).natAbs≤1000
theorem sk2 {a b c d:Int} (ha:a.natAbs≤1000) (hb:b.natAbs≤1000) (hc:c.natAbs≤1000) (hd:d.natAbs≤1000):Sk [[a,b],[c,d]]:=by
 refine ⟨rfl,?_,?_⟩
 ·intro r hr
  rcases List.mem_cons.mp hr with rfl | hr
  ·rfl
  ·rw [List.mem_singleton.mp hr];rfl
 ·intro r hr x hx
  rcases List.mem_cons.mp hr with rfl | hr
  ·rcases List.mem_cons.mp hx with rfl | hx
   ·exact ha
   ·rw [List.mem_singleton.mp hx];exact hb
  ·rw [List.mem_singleton.mp hr] at hx
   rcases List.mem_cons.mp hx with rfl | hx
   ·exact hc
   ·rw [List.mem_singleton.mp hx];exact hd
noncomputable abbrev tb1:S:=.setF 7 (.bi .max (.cons (.int 0) (.cons (.bin .sub (.call 22 (.cons (.var 0) (.cons (.int 5) .nil))) (.int 2)) .nil)))
noncomputable abbrev tb2:S:=.ite (.cmp .eq (.var 2) (.int 1)) (.setF 7 (.bin .sub (.call 22 (.cons (.var 0) (.cons (.int 5) .nil))) (.int 2))) .nil
noncomputable abbrev tb3:S:=.ite (.cmp .eq (.var 2) (.int 2)) (.setF 7 (.bin .sub (.call 22 (.cons (.var 0) (.cons (.bin .add (.bin .mul (.int 2) (.bin .pow (.int 10) (.int 11))) (.int 1)) .nil))) (.bin .pow (.int 10) (.int 11)))) .nil
noncomputable abbrev Qz8:S:=.seq tb1 (.seq tb2 (.seq tb3 (.app 5 (.var 7))))
theorem Qup (k:Nat) {q:T} (hq:Qfx q) {w:Int} (w2:w≠2) {a b c d s7:Slot} {ns:List T} (hn:ns.length<1000) (o7:Qfn s7=true):∃ (v:Int) (q':T),v.natAbs≤1000∧Qfx q'∧exS (cfn (k+1)) Qz8 [.ml q,a,.fz (.int w),b,c,.ow (.lst ns),d,s7]=.nx [.ml q',a,.fz (.int w),b,c,.ow (.lst (ns++[.int v])),d,.fz (.int v)]:=by
 obtain ⟨x1,q1,x0,x5,p1,d1⟩:=Qed k (m:=5) (by decide) (by decide) hq
 have s1:exS (cfn (k+1)) tb1 [.ml q,a,.fz (.int w),b,c,.ow (.lst ns),d,s7]=.nx [.ml q1,a,.fz (.int w),b,c,.ow (.lst ns),d,.fz (.int (if x1-2>0 then x1-2 else 0))]:=by
  have e':evE (cfn (k+1)) (.bi .max (.cons (.int 0) (.cons (.bin .sub (.call 22 (.cons (.var 0) (.cons (.int 5) .nil))) (.int 2)) .nil))) [.ml q,a,.fz (.int w),b,c,.ow (.lst ns),d,s7]=.ok (.fz (.int (if x1-2>0 then x1-2 else 0))) [.ml q1,a,.fz (.int w),b,c,.ow (.lst ns),d,s7]:=by
   simp only [Qb2,Ql,Qah,Qv,yC1,Qbu,Q4,Qk,Qx,Qb,Qt,yC2,Qs,Qq,List.all_cons,List.all_nil,Bool.and_true,Q3,Qo,Qaa,Q2,d1,Qat,Qj,Qu,L2.Qi,Option.map,if_true,List.getElem?_cons_zero,Slot.put,Nat.reduceAdd,reduceCtorEq,if_false,Qbp,Qbo,Qbn,cont,Out.opt,uo4,yBi,Qb0,Qan,ub6]
  rw [Qa2,e']
  cases s7 <;> first | rfl | (cases o7;done)
 obtain ⟨v1,hv1,ev1⟩:∃ v:Int,v.natAbs≤1000∧(if x1-2>0 then x1-2 else 0)=v:=⟨_,by split <;> omega,rfl⟩
 rw [ev1] at s1
 obtain ⟨v2,q2,hv2,p2,s2⟩:∃ (v:Int) (q':T),v.natAbs≤1000∧Qfx q'∧exS (cfn (k+1)) tb2 [.ml q1,a,.fz (.int w),b,c,.ow (.lst ns),d,.fz (.int v1)]=.nx [.ml q',a,.fz (.int w),b,c,.ow (.lst ns),d,.fz (.int v)]:=by
  by_cases hw:w=1
  ·obtain ⟨y,q2,y0,y5,p2,d2⟩:=Qed k (m:=5) (by decide) (by decide) p1
   refine ⟨y-2,q2,by omega,p2,?_⟩
   simp only [hw,Qbc,Qav,Qk,Qx,Qd,Qb,Qv,Qar,Qah,Qaq,Qap,cont,Qao,uc1,Qa0,decide_true,Qw,yBl,Qai,yIf,Qa2,Qbu,Q4,Ql,yC1,Qt,yC2,Qs,Qq,List.all_cons,List.all_nil,Bool.and_true,Q3,Qo,Qaa,Q2,d2,Qat,Qj,Qu,L2.Qi,Option.map,if_true,List.getElem?_cons_zero,Slot.put,Nat.reduceAdd,reduceCtorEq,if_false,Qbp,Qbo,Qbn,Out.opt,uo4,Qbq,Qa8,frz,Q8,Qbb,List.length_cons,List.length_nil,Nat.reduceLT,List.set]
  ·refine ⟨v1,q1,hv1,p1,?_⟩
   simp only [Qbc,Qav,Qk,Qx,Qd,Qb,Qv,Qar,Qah,Qaq,Qap,cont,Qao,uc1,Qa0,hw,decide_false,Qw,yBl,Qai,yIf,Qcq]
 obtain ⟨v3,q3,hv3,p3,s3⟩:∃ (v:Int) (q':T),v.natAbs≤1000∧Qfx q'∧exS (cfn (k+1)) tb3 [.ml q2,a,.fz (.int w),b,c,.ow (.lst ns),d,.fz (.int v2)]=.nx [.ml q',a,.fz (.int w),b,c,.ow (.lst ns),d,.fz (.int v)]:=by
  have hw:=w2
  refine ⟨v2,q2,hv2,p2,?_⟩
  simp only [Qbc,Qav,Qk,Qx,Qd,Qb,Qv,Qar,Qah,Qaq,Qap,cont,Qao,uc1,Qa0,hw,decide_false,Qw,yBl,Qai,yIf,Qcq]
 refine ⟨v3,q3,hv3,p3,?_⟩
 rw [Qab,s1,Qbe,Qab,s2,Qbe,Qab,s3,Qbe]
 have z:ns.length<100000:=by omega
 simp only [Qjp,Slot.mut,Qd,Qb,Qk,Qx,Qai,Qqo,Qma,frz,Ql9,z,List.set,if_true]
theorem r2:∀ ρ,Ql7 (.fz (.int 2)) ρ=.ok ([T.int 0,T.int 1],none) ρ:=fun ρ=>rngA (by decide)
noncomputable abbrev Qz9:S:=.seq (.set 5 (.lst .nil)) (.seq (.for_ (.rng1 (.var 1)) (.nm 6) Qz8) (.app 3 (.bi .tup (.cons (.var 5) .nil))))
noncomputable def own1:Slot→Bool
 | .un=>true
 | .ow _=>true
 | _=>false
theorem Quq (k:Nat) {q:T} (hq:Qfx q) {w:Int} (w2:w≠2) {c s5 s6 s7:Slot} {rs:List T} (hn:rs.length<1000) (o5:own1 s5=true) (o6:Qfn s6=true) (o7:Qfn s7=true):∃ (v u:Int) (q':T) (t5 t6 t7:Slot),v.natAbs≤1000∧u.natAbs≤1000∧Qfx q'∧own1 t5=true∧Qfn t6=true∧Qfn t7=true ∧
  exS (cfn (k+1)) Qz9 [.ml q,.fz (.int 2),.fz (.int w),.ow (.lst rs),c,s5,s6,s7]=.nx [.ml q',.fz (.int 2),.fz (.int w),.ow (.lst (rs++[pr v u])),c,t5,t6,t7]:=by
 obtain ⟨v,q1,hv,p1,e1⟩:=Qup k hq (w:=w) w2 (a:=.fz (.int 2)) (b:=.ow (.lst rs)) (c:=c) (d:=.fz (.int 0)) (ns:=[]) (by decide) o7
 obtain ⟨u,q2,hu,p2,e2⟩:=Qup k p1 (w:=w) w2 (a:=.fz (.int 2)) (b:=.ow (.lst rs)) (c:=c) (d:=.fz (.int 1)) (ns:=[.int v]) (s7:=.fz (.int v)) (by show 1<1000;decide) rfl
 refine ⟨v,u,q2,.ow (.lst [.int v,.int u]),.fz (.int 1),.fz (.int u),hv,hu,p2,rfl,rfl,rfl,?_⟩
 have s0:exS (cfn (k+1)) (.set 5 (.lst .nil)) [.ml q,.fz (.int 2),.fz (.int w),.ow (.lst rs),c,s5,s6,s7]=.nx [.ml q,.fz (.int 2),.fz (.int w),.ow (.lst rs),c,.ow (.lst []),s6,s7]:=by
  (cases s5 <;> cases o5) <;> rfl
 have t0:Qgj (.nm 6) (.int 0) [.ml q,.fz (.int 2),.fz (.int w),.ow (.lst rs),c,.ow (.lst []),s6,s7]=some [.ml q,.fz (.int 2),.fz (.int w),.ow (.lst rs),c,.ow (.lst []),.fz (.int 0),s7]:=by
  cases s6 <;> first | rfl | (cases o6;done)
 have ef:Qca (.nm 6) (exS (cfn (k+1)) Qz8) [T.int 0,T.int 1] [.ml q,.fz (.int 2),.fz (.int w),.ow (.lst rs),c,.ow (.lst []),s6,s7]=.nx [.ml q2,.fz (.int 2),.fz (.int w),.ow (.lst rs),c,.ow (.lst [.int v,.int u]),.fz (.int 1),.fz (.int u)]:=by
  rw [Qa6 t0 e1,Qa6 rfl e2]
  rfl
 have z:rs.length<100000:=by omega
 rw [Qab,s0,Qbe]
 simp only [Qab,Qev,Qdl,Qk,Qx,Qd,Qb,Qv,r2,Qai,Qho,ef,Qcn,Qbe,Qjp,Slot.mut,Qb2,Ql,yC1,Qt,yC2,yBi,Qb0,Qan,cont,Slot.prv,Out.opt,ub9,Qqo,Qma,frz,Ql9,z,List.set,if_true]
theorem Qur (k:Nat) {q:T} (hq:Qfx q) {w:Int} (w2:w≠2):∃ (M:Tb) (q':T),Sk M∧Qfx q'∧cfn (k+2) 24 [.ml q,.fz (.int 2),.fz (.int w)]=.ok (.fz (Qba M)) [q',.non,.non]:=by
 obtain ⟨a,b,q1,t5,t6,t7,ha,hb,p1,o5,o6,o7,e1⟩:=Quq k hq (w:=w) w2 (c:=.fz (.int 0)) (s5:=.un) (s6:=.un) (s7:=.un) (rs:=[]) (by decide) rfl rfl rfl
 obtain ⟨c,d,q2,t5',t6',t7',hc,hd,p2,_,_,_,e2⟩:=Quq k p1 (w:=w) w2 (c:=.fz (.int 1)) (rs:=[pr a b]) (by show 1<1000;decide) o5 o6 o7
 refine ⟨[[a,b],[c,d]],q2,sk2 ha hb hc hd,p2,?_⟩
 have ef:Qca (.nm 4) (exS (cfn (k+1)) Qz9) [T.int 0,T.int 1] [.ml q,.fz (.int 2),.fz (.int w),.ow (.lst []),.un,.un,.un,.un]=.nx [.ml q2,.fz (.int 2),.fz (.int w),.ow (.lst [pr a b,pr c d]),.fz (.int 1),t5',t6',t7']:=by
  rw [Qa6 rfl e1,Qa6 rfl e2]
  rfl
 show Qbr (cfn (k+1)) ⟨3,8,Qg2⟩ _=_
 rw [Qbd rfl]
 show Qb1 _ (exS _ Qg2 [.ml q,.fz (.int 2),.fz (.int w),.un,.un,.un,.un,.un])=_
 simp only [Qab,Qnx,Qgu,Qt,Qv,Qkl,Qc3,List.length_nil,Nat.reduceLeDiff,if_true,Qai,Qoj,Q8,Qbb,List.length_cons,Nat.reduceAdd,Nat.reduceLT,Qd,Qb,List.set,Qbe,Qev,Qdl,Qk,Qx,r2,Qho,ef,Qcn,Qa9,Qb2,Ql,yC1,yC2,yBi,Qb0,Qan,cont,Slot.prv,Out.opt,ub9,Qb7,Qaj,Qa5,Qau,Qaz,Q1,Option.map]
 rfl
open PySem L2
theorem sml {a b:Int} (ha:a.natAbs≤10) (hb:b.natAbs≤10):(a*b).natAbs≤1000:=by
 rw [Int.natAbs_mul]
 have:=Nat.mul_le_mul ha hb
 omega
theorem Q28 (k:Nat) {q:T} {a b c d:Int} (ha:a.natAbs≤10) (hb:b.natAbs≤10) (hc:c.natAbs≤10) (hd:d.natAbs≤10) :
  evE (cfn k) (.comp (.seq (.var 1)) [none,some 2] (.nm 0) .nil (.bi .tup (.cons (.comp (.seq (.var 1)) [none,some 0] (.nm 0) .nil (.bin .mul (.var 1) (.var 0))) .nil))) [.ml q,.fz (pr a b),.fz (pr c d)]=.ok (.ow (.lst [pr (a*c) (a*d),pr (b*c) (b*d)])) [.ml q,.fz (pr a b),.fz (pr c d)]:=by
 have inn:∀ x:Int,x.natAbs≤10→evE (cfn k) (.comp (.seq (.var 1)) [none,some 0] (.nm 0) .nil (.bin .mul (.var 1) (.var 0))) [.fz (.int x),.fz (pr c d)]=.ok (.ow (.lst [.int (x*c),.int (x*d)])) [.fz (.int x),.fz (pr c d)]:=by
  intro x hx
  have q:=Qcj (cf:=cfn k) (w:=.seq (.var 1)) (js:=[none,some 0]) (e:=.bin .mul (.var 1) (.var 0)) (ρ:=[.fz (.int x),.fz (pr c d)]) (rest:=[.fz (.int x)]) (xs:=[.int c,.int d]) (f:=fun t=>match t with | .int v=>T.int (x*v) | t=>t) rfl rfl rfl rfl (fun t ht=>by
   have m1:Qby x c=true:=Qcg (by omega)
   have m2:Qby x d=true:=Qcg (by omega)
   rcases List.mem_cons.mp ht with rfl | ht
   ·refine ⟨.fz (.int (x*c)),?_,rfl⟩
    simp only [Qbu,Qk,Qx,Qd,Qb,Qv,Qbp,Qbo,Qbn,cont,Out.opt,uo5,m1,if_true]
   ·rw [List.mem_singleton.mp ht]
    refine ⟨.fz (.int (x*d)),?_,rfl⟩
    simp only [Qbu,Qk,Qx,Qd,Qb,Qv,Qbp,Qbo,Qbn,cont,Out.opt,uo5,m2,if_true]) (by show 2≤100000;decide)
  exact q
 have q:=Qcj (cf:=cfn k) (w:=.seq (.var 1)) (js:=[none,some 2]) (e:=.bi .tup (.cons (.comp (.seq (.var 1)) [none,some 0] (.nm 0) .nil (.bin .mul (.var 1) (.var 0))) .nil)) (ρ:=[.ml q,.fz (pr a b),.fz (pr c d)]) (rest:=[.fz (pr c d)]) (xs:=[.int a,.int b]) (f:=fun t=>match t with | .int v=>pr (v*c) (v*d) | t=>t) rfl rfl rfl rfl (fun t ht=>by
   have i1:=inn a ha
   have i2:=inn b hb
   rcases List.mem_cons.mp ht with rfl | ht
   ·refine ⟨.fz (pr (a*c) (a*d)),?_,rfl⟩
    simp only [Qb2,Ql,i1,Qv,yC1,Qt,yC2,yBi,Qb0,Qan,cont,Out.opt,ub9]
   ·rw [List.mem_singleton.mp ht]
    refine ⟨.fz (pr (b*c) (b*d)),?_,rfl⟩
    simp only [Qb2,Ql,i2,Qv,yC1,Qt,yC2,yBi,Qb0,Qan,cont,Out.opt,ub9]) (by show 2≤100000;decide)
 exact q
noncomputable abbrev or1:S:=.setF 1 (.tup (.cons (.bin .sub (.call 22 (.cons (.var 0) (.cons (.int 5) .nil))) (.int 2)) (.cons (.bin .add (.int 1) (.call 22 (.cons (.var 0) (.cons (.int 2) .nil)))) .nil)))
noncomputable abbrev or2:S:=.setF 2 (.tup (.cons (.bin .add (.int 1) (.call 22 (.cons (.var 0) (.cons (.int 2) .nil)))) (.cons (.bin .sub (.call 22 (.cons (.var 0) (.cons (.int 5) .nil))) (.int 2)) .nil)))
noncomputable abbrev or3:S:=.ite (.cmp .eq (.call 22 (.cons (.var 0) (.cons (.int 2) .nil))) (.int 0)) (.unp [1,2] (.tup (.cons (.rev (.var 1)) (.cons (.rev (.var 2)) .nil)))) .nil
theorem Qmo (k:Nat) {q:T} (hq:Qfx q):∃ (M:Tb) (q':T),Sk M∧Qfx q'∧cfn (k+2) 28 [.ml q]=.ok (.fz (Qba M)) [q']:=by
 obtain ⟨a,q1,a0,a5,p1,e1⟩:=Qed k (m:=5) (by decide) (by decide) hq
 obtain ⟨b,q2,b0,b2,p2,e2⟩:=Qed k (m:=2) (by decide) (by decide) p1
 obtain ⟨c,q3,c0,c2,p3,e3⟩:=Qed k (m:=2) (by decide) (by decide) p2
 obtain ⟨d,q4,d0,d5,p4,e4⟩:=Qed k (m:=5) (by decide) (by decide) p3
 obtain ⟨f,q5,f0,f2,p5,e5⟩:=Qed k (m:=2) (by decide) (by decide) p4
 have z2:(2:Nat)≤100000:=by decide
 have s1:exS (cfn (k+1)) or1 [.ml q,.un,.un]=.nx [.ml q2,.fz (pr (a-2) (1+b)),.un]:=by
  simp only [Qa2,Qfv,Ql,Qbu,Q4,Qk,Qx,Qb,Qv,yC1,Qah,Qt,yC2,Qs,Qq,List.all_cons,List.all_nil,Bool.and_true,Q3,Qo,Qaa,Q2,e1,Qat,Qj,Qu,L2.Qi,Option.map,if_true,List.getElem?_cons_zero,Slot.put,Nat.reduceAdd,reduceCtorEq,if_false,Qbp,Qbo,Qbn,cont,Out.opt,uo4,e2,uo1,Qkk,Qc3,frz,List.length_cons,List.length_nil,z2,Qai,Qbq,Qa8,Q8,Qbb,Nat.reduceLT,Qd,List.set]
 have s2:exS (cfn (k+1)) or2 [.ml q2,.fz (pr (a-2) (1+b)),.un]=.nx [.ml q4,.fz (pr (a-2) (1+b)),.fz (pr (1+c) (d-2))]:=by
  simp only [Qa2,Qfv,Ql,Qbu,Qah,Qv,Qbp,Q4,Qk,Qx,Qb,yC1,Qt,yC2,Qs,Qq,List.all_cons,List.all_nil,Bool.and_true,Q3,Qo,Qaa,Q2,e3,Qat,Qj,Qu,L2.Qi,Option.map,if_true,List.getElem?_cons_zero,Slot.put,Nat.reduceAdd,reduceCtorEq,if_false,Qbo,Qbn,cont,Out.opt,uo1,e4,uo4,Qkk,Qc3,frz,List.length_cons,List.length_nil,z2,Qai,Qbq,Qa8,Q8,Qbb,Nat.reduceLT,Qd,List.set]
 obtain ⟨x,y,u,v,hx,hy,hu,hv,s3⟩:∃ x y u v:Int,x.natAbs≤10∧y.natAbs≤10∧u.natAbs≤10∧v.natAbs≤10∧exS (cfn (k+1)) or3 [.ml q4,.fz (pr (a-2) (1+b)),.fz (pr (1+c) (d-2))]=.nx [.ml q5,.fz (pr x y),.fz (pr u v)]:=by
  by_cases hf:f=0
  ·refine ⟨1+b,a-2,d-2,1+c,by omega,by omega,by omega,by omega,?_⟩
   subst hf
   simp only [Qbc,Qav,Q4,Ql,Qk,Qx,Qb,Qv,yC1,Qah,Qt,yC2,Qs,Qq,List.all_cons,List.all_nil,Bool.and_true,Q3,Qo,Qaa,Q2,e5,Qat,Qj,Qu,L2.Qi,Option.map,if_true,List.getElem?_cons_zero,Slot.put,Nat.reduceAdd,reduceCtorEq,if_false,Qar,Qaq,Qap,cont,Qao,uc1,Qa0,decide_true,Qw,yBl,Qai,yIf,Qze,Qfv,Qabp,Qd,yRev,List.reverse_cons,List.reverse_nil,List.nil_append,List.singleton_append,Qkk,Qc3,frz,List.length_cons,List.length_nil,z2,Q2m,Q8,Qbi,Qbb,Nat.reduceLT,List.set]
  ·refine ⟨a-2,1+b,1+c,d-2,by omega,by omega,by omega,by omega,?_⟩
   simp only [Qbc,Qav,Q4,Ql,Qk,Qx,Qb,Qv,yC1,Qah,Qt,yC2,Qs,Qq,List.all_cons,List.all_nil,Bool.and_true,Q3,Qo,Qaa,Q2,e5,Qat,Qj,Qu,L2.Qi,Option.map,if_true,List.getElem?_cons_zero,Slot.put,Nat.reduceAdd,reduceCtorEq,if_false,Qar,Qaq,Qap,cont,Qao,uc1,Qa0,hf,decide_false,Qw,yBl,Qai,yIf,Qcq]
 refine ⟨[[x*u,x*v],[y*u,y*v]],q5,sk2 (sml hx hu) (sml hx hv) (sml hy hu) (sml hy hv),p5,?_⟩
 have ec:=Q28 (k+1) (q:=q5) hx hy hu hv
 show Qbr (cfn (k+1)) ⟨1,3,Qe2⟩ _=_
 rw [Qbd rfl]
 show Qb1 _ (exS _ Qe2 [.ml q,.un,.un])=_
 rw [Qab,s1,Qbe,Qab,s2,Qbe,Qab,s3,Qbe]
 simp only [Qa9,Qb2,Ql,ec,Qv,yC1,Qt,yC2,yBi,Qb0,Qan,cont,Out.opt,ub9,Qai,Qb7,Qaj,Qa5,Qau,Qaz,Q1,Option.map]
 rfl
noncomputable abbrev wr1:List Tb:=[[[0,1],[1,0]],[[0,-1],[1,0]],[[1,0],[0,-1]],[[0,-1],[1,1]],[[1,0],[0,1]]]
noncomputable abbrev wr2:List Tb:=[[[1,1],[0,1]],[[1,0],[-1,1]],[[2,0],[0,1]],[[1,1],[1,0]],[[0,1],[-1,1]]]
noncomputable def sqB (M:Tb):Bool:=decide (M.length=2)&&M.all fun r=>decide (r.length=2)&&r.all fun x=>decide (x.natAbs≤1000)
theorem Q78 {M:Tb} (h:sqB M=true):Sk M:=by
 unfold sqB at h
 rw [Bool.and_eq_true,decide_eq_true_eq,List.all_eq_true] at h
 refine ⟨h.1,fun r hr=>?_,fun r hr x hx=>?_⟩
 ·have:=h.2 r hr
  rw [Bool.and_eq_true,decide_eq_true_eq] at this
  exact this.1
 ·have:=h.2 r hr
  rw [Bool.and_eq_true,List.all_eq_true] at this
  have:=this.2 x hx
  rwa [decide_eq_true_eq] at this
theorem Qpo (k:Nat) {q:T} (hq:Qfx q):∃ (M:Tb) (q':T),Sk M∧Qfx q'∧cfn (k+2) 29 [.ml q]=.ok (.fz (Qba M)) [q']:=by
 obtain ⟨r,q1,r0,r9,p1,e1⟩:=Qed k (m:=10) (by decide) (by decide) hq
 obtain ⟨t,ea,ht⟩:=Qz7 (L:=(wr1++wr2).map Qba) r0 (by show r<10;exact r9)
 obtain ⟨M,hM,rfl⟩:=List.mem_map.mp ht
 have all:(wr1++wr2).all sqB=true:=by decide +kernel
 refine ⟨M,q1,Q78 (List.all_eq_true.mp all M hM),p1,?_⟩
 have z5:(5:Nat)≤100000:=by decide
 have z2:(2:Nat)≤100000:=by decide
 have s1:exS (cfn (k+1)) (.setF 1 (.lst (.cons (.tup (.cons (.tup (.cons (.int 0) (.cons (.int 1) .nil))) (.cons (.tup (.cons (.int 1) (.cons (.int 0) .nil))) .nil))) (.cons (.tup (.cons (.tup (.cons (.int 0) (.cons (.neg (.int 1)) .nil))) (.cons (.tup (.cons (.int 1) (.cons (.int 0) .nil))) .nil))) (.cons (.tup (.cons (.tup (.cons (.int 1) (.cons (.int 0) .nil))) (.cons (.tup (.cons (.int 0) (.cons (.neg (.int 1)) .nil))) .nil))) (.cons (.tup (.cons (.tup (.cons (.int 0) (.cons (.neg (.int 1)) .nil))) (.cons (.tup (.cons (.int 1) (.cons (.int 1) .nil))) .nil))) (.cons (.tup (.cons (.tup (.cons (.int 1) (.cons (.int 0) .nil))) (.cons (.tup (.cons (.int 0) (.cons (.int 1) .nil))) .nil))) .nil))))))) [.ml q,.un]=.nx [.ml q,.fz (.lst (wr1.map Qba))]:=by
  simp only [Qa2,Qgu,Ql,Qfv,Qah,Qv,yC1,Qt,yC2,Qkk,Qc3,frz,List.length_cons,List.length_nil,Nat.reduceAdd,z2,if_true,Qnw,Qsg,Int.reduceNeg,Qkl,z5,Qai,Qbq,Qa8,Q8,Qbb,Nat.reduceLT,Qd,Qb,List.set]
  rfl
 have s2:evE (cfn (k+1)) (.lst (.cons (.tup (.cons (.tup (.cons (.int 1) (.cons (.int 1) .nil))) (.cons (.tup (.cons (.int 0) (.cons (.int 1) .nil))) .nil))) (.cons (.tup (.cons (.tup (.cons (.int 1) (.cons (.int 0) .nil))) (.cons (.tup (.cons (.neg (.int 1)) (.cons (.int 1) .nil))) .nil))) (.cons (.tup (.cons (.tup (.cons (.int 2) (.cons (.int 0) .nil))) (.cons (.tup (.cons (.int 0) (.cons (.int 1) .nil))) .nil))) (.cons (.tup (.cons (.tup (.cons (.int 1) (.cons (.int 1) .nil))) (.cons (.tup (.cons (.int 1) (.cons (.int 0) .nil))) .nil))) (.cons (.tup (.cons (.tup (.cons (.int 0) (.cons (.int 1) .nil))) (.cons (.tup (.cons (.neg (.int 1)) (.cons (.int 1) .nil))) .nil))) .nil)))))) [.ml q,.fz (.lst (wr1.map Qba))]=.ok (.ow (.lst (wr2.map Qba))) [.ml q,.fz (.lst (wr1.map Qba))]:=by
  generalize wr1.map Qba=W
  simp only [Qgu,Ql,Qfv,Qah,Qv,yC1,Qt,yC2,Qkk,Qc3,frz,List.length_cons,List.length_nil,Nat.reduceAdd,z2,if_true,Qnw,Qsg,Int.reduceNeg,Qkl,z5]
  rfl
 have ka:opB .add (.lst (wr1.map Qba)) (.lst (wr2.map Qba))=some (.ow (.lst ((wr1++wr2).map Qba))):=by
  rw [List.map_append]
  exact Q4p (by show 5+5≤100000;decide)
 show Qbr (cfn (k+1)) ⟨1,2,Qdr⟩ _=_
 rw [Qbd rfl]
 show Qb1 _ (exS _ Qdr [.ml q,.un])=_
 rw [Qab,s1,Qbe]
 generalize wr1.map Qba=W1 at s2 ka ⊢
 generalize wr2.map Qba=W2 at s2 ka
 generalize (wr1++wr2).map Qba=W at ea ka
 simp only [Qab,Qa2,Qbu,Qk,Qx,Qd,Qb,Qv,Qbp,s2,Qbo,Qbn,cont,Out.opt,ka,Qai,Qbq,Qa8,frz,Q8,Qbb,List.length_cons,List.length_nil,Nat.reduceAdd,Nat.reduceLT,List.set,if_true,Qbe,Qa9,Qej,Qd9,Q4,Ql,yC1,Qah,Qt,yC2,Qs,Qq,List.all_cons,List.all_nil,Bool.and_true,Q3,Qo,Qaa,Q2,e1,Qat,Qj,Qu,L2.Qi,Option.map,List.getElem?_cons_zero,Slot.put,reduceCtorEq,if_false,Qd8,Qd7,Qd6,ui1,ea,Qb7,Qaj,Qa5,Qau,Qaz,Q1]
noncomputable abbrev Qrl:S:=(.seq (.setF 3 (.call 22 (.cons (.var 0) (.cons (.int 8) .nil))))
 (.ite (.cmp .lt (.var 3) (.int 3)) (.app 1 (.call 28 (.cons (.var 0) .nil))) (.ite (.cmp .lt (.var 3) (.int 7)) (.app 1 (.call 29 (.cons (.var 0) .nil))) (.app 1 (.call 24 (.cons (.var 0) (.cons (.int 2) (.cons (.call 22 (.cons (.var 0) (.cons (.int 2) .nil))) .nil))))))))
theorem Q0a (k:Nat) {q:T} (hq:Qfx q) {s2 s3:Slot} {Ms:List Tb} (hz:Ms.length≤1000) (o3:Qfn s3=true):∃ (M:Tb) (q':T) (t3:Slot),Sk M∧Qfx q'∧Qfn t3=true∧exS (cfn (k+2)) Qrl [.ml q,.ow (Qhy Ms),s2,s3]=.nx [.ml q',.ow (Qhy (Ms++[M])),s2,t3]:=by
 obtain ⟨r,q1,r0,r8,p1,e1⟩:=Qed (k+1) (m:=8) (by decide) (by decide) hq
 have s1:exS (cfn (k+2)) (.setF 3 (.call 22 (.cons (.var 0) (.cons (.int 8) .nil)))) [.ml q,.ow (Qhy Ms),s2,s3]=.nx [.ml q1,.ow (Qhy Ms),s2,.fz (.int r)]:=by
  cases s3 <;> first | (cases o3;done) | simp only [Qa2,Q4,Ql,Qk,Qx,Qb,Qv,yC1,Qah,Qt,yC2,Qs,Qq,List.all_cons,List.all_nil,Bool.and_true,Q3,Qo,Qaa,Q2,e1,Qat,Qj,Qu,L2.Qi,Option.map,if_true,List.getElem?_cons_zero,Slot.put,Nat.reduceAdd,reduceCtorEq,if_false,Qai,Qbq,Qa8,frz,Q8,Qbb,List.length_cons,List.length_nil,Nat.reduceLT,Qd,List.set]
 have z:(Ms.map Qba).length<100000:=by rw [List.length_map];omega
 have em:∀ M,Qhy (Ms++[M])=.lst (Ms.map Qba++[Qba M]):=fun M=>by unfold Qhy;rw [List.map_append];rfl
 by_cases h3:r<3
 ·obtain ⟨M,q2,sq,p2,e2⟩:=Qmo k p1
  refine ⟨M,q2,.fz (.int r),sq,p2,rfl,?_⟩
  rw [Qab,s1,Qbe,em]
  simp only [Qbc,Qav,Qk,Qx,Qd,Qb,Qv,Qar,Qah,Qaq,Qap,cont,Qao,uc3,h3,decide_true,Qw,yBl,Qai,yIf,Qjp,Slot.mut,Q4,Ql,yC1,Qt,yC2,Qs,Qq,List.all_nil,Bool.and_true,Q3,Qo,Qaa,Q2,e2,Qat,Qj,Qu,L2.Qi,Option.map,if_true,List.getElem?_cons_zero,Slot.put,Nat.reduceAdd,reduceCtorEq,if_false,Qqo,Qma,frz,Ql9,z,List.set]
 ·by_cases h7:r<7
  ·obtain ⟨M,q2,sq,p2,e2⟩:=Qpo k p1
   refine ⟨M,q2,.fz (.int r),sq,p2,rfl,?_⟩
   rw [Qab,s1,Qbe,em]
   simp only [Qbc,Qav,Qk,Qx,Qd,Qb,Qv,Qar,Qah,Qaq,Qap,cont,Qao,uc3,h3,decide_false,Qw,yBl,Qai,yIf,h7,decide_true,Qjp,Slot.mut,Q4,Ql,yC1,Qt,yC2,Qs,Qq,List.all_nil,Bool.and_true,Q3,Qo,Qaa,Q2,e2,Qat,Qj,Qu,L2.Qi,Option.map,if_true,List.getElem?_cons_zero,Slot.put,Nat.reduceAdd,reduceCtorEq,if_false,Qqo,Qma,frz,Ql9,z,List.set]
  ·obtain ⟨w,q2,w0,w2,p2,e2⟩:=Qed (k+1) (m:=2) (by decide) (by decide) p1
   obtain ⟨M,q3,sq,p3,e3⟩:=Qur k p2 (w:=w) (by omega)
   refine ⟨M,q3,.fz (.int r),sq,p3,rfl,?_⟩
   rw [Qab,s1,Qbe,em]
   simp only [Qbc,Qav,Qk,Qx,Qd,Qb,Qv,Qar,Qah,Qaq,Qap,cont,Qao,uc3,h3,decide_false,Qw,yBl,Qai,yIf,h7,Qjp,Slot.mut,Q4,Ql,yC1,Qt,yC2,Qs,Qq,List.all_cons,List.all_nil,Bool.and_true,Q3,Qo,Qaa,Q2,e2,Qat,Qj,Qu,L2.Qi,Option.map,if_true,List.getElem?_cons_zero,Slot.put,Nat.reduceAdd,reduceCtorEq,if_false,e3,Qqo,Qma,frz,Ql9,z,List.set]
theorem Q79 (k:Nat) {q:T} (hq:Qfx q):∃ (Ms:List Tb) (q':T),1≤Ms.length∧Ms.length≤3∧(∀ M∈Ms,Sk M)∧Qfx q'∧cfn (k+3) 30 [.ml q]=.ok (.ow (Qhy Ms)) [q']:=by
 obtain ⟨r,q1,r0,r3,p1,e1⟩:=Qed (k+1) (m:=3) (by decide) (by decide) hq
 obtain ⟨n,hn⟩:=Int.eq_ofNat_of_zero_le (show 0≤1+r by omega)
 have c:n≤100000:=by omega
 obtain ⟨ρ',e,Ms,q2,s2,s3,hl,sq,p2,_,_,rfl⟩:=Qi0 (fun j ρ=>∃ (Ms:List Tb) (q':T) (s2 s3:Slot),Ms.length=j∧(∀ M∈Ms,Sk M)∧Qfx q'∧Qfn s2=true∧Qfn s3=true∧ρ=[.ml q',.ow (Qhy Ms),s2,s3]) (tg:=.nm 2) (b:=exS (cfn (k+2)) Qrl) (xs:=Qbt 0 n) (n:=0) (ρ:=[.ml q1,.ow (.lst []),.un,.un]) ⟨[],q1,.un,.un,rfl,fun M hM=>(nomatch hM),p1,rfl,rfl,rfl⟩ (by
  rintro i x ρ hx ⟨Ms,q',s2,s3,hl,sq,p',o2,o3,rfl⟩
  have hi:i<n:=by have:=(List.getElem?_eq_some_iff.mp hx).1;rwa [Qc0] at this
  obtain ⟨M,q2,t3,sM,p2,ot,e2⟩:=Q0a k p' (s2:=.fz x) (s3:=s3) (Ms:=Ms) (by omega) o3
  refine ⟨[.ml q',.ow (Qhy Ms),.fz x,s3],_,(by cases s2 <;> first | rfl | cases o2),.inl e2,Ms++[M],q2,.fz x,t3,by rw [List.length_append,hl];rfl,fun N hN=>?_,p2,rfl,ot,rfl⟩
  rcases List.mem_append.mp hN with h | h
  ·exact sq N h
  ·rw [List.mem_singleton.mp h];exact sM)
 rw [Qc0] at hl
 refine ⟨Ms,q2,by omega,by omega,sq,p2,?_⟩
 show Qbr (cfn (k+2)) ⟨1,4,Qj5⟩ _=_
 rw [Qbd rfl]
 show Qb1 _ (exS _ Qj5 [.ml q,.un,.un,.un])=_
 simp only [Qab,Qnx,Qgu,Qt,Qv,Qkl,Qc3,List.length_nil,Nat.reduceLeDiff,if_true,Qai,Qoj,Q8,Qbb,List.length_cons,Nat.reduceAdd,Nat.reduceLT,Qd,Qb,List.set,Qbe,Qev,Qdl,Qbu,Qah,Qbp,Q4,Ql,Qk,Qx,yC1,yC2,Qs,Qq,List.all_cons,List.all_nil,Bool.and_true,Q3,Qo,Qaa,Q2,e1,Qat,Qj,Qu,L2.Qi,Option.map,List.getElem?_cons_zero,Slot.put,reduceCtorEq,if_false,Qbo,Qbn,cont,Out.opt,uo1,hn,Qzj c,Qho,e,Qcn,Qa9,Qb7,Qaj,Qa5,Qau,Qaz,Q1]
open PySem L2
theorem Q0b (p q:Int):(los p q).1*p+(los p q).2*q=0:=by
 unfold los
 split
 ·rename_i h
  show 1*q*p + -(p*1+q*0)*q=0
  subst h
  simp
 ·show -(p*0+q*1)*p+1*p*q=0
  grind
theorem Q8a {p q:Int} (h:¬ (p=0∧q=0)):¬ ((los p q).1=0∧(los p q).2=0):=by
 unfold los
 split
 ·rename_i c
  rintro ⟨z,_⟩
  have z:1*q=0:=z
  exact h ⟨c,by omega⟩
 ·rename_i c
  rintro ⟨_,z⟩
  have z:1*p=0:=z
  exact c (by omega)
theorem Q8b {p q:Int} (hp:p.natAbs≤B12) (hq:q.natAbs≤B12):(los p q).1.natAbs≤B12∧(los p q).2.natAbs≤B12:=by
 unfold los
 split
 ·rename_i c
  refine ⟨?_,?_⟩
  ·show (1*q).natAbs≤B12;rw [Int.one_mul];exact hq
  ·show (-(p*1+q*0)).natAbs≤B12
   rw [c];simp
 ·refine ⟨?_,?_⟩
  ·show (-(p*0+q*1)).natAbs≤B12
   rw [Int.mul_zero,Int.zero_add,Int.mul_one,Int.natAbs_neg];exact hq
  ·show (1*p).natAbs≤B12;rw [Int.one_mul];exact hp
theorem Qg5 {g x:Int} (h:g≠0) (e:g*x=0):x=0:=(Int.mul_eq_zero.mp e).resolve_left h
structure Rk (a b c d s t m n:Int):Prop where
 det:a*d=b*c
 ls:Ln s t
 lm:Ln m n
 l1:s*a+t*c=0
 l2:s*b+t*d=0
 uq:∀ x y:Int,¬ (x=0∧y=0)→x*a+y*c=0→x*b+y*d=0→lnO x y=some (s,t)
 md:∀ x y:Int,¬ (x*a+y*c=0∧x*b+y*d=0)→lnO (x*a+y*c) (x*b+y*d)=some (m,n)
theorem Qaby {a b c d p q m n:Int} (hd:det a b c d=0) (h1:lnO (Qgh a c b d).1 (Qgh a c b d).2=some (p,q)) (n1:¬ ((Qgh a c b d).1=0∧(Qgh a c b d).2=0)) (h2:lnO (Qgh a b c d).1 (Qgh a b c d).2=some (m,n)) (n2:¬ ((Qgh a b c d).1=0∧(Qgh a b c d).2=0)) :
  ∃ s t,lnO (los p q).1 (los p q).2=some (s,t)∧s.natAbs≤(los p q).1.natAbs∧t.natAbs≤(los p q).2.natAbs∧Rk a b c d s t m n:=by
 have dd:a*d=b*c:=by unfold det at hd;omega
 have pq:¬ (p=0∧q=0):=Qz2 h1
 obtain ⟨p',q',g,e,_,g0,eg1,eg2,_,_⟩:=Qi8 n1
 rw [h1] at e
 cases e
 obtain ⟨s,t,h,e,l,h0,es,et,b1,b2⟩:=Qi8 (Q8a pq)
 have o:=Q0b p q
 rw [es,et] at o
 have o:s*p+t*q=0:=Qg5 h0 (by grind)
 have both:s*a+t*c=0∧s*b+t*d=0:=by
  unfold Qgh at eg1 eg2
  by_cases ac:a=0∧c=0
  ·rw [if_pos ac] at eg1 eg2
   have eg1:b=g*p:=eg1
   have eg2:d=g*q:=eg2
   refine ⟨by rw [ac.1,ac.2];omega,?_⟩
   rw [eg1,eg2]
   have:s*(g*p)+t*(g*q)=g*(s*p+t*q):=by grind
   rw [this,o,Int.mul_zero]
  ·rw [if_neg ac] at eg1 eg2
   have eg1:a=g*p:=eg1
   have eg2:c=g*q:=eg2
   have k1:s*a+t*c=0:=by
    rw [eg1,eg2]
    have:s*(g*p)+t*(g*q)=g*(s*p+t*q):=by grind
    rw [this,o,Int.mul_zero]
   refine ⟨k1,?_⟩
   have z1:a*(s*b+t*d)=0:=by
    have:a*(s*b+t*d)=b*(s*a+t*c)+t*(a*d-b*c):=by grind
    rw [this,k1,dd];simp
   have z2:c*(s*b+t*d)=0:=by
    have:c*(s*b+t*d)=d*(s*a+t*c)+s*(b*c-a*d):=by grind
    rw [this,k1,dd];simp
   by_cases a0:a=0
   ·exact Qg5 (fun z=>ac ⟨a0,z⟩) z2
   ·exact Qg5 a0 z1
 refine ⟨s,t,e,b1,b2,dd,l,(Qn1 h2).1,both.1,both.2,fun x y xy e1 e2=>?_,fun x y uv=>?_⟩
 ·have k:x*p+y*q=0:=by
   unfold Qgh at eg1 eg2
   by_cases ac:a=0∧c=0
   ·rw [if_pos ac] at eg1 eg2
    have eg1:b=g*p:=eg1
    have eg2:d=g*q:=eg2
    rw [eg1,eg2] at e2
    exact Qg5 g0 (by grind)
   ·rw [if_neg ac] at eg1 eg2
    have eg1:a=g*p:=eg1
    have eg2:c=g*q:=eg2
    rw [eg1,eg2] at e1
    exact Qg5 g0 (by grind)
  have cr:x*t=s*y:=by
   by_cases p0:p=0
   ·have q0:q≠0:=fun z=>pq ⟨p0,z⟩
    subst p0
    have y0:y=0:=Qg5 q0 (by grind)
    have t0:t=0:=Qg5 q0 (by grind)
    rw [y0,t0];simp
   ·have:p*(x*t-s*y)=0:=by
     have:p*(x*t-s*y)=t*(x*p+y*q)-y*(s*p+t*q):=by grind
     rw [this,k,o];simp
    have:=Qg5 p0 this
    omega
  have st:¬ (s=0∧t=0):=fun z=>by have:=l.s;omega
  rw [Quh xy st cr,Quf l]
 ·rw [←h2]
  refine Quh uv n2 ?_
  unfold Qgh
  by_cases ab:a=0∧b=0
  ·rw [if_pos ab]
   show (x*a+y*c)*d=c*(x*b+y*d)
   rw [ab.1,ab.2]
   grind
  ·rw [if_neg ab]
   show (x*a+y*c)*b=a*(x*b+y*d)
   have:(x*a+y*c)*b-a*(x*b+y*d)=y*(b*c-a*d):=by grind
   rw [dd] at this
   have z:y*(b*c-b*c)=0:=by simp
   omega
theorem Qus (p q x y:Int):eqO (pr p q) (pr x y)=some (decide ((p,q)=(x,y))):=by
 have h:=Q2o (xs:=[p,q]) (ys:=[x,y])
 rw [show eqO (pr p q) (pr x y)=_ from h]
 congr 1
 rw [decide_eq_decide]
 simp
theorem Qabz (w:Str) (s t:Int):eqO (.tup [.str w,pr s t]) (.tup [.str w,pr s t])=some true:=by
 have h:Qm 50 (.tup [.str w,pr s t])=true:=rfl
 show (if Qm 50 (.tup [.str w,pr s t])=true∧Qm 50 (.tup [.str w,pr s t])=true then some (eqT (.tup [.str w,pr s t]) (.tup [.str w,pr s t])) else none)=_
 rw [if_pos ⟨h,h⟩,Qlk 50 _ h]
theorem Qrm (k:Nat) {p q:Int} (h:Ln p q) (hp:p.natAbs≤B12) (hq:q.natAbs≤B12):cfn (k+3) 33 [.fz (pr p q)]=.ok (.fz (.bl true)) [.non]:=by
 have e1:=Qif k (Qgg hp) (Qgg hq)
 rw [Quf h] at e1
 have e1:cfn (k+2) 26 [.fz (pr p q)]=.ok (.fz (pr p q)) [.non]:=e1
 have eq:=Qus p q p q
 rw [decide_eq_true rfl] at eq
 have hc:=Qml (cf:=cfn (k+2)) (w:=.seq (.var 0)) (e:=.call 23 (.cons (.var 0) .nil)) (js:=[none]) (ρ:=[.fz (pr p q)]) (rest:=[]) (u:=.int p) (v:=.int q) (a:=.bl true) (b:=.bl true) rfl rfl rfl rfl rfl rfl
 have ea:Qgn .all [.lst [.bl true,.bl true]]=some (.fz (.bl true)):=rfl
 have n2:((2:Nat):Int)=2:=rfl
 show Qbr (cfn (k+2)) ⟨1,1,Qgf⟩ _=_
 rw [Qbd rfl]
 show Qb1 _ (exS _ Qgf [.fz (pr p q)])=_
 simp only [Qab,Qbc,Qmw,Ql6,Qzd,Qk,Qx,Qb,Qv,Q2k,Qt6,cont,Qmb,Qio,Bool.not_false,Bool.and_true,Qf4,if_true,Qw,yBl,Qqn,Bool.not_true,yOr,Qav,Qb2,Ql,yC1,Qt,yC2,yBi,Qb0,Qan,Out.opt,ub2,List.length_cons,List.length_nil,Nat.reduceAdd,n2,Qar,Qah,Qaq,Qap,Qao,uc2,Option.map,Qa0,decide_true,hc,ea,yB,Qai,yIf,Qcq,Qbe,Qa9,Q4,Qs,Qq,Q3,Qo,Qaa,Q2,e1,Qat,Qj,Qu,L2.Qi,uc1,eq,Qb7,Qaj,Qa5,Qau,Qaz,Q1]
section
variable {a b c d:Int} (ha:a.natAbs≤B12) (hb:b.natAbs≤B12) (hc:c.natAbs≤B12) (hd:d.natAbs≤B12)
include ha hb hc hd
theorem Q0c (k:Nat) (x y:Int):cfn (k+1) 27 [.fz (pr x y),.fz (.tup [pr a b,pr c d])]=.ok (.fz (pr (x*a+y*c) (x*b+y*d))) [.non,.non]:=by
 have e:=Qwf k (sq2 ha hb hc hd) (by decide) (r:=[x,y]) rfl
 have r:rb [[a,b],[c,d]] [x,y]=[x*a+y*c,x*b+y*d]:=by simp [rb,Qwe,col,ge,List.range,List.range.loop]
 rw [r] at e
 exact e
theorem Q29 (k:Nat):cfn (k+1) 31 [.fz (.tup [pr a b,pr c d])]=.ok (.fz (.int (a*d-b*c))) [.non]:=by
 have m1:Qby a d=true:=Qcg hd
 have m2:Qby b c=true:=Qcg hc
 show Qbr (cfn k) ⟨1,1,Qg3⟩ _=_
 rw [Qbd rfl]
 show Qb1 _ (exS _ Qg3 [.fz (.tup [pr a b,pr c d])])=_
 simp only [Qa9,Qbu,Qej,Qk,Qx,Qb,Qv,Qd9,Qah,Qd8,Qd7,cont,Qd6,ui2,Qkm,Qbp,Qoo,Qbo,Qbn,Out.opt,uo5,m1,if_true,m2,uo4,Qai,Qb7,Qaj,Qa5,Qau,Qaz,Q1,Option.map]
end
noncomputable abbrev Qk2:E:=.comp (.seq (.var 0)) [none] (.nm 0) (.cons (.cmp .ne (.var 0) (.tup (.cons (.int 0) (.cons (.int 0) .nil)))) .nil) (.var 0)
noncomputable def nzp:T→Bool
 | .tup [.int x,.int y]=>!decide ((x,y)=((0,0):Int×Int))
 | _=>false
theorem e_nz {cf:CF} {ρ:En} (a b c d:Int):evE cf Qk2 (.fz (.tup [pr a b,pr c d])::ρ)=.ok (.ow (.lst (([pr a b,pr c d].filter nzp).map id))) (.fz (.tup [pr a b,pr c d])::ρ) :=
 Qky (rest:=[]) (xs:=[pr a b,pr c d]) (g:=nzp) (f:=id) rfl rfl rfl rfl (fun t ht=>by
  have z2:(2:Nat)≤100000:=by decide
  obtain ⟨x,y,rfl⟩:∃ x y:Int,t=pr x y:=by
   rcases List.mem_cons.mp ht with rfl | ht
   ·exact ⟨_,_,rfl⟩
   ·exact ⟨_,_,List.mem_singleton.mp ht⟩
  have e:=Qus x y 0 0
  rw [Qzi]
  simp only [Qav,Qk,Qx,Qb,Qv,Qar,Qfv,Ql,Qah,yC1,Qt,yC2,Qkk,Qc3,frz,List.length_cons,List.length_nil,Nat.reduceAdd,z2,if_true,Qaq,Qap,cont,Qao,uc2,Option.map,e,Qw,yBl]
  rfl) (fun t ht _=>⟨.fz t,by simp only [Qk,Qx,Qb],rfl⟩) (by show 2≤100000;decide)
theorem Q0d (a b c d:Int):eqO (.lst (([pr a b,pr c d].filter nzp).map id)) (.lst [])=some (decide (a=0∧b=0∧c=0∧d=0)):=by
 have n:∀ x y:Int,nzp (pr x y) = !decide (x=0∧y=0):=fun x y=>by
  show (!decide ((x,y)=((0,0):Int×Int)))=_
  simp only [Prod.mk.injEq]
 by_cases h1:a=0∧b=0 <;> by_cases h2:c=0∧d=0
 ·rw [decide_eq_true ⟨h1.1,h1.2,h2.1,h2.2⟩]
  have m1:nzp (pr a b)=false:=by rw [n,decide_eq_true h1];rfl
  have m2:nzp (pr c d)=false:=by rw [n,decide_eq_true h2];rfl
  rw [List.filter_cons_of_neg (by rw [m1];simp),List.filter_cons_of_neg (by rw [m2];simp)]
  rfl
 ·rw [decide_eq_false (fun z=>h2 ⟨z.2.2.1,z.2.2.2⟩)]
  have m1:nzp (pr a b)=false:=by rw [n,decide_eq_true h1];rfl
  have m2:nzp (pr c d)=true:=by rw [n,decide_eq_false h2];rfl
  rw [List.filter_cons_of_neg (by rw [m1];simp),List.filter_cons_of_pos m2]
  rfl
 ·rw [decide_eq_false (fun z=>h1 ⟨z.1,z.2.1⟩)]
  have m1:nzp (pr a b)=true:=by rw [n,decide_eq_false h1];rfl
  have m2:nzp (pr c d)=false:=by rw [n,decide_eq_true h2];rfl
  rw [List.filter_cons_of_pos m1,List.filter_cons_of_neg (by rw [m2];simp)]
  rfl
 ·rw [decide_eq_false (fun z=>h1 ⟨z.1,z.2.1⟩)]
  have m1:nzp (pr a b)=true:=by rw [n,decide_eq_false h1];rfl
  have m2:nzp (pr c d)=true:=by rw [n,decide_eq_false h2];rfl
  rw [List.filter_cons_of_pos m1,List.filter_cons_of_pos m2]
  rfl
open PySem L2
noncomputable abbrev Qja:S:=.seq (.setF 6 (.call 26 (.cons (.call 27 (.cons (.var 5) (.cons (.var 0) .nil))) .nil)))
 (.ite (.or (.and (.cmp .isn (.var 6) .non) (.cmp .ne (.call 26 (.cons (.var 5) .nil)) (.var 2))) (.and (.cmp .isnn (.var 6) .non) (.cmp .ne (.var 6) (.var 4)))) (.ret (.bl false)) .nil)
section
variable {a b c d:Int} (ha:a.natAbs≤B12) (hb:b.natAbs≤B12) (hc:c.natAbs≤B12) (hd:d.natAbs≤B12)
include ha hb hc hd
theorem Q8c {x y:Int} (hx:x.natAbs≤10) (hy:y.natAbs≤10):(x*a+y*c).natAbs<2^125∧(x*b+y*d).natAbs<2^125:=by
 have m:∀ {i j:Int},i.natAbs≤10→j.natAbs≤B12→(i*j).natAbs≤10*B12:=fun hi hj=>by rw [Int.natAbs_mul];exact Nat.mul_le_mul hi hj
 have s:∀ {i j:Int},i.natAbs≤10*B12→j.natAbs≤10*B12→(i+j).natAbs<2^125:=fun {i j} hi hj=>Nat.lt_of_le_of_lt (Nat.le_trans (Int.natAbs_add_le i j) (Nat.add_le_add hi hj)) (by decide)
 exact ⟨s (m hx ha) (m hy hc),s (m hx hb) (m hy hd)⟩
theorem Qk3 (k:Nat) {s t m n:Int} (R:Rk a b c d s t m n) {x y:Int} (hx:x.natAbs≤10) (hy:y.natAbs≤10) (xy:¬ (x=0∧y=0)) {w1 w2 s6:Slot} (o6:Qfn s6=true) :
  ∃ t6,Qfn t6=true∧exS (cfn (k+2)) Qja [.fz (.tup [pr a b,pr c d]),w1,.fz (pr s t),w2,.fz (pr m n),.fz (pr x y),s6]=.nx [.fz (.tup [pr a b,pr c d]),w1,.fz (pr s t),w2,.fz (pr m n),.fz (pr x y),t6]:=by
 have e1:=Q0c ha hb hc hd (k+1) x y
 obtain ⟨b1,b2⟩:=Q8c ha hb hc hd hx hy
 have e2:=Qif k b1 b2
 have e3:=Qif k (x:=x) (y:=y) (Nat.lt_of_le_of_lt hx (by decide)) (Nat.lt_of_le_of_lt hy (by decide))
 by_cases z:x*a+y*c=0∧x*b+y*d=0
 ·rw [Qmn.mpr z] at e2
  rw [R.uq x y xy z.1 z.2] at e3
  have e3:cfn (k+2) 26 [.fz (pr x y)]=.ok (.fz (pr s t)) [.non]:=e3
  have e2:cfn (k+2) 26 [.fz (pr (x*a+y*c) (x*b+y*d))]=.ok (.fz .non) [.non]:=e2
  have eq:=Qus s t s t
  rw [decide_eq_true rfl] at eq
  refine ⟨.fz .non,rfl,?_⟩
  (cases s6 <;> cases o6) <;> simp only [Qab,Qa2,Q4,Ql,Qk,Qx,Qd,Qb,Qv,yC1,Qt,yC2,Qs,Qq,Q3,Qo,Qaa,Q2,e1,Qat,Qj,Qu,L2.Qi,Option.map,if_true,e2,Qai,Qbq,Qa8,frz,Q8,Qbb,List.length_cons,List.length_nil,Nat.reduceAdd,Nat.reduceLT,List.set,Qbe,Qbc,Qmw,Qzb,Qav,Qar,Qi1,Qaq,Qap,cont,Qao,uc7,Qer,Qw,yBl,Q2j,e3,uc2,eq,Bool.not_true,yB,yOr,uc8,yIf,Qcq]
 ·rw [R.md x y z] at e2
  have e2:cfn (k+2) 26 [.fz (pr (x*a+y*c) (x*b+y*d))]=.ok (.fz (pr m n)) [.non]:=e2
  have eq:=Qus m n m n
  rw [decide_eq_true rfl] at eq
  refine ⟨.fz (pr m n),rfl,?_⟩
  (cases s6 <;> cases o6) <;> simp only [Qab,Qa2,Q4,Ql,Qk,Qx,Qd,Qb,Qv,yC1,Qt,yC2,Qs,Qq,Q3,Qo,Qaa,Q2,e1,Qat,Qj,Qu,L2.Qi,Option.map,if_true,e2,Qai,Qbq,Qa8,frz,Q8,Qbb,List.length_cons,List.length_nil,Nat.reduceAdd,Nat.reduceLT,List.set,Qbe,Qbc,Qmw,Qzb,Qav,Qar,Qi1,Qaq,Qap,cont,Qao,uc7,Qer,Qw,yBl,Q2j,yOr,uc8,Bool.not_false,uc2,eq,Bool.not_true,yB,yIf,Qcq]
theorem Q8d (k:Nat) {s t m n:Int} (R:Rk a b c d s t m n) {w1 w2:Slot}:∃ t5 t6,Qca (.nm 5) (exS (cfn (k+2)) Qja) [pr 1 0,pr 0 1,pr 1 1,pr 2 (-3)] [.fz (.tup [pr a b,pr c d]),w1,.fz (pr s t),w2,.fz (pr m n),.un,.un]=.nx [.fz (.tup [pr a b,pr c d]),w1,.fz (pr s t),w2,.fz (pr m n),t5,t6]:=by
 obtain ⟨v1,o1,f1⟩:=Qk3 ha hb hc hd k R (x:=1) (y:=0) (by decide) (by decide) (by decide) (w1:=w1) (w2:=w2) (s6:=.un) rfl
 obtain ⟨v2,o2,f2⟩:=Qk3 ha hb hc hd k R (x:=0) (y:=1) (by decide) (by decide) (by decide) (w1:=w1) (w2:=w2) (s6:=v1) o1
 obtain ⟨v3,o3,f3⟩:=Qk3 ha hb hc hd k R (x:=1) (y:=1) (by decide) (by decide) (by decide) (w1:=w1) (w2:=w2) (s6:=v2) o2
 obtain ⟨v4,o4,f4⟩:=Qk3 ha hb hc hd k R (x:=2) (y:=-3) (by decide) (by decide) (by decide) (w1:=w1) (w2:=w2) (s6:=v3) o3
 refine ⟨.fz (pr 2 (-3)),v4,?_⟩
 rw [Qa6 rfl f1,Qa6 rfl f2,Qa6 rfl f3,Qa6 rfl f4]
 unfold Qca
 rfl
noncomputable abbrev Qk4:E:=.or (.cmp .ne (.call 31 (.cons (.var 0) .nil)) (.int 0)) (.cmp .eq Qk2 (.lst .nil))
noncomputable abbrev Qpp:E:=.and (.cmp .eq (.call 32 (.cons (.int 0) (.cons (.var 0) .nil))) (.tup (.cons (.str "line") (.cons .non .nil)))) (.cmp .eq (.call 32 (.cons (.int 1) (.cons (.var 0) .nil))) (.tup (.cons (.str "line") (.cons .non .nil))))
noncomputable abbrev Qut:S:=(.seq (.unp [1,2] (.call 32 (.cons (.int 0) (.cons (.var 0) .nil))))
 (.seq (.unp [3,4] (.call 32 (.cons (.int 1) (.cons (.var 0) .nil))))
 (.seq (.ite (.or (.cmp .ne (.var 1) (.str "told")) (.or (.cmp .ne (.var 3) (.str "told")) (.or (.not (.call 33 (.cons (.var 2) .nil))) (.not (.call 33 (.cons (.var 4) .nil)))))) (.ret (.bl false)) .nil)
 (.seq (.ite (.cmp .ne (.call 27 (.cons (.var 2) (.cons (.var 0) .nil))) (.tup (.cons (.int 0) (.cons (.int 0) .nil)))) (.ret (.bl false)) .nil)
 (.seq (.for_ (.seq (.lst (.cons (.tup (.cons (.int 1) (.cons (.int 0) .nil))) (.cons (.tup (.cons (.int 0) (.cons (.int 1) .nil))) (.cons (.tup (.cons (.int 1) (.cons (.int 1) .nil))) (.cons (.tup (.cons (.int 2) (.cons (.neg (.int 3)) .nil))) .nil)))))) (.nm 5) Qja)
 (.ret (.cmp .eq (.call 32 (.cons (.int 0) (.cons (.var 0) .nil))) (.tup (.cons (.var 1) (.cons (.var 2) .nil))))))))))
theorem Q8e (k:Nat):evE (cfn (k+1)) Qk4 [.fz (.tup [pr a b,pr c d]),.un,.un,.un,.un,.un,.un]=.ok (.fz (.bl (decide (det a b c d≠0∨(a=0∧b=0∧c=0∧d=0))))) [.fz (.tup [pr a b,pr c d]),.un,.un,.un,.un,.un,.un]:=by
 have e1:=Q29 ha hb hc hd k
 have z0:(0:Nat)≤100000:=by decide
 have e2:=e_nz (cf:=cfn (k+1)) (ρ:=[.un,.un,.un,.un,.un,.un]) a b c d
 have e3:=Q0d a b c d
 generalize ([pr a b,pr c d].filter nzp).map id=L at e2 e3
 show evE _ (.or _ (.cmp .eq Qk2 (.lst .nil))) _=_
 generalize Qk2=E0 at e2 ⊢
 have dd:det a b c d=a*d-b*c:=rfl
 by_cases h:a*d-b*c=0
 ·by_cases h2:a=0∧b=0∧c=0∧d=0
  ·rw [decide_eq_true h2] at e3
   rw [decide_eq_true (.inr h2)]
   simp only [Qmw,Qav,Q4,Ql,Qk,Qx,Qb,Qv,yC1,Qt,yC2,Qs,Qq,Q3,Qo,Qaa,Q2,e1,h,Qat,Qj,Qu,L2.Qi,Option.map,if_true,Qar,Qah,Qaq,Qap,cont,Qao,uc2,Qa0,decide_true,Bool.not_true,Qw,yBl,yOr,e2,Qgu,Qkl,Qc3,List.length_nil,z0,uc1,e3,yB]
  ·rw [decide_eq_false h2] at e3
   rw [decide_eq_false (fun z=>z.elim (fun y=>y (dd.trans h)) h2)]
   simp only [Qmw,Qav,Q4,Ql,Qk,Qx,Qb,Qv,yC1,Qt,yC2,Qs,Qq,Q3,Qo,Qaa,Q2,e1,h,Qat,Qj,Qu,L2.Qi,Option.map,if_true,Qar,Qah,Qaq,Qap,cont,Qao,uc2,Qa0,decide_true,Bool.not_true,Qw,yBl,yOr,e2,Qgu,Qkl,Qc3,List.length_nil,z0,uc1,e3,yB]
 ·rw [decide_eq_true (.inl fun z=>h (dd.symm.trans z))]
  simp only [Qmw,Qav,Q4,Ql,Qk,Qx,Qb,Qv,yC1,Qt,yC2,Qs,Qq,Q3,Qo,Qaa,Q2,e1,Qat,Qj,Qu,L2.Qi,Option.map,if_true,Qar,Qah,Qaq,Qap,cont,Qao,uc2,Qa0,h,decide_false,Bool.not_false,Qw,yBl,yOr]
theorem Q3a (k:Nat):cfn (k+9) 34 [.fz (.tup [pr a b,pr c d])]=.ok (.fz (.bl true)) [.non]:=by
 have et:=Q8e ha hb hc hd (k+7)
 show Qbr (cfn (k+8)) ⟨1,7,Qkh⟩ _=_
 rw [Qbd rfl]
 show Qb1 _ (exS _ (.seq (.ite Qk4 (.ret Qpp) .nil) Qut) [.fz (.tup [pr a b,pr c d]),.un,.un,.un,.un,.un,.un])=_
 by_cases h:det a b c d≠0∨(a=0∧b=0∧c=0∧d=0)
 ·rw [decide_eq_true h] at et
  obtain ⟨x1,x2⟩:=Q27 ha hb hc hd k (Qz3 h)
  have e1:=Qz6 k (w:=0) (t:=.tup [pr a b,pr c d]) (by rw [if_pos rfl];exact x1)
  have e2:=Qz6 k (w:=1) (t:=.tup [pr a b,pr c d]) (by rw [if_neg (by decide)];exact x2)
  have eq:eqO (.tup [.str "line",.non]) (.tup [.str "line",.non])=some true:=by decide +kernel
  have z2:(2:Nat)≤100000:=by decide
  have eb:evE (cfn (k+8)) Qpp [.fz (.tup [pr a b,pr c d]),.un,.un,.un,.un,.un,.un]=.ok (.fz (.bl true)) [.fz (.tup [pr a b,pr c d]),.un,.un,.un,.un,.un,.un]:=by
   simp only [Qzb,Qav,Q4,Ql,Qah,Qv,yC1,Qk,Qx,Qb,Qt,yC2,Qs,Qq,Q3,Qo,Qaa,Q2,e1,Qat,Qj,Qu,L2.Qi,Option.map,if_true,Qar,Qfv,Ql5,Qi1,Qkk,Qc3,frz,List.length_cons,List.length_nil,Nat.reduceAdd,z2,Qaq,Qap,cont,Qao,uc1,eq,Qw,yBl,Q2j,e2,yB]
  generalize Qk4=E0 at et ⊢
  generalize Qpp=E1 at eb ⊢
  generalize Qut=S0
  simp only [Qab,Qbc,et,Qw,Qv,yBl,Qai,yIf,Qa9,eb,Qb7,Qvz,Qaj,Qa5,Qau,Qaz,Q1,Option.map]
 ·rw [decide_eq_false h] at et
  have hd0:det a b c d=0:=by
   by_cases z:det a b c d=0
   ·exact z
   ·exact absurd (.inl z) h
  have hz:¬ (a=0∧b=0∧c=0∧d=0):=fun z=>h (.inr z)
  have hd1:det a c b d=0:=by unfold det at hd0 ⊢;grind
  obtain ⟨m,n,s1,l1,n1⟩:=Quo hd0 hz
  obtain ⟨p,q,s2,l2,n2⟩:=Quo hd1 (fun z=>hz ⟨z.1,z.2.2.1,z.2.1,z.2.2.2⟩)
  have fb:∀ {a b c d:Int},a.natAbs≤B12→b.natAbs≤B12→c.natAbs≤B12→d.natAbs≤B12→(Qgh a b c d).1.natAbs≤B12∧(Qgh a b c d).2.natAbs≤B12:=fun h1 h2 h3 h4=>by
   unfold Qgh
   split
   ·exact ⟨h3,h4⟩
   ·exact ⟨h1,h2⟩
  obtain ⟨_,pb,qb⟩:=Qn1 l2
  obtain ⟨_,mb,nb⟩:=Qn1 l1
  have pb:=Nat.le_trans pb (fb ha hc hb hd).1
  have qb:=Nat.le_trans qb (fb ha hc hb hd).2
  have mb:=Nat.le_trans mb (fb ha hb hc hd).1
  have nb:=Nat.le_trans nb (fb ha hb hc hd).2
  obtain ⟨s,t,el,sb,tb,R⟩:=Qaby hd0 l2 n2 l1 n1
  have lb:=Q8b pb qb
  have sb:=Nat.le_trans sb lb.1
  have tb:=Nat.le_trans tb lb.2
  have e0:=Qrj ha hb hc hd k s1 s2 (Qz2 l2) pb qb
  rw [el] at e0
  have e1:=Qz5 k (w:=0) (t:=.tup [pr a b,pr c d]) (r:=pr s t) (by rw [if_pos rfl];exact e0)
  have e2:=Qz5 k (w:=1) (t:=.tup [pr a b,pr c d]) (r:=pr m n) (by rw [if_neg (by decide)];exact Qrk ha hb hc hd k s1)
  have e3:=Qrm (k+5) R.ls sb tb
  have e4:=Qrm (k+5) R.lm mb nb
  have e5:=Q0c ha hb hc hd (k+7) s t
  rw [R.l1,R.l2] at e5
  have eq0:eqO (pr 0 0) (pr 0 0)=some true:=by decide +kernel
  obtain ⟨t5,t6,e6⟩:=Q8d ha hb hc hd (k+6) R (w1:=.fz (.str "told")) (w2:=.fz (.str "told"))
  have eq:=Qabz "told" s t
  have z2:(2:Nat)≤100000:=by decide
  have z4:(4:Nat)≤100000:=by decide
  generalize Qk4=E0 at et ⊢
  generalize Qpp=E1
  have w0:exS (cfn (k+8)) (.ite E0 (.ret E1) .nil) [.fz (.tup [pr a b,pr c d]),.un,.un,.un,.un,.un,.un]=.nx [.fz (.tup [pr a b,pr c d]),.un,.un,.un,.un,.un,.un]:=by
   simp only [Qbc,et,Qw,Qv,yBl,Qai,yIf,Qcq]
  rw [Qab,w0,Qbe]
  show Qb1 _ (exS _ (.seq (.unp [1,2] _) (.seq (.unp [3,4] _) (.seq _ (.seq _ (.seq (.for_ _ (.nm 5) Qja) _))))) _)=_
  generalize Qja=B0 at e6 ⊢
  simp only [Qab,Qze,Q4,Ql,Qah,Qv,yC1,Qk,Qx,Qb,Qt,yC2,Qs,Qq,Q3,Qo,Qaa,Q2,e1,Qat,Qj,Qu,L2.Qi,Option.map,if_true,Qai,Q2m,Q8,Qbi,Qbb,List.length_cons,List.length_nil,Nat.reduceAdd,Nat.reduceLT,Qd,List.set,Qbe,e2,Qbc,Qmw,Qav,Qar,Ql5,Qaq,Qap,cont,Qao,uc2,Q2p,decide_true,Bool.not_true,Qw,yBl,yOr,Ql6,e3,Qqn,e4,yB,yIf,Qcq,e5,Qfv,Qkk,Qc3,frz,z2,eq0,Qev,Qke,Qgu,Qnw,Qsg,Int.reduceNeg,Qkl,z4,Qon,Qi3,Qi2,Qdv,Qh5,Qho,e6,Qcn,Qa9,uc1,eq,Qb7,Qaj,Qa5,Qau,Qaz,Q1]
end
open PySem L2
theorem Qmp {M:Tb} (h:Sq 2 M):cfn 14 34 [.fz (Qba M)]=.ok (.fz (.bl true)) [.non]:=by
 obtain ⟨a,b,c,d,rfl,ha,hb,hc,hd⟩:=Q26 h
 exact Q3a ha hb hc hd 5
theorem Q3b {M:Tb} (h:Sk M):∃ a b c d:Int,M=[[a,b],[c,d]]∧a.natAbs≤1000∧b.natAbs≤1000∧c.natAbs≤1000∧d.natAbs≤1000:=by
 obtain ⟨l,r,bd⟩:=h
 match M,l,r,bd with
 | [r1,r2],_,r,bd =>
  have h1:=r r1 List.mem_cons_self
  have h2:=r r2 (List.mem_cons_of_mem _ List.mem_cons_self)
  have b1:=bd r1 List.mem_cons_self
  have b2:=bd r2 (List.mem_cons_of_mem _ List.mem_cons_self)
  match r1,r2,h1,h2,b1,b2 with
  | [a,b],[c,d],_,_,b1,b2=>exact ⟨a,b,c,d,rfl,b1 a List.mem_cons_self,b1 b (List.mem_cons_of_mem _ List.mem_cons_self),b2 c List.mem_cons_self,b2 d (List.mem_cons_of_mem _ List.mem_cons_self)⟩
noncomputable abbrev Qk5:S:=.ite (.not (.call 34 (.cons (.var 1) .nil))) (.ret (.bl false)) .nil
theorem Q8f {M:Tb} (h:M∈([[[0,0],[0,0]],[[0,5],[0,0]],[[0,0],[-3,0]],[[1,2],[2,4]],[[1,0],[0,1]]]:List Tb)):Sq 2 M:=by
 simp only [List.mem_cons,List.not_mem_nil,or_false] at h
 rcases h with rfl | rfl | rfl | rfl | rfl <;> exact sq2 (by decide) (by decide) (by decide) (by decide)
noncomputable abbrev Quu:E:=.lst (.cons (.tup (.cons (.tup (.cons (.int 0) (.cons (.int 0) .nil))) (.cons (.tup (.cons (.int 0) (.cons (.int 0) .nil))) .nil))) (.cons (.tup (.cons (.tup (.cons (.int 0) (.cons (.int 5) .nil))) (.cons (.tup (.cons (.int 0) (.cons (.int 0) .nil))) .nil))) (.cons (.tup (.cons (.tup (.cons (.int 0) (.cons (.int 0) .nil))) (.cons (.tup (.cons (.neg (.int 3)) (.cons (.int 0) .nil))) .nil))) (.cons (.tup (.cons (.tup (.cons (.int 1) (.cons (.int 2) .nil))) (.cons (.tup (.cons (.int 2) (.cons (.int 4) .nil))) .nil))) (.cons (.tup (.cons (.tup (.cons (.int 1) (.cons (.int 0) .nil))) (.cons (.tup (.cons (.int 0) (.cons (.int 1) .nil))) .nil))) .nil)))))
theorem Q3c:∀ a:Addr,∃ ρ',exS (cfn 14) Qzs (.pin a::uns 5)=.nx (.pin a::ρ')∧ρ'.length=5:=by
 intro a
 have z2:(2:Nat)≤100000:=by decide
 have z5:(5:Nat)≤100000:=by decide
 obtain ⟨ρ',e,s,_,rfl⟩:=Qi0 (fun _ ρ=>∃ s:Slot,Qfn s=true∧ρ=[.pin a,s,.un,.un,.un,.un]) (tg:=.nm 1) (b:=exS (cfn 14) Qk5) (xs:=([[[0,0],[0,0]],[[0,5],[0,0]],[[0,0],[-3,0]],[[1,2],[2,4]],[[1,0],[0,1]]]:List Tb).map Qba) (n:=0) (ρ:=[.pin a,.un,.un,.un,.un,.un]) ⟨.un,rfl,rfl⟩ (by
  rintro j t ρ ht ⟨s,os,rfl⟩
  obtain ⟨M,hM,rfl⟩:=List.mem_map.mp (List.mem_of_getElem? ht)
  have er:=Qmp (Q8f hM)
  refine ⟨[.pin a,.fz (Qba M),.un,.un,.un,.un],_,(by cases s <;> first | rfl | cases os),.inl ?_,.fz (Qba M),rfl,rfl⟩
  simp only [Qbc,Ql6,Q4,Ql,Qk,Qx,Qd,Qb,Qv,yC1,Qt,yC2,Qs,Qq,Q3,Qo,Qaa,Q2,er,Qat,Qj,Qu,L2.Qi,Option.map,if_true,Qw,yBl,Qqn,Bool.not_true,Qai,yIf,Qcq])
 refine ⟨[s,.un,.un,.un,.un],?_,rfl⟩
 show exS (cfn 14) Qzs [.pin a,.un,.un,.un,.un,.un]=_
 have e':Qca (.nm 1) (exS (cfn 14) Qk5) [.tup [pr 0 0,pr 0 0],.tup [pr 0 5,pr 0 0],.tup [pr 0 0,pr (-3) 0],.tup [pr 1 2,pr 2 4],.tup [pr 1 0,pr 0 1]] [.pin a,.un,.un,.un,.un,.un]=_:=e
 generalize hb:Qk5=S0 at e'
 have ew:evW (cfn 14) (.seq Quu) [.pin a,.un,.un,.un,.un,.un]=.ok ([.tup [pr 0 0,pr 0 0],.tup [pr 0 5,pr 0 0],.tup [pr 0 0,pr (-3) 0],.tup [pr 1 2,pr 2 4],.tup [pr 1 0,pr 0 1]],none) [.pin a,.un,.un,.un,.un,.un]:=by
  simp only [Qke,Qgu,Ql,Qfv,Qah,Qv,yC1,Qt,yC2,Qkk,Qc3,frz,List.length_cons,List.length_nil,Nat.reduceAdd,z2,if_true,Qnw,Qsg,Int.reduceNeg,Qkl,z5,Qon,Qi3,cont,Qi2,Qdv,Qh5]
 show exS (cfn 14) (.for_ (.seq Quu) (.nm 1) Qk5) _=_
 rw [hb,Qev,ew]
 simp only [Int.reduceNeg,Qai,Qho,e',Qcn]
noncomputable abbrev Q4q:E:=.comp (.seq (.var 0)) [none,some 1] (.nm 0) .nil (.bin .mul (.var 1) (.var 0))
noncomputable abbrev Q0e:E:=.comp (.seq (.var 1)) [none,some 4] (.nm 0) .nil (.bi .tup (.cons Q4q .nil))
theorem Q8g {o a b c d:Int} (ho:o.natAbs≤1000000000) (ha:a.natAbs≤1000) (hb:b.natAbs≤1000) (hc:c.natAbs≤1000) (hd:d.natAbs≤1000) {s2 s3 s5:Slot} :
  evE (cfn 14) Q0e [.un,.fz (.tup [pr a b,pr c d]),s2,s3,.fz (.int o),s5]=.ok (.ow (.lst [pr (o*a) (o*b),pr (o*c) (o*d)])) [.un,.fz (.tup [pr a b,pr c d]),s2,s3,.fz (.int o),s5]:=by
 have inn:∀ x y:Int,x.natAbs≤1000→y.natAbs≤1000→evE (cfn 14) Q4q [.fz (pr x y),.fz (.int o)]=.ok (.ow (.lst [.int (o*x),.int (o*y)])) [.fz (pr x y),.fz (.int o)]:=fun x y hx hy=>by
  have m1:Qby o x=true:=Qcg (by omega)
  have m2:Qby o y=true:=Qcg (by omega)
  exact Qml (rest:=[.fz (.int o)]) rfl rfl rfl rfl (by simp only [Qbu,Qk,Qx,Qd,Qb,Qv,Qbp,Qbo,Qbn,cont,Out.opt,uo5,m1,if_true]) (by simp only [Qbu,Qk,Qx,Qd,Qb,Qv,Qbp,Qbo,Qbn,cont,Out.opt,uo5,m2,if_true])
 have i1:=inn a b ha hb
 have i2:=inn c d hc hd
 exact Qml (rest:=[.fz (.int o)]) rfl rfl rfl rfl (by simp only [Qb2,Ql,i1,Qv,yC1,Qt,yC2,yBi,Qb0,Qan,cont,Out.opt,ub9]) (by simp only [Qb2,Ql,i2,Qv,yC1,Qt,yC2,yBi,Qb0,Qan,cont,Out.opt,ub9])
theorem Qk6 {o x:Int} (ho:o.natAbs≤1000000000) (hx:x.natAbs≤1000):(o*x).natAbs≤1000000000000:=by
 rw [Int.natAbs_mul]
 exact Nat.le_trans (Nat.mul_le_mul ho hx) (by decide)
noncomputable abbrev Qk7:S:=.seq (.setF 5 (.bi .tup (.cons Q0e .nil)))
 (.ite (.or (.not (.call 34 (.cons (.var 1) .nil))) (.not (.call 34 (.cons (.var 5) .nil)))) (.ret (.bl false)) .nil)
theorem Q3d {o:Int} (ho:o.natAbs≤1000000000) {Ms:List Tb} (hM:∀ M∈Ms,Sk M) {s2 s3:Slot}:∃ s1 s5:Slot,Qca (.nm 1) (exS (cfn 14) Qk7) (Ms.map Qba) [.un,.un,s2,s3,.fz (.int o),.un]=.nx [.un,s1,s2,s3,.fz (.int o),s5]:=by
 obtain ⟨ρ',e,s1,s5,_,_,rfl⟩:=Qi0 (fun _ ρ=>∃ s1 s5:Slot,Qfn s1=true∧Qfn s5=true∧ρ=[.un,s1,s2,s3,.fz (.int o),s5]) (tg:=.nm 1) (b:=exS (cfn 14) Qk7) (xs:=Ms.map Qba) (n:=0) (ρ:=[.un,.un,s2,s3,.fz (.int o),.un]) ⟨.un,.un,rfl,rfl,rfl⟩ (by
  rintro j t ρ ht ⟨s1,s5,o1,o5,rfl⟩
  obtain ⟨M,hM',rfl⟩:=List.mem_map.mp (List.mem_of_getElem? ht)
  obtain ⟨a,b,c,d,rfl,ha,hb,hc,hd⟩:=Q3b (hM M hM')
  have e1:=Qmp (M:=[[a,b],[c,d]]) (sq2 (by omega) (by omega) (by omega) (by omega))
  have e2:=Qmp (M:=[[o*a,o*b],[o*c,o*d]]) (sq2 (Qk6 ho ha) (Qk6 ho hb) (Qk6 ho hc) (Qk6 ho hd))
  have e1:cfn 14 34 [.fz (.tup [pr a b,pr c d])]=.ok (.fz (.bl true)) [.non]:=e1
  have e2:cfn 14 34 [.fz (.tup [pr (o*a) (o*b),pr (o*c) (o*d)])]=.ok (.fz (.bl true)) [.non]:=e2
  refine ⟨[.un,.fz (.tup [pr a b,pr c d]),s2,s3,.fz (.int o),s5],_,(by cases s1 <;> first | rfl | cases o1),.inl ?_,.fz (.tup [pr a b,pr c d]),.fz (.tup [pr (o*a) (o*b),pr (o*c) (o*d)]),rfl,rfl,rfl⟩
  have ew:=Q8g ho ha hb hc hd (s2:=s2) (s3:=s3) (s5:=s5)
  (cases s5 <;> cases o5) <;> simp only [Qab,Qa2,Qb2,Ql,ew,Qv,yC1,Qt,yC2,yBi,Qb0,Qan,cont,Out.opt,ub9,Qai,Qbq,Qa8,frz,Q8,Qbb,List.length_cons,List.length_nil,Nat.reduceAdd,Nat.reduceLT,Qd,Qb,List.set,if_true,Qbe,Qbc,Qmw,Ql6,Q4,Qk,Qx,Qs,Qq,Q3,Qo,Qaa,Q2,e1,Qat,Qj,Qu,L2.Qi,Option.map,Qw,yBl,Qqn,Bool.not_true,yOr,e2,yB,yIf,Qcq])
 exact ⟨s1,s5,e⟩
theorem Q0f:∀ m:Int,∃ ρ',exS (cfn 14) Qzt ((uns 6).set 2 (.fz (.int m)))=.nx ρ'∧ρ'.length=6:=by
 intro m
 obtain ⟨q,hq,e0⟩:=Qabw 13 m
 obtain ⟨r,q1,r0,r4,p1,e1⟩:=Qed 13 (m:=4) (by decide) (by decide) hq
 obtain ⟨Ms,q2,m1,m3,sk,p2,e2⟩:=Q79 11 p1
 obtain ⟨M1,q3,sk1,p3,e3⟩:=Qmo 12 p2
 obtain ⟨M2,q4,sk2',p4,e4⟩:=Qur 12 p3 (w:=1) (by decide)
 have z2:(2:Nat)≤100000:=by decide
 have z4:(4:Nat)≤100000:=by decide
 obtain ⟨o,ho,eo⟩:∃ o:Int,o.natAbs≤1000000000∧atI [T.int 1,.int (-1),.int 7,.int 1000000000] r=some (.int o):=by
  obtain ⟨t,et,ht⟩:=Qz7 (L:=[T.int 1,.int (-1),.int 7,.int 1000000000]) r0 (by show r<4;exact r4)
  simp only [List.mem_cons,List.not_mem_nil,or_false] at ht
  rcases ht with rfl | rfl | rfl | rfl <;> exact ⟨_,by decide,et⟩
 have ka:opB .add (Qhy Ms) (.lst [Qba M1,Qba M2])=some (.ow (.lst ((Ms++[M1,M2]).map Qba))):=by
  rw [List.map_append]
  exact Q4p (by rw [List.length_map];show _+2≤_;omega)
 have hM:∀ M∈Ms++[M1,M2],Sk M:=fun M hM=>by
  rcases List.mem_append.mp hM with h | h
  ·exact sk M h
  ·simp only [List.mem_cons,List.not_mem_nil,or_false] at h
   rcases h with rfl | rfl
   ·exact sk1
   ·exact sk2'
 obtain ⟨s1,s5,e5⟩:=Q3d ho hM (s2:=.fz (.int m)) (s3:=.ow q4)
 have pw:opB .pow (.int 10) (.int 9)=some (.fz (.int 1000000000)):=rfl
 refine ⟨[.un,s1,.fz (.int m),.ow q4,.fz (.int o),s5],?_,rfl⟩
 show exS (cfn 14) (.seq _ (.seq _ (.for_ _ (.nm 1) Qk7))) [.un,.un,.fz (.int m),.un,.un,.un]=_
 generalize Qk7=B0 at e5 ⊢
 simp only [Qab,Qnx,Q4,Ql,Qk,Qx,Qd,Qb,Qv,yC1,Qt,yC2,Qs,Qq,Q3,Qo,Qaa,Q2,e0,Qat,Qj,Qu,L2.Qi,Option.map,if_true,Qai,Qoj,Q8,Qbb,List.length_cons,List.length_nil,Nat.reduceAdd,Nat.reduceLT,List.set,Qbe,Qa2,Qej,Qgu,Qah,Qnw,Qsg,Int.reduceNeg,Qbu,Qbp,Qbo,Qbn,cont,Out.opt,pw,Qkl,Qc3,frz,z4,Qd9,List.all_cons,List.all_nil,Bool.and_true,e1,reduceCtorEq,if_false,Nat.reduceEqDiff,List.getElem?_cons_zero,Slot.put,Qd8,Qd7,Qd6,ui1,eo,Qbq,Qa8,Qev,Qke,e2,e3,e4,z2,ka,Qon,Qi3,Qi2,Qdv,Qh5,Qho,e5,Qcn]
open PySem L2
section
variable {P:Program} {w:World} {K:PySem.W.Frag} {mg:Str→Option Value} {base:Heap}
theorem ok_q {x:Str} {st:Stmt} {f:Addr} {fd:FuncData} {N ps:List Str} {k:Nat} {sp:Sp} (F:Fun K x x st f fd) (S:FnScope N ps (Qf st)) (len:∀ vs H Q E,sp vs H Q E→vs.length=ps.length)
  (hbody:∀ (cdv:Value) (A:Around) (outer:List Env) (s:Shared) (H:Hp) (vs:List V) (Q:VK) (E:XK),Room k (A.deeper (PyProof.Rows.envOfC x (Qf st) s.heap.objs.size f cdv))→sp vs H Q E →
   ∃ t,QB (Qhn (fun _=>true) CX0 P w K mg base N x (Qf st) f cdv A outer s H E).nox (Q9 st) t∧t { nx:=fun _ H'=>Q .non H',rt:=Q } (Qbj N vs) H):FnOk P w K mg base CX0 (k+1) f fd ps sp :=
 F.ok S len fun cdv A outer s H vs Q E hr hs=>let ⟨t,a,b⟩:=hbody cdv A outer s H vs Q E hr hs;⟨t,a.h,b⟩
theorem Q0g {h:Heap} {x:Str} {st:Stmt} {f:Addr} {oc:Value} {od an:Option Addr} {osl:Array (Option Value)} {kV doc pm cdv ct:Value} (X:K.In h) (G:h.Ns mainGlobals mg) (a:PySem.W.nsIn K mainGlobals x=some (some (.ref f)))
  (l:K.lookup f=some ⟨oc,od,.func (PySem.W.fnOf x x (Qa3 st) (Q9 st) (Qf st) .none kV doc pm an cdv ct),osl⟩) (c:PySem.W.codeIn K cdv x=true) (k:PySem.W.keepIn K (.ref f)=true):Dfn K mg x st:=⟨⟨f,_,Qw9 l c k,PySem.W.mg_of X G a⟩⟩
theorem Q8h {h:Heap} {x:Str} {i:Int} {t:Tok} (X:K.In h) (G:h.Ns mainGlobals mg) (a:PySem.W.nsIn K mainGlobals x=some (some (.int i t))):∃ u,mg x=some u∧RelV (.int i) u:=⟨_,PySem.W.mg_of X G a,t,rfl⟩
theorem Q3e {lf:Addr} {lfd:FuncData} (F:Fun K "law" "law" Qkg lf lfd) (s:Shared) (v:Value):BindsTo s lfd ⟨[v],[]⟩ [("_law_script",v)]:=by
 obtain ⟨oc,od,kV,doc,pm,an,cdv,ct,osl,rfl,lk,hcd⟩:=F.ex
 exact .of_eq (Q7u _ _ _ _ _ _ [v] rfl)
theorem Qas {xs:List Df} {d:Df} (i:Nat) (h:xs[i]?=some d):d∈xs:=List.mem_of_getElem? h
theorem Q8i {l:PySem.W.OpenLaw} {fa:Addr} (hfa:mg "law" = some (.ref fa)) (tx:Txt K mg) (dl:Dfn K mg "law" Qkg) (dc:Dfn K mg "_law_cell" Qex) (D:∀ d∈ds,Dfn K mg d.x d.st) :
  ∃ fd:FuncData,(∀ (s:Shared) (v:Value),BindsTo s fd ⟨[v],[]⟩ [("_law_script",v)])∧∀ base:Heap,K.In base→base.Ns mainGlobals mg→FnOk l.prog w K mg base CX0 30 fa fd ["_law_script"] (Qsf K):=by
 obtain ⟨f,fd,F,m⟩:=dl.ex
 have e:=hfa.symm.trans m
 cases e
 refine ⟨fd,Q3e F,fun base _ _=>?_⟩
 have A:Q7r (fun d=>DfOk K mg d∧Qak l.prog w K mg base ds d) ds:=⟨⟨⟨D _ (Qas 0 rfl),Qqr,Qqs,rfl,rfl⟩,Qs0 tx⟩,⟨⟨D _ (Qas 1 rfl),Qv0,Qv1,rfl,rfl⟩,Qzr tx⟩,⟨⟨D _ (Qas 2 rfl),Qsi,Qsj,rfl,rfl⟩,Qv4 tx⟩,⟨⟨D _ (Qas 3 rfl),Qmx,Qmy,rfl,rfl⟩,Qo8 tx⟩,⟨⟨D _ (Qas 4 rfl),Qoq,Qor,rfl,rfl⟩,Qq4 tx⟩,⟨⟨D _ (Qas 5 rfl),Qmz,Qm0,rfl,rfl⟩,Qo9 tx⟩,⟨⟨D _ (Qas 6 rfl),Qhp,Qhq,rfl,rfl⟩,Qie tx⟩,⟨⟨D _ (Qas 7 rfl),Qcf,Qi5,rfl,rfl⟩,Qj7 tx⟩,⟨⟨D _ (Qas 8 rfl),Qme,Qsk,rfl,rfl⟩,Qv5 tx⟩,⟨⟨D _ (Qas 9 rfl),Qdm,Qsl,rfl,rfl⟩,Qv6 tx⟩,⟨⟨D _ (Qas 10 rfl),Qos,Qot,rfl,rfl⟩,Qq5 tx⟩,⟨⟨D _ (Qas 11 rfl),Qmf,Qsm,rfl,rfl⟩,Qv7 tx⟩,⟨⟨D _ (Qas 12 rfl),Qh8,Qsn,rfl,rfl⟩,Qv8 tx⟩,⟨⟨D _ (Qas 13 rfl),Qfa,Qqt,rfl,rfl⟩,Qs1 tx⟩,⟨⟨D _ (Qas 14 rfl),Q2t,Q2u,rfl,rfl⟩,Q7x tx⟩,⟨⟨D _ (Qas 15 rfl),Qdn,Qso,rfl,rfl⟩,Qv9 tx⟩,⟨⟨D _ (Qas 16 rfl),Qkz,Q2v,rfl,rfl⟩,Q7y tx⟩,⟨⟨D _ (Qas 17 rfl),Qjq,Qjr,rfl,rfl⟩,Qkp tx⟩,⟨⟨D _ (Qas 18 rfl),Qjs,Qjt,rfl,rfl⟩,Qkq tx⟩,⟨⟨D _ (Qas 19 rfl),Qow,Qox,rfl,rfl⟩,Qq6 tx⟩,⟨⟨D _ (Qas 20 rfl),Qoy,Qoz,rfl,rfl⟩,Qq7 tx⟩,⟨⟨D _ (Qas 21 rfl),Qmg,Qsp,rfl,rfl⟩,Qwa tx⟩,⟨⟨D _ (Qas 22 rfl),Qdx,Qqw,rfl,rfl⟩,Qs2 tx⟩,⟨⟨D _ (Qas 23 rfl),Qo0,Qo1,rfl,rfl⟩,Qq8 tx⟩,⟨⟨D _ (Qas 24 rfl),Qbv,Qo2,rfl,rfl⟩,Qq9 tx⟩,⟨⟨D _ (Qas 25 rfl),Qd0,Qqy,rfl,rfl⟩,Qs3 tx⟩,⟨⟨D _ (Qas 26 rfl),Qfe,Qqz,rfl,rfl⟩,Qs4 tx⟩,⟨⟨D _ (Qas 27 rfl),Qsq,Qsr,rfl,rfl⟩,Qwb tx⟩,⟨⟨D _ (Qas 28 rfl),Qcb,Qkn,rfl,rfl⟩,Qmk tx⟩,⟨⟨D _ (Qas 29 rfl),Qdd,Qi6,rfl,rfl⟩,Qj8 tx⟩,⟨⟨D _ (Qas 30 rfl),Qga,Qss,rfl,rfl⟩,Qwc tx⟩,⟨⟨D _ (Qas 31 rfl),Qo3,Qo4,rfl,rfl⟩,Qra tx⟩,⟨⟨D _ (Qas 32 rfl),Qkf,Qq0,rfl,rfl⟩,Qs5 tx⟩,⟨⟨D _ (Qas 33 rfl),Qm1,Qm2,rfl,rfl⟩,Qpa tx⟩,⟨⟨D _ (Qas 34 rfl),Qb9,Qo5,rfl,rfl⟩,Qrb tx⟩,trivial⟩
 have hc:=Qnt (Qza A) 14
 refine ok_q (k:=29) F Qh9 (fun vs H Q E h=>?_) (fun cdv A outer s H vs Q E hr h=>?_)
 ·obtain ⟨a,ns,rfl,_⟩:=h
  rfl
 ·exact ⟨_,Qabs tx hc (Qpb dc tx) hr,Q2q h (by decide) (by decide) Q3c Q0f⟩
end
end My
def PySem.W.Fast.tw8063431449133781999:Unit:=()
def PySem.W.Fast.tw8298186481301036732:Unit:=()
def PySem.W.Fast.tw4920112289803845671:Unit:=()
def PySem.W.Fast.tw2901204760968963554:Unit:=()
def PySem.W.Fast.tw1017860091179322110:Unit:=()
def PySem.W.Fast.tw14877661956317417024:Unit:=()
def PySem.W.Fast.tw2290979119032942309:Unit:=()
def PySem.W.Fast.tw15648883977560475585:Unit:=()
def PySem.W.Fast.tw6541433043661170121:Unit:=()
def PySem.W.Fast.tw8219912762109288445:Unit:=()
def PySem.W.Fast.tw12615834003589639654:Unit:=()
def PySem.W.Fast.tw1583922445293663863:Unit:=()
def PySem.W.Fast.tw404767735105616164:Unit:=()
def PySem.W.Fast.tw4879251167690002766:Unit:=()
def PySem.W.Fast.tw14086876124206004096:Unit:=()
def PySem.W.Fast.tw17131087018780459957:Unit:=()
def PySem.W.Fast.tw5837193876969823551:Unit:=()
def PySem.W.Fast.tw3091591987937312906:Unit:=()
def PySem.W.Fast.tw1708765810449105276:Unit:=()
def PySem.W.Fast.tw6497336683702476439:Unit:=()
def PySem.W.Fast.tw10912051537936687774:Unit:=()
def PySem.W.Fast.tw3341372239272517795:Unit:=()
def PySem.W.Fast.tw14291466193959707260:Unit:=()
def PySem.W.Fast.tw10710364168317210424:Unit:=()
def PySem.W.Fast.tw12492927778746643728:Unit:=()
def PySem.W.Fast.tw10425938620093695752:Unit:=()
def PySem.W.Fast.tw5132043335246507358:Unit:=()
def PySem.W.Fast.tw3704058477025550243:Unit:=()
def PySem.W.Fast.tw14692818972375804967:Unit:=()
def PySem.W.Fast.tw7524774061499309227:Unit:=()
def PySem.W.Fast.tw10360956288049127936:Unit:=()
def PySem.W.Fast.tw17987551794348713932:Unit:=()
def PySem.W.Fast.tw3209141782823895540:Unit:=()
def PySem.W.Fast.tw9940351702035504813:Unit:=()
def PySem.W.Fast.tw2542942581009427627:Unit:=()
def PySem.W.Fast.tw3778503777986324251:Unit:=()
def PySem.W.Fast.tw3656388090505052504:Unit:=()
def PySem.W.Fast.tw13479163905853462150:Unit:=()
def PySem.W.Fast.tw12100236435775385157:Unit:=()
def PySem.W.Fast.tw8510903542023679955:Unit:=()
def PySem.W.Fast.tw10343085979319374391:Unit:=()
def PySem.W.Fast.tw4011636955107083038:Unit:=()
def PySem.W.Fast.tw7438674095403498103:Unit:=()
def PySem.W.Fast.tw15860293684018359889:Unit:=()
def PySem.W.Fast.tw16480826627251557377:Unit:=()
def PySem.W.Fast.tw10213681555275119672:Unit:=()
def PySem.W.Fast.tw15543738672104666119:Unit:=()
def PySem.W.Fast.tw13121075691884766242:Unit:=()
def PySem.W.Fast.tw9218341455314276468:Unit:=()
def PySem.W.Fast.tw1692985878824474336:Unit:=()
def PySem.W.Fast.tw6705249683743696963:Unit:=()
def PySem.W.Fast.tw8433699812627869431:Unit:=()
def PySem.W.Fast.tw734672033075572014:Unit:=()
def PySem.W.Fast.tw6289019524198751734:Unit:=()
def PySem.W.Fast.tw15850399751410592318:Unit:=()
def PySem.W.Fast.tw10909305609151142163:Unit:=()
def PySem.W.Fast.tw15105624853394416914:Unit:=()
def PySem.W.Fast.tw6495348207244642138:Unit:=()
def PySem.W.Fast.tw186005932980512813:Unit:=()
def PySem.W.Fast.tw17600784470923245586:Unit:=()
def PySem.W.Fast.tw6166288511070281773:Unit:=()
def PySem.W.Fast.tw8699442632913398974:Unit:=()
def PySem.W.Fast.tw277218179896797531:Unit:=()
def PySem.W.Fast.tw9140457175742501286:Unit:=()
def PySem.W.Fast.tw11653247708082438374:Unit:=()
def PySem.W.Fast.tw9770448498240007917:Unit:=()
def PySem.W.Fast.tw16123840300386877909:Unit:=()
def PySem.W.Fast.tw9812704642708399427:Unit:=()
def PySem.W.Fast.tw11570983513692237590:Unit:=()
def PySem.W.Fast.tw8532684615284755267:Unit:=()
def PySem.W.Fast.tw9778171938676198629:Unit:=()
def PySem.W.Fast.tw6505183793799492485:Unit:=()
def PySem.W.Fast.tw7508407118244661500:Unit:=()
def PySem.W.Fast.tw3539249460842288784:Unit:=()
def PySem.W.Fast.tw9567431328421977101:Unit:=()
def PySem.W.Fast.tw5074823308406232878:Unit:=()
def PySem.W.Fast.tw10908573707845183561:Unit:=()
def PySem.W.Fast.tw18221643342183112820:Unit:=()
def PySem.W.Fast.tw12313332144592111279:Unit:=()
def PySem.W.Fast.tw4971541015562152790:Unit:=()
def PySem.W.Fast.tw10267041732988415624:Unit:=()
def PySem.W.Fast.tw17298723589098395870:Unit:=()
def PySem.W.Fast.tw7565115537564236:Unit:=()
def PySem.W.Fast.tw2099826578016049056:Unit:=()
def PySem.W.Fast.tw10257093040019722769:Unit:=()
def PySem.W.Fast.tw9805055454812889624:Unit:=()
def PySem.W.Fast.tw8086103553630794225:Unit:=()
def PySem.W.Fast.tw14885385369858400560:Unit:=()
def PySem.W.Fast.tw3638814616790699900:Unit:=()
def PySem.W.Fast.tw4538434992476151269:Unit:=()
def PySem.W.Fast.tw1341132552776379253:Unit:=()
def PySem.W.Fast.tw17731168083580521564:Unit:=()
def PySem.W.Fast.tw1685021362376922630:Unit:=()
def PySem.W.Fast.tw2218392295138029169:Unit:=()
def PySem.W.Fast.tw16466046263374792090:Unit:=()
def PySem.W.Fast.tw17506221780215586102:Unit:=()
def PySem.W.Fast.tw4352838397870145349:Unit:=()
def PySem.W.Fast.tw12044394066601168606:Unit:=()
def PySem.W.Fast.tw15761638668461333829:Unit:=()
def PySem.W.Fast.tw9673909084886677840:Unit:=()
def PySem.W.Fast.tw13425293785926290527:Unit:=()
def PySem.W.Fast.tw1746306796788885212:Unit:=()
def PySem.W.Fast.tw16650304802497724674:Unit:=()
def PySem.W.Fast.tw16111041263891817670:Unit:=()
def PySem.W.Fast.tw18117787223411410720:Unit:=()
def PySem.W.Fast.tw16705801946210697721:Unit:=()
def PySem.W.Fast.tw5392478097806362118:Unit:=()
def PySem.W.Fast.tw610861176660989552:Unit:=()
def PySem.W.Fast.tw14626375151921121236:Unit:=()
def PySem.W.Fast.tw6377493720106046898:Unit:=()
def PySem.W.Fast.tw12148716976272854665:Unit:=()
def PySem.W.Fast.tw16490079869857720850:Unit:=()
def PySem.W.Fast.tw7142687441525131104:Unit:=()
def PySem.W.Fast.tw16426783110815463477:Unit:=()
def PySem.W.Fast.tw12282244843379486937:Unit:=()
def PySem.W.Fast.tw3627587807520503587:Unit:=()
def PySem.W.Fast.tw11920876313349857507:Unit:=()
def PySem.W.Fast.tw14115691489187971551:Unit:=()
def PySem.W.Fast.tw2039681594305627167:Unit:=()
def PySem.W.Fast.tw15290910950736628158:Unit:=()
def PySem.W.Fast.tw16757712456564327811:Unit:=()
def PySem.W.Fast.tw9294046082559762307:Unit:=()
def PySem.W.Fast.tw3414253326596013135:Unit:=()
def PySem.W.Fast.tw4209404842199112525:Unit:=()
def PySem.W.Fast.tw10260158240278621853:Unit:=()
def PySem.W.Fast.tw12865078095860219962:Unit:=()
def PySem.W.Fast.tw7843617541186242062:Unit:=()
def PySem.W.Fast.tw11998776833263293095:Unit:=()
def PySem.W.Fast.tw8599663761372576427:Unit:=()
def PySem.W.Fast.tw6090027724983265439:Unit:=()
def PySem.W.Fast.tw53340484964619794:Unit:=()
def PySem.W.Fast.tw16103688927663460274:Unit:=()
def PySem.W.Fast.tw603056972752700185:Unit:=()
def PySem.W.Fast.tw10747358955510675605:Unit:=()
def PySem.W.Fast.tw10588072981013816023:Unit:=()
def PySem.W.Fast.tw779705666078057161:Unit:=()
def PySem.W.Fast.tw1051449676884763438:Unit:=()
def PySem.W.Fast.tw11879627463389922174:Unit:=()
def PySem.W.Fast.tw2045978873589594585:Unit:=()
def PySem.W.Fast.tw2860849142682202138:Unit:=()
def PySem.W.Fast.tw5696417770243833653:Unit:=()
def PySem.W.Fast.tw530862170642939684:Unit:=()
def PySem.W.Fast.tw5672698073838996654:Unit:=()
def PySem.W.Fast.tw6299214808433608920:Unit:=()
def PySem.W.Fast.tw14712895111996575287:Unit:=()
def PySem.W.Fast.tw5147549615354539888:Unit:=()
def PySem.W.Fast.tw11701216775043784200:Unit:=()
def PySem.W.Fast.tw2930542141958592826:Unit:=()
def PySem.W.Fast.tw4873314444133750494:Unit:=()
def PySem.W.Fast.tw12953174235573989015:Unit:=()
def PySem.W.Fast.tw15265115725065876961:Unit:=()
def PySem.W.Fast.tw16505663773217849649:Unit:=()
def PySem.W.Fast.tw16144437626900250875:Unit:=()
def PySem.W.Fast.tw4224471901876854997:Unit:=()
def PySem.W.Fast.tw3157967056679108235:Unit:=()
def PySem.W.Fast.tw8679347400333199990:Unit:=()
def PySem.W.Fast.tw6180071672240018968:Unit:=()
def PySem.W.Fast.tw10180289673146980083:Unit:=()
def PySem.W.Fast.tw10695587603776668555:Unit:=()
def PySem.W.Fast.tw10047529313416450191:Unit:=()
def PySem.W.Fast.tw2025561129418817065:Unit:=()
def PySem.W.Fast.tw12844373421683142885:Unit:=()
def PySem.W.Fast.tw16445239076470522314:Unit:=()
def PySem.W.Fast.tw13888062954098645016:Unit:=()
def PySem.W.Fast.tw8486510923585697934:Unit:=()
def PySem.W.Fast.tw13639321508575985856:Unit:=()
def PySem.W.Fast.tw7659406801860729269:Unit:=()
def PySem.W.Fast.tw3670808964692944484:Unit:=()
def PySem.W.Fast.tw10345582426576111587:Unit:=()
def PySem.W.Fast.tw11438043768285874821:Unit:=()
def PySem.W.Fast.tw6899961668167850473:Unit:=()
def PySem.W.Fast.tw2170839135800516559:Unit:=()
def PySem.W.Fast.tw15710403732479666307:Unit:=()
def PySem.W.Fast.tw8792984685605461040:Unit:=()
def PySem.W.Fast.tw3360550759213450947:Unit:=()
def PySem.W.Fast.tw5309551767995169933:Unit:=()
def PySem.W.Fast.tw14849321946719989607:Unit:=()
def PySem.W.Fast.tw13827559514340706424:Unit:=()
def PySem.W.Fast.tw18275734204978605660:Unit:=()
def PySem.W.Fast.tw16736074316742926787:Unit:=()
def PySem.W.Fast.tw9945463330350286645:Unit:=()
def PySem.W.Fast.tw7264756851772391172:Unit:=()
def PySem.W.Fast.tw11221892202721578469:Unit:=()
def PySem.W.Fast.tw18273964615220085138:Unit:=()
def PySem.W.Fast.tw2698805309618303754:Unit:=()
def PySem.W.Fast.tw10297436472198451396:Unit:=()
def PySem.W.Fast.tw223116019674795445:Unit:=()
def PySem.W.Fast.tw12265976956633437111:Unit:=()
def PySem.W.Fast.tw11301218089361948188:Unit:=()
def PySem.W.Fast.tw537872913664525961:Unit:=()
def PySem.W.Fast.tw12779599655873834508:Unit:=()
def PySem.W.Fast.tw668216311553230390:Unit:=()
def PySem.W.Fast.tw3457126824624414406:Unit:=()
def PySem.W.Fast.tw11841971858921073702:Unit:=()
def PySem.W.Fast.tw9777470789190064817:Unit:=()
def PySem.W.Fast.tw17364534342485170800:Unit:=()
def PySem.W.Fast.tw16764371249756798634:Unit:=()
def PySem.W.Fast.tw56658844352394344:Unit:=()
def PySem.W.Fast.tw15163274000115307770:Unit:=()
def PySem.W.Fast.tw7358083634929953749:Unit:=()
def PySem.W.Fast.tw15840463705214228971:Unit:=()
def PySem.W.Fast.tw696317592490908219:Unit:=()
def PySem.W.Fast.tw3798045301122384233:Unit:=()
def PySem.W.Fast.tw8716705414665284716:Unit:=()
def PySem.W.Fast.tw3637772434078697385:Unit:=()
def PySem.W.Fast.tw17797328241458215693:Unit:=()
def PySem.W.Fast.tw15671605679124139896:Unit:=()
def PySem.W.Fast.tw10197499954180561281:Unit:=()
def PySem.W.Fast.tw2183190927134314679:Unit:=()
def PySem.W.Fast.tw3145909494324221963:Unit:=()
def PySem.W.Fast.tw16633162809322973556:Unit:=()
def PySem.W.Fast.tw8693146547430142985:Unit:=()
def PySem.W.Fast.tw5603774176124783755:Unit:=()
def PySem.W.Fast.tw7462123086289991751:Unit:=()
def PySem.W.Fast.tw15338712231221443423:Unit:=()
def PySem.W.Fast.tw1207666108598205092:Unit:=()
def PySem.W.Fast.tw1513291029829972764:Unit:=()
def PySem.W.Fast.tw6289198014865118005:Unit:=()
def PySem.W.Fast.tw254246261698434474:Unit:=()
def PySem.W.Fast.tw10647792787738743806:Unit:=()
def PySem.W.Fast.tw9911694353691086738:Unit:=()
def PySem.W.Fast.tw6765903646906131988:Unit:=()
def PySem.W.Fast.tw10016994799842784864:Unit:=()
def PySem.W.Fast.tw1726847605572447163:Unit:=()
def PySem.W.Fast.tw16747753097130379209:Unit:=()
def PySem.W.Fast.tw6438997689643604326:Unit:=()
def PySem.W.Fast.tw18329546544334768332:Unit:=()
def PySem.W.Fast.tw6776742718711525316:Unit:=()
def PySem.W.Fast.tw1709031879248901229:Unit:=()
def PySem.W.Fast.tw7061752950149982773:Unit:=()
def PySem.W.Fast.tw13833335915564145228:Unit:=()
def PySem.W.Fast.tw3928653757826071314:Unit:=()
def PySem.W.Fast.tw12733919981498636757:Unit:=()
def PySem.W.Fast.tw16505543279611287477:Unit:=()
def PySem.W.Fast.tw8634948436586794914:Unit:=()
def PySem.W.Fast.tw11025227665151463129:Unit:=()
def PySem.W.Fast.tw6637438724574424556:Unit:=()
def PySem.W.Fast.tw6801900931076028144:Unit:=()
def PySem.W.Fast.tw4362247702569647965:Unit:=()
def PySem.W.Fast.tw9344821568984288149:Unit:=()
def PySem.W.Fast.tw942690511260427841:Unit:=()
def PySem.W.Fast.tw5730988976061972164:Unit:=()
def PySem.W.Fast.tw12645613962250575119:Unit:=()
def PySem.W.Fast.tw8288055097765135829:Unit:=()
def PySem.W.Fast.tw8934342205102840659:Unit:=()
def PySem.W.Fast.tw3297419931450778444:Unit:=()
def PySem.W.Fast.tw1159073506577742800:Unit:=()
def PySem.W.Fast.tw7463456262499442160:Unit:=()
def PySem.W.Fast.tw8150435237663951091:Unit:=()
def PySem.W.Fast.tw12571613681992860503:Unit:=()
def PySem.W.Fast.tw7315876381327506636:Unit:=()
def PySem.W.Fast.tw6958476195019349503:Unit:=()
def PySem.W.Fast.tw11082267492132810517:Unit:=()
def PySem.W.Fast.tw300088944233926445:Unit:=()
open PySem PySem.W PyProof.Rows
set_option maxRecDepth 100000 in
set_option maxHeartbeats 0 in
theorem PySem.Challenge.cw_noughtways_k33_lines_lost_and_made_holds : PySem.Challenge.rw_noughtways_k33_lines_lost_and_made.Holds := by
 w_on;o_law;k_head;(case hw=>w_witness2)
 k_fill
 refine L2.Qw8 (l:=PySem.Challenge.rw_noughtways_k33_lines_lost_and_made) (n:=63) (k:=30) (x := "_law_script") (CX:=L2.CX0) (sp:=L2.Qsf) rfl (by decide) rfl ⟨rfl,by decide,by decide,rfl⟩ (fun w h Y=>PySem.W.kIn_of Y) ?F ?S ?C ?T
 case F =>
  intro w mg fa h KX G hmg
  have ⟨d0,d1,d2,d3,d4,d5,d6,d7,d8,d9,d10,d11,d12,d13,d14,d15,d16,d17,d18,d19,d20,d21,d22,d23,d24,d25,d26,d27,d28,d29,d30,d31,d32,d33,d34,d35,d36⟩:L2.Dfn (L2.KOf KX) mg "law" My.Qkg∧L2.Dfn (L2.KOf KX) mg "_law_cell" My.Qex∧L2.Dfn (L2.KOf KX) mg "is_whole" My.Qf5∧L2.Dfn (L2.KOf KX) mg "is_row" My.Qi4∧L2.Dfn (L2.KOf KX) mg "is_grid" My.Qha∧L2.Dfn (L2.KOf KX) mg "need_table" My.Qek∧L2.Dfn (L2.KOf KX) mg "column_at" My.Qe8∧L2.Dfn (L2.KOf KX) mg "columns_of" My.Qel∧L2.Dfn (L2.KOf KX) mg "row_times_column" My.Qb8∧L2.Dfn (L2.KOf KX) mg "shared_divisor" My.Qco∧L2.Dfn (L2.KOf KX) mg "lead_of" My.Qhb∧L2.Dfn (L2.KOf KX) mg "line_of" My.Qhc∧L2.Dfn (L2.KOf KX) mg "unit_line" My.Qe9∧L2.Dfn (L2.KOf KX) mg "cleared" My.Qhd∧L2.Dfn (L2.KOf KX) mg "left_of" My.Qhe∧L2.Dfn (L2.KOf KX) mg "steps_of" My.Qf6∧L2.Dfn (L2.KOf KX) mg "rank" My.Qou∧L2.Dfn (L2.KOf KX) mg "lost_at" My.Qhf∧L2.Dfn (L2.KOf KX) mg "lost" My.Qov∧L2.Dfn (L2.KOf KX) mg "need_size_two" My.Qcr∧L2.Dfn (L2.KOf KX) mg "need_rank_one" My.Qcs∧L2.Dfn (L2.KOf KX) mg "lost_line" My.Qfb∧L2.Dfn (L2.KOf KX) mg "made_line" My.Qfc∧L2.Dfn (L2.KOf KX) mg "_law_pen" My.Qhg∧L2.Dfn (L2.KOf KX) mg "_law_draw" My.Qf7∧L2.Dfn (L2.KOf KX) mg "_law_whole" My.Qdy∧L2.Dfn (L2.KOf KX) mg "_law_table" My.Qfd∧L2.Dfn (L2.KOf KX) mg "_law_part" My.Qf8∧L2.Dfn (L2.KOf KX) mg "_law_line" My.Qf9∧L2.Dfn (L2.KOf KX) mg "_law_led" My.Qhh∧L2.Dfn (L2.KOf KX) mg "_law_one_rank" My.Qdc∧L2.Dfn (L2.KOf KX) mg "_law_whole_rank" My.Qcp∧L2.Dfn (L2.KOf KX) mg "_law_two" My.Qhi∧L2.Dfn (L2.KOf KX) mg "_law_worth" My.Qff∧L2.Dfn (L2.KOf KX) mg "_law_told" My.Qgb∧L2.Dfn (L2.KOf KX) mg "_law_is_one" My.Qem∧L2.Dfn (L2.KOf KX) mg "_law_right" My.Qfg:=by
   refine ⟨?_,?_,?_,?_,?_,?_,?_,?_,?_,?_,?_,?_,?_,?_,?_,?_,?_,?_,?_,?_,?_,?_,?_,?_,?_,?_,?_,?_,?_,?_,?_,?_,?_,?_,?_,?_,?_⟩ <;> (dsimp only [L2.KOf];refine' My.Q0g KX G ?a ?l ?c ?k;(case a=>k_is);(case l=>k_is);(case c=>k_is);(case k=>k_is))
  have ⟨z0,z1,z2,z3,z4,z5,z6,z7,z8,z9,z10,z11,z12,z13⟩:mg "ValueError" = none∧mg "abs" = none∧mg "all" = none∧mg "bool" = none∧mg "divmod" = none∧mg "int" = none∧mg "isinstance" = none∧mg "len" = none∧mg "list" = none∧mg "max" = none∧mg "range" = none∧mg "sorted" = none∧mg "sum" = none∧mg "tuple" = none:=by
   refine ⟨?_,?_,?_,?_,?_,?_,?_,?_,?_,?_,?_,?_,?_,?_⟩ <;> (refine PySem.W.mg_none_of KX G ?_;(try dsimp only [L2.KOf]);k_is)
  have y0:∃ u,mg "MOST_ROWS" = some u∧L2.RelV (L2.V.int (4)) u:=by
   refine' My.Q8h (K:=L2.KOf KX) KX G ?a
   (case a=>(try dsimp only [L2.KOf]);k_is)
  have zx:L2.Exs (L2.KOf KX) mg:=by
   dsimp only [L2.KOf]
   refine' L2.Q6r KX G ?e0 ?e1 ?e2 ?e3 ?e4 ?e5 ?e6 ?e7 ?e8 ?e9 ?e10 ?ok
   (case e0=>k_is);(case e1=>k_is);(case e2=>k_is);(case e3=>k_is);(case e4=>k_is);(case e5=>k_is);(case e6=>k_is);(case e7=>k_is);(case e8=>k_is);(case e9=>k_is);(case e10=>k_is)
   (case ok=>kernel_rfl)
  have zi_TooGreat:L2.Ini2 (L2.KOf KX) (L2.cad mg "NoughtError") (L2.cad mg "TooGreat"):=by
   dsimp only [L2.KOf]
   refine' L2.Q1r (st:=My.Qcc) (x := "TooGreat") KX G ?e0 ?e1 ?lc ?fi ?l ?c ?k My.Qju (by rfl) (by rfl) (by rfl) My.Qjv (by rfl) ?ok
   (case e0=>k_is);(case e1=>k_is);(case lc=>k_is);(case fi=>(dsimp only;k_is));(case l=>k_is);(case c=>k_is);(case k=>k_is)
   (case ok=>kernel_rfl)
  have dk:L2.Dfn (L2.KOf KX) mg "_law_kind" My.Qey:=by
   dsimp only [L2.KOf]
   refine' My.Q0g KX G ?a ?l ?c ?k
   (case a=>k_is);(case l=>k_is);(case c=>k_is);(case k=>k_is)
  have tx:My.Txt (L2.KOf KX) mg:=⟨z0,z1,z2,z3,z4,z5,z6,z7,z8,z9,z10,z11,z12,z13,y0,zx,zi_TooGreat,dk,d25⟩
  refine My.Q8i hmg tx d0 d1 fun d hd=>?_
  simp only [My.ds,List.mem_cons,List.not_mem_nil,or_false] at hd
  rcases hd with rfl | rfl | rfl | rfl | rfl | rfl | rfl | rfl | rfl | rfl | rfl | rfl | rfl | rfl | rfl | rfl | rfl | rfl | rfl | rfl | rfl | rfl | rfl | rfl | rfl | rfl | rfl | rfl | rfl | rfl | rfl | rfl | rfl | rfl | rfl
  ·exact d2
  ·exact d3
  ·exact d4
  ·exact d5
  ·exact d6
  ·exact d7
  ·exact d8
  ·exact d9
  ·exact d10
  ·exact d11
  ·exact d12
  ·exact d13
  ·exact d14
  ·exact d15
  ·exact d16
  ·exact d17
  ·exact d18
  ·exact d19
  ·exact d20
  ·exact d21
  ·exact d22
  ·exact d23
  ·exact d24
  ·exact d25
  ·exact d26
  ·exact d27
  ·exact d28
  ·exact d29
  ·exact d30
  ·exact d31
  ·exact d32
  ·exact d33
  ·exact d34
  ·exact d35
  ·exact d36
 case S=>exact fun K H a ns hl _ hS=>⟨a,ns,rfl,hS,hl,fun _=>rfl⟩
 case C=>exact fun _ _ _ _ z=>z
 case T=>exact fun w a q=>L2.Qabm (by first | kernel_rfl | exact rfl | decide) a q
