import PyProof.Rows.All
import Wide.All
import OpenK.AllK
import Wide.FinOn
import PyProof.DictFindH
import PyProof.DictRoadsH
import Lean
import PyProof.EqAt
import PyProof.EqKinds
import PyProof.TupleCall
import KE.KStateDown
import PyProof.NeKinds
import PyProof.ListRange
import PyProof.TupleOfSeq
import KE.KSortTup
import PyProof.TupleKey
import PyProof.Rows.SetFrom
import PyProof.SetRoads
import KE.KDictList
import PyProof.SetScanFacts
import KE.KSortKey
import KE.KDictOf
import PyProof.AttrMiss
import PyProof.IsiH_list
import PyProof.AutoListH
import PySem.Challenge.RW_noughtways_k73_tables_written_and_read
set_option Elab.async false
set_option linter.all false
set_option maxRecDepth 100000
set_option compiler.extract_closed false
namespace L2
open PySem
section
variable {prog:Program} {w:World} {K:Type} [DecidableEq K] {knd:HeapKind prog w K} {A:Around} {E:Value→Shared→Prop} {s:Shared}
end
open PySem PySem.Spec PyProof.Rows
noncomputable abbrev Key:=Sum Int Str
noncomputable def Qnq:Key→Value→Bool
 | .inl k,v=>Value.isInt k v
 | .inr x,v=>Value.isStrOf x v
noncomputable def keyH (w:World):Key→Int
 | .inl k=>hashInt k
 | .inr x=>hashStr w x
theorem Qbw:∀ {k:Key} {v:Value},Qnq k v=true→(∃ i t,k=Sum.inl i∧v=Value.int i t)∨(∃ x t,k=Sum.inr x∧v=Value.str x t)
 | .inl i,v,h=>by
  obtain ⟨t,e⟩:=Value.isInt_shape (k:=i) (v:=v) h
  exact .inl ⟨i,t,rfl,e⟩
 | .inr x,v,h=>by
  obtain ⟨t,e⟩:=Value.isStrOf_shape (x:=x) (v:=v) h
  exact .inr ⟨x,t,rfl,e⟩
theorem Qv5 (i:Int) (t:Tok):Qnq (.inl i) (.int i t)=true:=by simp [Qnq,Value.isInt]
theorem Qv6 (x:Str) (t:Tok):Qnq (.inr x) (.str x t)=true:=by simp [Qnq,Value.isStrOf]
theorem Q66 (a b:Int):decide ((Sum.inl a:Key)=Sum.inl b)=(a==b):=by
 by_cases e:a=b
 ·subst e;simp
 ·have h:¬ (Sum.inl a:Key)=Sum.inl b:=fun q=>e (Sum.inl.inj q)
  rw [decide_eq_false h]
  exact (beq_eq_false_iff_ne.mpr e).symm
theorem Q67 (a b:Str):decide ((Sum.inr a:Key)=Sum.inr b)=decide (a=b):=by
 by_cases e:a=b
 ·subst e;simp
 ·have h:¬ (Sum.inr a:Key)=Sum.inr b:=fun q=>e (Sum.inr.inj q)
  rw [decide_eq_false h,decide_eq_false e]
theorem Q68 (a:Int) (b:Str):decide ((Sum.inl a:Key)=Sum.inr b)=false:=decide_eq_false (fun q=>nomatch q)
theorem Q69 (a:Str) (b:Int):decide ((Sum.inr a:Key)=Sum.inl b)=false:=decide_eq_false (fun q=>nomatch q)
noncomputable def Qdm (prog:Program) (w:World):PySem.KeyKind prog w Key where
 is:=Qnq
 hash:=keyH w
 inj:=fun v a b ha hb=>by
  rcases Qbw ha with ⟨i,t,rfl,rfl⟩ | ⟨x,t,rfl,rfl⟩
  ·rcases Qbw hb with ⟨j,u,rfl,e⟩ | ⟨y,u,rfl,e⟩
   ·injection e with e1 _;rw [e1]
   ·exact nomatch e
  ·rcases Qbw hb with ⟨j,u,rfl,e⟩ | ⟨y,u,rfl,e⟩
   ·exact nomatch e
   ·injection e with e1 _;rw [e1]
 byValue:=fun k v h=>by
  rcases Qbw h with ⟨i,t,rfl,rfl⟩ | ⟨x,t,rfl,rfl⟩ <;> rfl
 pyHash:=fun hv h=>by
  rcases Qbw hv with ⟨i,t,rfl,rfl⟩ | ⟨x,t,rfl,rfl⟩
  ·exact wpAny_pyHash_int h
  ·exact wpAny_pyHash_str h
 eqBool:=fun hu hv h=>by
  rcases Qbw hu with ⟨i,t,rfl,rfl⟩ | ⟨x,t,rfl,rfl⟩
  ·rcases Qbw hv with ⟨j,u,rfl,rfl⟩ | ⟨y,u,rfl,rfl⟩
   ·rw [Q66] at h;exact wpAny_eqBool_int h
   ·rw [Q68] at h;exact SeqAt.EqAt.int_str i t y u _ _ _ _ h
  ·rcases Qbw hv with ⟨j,u,rfl,rfl⟩ | ⟨y,u,rfl,rfl⟩
   ·rw [Q69] at h;exact SeqAt.EqAt.str_int x t j u _ _ _ _ h
   ·rw [Q67] at h;exact wpAny_eqBool_str h
 «strs»:=fun k x t v h=>by
  rcases Qbw h with ⟨i,u,rfl,e⟩ | ⟨y,u,rfl,e⟩
  ·exact nomatch e
  ·injection e with e1 _
   subst e1
   cases v <;> rfl
theorem Qp7 (prog:Program) (w:World) (i:Int) (t:Tok):(Qdm prog w).is (.inl i) (.int i t)=true:=Qv5 i t
theorem Qp8 (prog:Program) (w:World) (x:Str) (t:Tok):(Qdm prog w).is (.inr x) (.str x t)=true:=Qv6 x t
inductive V where
 | non | bl (b:Bool) | int (i:Int) | str (x:Str) | byt (b:Array UInt8) | flt (b:UInt64) | ref (a:Addr) | ty (n:String)
 deriving DecidableEq
noncomputable def RelV:V→Value→Prop
 | .non,u=>u=Value.none
 | .bl b,u=>u=Value.bool b
 | .int i,u=>∃ t,u=Value.int i t
 | .str x,u=>∃ t,u=Value.str x t
 | .byt b,u=>∃ t,u=Value.bytes b t
 | .flt b,u=>∃ t,u=Value.float b t
 | .ref a,u=>u=Value.ref a
 | .ty n,u=>u=Value.type n
noncomputable abbrev Vals:List V→List Value→Prop:=Paired RelV
theorem Vals.length {xs:List V} {us:List Value} (r:Vals xs us):xs.length=us.length:=Paired.length r
theorem Vals.get:∀ {xs:List V} {us:List Value} {i:Nat} {x:V},Vals xs us→xs[i]?=some x→∃ u,us[i]?=some u∧RelV x u
 | _,_,_,_,.nil,e=>by simp at e
 | _,_,0,_,.cons r _,e=>by simp at e;subst e;exact ⟨_,rfl,r⟩
 | _,_,i+1,x,.cons _ t,e=>by
  obtain ⟨u,h1,h2⟩:=Vals.get (i:=i) (x:=x) t (by simpa using e)
  exact ⟨u,by simpa using h1,h2⟩
theorem Vals.set {x:V} {u:Value} (r:RelV x u):∀ {xs:List V} {us:List Value} (i:Nat),Vals xs us→Vals (xs.set i x) (us.set i u)
 | _,_,_,.nil=>.nil
 | _,_,0,.cons _ t=>.cons r t
 | _,_,i+1,.cons q t=>.cons q (Vals.set r i t)
theorem Vals.append:∀ {xs ys:List V} {us ws:List Value},Vals xs us→Vals ys ws→Vals (xs++ys) (us++ws)
 | _,_,_,_,.nil,s=>s
 | _,_,_,_,.cons r t,s=>.cons r (Vals.append t s)
theorem Vals.take:∀ {xs:List V} {us:List Value} (n:Nat),Vals xs us→Vals (xs.take n) (us.take n)
 | _,_,0,_=>.nil
 | _,_,_+1,.nil=>.nil
 | _,_,n+1,.cons r t=>.cons r (Vals.take n t)
theorem Vals.drop:∀ {xs:List V} {us:List Value} (n:Nat),Vals xs us→Vals (xs.drop n) (us.drop n)
 | _,_,0,r=>r
 | _,_,_+1,.nil=>.nil
 | _,_,n+1,.cons _ t=>Vals.drop n t
noncomputable def Q7a:Option V→Option Value→Prop
 | some v,some u=>RelV v u
 | none,none=>True
 | _,_=>False
noncomputable def KV {κ:Type}:List (κ×V)→List (κ×Value)→Prop:=Paired fun (p:κ×V) (q:κ×Value)=>p.1=q.1∧RelV p.2 q.2
noncomputable def kV:Key→V
 | .inl i=>.int i
 | .inr x=>.str x
inductive HO where
  | lst (xs:List V)
  | tup (xs:List V)
  | dK (kvs:List (Key×V)) | dT (kvs:List (List Key×V))
  | set (S:Int→Bool) (n:Nat)
  | ins (C dx:Addr) (fs:List (Str×V))
  | own (x:Addr)
  | xd (fs:List (Str×V))
  | met (f x:Addr)
  | rng (lo hi:Int)
  | frz (o:Obj) (u:HO)
  | tbl (q:Str)
 | cod (q:Str)
  | ext (φ:Heap→Prop)
noncomputable abbrev Hp:=Addr→Option HO
noncomputable def upd (H:Hp) (a:Addr) (o:HO):Hp:=fun b=>if b=a then some o else H b
theorem Qp {H:Hp} {a:Addr} {o:HO}:upd H a o a=some o:=by unfold upd;rw [if_pos rfl]
theorem Q2 {H:Hp} {a b:Addr} {o:HO} (h:b≠a):upd H a o b=H b:=by unfold upd;rw [if_neg h]
theorem Qbr {H:Hp} {a b:Addr} {o:HO} (h:H a=some o) (h':H b=none):a≠b:=by
 intro e;subst e;rw [h] at h';cases h'
noncomputable def IsTupD (h:Heap) (a:Addr) (its:Array Value):Prop:=∃ o,h.get? a=some o∧o.cls=.type "tuple" ∧ ∃ n,o.data=.seq its n∧o.dict=none
theorem IsTupD.tup {h:Heap} {a:Addr} {its:Array Value} (x:IsTupD h a its):IsTup h a its:=let ⟨o,e,c,n,d,_⟩:=x;⟨o,e,c,n,d⟩
theorem IsTupD.new (h:Heap) (its:Array Value):IsTupD (h.push { cls:=.type "tuple",data:=.seq its }) h.objs.size its:=⟨_,Heap.get?_push_size _ rfl,rfl,_,rfl,rfl⟩
section
variable (P:Program) (w:World)
noncomputable def ObjOk (H:Hp) (h:Heap) (a:Addr):HO→Prop
 | .lst xs=>xs.length≤sizeLine∧∃ (its:List Value) (n:Nat),Vals xs its∧h.get? a=some { cls:=.type "list",data:=.seq its.toArray n }
 | .tup xs=>xs.length≤sizeLine∧∃ its:List Value,Vals xs its∧IsTupD h a its.toArray
 | .dK kvs=>kvs.length≤sizeLine∧(a==sysModules)=false∧∃ vs,KV kvs vs∧h.DictOf (Qdm P w) a vs
 | .dT kvs=>kvs.length≤sizeLine∧(a==sysModules)=false∧∃ xs:List (List Key×Addr×Value),
   Paired (fun (p:List Key×V) (q:List Key×Addr×Value)=>p.1=q.1∧H q.2.1=some (.tup (p.1.map kV))∧RelV p.2 q.2.2) kvs xs ∧
   ∃ o es ep,h.get? a=some o∧o.ExactDict∧o.data=.dict es ep∧es.toList=xs.map (entryOfKey (tupleKind (Qdm P w)))∧(xs.map (·.1)).Nodup∧ep=es.size
 | .set S n=>h.SetOf (intKind P w) a S n
 | .ins C dx fs=>H dx=some (.own a)∧fs.length≤1000∧dx≠a∧h.get? a=some (PySem.W.instObj C dx) ∧
   ∃ mA,h.Ns1 dx mA∧(∀ f,Q7a (fs.lookup f) (mA f))∧PySem.Within mA (fs.map (·.1))
 | .own _=>∃ o,h.get? a=some o
 | .xd fs=>∃ mA,h.Ns1 a mA∧∀ f,Q7a (fs.lookup f) (mA f)
 | .rng lo hi=>∃ t u v,h.get? a=some { cls:=.type "range",data:=.fields #[.int lo t,.int hi u,.int 1 v] }
 | .frz o u=>h.get? a=some o∧ObjOk H h a u
 | .tbl q=>∃ ps:Array Value,h.get? a=some { cls:=.none,data:=.fields ps }∧TriplesOk ps.toList∧∀ pos cv,codeAmong pos ps.toList=some cv→∃ c,cv=.ref c∧H c=some (.cod q)
 | .cod q=>h.CodeRec (.ref a) q
 | .met f x=>h.get? a=some (PySem.W.methodObj (.ref f) (.ref x))
 | .ext φ=>φ h∧(∃ o,h.get? a=some o)∧∀ h1 h2:Heap,φ h1→(∀ o,h1.get? a=some o→h2.get? a=some o)→φ h2
noncomputable def HOk (H:Hp) (h:Heap):Prop:=∀ a o,H a=some o→ObjOk P w H h a o
end
section
variable {P:Program} {w:World} {H H':Hp} {h h':Heap} {a:Addr} {o:HO}
theorem ObjOk.lt (x:ObjOk P w H h a o):a<h.objs.size:=by
 cases o with
 | lst xs=>obtain ⟨_,_,_,_,e⟩:=x;exact Heap.lt_size e
 | tup xs=>obtain ⟨_,_,_,p⟩:=x;exact p.tup.lt
 | dK kvs=>obtain ⟨_,_,_,_,o,_,_,e,_⟩:=x;exact Heap.lt_size e
 | dT kvs=>obtain ⟨_,_,_,_,o,_,_,e,_⟩:=x;exact Heap.lt_size e
 | set S n=>obtain ⟨o,_,_,_,e,_⟩:=x;exact Heap.lt_size e
 | ins C dx fs=>obtain ⟨_,_,_,e,_⟩:=x;exact Heap.lt_size e
 | own y=>obtain ⟨_,e⟩:=x;exact Heap.lt_size e
 | xd fs=>obtain ⟨_,⟨_,_,_,e,_⟩,_⟩:=x;exact Heap.lt_size e
 | rng lo hi=>obtain ⟨_,_,_,e⟩:=x;exact Heap.lt_size e
 | frz ob u=>obtain ⟨e,_⟩:=x;exact Heap.lt_size e
 | tbl q=>obtain ⟨_,e,_⟩:=x;exact Heap.lt_size e
 | cod q=>obtain ⟨_,_,_,_,e,e1,_⟩:=x;cases e;exact Heap.lt_size e1
 | met f y=>exact Heap.lt_size (show h.get? a=some _ from x)
 | ext φ=>obtain ⟨_,⟨_,e⟩,_⟩:=x;exact Heap.lt_size e
theorem Paired.mapP {α β:Type} {F G:α→β→Prop}:∀ {l₁:List α} {l₂:List β},Paired F l₁ l₂→(∀ a b,F a b→G a b)→Paired G l₁ l₂
 | _,_,.nil,_=>.nil
 | _,_,.cons r t,f=>.cons (f _ _ r) (Paired.mapP t f)
theorem ObjOk.stay (x:ObjOk P w H h a o) (k:∀ b u,(b=a∨H b=some (.own a))→h.get? b=some u→h'.get? b=some u)
  (ho:∀ b,H b=some (.own a)→H' b=some (.own a)) (ht:∀ b xs,H b=some (.tup xs)→H' b=some (.tup xs)) (hcod:∀ b q,H b=some (.cod q)→H' b=some (.cod q):=by exact fun _ _ q=>q):ObjOk P w H' h' a o:=by
 induction o with
 | lst xs=>obtain ⟨z,its,n,r,e⟩:=x;exact ⟨z,its,n,r,k _ _ (.inl rfl) e⟩
 | tup xs=>obtain ⟨z,its,r,ob,e,c⟩:=x;exact ⟨z,its,r,ob,k _ _ (.inl rfl) e,c⟩
 | dK kvs=>obtain ⟨z,y,vs,r,ob,es,ep,e,c⟩:=x;exact ⟨z,y,vs,r,ob,es,ep,k _ _ (.inl rfl) e,c⟩
 | dT kvs =>
  obtain ⟨z,y,xs,r,ob,es,ep,e,c⟩:=x
  exact ⟨z,y,xs,Paired.mapP r fun p q z=>⟨z.1,ht _ _ z.2.1,z.2.2⟩,ob,es,ep,k _ _ (.inl rfl) e,c⟩
 | set S n=>obtain ⟨ob,es,ep,t,e,c⟩:=x;exact ⟨ob,es,ep,t,k _ _ (.inl rfl) e,c⟩
 | ins C dx fs =>
  obtain ⟨d,z,ne,e,mA,⟨od,es,ep,e2,c⟩,r⟩:=x
  exact ⟨ho _ d,z,ne,k _ _ (.inl rfl) e,mA,⟨od,es,ep,k _ _ (.inr d) e2,c⟩,r⟩
 | own y=>obtain ⟨ob,e⟩:=x;exact ⟨ob,k _ _ (.inl rfl) e⟩
 | xd fs=>obtain ⟨mA,⟨od,es,ep,e,c⟩,r⟩:=x;exact ⟨mA,⟨od,es,ep,k _ _ (.inl rfl) e,c⟩,r⟩
 | rng lo hi=>obtain ⟨t,u,v,e⟩:=x;exact ⟨t,u,v,k _ _ (.inl rfl) e⟩
 | frz ob u ih=>obtain ⟨e,q⟩:=x;exact ⟨k _ _ (.inl rfl) e,ih q⟩
 | tbl q =>
  obtain ⟨ps,e,tr,al⟩:=x
  refine ⟨ps,k _ _ (.inl rfl) e,tr,fun pos cv hc=>?_⟩
  obtain ⟨c,ec,hH⟩:=al pos cv hc
  exact ⟨c,ec,hcod _ _ hH⟩
 | cod q =>
  obtain ⟨c,o,vs,t,e,e1,r⟩:=x
  cases e
  exact ⟨_,o,vs,t,rfl,k _ _ (.inl rfl) e1,r⟩
 | met f y =>
  have e:h.get? a=some (PySem.W.methodObj (.ref f) (.ref y)):=x
  show h'.get? a=some (PySem.W.methodObj (.ref f) (.ref y))
  exact k a _ (.inl rfl) e
 | ext φ=>obtain ⟨p,⟨o,e⟩,st⟩:=x;exact ⟨st _ _ p fun o q=>k _ _ (.inl rfl) q,⟨o,k _ _ (.inl rfl) e⟩,st⟩
theorem HOk.lt (x:HOk P w H h) (e:H a=some o):a<h.objs.size:=(x a o e).lt
theorem HOk.fresh (x:HOk P w H h) (e:h.objs.size≤a):H a=none:=by
 cases q:H a with
 | none=>rfl
 | some u=>exact absurd (Nat.lt_of_lt_of_le (x.lt q) e) (Nat.lt_irrefl _)
theorem HOk.kept (x:HOk P w H h) (k:∀ b u,h.get? b=some u→h'.get? b=some u):HOk P w H h':=fun a o e =>
 (x a o e).stay (fun b u _ q=>k b u q) (fun _ q=>q) fun _ _ q=>q
theorem HOk.laid (x:HOk P w H h) (k:∀ b u,h.get? b=some u→h'.get? b=some u) (hp:h.objs.size≤a) (new:ObjOk P w (upd H a o) h' a o):HOk P w (upd H a o) h':=fun b u e=>by
 have hn:=x.fresh hp
 by_cases hb:b=a
 ·subst hb;rw [Qp] at e;cases e;exact new
 ·rw [Q2 hb] at e
  exact (x b u e).stay (fun c v _ q=>k c v q) (fun c q=>by rw [Q2 (Qbr q hn)];exact q) (fun c xs q=>by rw [Q2 (Qbr q hn)];exact q) fun c xs q=>by rw [Q2 (Qbr q hn)];exact q
end
noncomputable def Rd (H:Hp) (a:Addr) (u:HO):Prop:=H a=some u∨∃ o,H a=some (.frz o u)
theorem Rd.ok {P:Program} {w:World} {H:Hp} {h:Heap} {a:Addr} {u:HO} (r:Rd H a u) (x:HOk P w H h):ObjOk P w H h a u:=by
 rcases r with r | ⟨o,r⟩
 ·exact x a u r
 ·obtain ⟨_,q⟩:=x a _ r
  exact q
noncomputable def Mut:Option HO→Prop
 | some (.lst _)=>True
 | some (.dK _)=>True
 | some (.dT _)=>True
 | some (.set _ _)=>True
 | some (.ins _ _ _)=>True
 | some (.ext _)=>True
 | _=>False
section
variable {P:Program} {w:World} {H:Hp} {h h':Heap} {x e:Addr} {o':HO}
theorem HOk.write (ok:HOk P w H h) (mu:Mut (H x)) (he:e=x∨H e=some (.own x)) (k:∀ b u,b≠e→h.get? b=some u→h'.get? b=some u) (heo:∃ u,h'.get? e=some u)
  (new:ObjOk P w (upd H x o') h' x o'):HOk P w (upd H x o') h':=fun b u q=>by
 have nown:∀ c y,H c=some (.own y)→c≠x:=fun c y r z=>by subst z;rw [r] at mu;exact mu
 have ntup:∀ c xs,H c=some (.tup xs)→c≠x:=fun c xs r z=>by subst z;rw [r] at mu;exact mu
 by_cases hb:b=x
 ·subst hb;rw [Qp] at q;cases q;exact new
 ·rw [Q2 hb] at q
  by_cases hbe:b=e
  ·have q':H b=some (.own x):=by
    rcases he with z | z
    ·exact absurd (hbe.trans z) hb
    ·rw [hbe];exact z
   rw [q] at q';cases q'
   obtain ⟨v,hv⟩:=heo
   exact ⟨v,by rw [hbe];exact hv⟩
  ·refine (ok b u q).stay (fun c v hc r=>k c v ?_ r) (fun c r=>by rw [Q2 (nown c b r)];exact r) (fun c xs r=>by rw [Q2 (ntup c xs r)];exact r) fun c y r=>by rw [Q2 (fun z=>by subst z;rw [r] at mu;exact mu)];exact r
   rcases hc with rfl | hc
   ·exact hbe
   ·rintro rfl
    rcases he with z | z
    ·exact nown c b hc z
    ·rw [hc] at z;cases z;exact hb rfl
end
structure Un (fs ex:List Addr) (H H':Hp) (h h':Heap):Prop where
 keep:∀ b o,h.get? b=some o→H b=none→b∉fs→b∉ex→h'.get? b=some o
 slot:∀ b o,h.get? b=some o→H b=none→b∈fs→b∉ex→∃ sl,h'.get? b=some { o with slots:=sl }
 free:∀ b o,h.get? b=some o→H b=none→b∉ex→H' b=none
 there:∀ b o,h.get? b=some o→b∉ex→∃ o',h'.get? b=some o'
 tups:∀ b xs,H b=some (.tup xs)→H' b=some (.tup xs)
 frzs:∀ b o u,H b=some (.frz o u)→H' b=some (.frz o u)
 tbls:∀ b q,H b=some (.tbl q)→H' b=some (.tbl q)
section
variable {fs fs' ex ex':List Addr} {H H1 H2:Hp} {h h1 h2 h':Heap} {a x e:Addr} {o:HO}
theorem Un.any (u:Un fs ex H H1 h h1) {b:Addr} {ob:Obj} (q:h.get? b=some ob) (n:H b=none) (hx:b∉ex):∃ sl,h1.get? b=some { ob with slots:=sl }:=by
 by_cases hb:b∈fs
 ·exact u.slot b ob q n hb hx
 ·exact ⟨ob.slots,u.keep b ob q n hb hx⟩
theorem Un.kept (k:∀ b u,h.get? b=some u→h'.get? b=some u):Un fs ex H H h h' :=
 ⟨fun b ob q _ _ _=>k b ob q,fun b ob q _ _ _=>⟨ob.slots,k b ob q⟩,fun _ _ _ n _=>n,fun b ob q _=>⟨ob,k b ob q⟩,fun _ _ q=>q,fun _ _ _ q=>q,fun _ _ q=>q⟩
theorem Un.refl:Un fs ex H H h h:=Un.kept fun _ _ q=>q
theorem Un.laid (k:∀ b u,h.get? b=some u→h'.get? b=some u) (hp:h.objs.size≤a) (hn:H a=none):Un fs ex H (upd H a o) h h' where
 keep:=fun b u q _ _ _=>k b u q
 slot:=fun b u q _ _ _=>⟨u.slots,k b u q⟩
 free:=fun b u q n _=>by rw [Q2 (Nat.ne_of_lt (Nat.lt_of_lt_of_le (Heap.lt_size q) hp))];exact n
 there:=fun b u q _=>⟨u,k b u q⟩
 tups:=fun b xs q=>by rw [Q2 (Qbr q hn)];exact q
 frzs:=fun b u xs q=>by rw [Q2 (Qbr q hn)];exact q
 tbls:=fun b ps q=>by rw [Q2 (Qbr q hn)];exact q
theorem Un.write (mu:Mut (H x)) (he:e=x∨H e=some (.own x)) (k:∀ b u,b≠e→h.get? b=some u→h'.get? b=some u) (heo:∃ u,h'.get? e=some u):Un fs ex H (upd H x o) h h':=by
 have hx:∀ b,H b=none→b≠x:=fun b n z=>by subst z;rw [n] at mu;exact mu
 have hb:∀ b,H b=none→b≠e:=fun b n z=>by
  subst z
  rcases he with r | r
  ·exact hx b n r
  ·rw [n] at r;cases r
 have hm:∀ b u,H b=some u→¬ Mut (some u)→b≠x:=fun b u q nm z=>by subst z;rw [q] at mu;exact nm mu
 refine ⟨fun b u q n _ _=>k b u (hb b n) q,fun b u q n _ _=>⟨u.slots,k b u (hb b n) q⟩,fun b u q n _=>by rw [Q2 (hx b n)];exact n,fun b u q _=>?_,
  fun b xs q=>by rw [Q2 (hm b _ q fun z=>z)];exact q,fun b u xs q=>by rw [Q2 (hm b _ q fun z=>z)];exact q,fun b ps q=>by rw [Q2 (hm b _ q fun z=>z)];exact q⟩
 by_cases hbe:b=e
 ·subst hbe;exact heo
 ·exact ⟨u,k b u hbe q⟩
end
noncomputable def trk (h:Heap) (H:Hp):List Addr:=(List.range h.objs.size).filter fun a=>(H a).isSome
noncomputable def Qoq (h:Heap) (H:Hp):Heap:=PySem.W.hideAll h (trk h H)
theorem Qv7 (h:Heap) (H:Hp):(Qoq h H).objs.size=h.objs.size:=PySem.W.hideAll_size _ _
theorem Qxw {h:Heap} {H:Hp} {b:Addr} {o:Obj} (e:h.get? b=some o) (n:H b=none):(Qoq h H).get? b=some o :=
 PySem.W.hideAll_get _ e fun hm=>by
  have q:(H b).isSome=true:=(List.mem_filter.mp hm).2
  rw [n] at q;simp at q
theorem Q11 {h:Heap} {H:Hp} {b:Addr} {o:Obj} (e:(Qoq h H).get? b=some o):h.get? b=some o∧H b=none:=by
 have e':h.get? b=some o:=PySem.W.of_hideAll (trk h H) e
 refine ⟨e',?_⟩
 cases q:H b with
 | none=>rfl
 | some x =>
  have hm:b∈trk h H:=List.mem_filter.mpr ⟨List.mem_range.mpr (Heap.lt_size e'),by simp [q]⟩
  have z:(Qoq h H).get? b=none:=PySem.W.hideAll_none (trk h H) hm
  rw [z] at e;cases e
noncomputable def Q12 (g h:Heap) (L:Addr):List (Addr×Obj):=(List.range h.objs.size).filterMap fun a=>if a=L∨(g.get? a).isSome=true then none else (h.get? a).map fun o=>(a,o)
noncomputable def rest (g h:Heap) (L d:Addr):List (Addr×Obj):=(Q12 g h L).filter fun p=>decide (p.1≠d)
structure Mod (K:PySem.W.Frag) (mg:Str→Option Value) (base:Heap):Prop where
 kin:K.In base
 glob:base.Ns mainGlobals mg
 blt:∃ mb,base.Ns builtinsNs mb∧∀ x:Str,x ≠ "__name__" → mb x=bootBuiltins x
 nolimit:base.NoLimit
 bm:∃ bm ob,mg "__builtins__" = some (.ref bm)∧bm≠builtinsNs∧base.get? bm=some ob∧ob.cls=.type "module" ∧ ob.dict=some builtinsNs∧ob.data=.plain
noncomputable def Q5p:List Value→Addr→Str→Prop
 | .ref b::.str z _::r,a,q=>(a=b∧q=z)∨Q5p r a q
 | _,_,_=>False
noncomputable def Qxx (K:PySem.W.Frag) (a:Addr) (q:Str):Prop:=∃ b fs,K.getLast?=some (b,{ cls:=.none,data:=.fields fs })∧(fs.size=2∨fs.size=4∨fs.size=6)∧Q5p fs.toList a q
noncomputable def Qxy (K:PySem.W.Frag) (H:Hp):Prop:=∀ a q,Qxx K a q→H a=some (.tbl q)
structure Cx where
 prog:Program
 w:World
 K:PySem.W.Frag
 mg:Str→Option Value
 base:Heap
 A:Around
 N:List Str
 s₀:Shared
 H₀:Hp
 env:Env
 outer:List Env
 stack:List Env
 ex:List Addr
 fn:Str→Bool
 calm:Bool
 pn:List (Addr×Obj)
 xe:Value→Shared→Prop
noncomputable def frs (l:List Env):List Addr:=l.filterMap (·.frame)
noncomputable abbrev Cx.fs (X:Cx):List Addr:=frs X.outer
noncomputable def Vis (sc:Scope) (x:Str):Prop:=sc.names.lookup x=some .local∨sc.names.lookup x=some .cell∨sc.names.lookup x=some .free
noncomputable def Loc (sc:Scope) (x:Str):Prop:=sc.names.lookup x=some .local∨sc.names.lookup x=some .cell
noncomputable def Look (env:Env) (h:Heap) (m:Str→Option Value) (x:Str) (u:Value):Prop :=
 (env.kindOf x=some .local∧m x=some u)∨((env.kindOf x=some .cell∨env.kindOf x=some .free)∧∃ c,env.cells.lookup x=some c∧h.IsCell c (some u))
structure Cx.Ok (X:Cx):Prop where
 mod:Mod X.K X.mg X.base
 kind:X.env.scope.kind=.function
 glob:X.env.globals=mainGlobals
 blt:X.env.builtins=builtinsNs
 above:X.s₀.heap.objs.size≤X.env.locals
 inj:∀ x y c,X.env.cells.lookup x=some c→X.env.cells.lookup y=some c→x=y
 has:∀ x,(X.env.kindOf x=some .cell∨X.env.kindOf x=some .free)→∃ c,X.env.cells.lookup x=some c
 cab:∀ x c,X.fn x=true→X.env.cells.lookup x=some c→X.s₀.heap.objs.size≤c
 hd:X.calm=true→X.A.handled=none
 frames:X.A.frames=some X.stack
 stk:X.stack=X.outer∨(X.stack=X.env::X.outer∧X.env.frame=some X.env.locals)
 exf:∀ b∈X.ex,b≠X.env.locals∧∀ x c,X.env.cells.lookup x=some c→c≠b
 bs:∀ b o,X.base.get? b=some o→X.s₀.heap.get? b=some o∧X.H₀ b=none
 bsz:X.base.objs.size≤X.s₀.heap.objs.size
 noex:∀ b o,X.base.get? b=some o→b∉X.ex
 exfs:∀ b∈X.ex,b∉X.fs
 funs:X.s₀.heap.FunFrames X.base X.outer
 frf:(∀ b∈X.fs,X.H₀ b=none)∧Qxy X.K X.H₀
structure Inv (X:Cx) (pins:List (Addr×Obj)) (σ:List (Option V)) (H:Hp) (s:Shared):Prop where
 ok:X.Ok
 os:s.os=X.s₀.os
 bare:AllBare s.gens
 base:Un X.fs X.ex X.H₀ H X.s₀.heap s.heap
 loc:∃ m,s.heap.Ns X.env.locals m∧∀ (i:Nat) (x:Str) (v:V),X.N[i]?=some x→σ[i]?=some (some v)→Vis X.env.scope x→∃ u,RelV v u∧Look X.env s.heap m x u
 cell:∀ x c,X.env.cells.lookup x=some c→∃ v,s.heap.IsCell c v
 free:H X.env.locals=none
 freeC:∀ x c,X.env.cells.lookup x=some c→H c=none∨(X.fn x=false∧∃ o u,H c=some (.frz o u))
 pin:∀ p∈X.pn++pins,s.heap.get? p.1=some p.2∧H p.1=none∧p.1≠X.env.locals∧p.1∉X.fs∧∀ v,p.2.data≠.cell v
 hok:HOk X.prog X.w H s.heap
 len:σ.length=X.N.length
section
variable {X:Cx} {pins:List (Addr×Obj)} {σ:List (Option V)} {H H':Hp} {s:Shared} {h':Heap}
theorem Cx.Ok.nofr (ok:X.Ok) {b:Addr} {o:Obj} (e:X.base.get? b=some o):b∉X.fs:=fun hb=>by
 have:=(ok.funs.mem hb).1
 rw [e] at this;cases this
theorem Inv.bs (I:Inv X pins σ H s):∀ b o,X.base.get? b=some o→s.heap.get? b=some o∧H b=none:=fun b o e =>
 ⟨I.base.keep b o (I.ok.bs b o e).1 (I.ok.bs b o e).2 (I.ok.nofr e) (I.ok.noex b o e),I.base.free b o (I.ok.bs b o e).1 (I.ok.bs b o e).2 (I.ok.noex b o e)⟩
theorem Inv.bk (I:Inv X pins σ H s):∀ b o,X.base.get? b=some o→s.heap.get? b=some o:=fun b o e=>(I.bs b o e).1
theorem Inv.mod (I:Inv X pins σ H s):Mod X.K X.mg X.base:=I.ok.mod
theorem Inv.kIn (I:Inv X pins σ H s):X.K.In s.heap:=I.ok.mod.kin.keeps I.bk
theorem Inv.nolimit (I:Inv X pins σ H s):s.heap.NoLimit:=I.ok.mod.nolimit.keeps I.bk
theorem Inv.lt (I:Inv X pins σ H s):X.env.locals<s.heap.objs.size:=let ⟨_,hn,_⟩:=I.loc;hn.lt
theorem Inv.sz (I:Inv X pins σ H s):X.s₀.heap.objs.size≤s.heap.objs.size:=Nat.le_trans I.ok.above (Nat.le_of_lt I.lt)
theorem Inv.nofs (I:Inv X pins σ H s) {a:Addr} (h:s.heap.objs.size≤a):a∉X.fs:=fun hb=>by
 obtain ⟨_,o,ho,_⟩:=I.ok.funs.mem hb
 exact absurd (Nat.lt_of_lt_of_le (Heap.lt_size ho) (Nat.le_trans I.sz h)) (Nat.lt_irrefl _)
theorem Inv.cne (I:Inv X pins σ H s):∀ x c,X.env.cells.lookup x=some c→c≠X.env.locals:=fun x c e z=>by
 obtain ⟨v,o,ho,hd⟩:=I.cell x c e
 obtain ⟨m,⟨o',es,ep,ho',hd',_⟩,_⟩:=I.loc
 rw [z,ho'] at ho;cases ho;rw [hd'] at hd;cases hd
theorem Inv.funs (I:Inv X pins σ H s):s.heap.FunFrames X.base X.outer:=by
 have all:∀ (l:List Env),(∀ b∈frs l,b∈X.fs)→X.s₀.heap.FunFrames X.base l→s.heap.FunFrames X.base l:=by
  intro l
  induction l with
  | nil=>intro _ _;trivial
  | cons env r ih =>
   intro hs hl
   obtain ⟨hk,⟨L,o,hf,hn,ho,hd⟩,hr⟩:=hl
   have hL:L∈X.fs:=hs L (by unfold frs;rw [List.filterMap_cons,hf];exact List.mem_cons_self)
   obtain ⟨sl,e⟩:=I.base.slot L o ho (I.ok.frf.1 L hL) hL fun z=>I.ok.exfs L z hL
   exact ⟨hk,⟨L,_,hf,hn,e,hd⟩,ih (fun b hb=>hs b (by unfold frs;rw [List.filterMap_cons,hf];exact List.mem_cons_of_mem _ hb)) hr⟩
 exact all X.outer (fun _ hb=>hb) I.ok.funs
theorem Inv.stack (I:Inv X pins σ H s):s.heap.FunFrames X.base X.stack:=by
 rcases I.ok.stk with e | ⟨e,hf⟩
 ·rw [e];exact I.funs
 ·rw [e]
  obtain ⟨m,hn,_⟩:=I.loc
  refine .cons (by rw [I.ok.kind];decide) hf hn ?_ I.funs
  exact Heap.get?_none_of_le (Nat.le_trans I.ok.bsz I.ok.above)
theorem Inv.stkSub (I:Inv X pins σ H s):∀ b∈frs X.stack,b∈X.env.locals::X.fs:=fun b hb=>by
 rcases I.ok.stk with e | ⟨e,hf⟩
 ·rw [e] at hb;exact List.mem_cons_of_mem _ hb
 ·rw [e] at hb
  unfold frs at hb
  rw [List.filterMap_cons,hf] at hb
  exact hb
theorem Inv.stkFree (I:Inv X pins σ H s):∀ b∈frs X.stack,H b=none:=fun b hb=>by
 rcases List.mem_cons.mp (I.stkSub b hb) with e | hb
 ·rw [e];exact I.free
 ·obtain ⟨_,o,ho,_⟩:=I.ok.funs.mem hb
  exact I.base.free b o ho (I.ok.frf.1 b hb) fun z=>I.ok.exfs b z hb
theorem Inv.tab (I:Inv X pins σ H s):Qxy X.K H:=fun a q h=>I.base.tbls a q (I.ok.frf.2 a q h)
theorem Inv.step {g':Array GenState} {t':Nat} {d':Drawn} {ch:List Addr} (I:Inv X pins σ H s)
  (hch:∀ b∈ch,(b∈X.ex∨X.s₀.heap.objs.size≤b)∧b≠X.env.locals∧(∀ x c,X.env.cells.lookup x=some c→c≠b)∧∀ p∈X.pn++pins,p.1≠b)
  (keep:∀ b o,b≠X.env.locals→b∉X.fs→b∉ch→s.heap.get? b=some o→H b=none→h'.get? b=some o)
  (slot:∀ b o,b≠X.env.locals→b∈X.fs→b∉ch→s.heap.get? b=some o→H b=none→∃ sl,h'.get? b=some { o with slots:=sl }) (free:∀ b o,b∉ch→s.heap.get? b=some o→H b=none→H' b=none)
  (there:∀ b o,b∉ch→s.heap.get? b=some o→∃ o',h'.get? b=some o')
  (tups:∀ b xs,H b=some (.tup xs)→H' b=some (.tup xs)) (frzs:∀ b o u,H b=some (.frz o u)→H' b=some (.frz o u)) (tbls:∀ b q,H b=some (.tbl q)→H' b=some (.tbl q))
  (ns:∀ m,s.heap.Ns X.env.locals m→h'.Ns X.env.locals m) (hok:HOk X.prog X.w H' h') (hg:AllBare g') :
  Inv X pins σ H' { s with heap:=h',gens:=g',drawn:=d',toks:=t' }:=by
 have neL:∀ b o,X.s₀.heap.get? b=some o→b≠X.env.locals:=fun b o e=>Nat.ne_of_lt (Nat.lt_of_lt_of_le (Heap.lt_size e) I.ok.above)
 have neC:∀ b o,X.s₀.heap.get? b=some o→b∉X.ex→b∉ch:=fun b o e hx hb=>by
  rcases (hch b hb).1 with z | z
  ·exact hx z
  ·exact absurd (Nat.lt_of_lt_of_le (Heap.lt_size e) z) (Nat.lt_irrefl _)
 have cellK:∀ x c,X.env.cells.lookup x=some c→∀ v,s.heap.IsCell c v→h'.IsCell c v:=fun x c e v zz1=>by
  obtain ⟨o,ho,hd⟩:=zz1
  have nch:c∉ch:=fun z=>(hch c z).2.2.1 x c e rfl
  rcases I.freeC x c e with fc | ⟨_,of,u,fc⟩
  ·by_cases hc:c∈X.fs
   ·obtain ⟨sl,q⟩:=slot c o (I.cne x c e) hc nch ho fc
    exact ⟨_,q,hd⟩
   ·exact ⟨o,keep c o (I.cne x c e) hc nch ho fc,hd⟩
  ·have e1:=(I.hok c _ fc).1
   rw [ho] at e1
   cases e1
   exact ⟨_,(hok c _ (frzs c _ _ fc)).1,hd⟩
 refine ⟨I.ok,I.os,hg,⟨fun b o e n hb hx=>?_,fun b o e n hb hx=>?_,fun b o e n hx=>?_,fun b o e hx=>?_,fun b xs e=>tups b xs (I.base.tups b xs e),fun b o xs e=>frzs b o xs (I.base.frzs b o xs e),fun b ps e=>?_⟩,?_,fun x c e=>?_,?_,fun x c e=>?_,fun p hp=>?_,hok,I.len⟩
 ·exact keep b o (neL b o e) hb (neC b o e hx) (I.base.keep b o e n hb hx) (I.base.free b o e n hx)
 ·obtain ⟨sl,e1⟩:=I.base.slot b o e n hb hx
  obtain ⟨sl',e2⟩:=slot b _ (neL b o e) hb (neC b o e hx) e1 (I.base.free b o e n hx)
  exact ⟨sl',e2⟩
 ·obtain ⟨o',e1⟩:=I.base.there b o e hx
  exact free b o' (neC b o e hx) e1 (I.base.free b o e n hx)
 ·obtain ⟨o',e1⟩:=I.base.there b o e hx
  exact there b o' (neC b o e hx) e1
 ·exact tbls b ps (I.base.tbls b ps e)
 ·obtain ⟨m,hn,hl⟩:=I.loc
  refine ⟨m,ns m hn,fun i x v e1 e2 e3=>?_⟩
  obtain ⟨u,r,l⟩:=hl i x v e1 e2 e3
  refine ⟨u,r,?_⟩
  rcases l with l | ⟨k,c,e,z⟩
  ·exact .inl l
  ·exact .inr ⟨k,c,e,cellK x c e _ z⟩
 ·obtain ⟨v,z⟩:=I.cell x c e
  exact ⟨v,cellK x c e v z⟩
 ·obtain ⟨m,⟨o,_,_,ho,_⟩,_⟩:=I.loc
  exact free _ o (fun z=>(hch _ z).2.1 rfl) ho I.free
 ·obtain ⟨v,o,ho,hd⟩:=I.cell x c e
  rcases I.freeC x c e with fc | ⟨fn,of,u,fc⟩
  ·exact .inl (free c o (fun z=>(hch c z).2.2.1 x c e rfl) ho fc)
  ·exact .inr ⟨fn,of,u,frzs c _ _ fc⟩
 ·obtain ⟨e,n,ne,nf,d⟩:=I.pin p hp
  have nch:p.1∉ch:=fun z=>(hch p.1 z).2.2.2 p hp rfl
  exact ⟨keep p.1 p.2 ne nf nch e n,free p.1 p.2 nch e n,ne,nf,d⟩
theorem Inv.un {t':Nat} (I:Inv X pins σ H s) (u:Un X.fs [] H H' s.heap h') (hok:HOk X.prog X.w H' h'):Inv X pins σ H' { s with heap:=h',toks:=t' }:=by
 obtain ⟨m,⟨o,es,ep,ho,r⟩,_⟩:=id I.loc
 obtain ⟨sl,hL⟩:=u.any ho I.free (by simp)
 exact I.step (g':=s.gens) (d':=s.drawn) (ch:=[]) (fun _ z=>nomatch z) (fun b o _ hb _ e n=>u.keep b o e n hb (by simp)) (fun b o _ hb _ e n=>u.slot b o e n hb (by simp)) (fun b o _ e n=>u.free b o e n (by simp)) (fun b o _ e=>u.there b o e (by simp)) u.tups u.frzs u.tbls (fun m' hm=>by
  obtain ⟨o',es',ep',ho',r'⟩:=hm
  rw [ho] at ho';cases ho'
  exact ⟨_,es',ep',hL,r'⟩) hok I.bare
theorem Inv.call {g':Array GenState} {t':Nat} {d':Drawn} {ch:List Addr} (I:Inv X pins σ H s) (u:Un (frs X.stack) ch H H' s.heap h') (hok:HOk X.prog X.w H' h') (hg:AllBare g')
  (hch:∀ b∈ch,(b∈X.ex∨X.s₀.heap.objs.size≤b)∧b≠X.env.locals∧(∀ x c,X.env.cells.lookup x=some c→c≠b)∧∀ p∈X.pn++pins,p.1≠b) :
  Inv X pins σ H' { s with heap:=h',gens:=g',drawn:=d',toks:=t' }:=by
 obtain ⟨m,⟨o,es,ep,ho,r⟩,_⟩:=id I.loc
 obtain ⟨sl,hL⟩:=u.any ho I.free fun z=>(hch _ z).2.1 rfl
 exact I.step (ch:=ch) hch (fun b o hL hb hc e n=>u.keep b o e n (fun z=>(List.mem_cons.mp (I.stkSub b z)).elim hL hb) hc) (fun b o _ _ hc e n=>u.any e n hc) (fun b o hc e n=>u.free b o e n hc) (fun b o hc e=>u.there b o e hc) u.tups u.frzs u.tbls (fun m' hm=>by
  obtain ⟨o',es',ep',ho',r'⟩:=hm
  rw [ho] at ho';cases ho'
  exact ⟨_,es',ep',hL,r'⟩) hok hg
theorem Inv.turned {t':Nat} {it:Addr} (I:Inv X pins σ H s) (k:∀ b o,b≠it→s.heap.get? b=some o→h'.get? b=some o) (hn:H it=none) (hL:it≠X.env.locals)
  (h1:it∈X.ex∨X.s₀.heap.objs.size≤it) (h2:∀ x c,X.env.cells.lookup x=some c→c≠it) (h3:∀ p∈X.pn++pins,p.1≠it):Inv X pins σ H { s with heap:=h',toks:=t' }:=by
 have nit:∀ b u,H b=some u→b≠it:=fun b u e z=>by rw [z,hn] at e;cases e
 refine I.step (g':=s.gens) (d':=s.drawn) (ch:=[it]) (fun b hb=>?_) (fun b o _ _ hc e _=>k b o (fun z=>hc (by simp [z])) e) (fun b o _ _ hc e _=>⟨o.slots,k b o (fun z=>hc (by simp [z])) e⟩) (fun _ _ _ _ n=>n)
  (fun b o hc e=>⟨o,k b o (fun z=>hc (by simp [z])) e⟩) (fun _ _ e=>e) (fun _ _ _ e=>e) (fun _ _ e=>e) (fun m hm=>?_) (fun b u e=>?_) I.bare
 ·have e:b=it:=by simpa using hb
  subst e
  exact ⟨h1,hL,h2,h3⟩
 ·obtain ⟨o,es,ep,ho,r⟩:=hm
  exact ⟨o,es,ep,k _ o (Ne.symm hL) ho,r⟩
 ·refine (I.hok b u e).stay (fun c v hc q=>k c v ?_ q) (fun _ q=>q) fun _ _ q=>q
  rcases hc with z | z
  ·rw [z];exact nit b u e
  ·exact nit c _ z
theorem Inv.tok (I:Inv X pins σ H s) (t:Nat):Inv X pins σ H { s with toks:=t }:=I.un (h':=s.heap) (t':=t) Un.refl I.hok
theorem Inv.kept {t':Nat} (I:Inv X pins σ H s) (k:∀ b u,s.heap.get? b=some u→h'.get? b=some u):Inv X pins σ H { s with heap:=h',toks:=t' }:=I.un (Un.kept k) (I.hok.kept k)
theorem Inv.laid {a:Addr} {o:HO} {t':Nat} (I:Inv X pins σ H s) (k:∀ b u,s.heap.get? b=some u→h'.get? b=some u) (hp:s.heap.objs.size≤a) (new:ObjOk X.prog X.w (upd H a o) h' a o) :
  Inv X pins σ (upd H a o) { s with heap:=h',toks:=t' }:=I.un (Un.laid k hp (I.hok.fresh hp)) (I.hok.laid k hp new)
theorem Inv.write {x e:Addr} {o:HO} {t':Nat} (I:Inv X pins σ H s) (mu:Mut (H x)) (he:e=x∨H e=some (.own x)) (k:∀ b u,b≠e→s.heap.get? b=some u→h'.get? b=some u) (heo:∃ u,h'.get? e=some u)
  (new:ObjOk X.prog X.w (upd H x o) h' x o):Inv X pins σ (upd H x o) { s with heap:=h',toks:=t' }:=I.un (Un.write mu he k heo) (I.hok.write mu he k heo new)
theorem Inv.pins_of {pins':List (Addr×Obj)} (I:Inv X pins σ H s) (h:∀ p∈pins',s.heap.get? p.1=some p.2∧H p.1=none∧p.1≠X.env.locals∧p.1∉X.fs∧∀ v,p.2.data≠.cell v):Inv X pins' σ H s :=
 ⟨I.ok,I.os,I.bare,I.base,I.loc,I.cell,I.free,I.freeC,fun p hp=>(List.mem_append.mp hp).elim (fun z=>I.pin p (List.mem_append_left _ z)) (h p),I.hok,I.len⟩
theorem Qll {N:List Str} (hN:N.Nodup) {i j:Nat} {x:Str} (a:N[i]?=some x) (b:N[j]?=some x):i=j:=by
 obtain ⟨h1,e1⟩:=List.getElem?_eq_some_iff.mp a
 obtain ⟨h2,e2⟩:=List.getElem?_eq_some_iff.mp b
 exact (List.getElem_inj hN).mp (e1.trans e2.symm)
theorem Qv8 {M:Model} {A:Around} {E:Value→Shared→Prop} {i:Nat} {x:Str} {v:V} {u:Value} {Q:Unit→Shared→Prop} (I:Inv X pins σ H s) (hN:X.N.Nodup) (hi:X.N[i]?=some x) (hx:Loc X.env.scope x) (r:RelV v u)
  (h:∀ s',Inv X pins (σ.set i (some v)) H s'→(∃ a,Heap.SameBut a s.heap s'.heap∧(a=X.env.locals∨X.env.cells.lookup x=some a))→Q () s') (hf:X.fn x=true∨X.env.scope.names.lookup x=some .local:=by first | exact .inl rfl | exact .inr rfl | assumption):wpAny M A (storeName X.env x u) Q E s:=by
 obtain ⟨m,hn,hl⟩:=id I.loc
 have hcls:(X.env.scope.kind==.class||(X.env.scope.kind==.module&&X.env.locals != X.env.globals))=false:=by rw [I.ok.kind];rfl
 have hiσ:i<σ.length:=by rw [I.len];exact (List.getElem?_eq_some_iff.mp hi).1
 have cne:=I.cne
 have tracked:∀ {a:Addr} {h':Heap},(∃ o,s.heap.get? a=some o∧H a=none)→Heap.SameBut a s.heap h'→HOk X.prog X.w H h':=fun {a h'} ha hs b ob e=>by
  obtain ⟨_,_,hfree⟩:=ha
  refine (I.hok b ob e).stay (fun c w' hc q=>(hs.2 c ?_).trans q) (fun _ q=>q) fun _ _ q=>q
  rintro rfl
  rcases hc with rfl | hc
  ·rw [hfree] at e;cases e
  ·rw [hfree] at hc;cases hc
 rcases hx with hk | hk
 ·refine wpAny_storeName_local hk hn (fun h' hn' hs=>?_) hcls
  obtain ⟨oL,_,_,hoL,_⟩:=id hn
  refine h _ ⟨I.ok,I.os,I.bare,⟨fun b o e n hb hx=>?_,fun b o e n hb hx=>?_,I.base.free,fun b o e hx=>?_,I.base.tups,I.base.frzs,I.base.tbls⟩,⟨_,hn',fun j y v' e1 e2 e3=>?_⟩,fun y c e=>?_,I.free,I.freeC,fun p hp=>?_,tracked ⟨oL,hoL,I.free⟩ hs,by simpa using I.len⟩ ⟨_,hs,.inl rfl⟩
  ·exact (hs.2 b (Nat.ne_of_lt (Nat.lt_of_lt_of_le (Heap.lt_size e) I.ok.above))).trans (I.base.keep b o e n hb hx)
  ·obtain ⟨sl,e1⟩:=I.base.slot b o e n hb hx
   exact ⟨sl,(hs.2 b (Nat.ne_of_lt (Nat.lt_of_lt_of_le (Heap.lt_size e) I.ok.above))).trans e1⟩
  ·obtain ⟨o',e1⟩:=I.base.there b o e hx
   exact ⟨o',(hs.2 b (Nat.ne_of_lt (Nat.lt_of_lt_of_le (Heap.lt_size e) I.ok.above))).trans e1⟩
  ·by_cases hj:j=i
   ·subst hj
    rw [hi] at e1;cases e1
    rw [List.getElem?_set_self hiσ] at e2
    cases e2
    exact ⟨u,r,.inl ⟨hk,by simp⟩⟩
   ·rw [List.getElem?_set_ne (Ne.symm hj)] at e2
    obtain ⟨u',r',q⟩:=hl j y v' e1 e2 e3
    refine ⟨u',r',?_⟩
    rcases q with ⟨k,e⟩ | ⟨k,c,e,z⟩
    ·refine .inl ⟨k,?_⟩
     have:y≠x:=fun e=>hj (Qll hN e1 (e ▸ hi))
     simp [this,e]
    ·exact .inr ⟨k,c,e,z.sameBut hs (cne y c e)⟩
  ·obtain ⟨w',z⟩:=I.cell y c e
   exact ⟨w',z.sameBut hs (cne y c e)⟩
  ·obtain ⟨e,n,ne,nf,d⟩:=I.pin p hp
   exact ⟨(hs.2 p.1 ne).trans e,n,ne,nf,d⟩
 ·have hfn:X.fn x=true:=by
   rcases hf with z | z
   ·exact z
   ·rw [z] at hk;cases hk
  obtain ⟨c,hc⟩:=I.ok.has x (.inl hk)
  obtain ⟨w',z⟩:=I.cell x c hc
  refine wpAny_storeName_cell I.ok.kind hk hc z (fun h' hc' hs=>?_)
  obtain ⟨oc,hoc,hocd⟩:=id z
  refine h { s with heap:=h' } ⟨I.ok,I.os,I.bare,⟨fun b o e n hb hx=>?_,fun b o e n hb hx=>?_,I.base.free,fun b o e hx=>?_,I.base.tups,I.base.frzs,I.base.tbls⟩,⟨m,hn.sameBut hs (Ne.symm (cne x c hc)),fun j y v' e1 e2 e3=>?_⟩,fun y c' e=>?_,I.free,I.freeC,fun p hp=>?_,tracked ⟨oc,hoc,(I.freeC x c hc).resolve_right fun z=>by rw [hfn] at z;cases z.1⟩ hs,by simpa using I.len⟩ ⟨c,hs,.inr hc⟩
  ·exact (hs.2 b (Nat.ne_of_lt (Nat.lt_of_lt_of_le (Heap.lt_size e) (I.ok.cab x c hfn hc)))).trans (I.base.keep b o e n hb hx)
  ·obtain ⟨sl,e1⟩:=I.base.slot b o e n hb hx
   exact ⟨sl,(hs.2 b (Nat.ne_of_lt (Nat.lt_of_lt_of_le (Heap.lt_size e) (I.ok.cab x c hfn hc)))).trans e1⟩
  ·obtain ⟨o',e1⟩:=I.base.there b o e hx
   exact ⟨o',(hs.2 b (Nat.ne_of_lt (Nat.lt_of_lt_of_le (Heap.lt_size e) (I.ok.cab x c hfn hc)))).trans e1⟩
  ·by_cases hj:j=i
   ·subst hj
    rw [hi] at e1;cases e1
    rw [List.getElem?_set_self hiσ] at e2
    cases e2
    exact ⟨u,r,.inr ⟨.inl hk,c,hc,hc'⟩⟩
   ·rw [List.getElem?_set_ne (Ne.symm hj)] at e2
    obtain ⟨u',r',q⟩:=hl j y v' e1 e2 e3
    refine ⟨u',r',?_⟩
    rcases q with q | ⟨k,c',e,z'⟩
    ·exact .inl q
    ·refine .inr ⟨k,c',e,z'.sameBut hs ?_⟩
     rintro rfl
     exact hj (Qll hN e1 (I.ok.inj _ _ _ e hc ▸ hi))
  ·by_cases hcc:c'=c
   ·subst hcc;exact ⟨_,hc'⟩
   ·obtain ⟨w2,z2⟩:=I.cell y c' e
    exact ⟨w2,z2.sameBut hs hcc⟩
  ·obtain ⟨e,n,ne,nf,d⟩:=I.pin p hp
   refine ⟨(hs.2 p.1 ?_).trans e,n,ne,nf,d⟩
   intro q
   rw [q,hoc] at e
   have q':oc=p.2:=Option.some.inj e
   exact d w' (by rw [←q'];exact hocd)
theorem Qiv {M:Model} {A:Around} {E:Value→Shared→Prop} {i:Nat} {x:Str} {v:V} {u:Value} {Q:Unit→Shared→Prop} (I:Inv X pins σ H s) (hN:X.N.Nodup) (hi:X.N[i]?=some x) (hx:Loc X.env.scope x) (r:RelV v u)
  (h:∀ s',Inv X pins (σ.set i (some v)) H s'→Q () s') (hf:X.fn x=true∨X.env.scope.names.lookup x=some .local:=by first | exact .inl rfl | exact .inr rfl | assumption):wpAny M A (storeName X.env x u) Q E s :=
 Qv8 I hN hi hx r (fun s' I' _=>h s' I') hf
theorem Inv.call' {s':Shared} {ch:List Addr} (I:Inv X pins σ H s) (ho:s'.os=s.os) (u:Un (frs X.stack) ch H H' s.heap s'.heap) (hok:HOk X.prog X.w H' s'.heap) (hg:AllBare s'.gens)
  (hch:∀ b∈ch,(b∈X.ex∨X.s₀.heap.objs.size≤b)∧b≠X.env.locals∧(∀ x c,X.env.cells.lookup x=some c→c≠b)∧∀ p∈X.pn++pins,p.1≠b):Inv X pins σ H' s':=by
 obtain ⟨h',g',d',t',o'⟩:=s'
 have e:o'=s.os:=ho
 subst e
 exact I.call (g':=g') (t':=t') (d':=d') u hok hg hch
end
noncomputable abbrev XK:=Value→Option Addr→Hp→Prop
noncomputable abbrev St:=List (Option V)
noncomputable abbrev VK:=V→Hp→Prop
noncomputable abbrev TE:=St→Hp→VK→Prop
noncomputable abbrev TT:=St→Hp→(Bool→Hp→Prop)→Prop
noncomputable abbrev TA:=St→Hp→(List V→Hp→Prop)→Prop
structure Ends where
 nx:St→Hp→Prop
 rt:VK
 bk:St→Hp→Prop:=fun _ _=>False
 ct:St→Hp→Prop:=fun _ _=>False
noncomputable abbrev TS:=Ends→St→Hp→Prop
noncomputable def EP (X:Cx) (pins:List (Addr×Obj)) (σ:St) (Q:VK) (u:Value) (s':Shared):Prop:=∃ v H',Inv X pins σ H' s'∧RelV v u∧Q v H'
noncomputable def TP (X:Cx) (pins:List (Addr×Obj)) (σ:St) (Q:Bool→Hp→Prop) (b:Bool) (s':Shared):Prop:=∃ H',Inv X pins σ H' s'∧Q b H'
noncomputable def AP (X:Cx) (pins:List (Addr×Obj)) (σ:St) (Q:List V→Hp→Prop) (us:List Value) (s':Shared):Prop:=∃ vs H',Inv X pins σ H' s'∧Vals vs us∧Q vs H'
noncomputable def SP (X:Cx) (pins:List (Addr×Obj)) (D:Ends) (f:Flow) (s':Shared):Prop :=
 match f with
 | .next=>∃ σ' H',Inv X pins σ' H' s'∧D.nx σ' H'
 | .brk=>∃ σ' H',Inv X pins σ' H' s'∧D.bk σ' H'
 | .cont=>∃ σ' H',Inv X pins σ' H' s'∧D.ct σ' H'
 | .ret u=>∃ v σ' H',Inv X pins σ' H' s'∧RelV v u∧D.rt v H'
noncomputable def PE (X:Cx) (e:Expr) (t:TE):Prop :=
 ∀ (pins:List (Addr×Obj)) (s:Shared) (σ:St) (H:Hp) (Q:VK),Inv X pins σ H s→t σ H Q→wpAny (model X.prog X.w) X.A (eval e X.env) (EP X pins σ Q) X.xe s
noncomputable def PT (X:Cx) (e:Expr) (t:TT):Prop :=
 ∀ (pins:List (Addr×Obj)) (s:Shared) (σ:St) (H:Hp) (Q:Bool→Hp→Prop),Inv X pins σ H s→t σ H Q→wpAny (model X.prog X.w) X.A (isTrue e X.env (eval e X.env)) (TP X pins σ Q) X.xe s
noncomputable def PW (X:Cx) (e:Expr) (t:TT):Prop :=
 ∀ (whole:Sem Value) (pins:List (Addr×Obj)) (s:Shared) (σ:St) (H:Hp) (Q:Bool→Hp→Prop),Inv X pins σ H s→t σ H Q→wpAny (model X.prog X.w) X.A (isTrue e X.env whole) (TP X pins σ Q) X.xe s
theorem PW.pt {X:Cx} {e:Expr} {t:TT} (h:PW X e t):PT X e t:=h _
noncomputable def PA (X:Cx) (es:List Expr) (t:TA):Prop :=
 ∀ (pos:Pos) (pins:List (Addr×Obj)) (s:Shared) (σ:St) (H:Hp) (Q:List V→Hp→Prop),Inv X pins σ H s→t σ H Q→wpAny (model X.prog X.w) X.A (spliced (backTo pos (starEach es X.env))) (AP X pins σ Q) X.xe s
noncomputable def PS (X:Cx) (st:Stmt) (t:TS):Prop :=
 ∀ (pins:List (Addr×Obj)) (s:Shared) (σ:St) (H:Hp) (D:Ends),Inv X pins σ H s→t D σ H→wpAny (model X.prog X.w) X.A (exec st X.env) (SP X pins D) X.xe s
noncomputable def PSs (X:Cx) (st:List Stmt) (t:TS):Prop :=
 ∀ (pins:List (Addr×Obj)) (s:Shared) (σ:St) (H:Hp) (D:Ends),Inv X pins σ H s→t D σ H→wpAny (model X.prog X.w) X.A (execs st X.env) (SP X pins D) X.xe s
theorem thn {α:Type} {t:Sem α} {Q Q':α→Shared→Prop} {M:Model} {A:Around} {E:Value→Shared→Prop} {s:Shared} (h:wpAny M A t Q E s) (hQ:∀ a s,Q a s→Q' a s):wpAny M A t Q' E s:=wpAny_mono h hQ fun _ _ x=>x
section
variable {X:Cx}
theorem bin {a b:Expr} {ta tb:TE} (ha:PE X a ta) (hb:PE X b tb) {pins:List (Addr×Obj)} {s:Shared} {σ:St} {H:Hp} {R:V→V→Hp→Prop} (I:Inv X pins σ H s) (h:ta σ H fun x H1=>tb σ H1 fun y H2=>R x y H2)
  {α:Type} {Q:α→Shared→Prop} {f:Value→Value→Sem α}
  (hf:∀ v u s2 x y H2,Inv X pins σ H2 s2→RelV x v→RelV y u→R x y H2→wpAny (model X.prog X.w) X.A (f v u) Q X.xe s2) :
  wpAny (model X.prog X.w) X.A (eval a X.env) (fun v s₁=>wpAny (model X.prog X.w) X.A (eval b X.env) (fun u s₂=>wpAny (model X.prog X.w) X.A (f v u) Q X.xe s₂) X.xe s₁) X.xe s:=by
 refine thn (ha pins s σ H _ I h) fun v s1 ⟨x,H1,I1,r1,q1⟩=>?_
 refine thn (hb pins s1 σ H1 _ I1 q1) fun u s2 ⟨y,H2,I2,r2,q2⟩=>?_
 exact hf v u s2 x y H2 I2 r1 r2 q2
noncomputable abbrev Qk4 (i:Nat):TE:=fun σ H Q=>∃ v,σ[i]?=some (some v)∧Q v H
noncomputable abbrev tC (v:V):TE:=fun _ H Q=>Q v H
theorem Q7b {i:Nat} {x:Str} {pos:Pos} (hN:X.N[i]?=some x) (hv:Vis X.env.scope x) (hd:(x==("__debug__" : Str))=false:=by decide) (hcd:(x==("__classdict__" : Str))=false:=by decide):PE X (.Name x pos) (Qk4 i):=by
 intro pins s σ H Q I h
 obtain ⟨v,e,h⟩:=h
 obtain ⟨m,hn,hl⟩:=I.loc
 obtain ⟨u,r,l⟩:=hl i x v hN e hv
 have fin:EP X pins σ Q u s:=⟨v,H,I,r,h⟩
 rcases l with ⟨hk,hm⟩ | ⟨hk,c,hc,hcell⟩
 ·exact wpAny_Name (wpAny_loadName_local I.ok.kind hk hn hm fin) hd
 ·rcases hk with hk | hk
  ·exact wpAny_Name (wpAny_loadName_cell I.ok.kind hk hc hcell fin) hd
  ·exact wpAny_Name (wpAny_loadName_free I.ok.kind hk hc hcell fin hcd) hd
theorem Qxz {i j pos}:PE X (.Constant (.int i) j pos) (tC (.int i)):=fun _ _ _ H _ I h=>wpAny_Constant_int ⟨.int i,H,I.tok _,⟨_,rfl⟩,h⟩
theorem Qabr {b j pos}:PE X (.Constant (.bool b) j pos) (tC (.bl b)):=fun _ _ _ H _ I h=>Constant_bool ⟨.bl b,H,I,rfl,h⟩
theorem Q7c {j pos}:PE X (.Constant .none j pos) (tC .non):=fun _ _ _ H _ I h=>Constant_none ⟨.non,H,I,rfl,h⟩
theorem Qst {x j pos}:PE X (.Constant (.str x) j pos) (tC (.str x)):=fun _ _ _ H _ I h=>Calls.Constant_str ⟨.str x,H,I.tok _,⟨_,rfl⟩,h⟩
noncomputable def Gl (X:Cx) (x:Str):Prop:=X.env.kindOf x=some .globalImplicit
theorem Qf4 {E:Value→Shared→Prop} {pins:List (Addr×Obj)} {s:Shared} {σ:St} {H:Hp} {x:Str} {u:Value} {pos:Pos} {Q:Value→Shared→Prop} (I:Inv X pins σ H s) (hg:Gl X x) (hm:X.mg x=some u) (h:Q u s)
  (hd:(x==("__debug__" : Str))=false:=by decide):wpAny (model X.prog X.w) X.A (eval (.Name x pos) X.env) Q E s :=
 Calls.Name_function_global I.ok.kind hg (Calls.loadGlobal_global (by rw [I.ok.glob];exact I.mod.glob.keeps I.bk) hm h) hd
theorem Qlm {E:Value→Shared→Prop} {pins:List (Addr×Obj)} {s:Shared} {σ:St} {H:Hp} {x:Str} {u:Value} {pos:Pos} {Q:Value→Shared→Prop} (I:Inv X pins σ H s) (hg:Gl X x) (hm:X.mg x=none) (hv:bootBuiltins x=some u) (h:Q u s)
  (hn:x ≠ "__name__" := by decide) (hd:(x==("__debug__" : Str))=false:=by decide):wpAny (model X.prog X.w) X.A (eval (.Name x pos) X.env) Q E s:=by
 obtain ⟨mb,h1,h2⟩:=I.mod.blt
 exact Calls.Name_function_global I.ok.kind hg (Calls.loadGlobal_builtin (by rw [I.ok.glob];exact I.mod.glob.keeps I.bk) hm (by rw [I.ok.blt];exact h1.keeps I.bk) ((h2 x hn).trans hv) h) hd
theorem Quf {x:Str} {v:V} {u:Value} {pos:Pos} (hg:Gl X x) (hm:X.mg x=some u) (r:RelV v u) (hd:(x==("__debug__" : Str))=false:=by decide):PE X (.Name x pos) (tC v) :=
 fun _ _ _ H _ I h=>Qf4 I hg hm ⟨v,H,I,r,h⟩ hd
theorem Q13 {x:Str} {v:V} {u:Value} {pos:Pos} (hg:Gl X x) (hm:X.mg x=none) (hv:bootBuiltins x=some u) (r:RelV v u) (hn:x ≠ "__name__" := by decide) (hd:(x==("__debug__" : Str))=false:=by decide):PE X (.Name x pos) (tC v) :=
 fun _ _ _ H _ I h=>Qlm I hg hm hv ⟨v,H,I,r,h⟩ hn hd
variable {a b:Expr} {ta tb:TE} {pos:Pos}
noncomputable abbrev tB (t:TE):TT:=fun σ H Q=>t σ H fun x H1=>∃ c,x=.bl c∧Q c H1
theorem Q7d {e:Expr} {t:TE} (h:PE X e t) (he:∀ whole,isTrue e X.env whole=(do let v ← whole;standAt e.pos;holding [v] (truthy v)):=by intro _;rfl):PT X e (tB t):=by
 intro pins s σ H Q I hw
 refine isTrue_plain (thn (h pins s σ H _ I hw) fun v s1 ⟨x,H1,I1,r1,q1⟩=>?_) (he _)
 obtain ⟨d,rfl,q⟩:=q1
 cases r1
 exact wpAny_truthy_bool ⟨H1,I1,q⟩
variable {tA tB':TT} {rest:List Expr}
noncomputable abbrev Q7e (t u:TT):TT:=fun σ H Q=>t σ H fun c H1=>if c=true then u σ H1 Q else Q false H1
noncomputable abbrev tOr (t u:TT):TT:=fun σ H Q=>t σ H fun c H1=>if c=true then Q true H1 else u σ H1 Q
noncomputable abbrev tNot (t:TT):TT:=fun σ H Q=>t σ H fun c H1=>Q (!c) H1
theorem Q14 (ha:PT X a tA):PW X (.BoolOp .And [a] pos) tA:=by
 intro wh pins s σ H Q I h
 refine isTrue_and (thn (ha pins s σ H Q I h) fun c s1 e=>?_)
 cases c with
 | true=>exact isTrue_and_nil e
 | false=>exact e
theorem Q7f (ha:PT X a tA):PW X (.BoolOp .Or [a] pos) tA:=by
 intro wh pins s σ H Q I h
 refine isTrue_or (thn (ha pins s σ H Q I h) fun c s1 e=>?_)
 cases c with
 | false=>exact isTrue_or_nil e
 | true=>exact e
theorem Q7g (ha:PT X a tA) (hb:PW X (.BoolOp .And (b::rest) pos) tB'):PW X (.BoolOp .And (a::b::rest) pos) (Q7e tA tB'):=by
 intro wh pins s σ H Q I h
 refine isTrue_and (thn (ha pins s σ H _ I h) fun c s1 ⟨H1,I1,q1⟩=>?_)
 cases c with
 | true=>exact hb wh pins s1 σ H1 Q I1 q1
 | false=>exact ⟨H1,I1,q1⟩
theorem Qabt (ha:PT X a tA) (hb:PW X (.BoolOp .Or (b::rest) pos) tB'):PW X (.BoolOp .Or (a::b::rest) pos) (tOr tA tB'):=by
 intro wh pins s σ H Q I h
 refine isTrue_or (thn (ha pins s σ H _ I h) fun c s1 ⟨H1,I1,q1⟩=>?_)
 cases c with
 | true=>exact ⟨H1,I1,q1⟩
 | false=>exact hb wh pins s1 σ H1 Q I1 q1
theorem Q7h (ha:PT X a tA):PT X (.UnaryOp .Not a pos) (tNot tA):=by
 intro pins s σ H Q I h
 exact isTrue_not (ha pins s σ H (fun c H1=>Q (!c) H1) I h)
noncomputable abbrev Q5q (ta tb:TE):TE:=fun σ H Q=>ta σ H fun x H1=>∃ c,x=.bl c∧if c=true then tb σ H1 Q else Q (.bl false) H1
noncomputable abbrev tOrV (ta tb:TE):TE:=fun σ H Q=>ta σ H fun x H1=>∃ c,x=.bl c∧if c=true then Q (.bl true) H1 else tb σ H1 Q
noncomputable abbrev Q5r (ta:TE):TE:=fun σ H Q=>ta σ H fun x H1=>∃ c,x=.bl c∧Q (.bl (!c)) H1
theorem Q7i {op} {t:TE} (h:PE X a t):PE X (.BoolOp op [a] pos) t:=fun pins s σ H Q I hw=>BoolOp_one (h pins s σ H Q I hw)
theorem Q7j (ha:PE X a ta) (hb:PE X (.BoolOp .And (b::rest) pos) tb):PE X (.BoolOp .And (a::b::rest) pos) (Q5q ta tb):=by
 intro pins s σ H Q I h
 refine BoolOp_and (thn (ha pins s σ H _ I h) fun v s1 ⟨x,H1,I1,r1,q1⟩=>?_)
 obtain ⟨c,rfl,q1⟩:=q1
 cases r1
 refine wpAny_truthy_bool ?_
 cases c with
 | true=>exact hb pins s1 σ H1 Q I1 q1
 | false=>exact ⟨.bl false,H1,I1,rfl,q1⟩
theorem Qabv (ha:PE X a ta) (hb:PE X (.BoolOp .Or (b::rest) pos) tb):PE X (.BoolOp .Or (a::b::rest) pos) (tOrV ta tb):=by
 intro pins s σ H Q I h
 refine BoolOp_or (thn (ha pins s σ H _ I h) fun v s1 ⟨x,H1,I1,r1,q1⟩=>?_)
 obtain ⟨c,rfl,q1⟩:=q1
 cases r1
 refine wpAny_truthy_bool ?_
 cases c with
 | false=>exact hb pins s1 σ H1 Q I1 q1
 | true=>exact ⟨.bl true,H1,I1,rfl,q1⟩
theorem Q7k (ha:PE X a ta):PE X (.UnaryOp .Not a pos) (Q5r ta):=by
 intro pins s σ H Q I h
 refine UnaryOp_ (thn (ha pins s σ H _ I h) fun v s1 ⟨x,H1,I1,r1,q1⟩=>?_)
 obtain ⟨c,rfl,q1⟩:=q1
 cases r1
 exact not_of (wpAny_truthy_bool ⟨.bl (!c),H1,I1,rfl,q1⟩)
noncomputable abbrev tIf (t:TT) (ta tb:TE):TE:=fun σ H Q=>t σ H fun c H1=>if c=true then ta σ H1 Q else tb σ H1 Q
theorem Qx0 {c:Expr} (hc:PT X c tA) (ha:PE X a ta) (hb:PE X b tb):PE X (.IfExp c a b pos) (tIf tA ta tb):=by
 intro pins s σ H Q I h
 refine wpAny_IfExp (thn (hc pins s σ H _ I h) fun d s1 ⟨H1,I1,q1⟩=>?_)
 cases d with
 | true=>exact ha pins s1 σ H1 Q I1 q1
 | false=>exact hb pins s1 σ H1 Q I1 q1
end
noncomputable def SqL (K:PySem.W.Frag) (H:Hp) (a:Addr) (xs:List V):Prop :=
 Rd H a (.lst xs) ∨
  ∃ (o:Obj) (its:Array Value) (n:Nat),K.lookup a=some o∧o.cls=.type "list" ∧ o.dict=none∧o.data=.seq its n∧its.size≤sizeLine∧Vals xs its.toList
noncomputable def SqT (K:PySem.W.Frag) (H:Hp) (a:Addr) (xs:List V):Prop :=
 Rd H a (.tup xs) ∨
  ∃ (o:Obj) (its:Array Value) (n:Nat),K.lookup a=some o∧o.cls=.type "tuple" ∧ o.data=.seq its n∧its.size≤sizeLine∧Vals xs its.toList
noncomputable def absV:Value→Option V
 | .none=>some .non
 | .bool b=>some (.bl b)
 | .int i _=>some (.int i)
 | .str x _=>some (.str x)
 | .bytes b _=>some (.byt b)
 | .float b _=>some (.flt b)
 | .ref a=>some (.ref a)
 | .type n=>some (.ty n)
 | _=>none
theorem RelV.abs {x:V} {u:Value} (r:RelV x u):absV u=some x:=by
 cases x with
 | non=>cases r;rfl
 | bl _=>cases r;rfl
 | int _=>obtain ⟨t,rfl⟩:=r;rfl
 | str _=>obtain ⟨t,rfl⟩:=r;rfl
 | byt _=>obtain ⟨t,rfl⟩:=r;rfl
 | flt _=>obtain ⟨t,rfl⟩:=r;rfl
 | ref _=>cases r;rfl
 | ty _=>cases r;rfl
theorem RelV.inj {x y:V} {u:Value} (r:RelV x u) (q:RelV y u):x=y:=Option.some.inj (r.abs.symm.trans q.abs)
theorem Vals.inj:∀ {xs ys:List V} {us:List Value},Vals xs us→Vals ys us→xs=ys
 | _,_,_,.nil,.nil=>rfl
 | _,_,_,.cons r t,.cons r' t'=>by rw [r.inj r',Vals.inj t t']
section
variable {X:Cx} {pins:List (Addr×Obj)} {σ:St} {H:Hp} {s:Shared} {a:Addr} {xs ys:List V}
theorem SqL.of {K:PySem.W.Frag} (h:H a=some (.lst xs)):SqL K H a xs:=.inl (.inl h)
theorem SqT.of {K:PySem.W.Frag} (h:H a=some (.tup xs)):SqT K H a xs:=.inl (.inl h)
theorem Inv.list (I:Inv X pins σ H s) (h:SqL X.K H a xs):∃ its:List Value,Vals xs its∧PlainL s.heap a its.toArray∧xs.length≤sizeLine:=by
 rcases h with h | ⟨o,its,n,hk,hc,hd,hs,hz,r⟩
 ·obtain ⟨z,its,n,r,e⟩:=h.ok I.hok
  exact ⟨its,r,⟨_,n,e,rfl,rfl,rfl⟩,z⟩
 ·refine ⟨its.toList,r,⟨o,n,I.kIn a o hk,hc,hd,by simpa using hs⟩,?_⟩
  have e:=r.length
  simp only [Array.length_toList] at e
  omega
theorem Inv.tuple (I:Inv X pins σ H s) (h:SqT X.K H a xs):∃ its:List Value,Vals xs its∧IsTup s.heap a its.toArray∧xs.length≤sizeLine:=by
 rcases h with h | ⟨o,its,n,hk,hc,hs,hz,r⟩
 ·obtain ⟨z,its,r,p⟩:=h.ok I.hok
  exact ⟨its,r,p.tup,z⟩
 ·refine ⟨its.toList,r,⟨o,I.kIn a o hk,hc,n,by simpa using hs⟩,?_⟩
  have e:=r.length
  simp only [Array.length_toList] at e
  omega
theorem Inv.list_inj (I:Inv X pins σ H s) (h:SqL X.K H a xs) (h':SqL X.K H a ys):xs=ys:=by
 obtain ⟨its,r,⟨o,n,e,_,_,d⟩,_⟩:=I.list h
 obtain ⟨its',r',⟨o',n',e',_,_,d'⟩,_⟩:=I.list h'
 rw [e] at e';cases e'
 rw [d] at d'
 injection d' with d1 _
 have:its=its':=by simpa using congrArg Array.toList d1
 subst this
 exact r.inj r'
theorem Inv.tuple_inj (I:Inv X pins σ H s) (h:SqT X.K H a xs) (h':SqT X.K H a ys):xs=ys:=by
 obtain ⟨its,r,⟨o,e,_,n,d⟩,_⟩:=I.tuple h
 obtain ⟨its',r',⟨o',e',_,n',d'⟩,_⟩:=I.tuple h'
 rw [e] at e';cases e'
 rw [d] at d'
 injection d' with d1 _
 have:its=its':=by simpa using congrArg Array.toList d1
 subst this
 exact r.inj r'
end
noncomputable abbrev Cx.wish (X:Cx) (E:Value→Shared→Prop):Cx:={ X with xe:=E }
noncomputable abbrev Cx.nox (X:Cx):Cx:=X.wish fun _ _=>False
theorem Cx.Ok.wish {X:Cx} (ok:X.Ok) (E:Value→Shared→Prop):(X.wish E).Ok :=
 ⟨ok.mod,ok.kind,ok.glob,ok.blt,ok.above,ok.inj,ok.has,ok.cab,ok.hd,ok.frames,ok.stk,ok.exf,ok.bs,ok.bsz,ok.noex,ok.exfs,ok.funs,ok.frf⟩
theorem Cx.Ok.unwish {X:Cx} {E:Value→Shared→Prop} (ok:(X.wish E).Ok):X.Ok :=
 ⟨ok.mod,ok.kind,ok.glob,ok.blt,ok.above,ok.inj,ok.has,ok.cab,ok.hd,ok.frames,ok.stk,ok.exf,ok.bs,ok.bsz,ok.noex,ok.exfs,ok.funs,ok.frf⟩
section
variable {X:Cx} {pins:List (Addr×Obj)} {σ:St} {H:Hp} {s:Shared} {E:Value→Shared→Prop}
theorem Inv.wish (I:Inv X pins σ H s) (E:Value→Shared→Prop):Inv (X.wish E) pins σ H s:=⟨I.ok.wish E,I.os,I.bare,I.base,I.loc,I.cell,I.free,I.freeC,I.pin,I.hok,I.len⟩
theorem Inv.unwish (I:Inv (X.wish E) pins σ H s):Inv X pins σ H s:=⟨I.ok.unwish,I.os,I.bare,I.base,I.loc,I.cell,I.free,I.freeC,I.pin,I.hok,I.len⟩
theorem SP.unwish {D:Ends} {f:Flow} {s':Shared} (h:SP (X.wish E) pins D f s'):SP X pins D f s':=by
 cases f with
 | next=>obtain ⟨σ',H',I,q⟩:=h;exact ⟨σ',H',I.unwish,q⟩
 | brk=>obtain ⟨σ',H',I,q⟩:=h;exact ⟨σ',H',I.unwish,q⟩
 | cont=>obtain ⟨σ',H',I,q⟩:=h;exact ⟨σ',H',I.unwish,q⟩
 | ret u=>obtain ⟨v,σ',H',I,r,q⟩:=h;exact ⟨v,σ',H',I.unwish,r,q⟩
theorem PSs.nox {st:List Stmt} {t:TS} (h:PSs X.nox st t):PSs X st t:=fun pins s σ H D I hw =>
 wpAny_mono (h pins s σ H D (I.wish _) hw) (fun _ _ q=>q.unwish) fun _ _ z=>False.elim z
end
section
variable {X:Cx} {st:Stmt} {rest:List Stmt} {t u:TS} {e:Expr} {te:TE} {pos:Pos}
noncomputable abbrev Qx1:TS:=fun D σ H=>D.nx σ H
noncomputable abbrev Qx2 (t u:TS):TS:=fun D σ H=>t { D with nx:=u D } σ H
theorem Q15:PSs X [] Qx1:=fun _ _ σ H _ I h=>wpAny_execs_nil ⟨σ,H,I,h⟩
theorem Qx3 (h1:PS X st t) (h2:PSs X rest u):PSs X (st::rest) (Qx2 t u):=by
 intro pins s σ H D I h
 refine wpAny_execs_cons (thn (h1 pins s σ H { D with nx:=u D } I h) fun f s1 q=>?_)
 cases f with
 | next =>
  obtain ⟨σ',H',I',q⟩:=q
  exact h2 pins s1 σ' H' D I' q
 | ret v=>exact q
 | brk=>exact q
 | cont=>exact q
theorem Q16 (h1:PS X st t):PSs X [st] t:=by
 intro pins s σ H D I h
 refine wpAny_execs_cons (thn (h1 pins s σ H D I h) fun f s1 q=>?_)
 cases f with
 | next=>exact wpAny_execs_nil q
 | ret v=>exact q
 | brk=>exact q
 | cont=>exact q
theorem Inv.quiet {pins:List (Addr×Obj)} {σ:St} {H:Hp} {s:Shared} (I:Inv X pins σ H s):interactive X.env=false:=by simp [interactive,I.ok.kind]
noncomputable abbrev Qug (te:TE):TS:=fun D σ H=>te σ H fun _ H1=>D.nx σ H1
theorem Q17 (he:PE X e te) (hs:swapsWith e none pos.line X.env=pure false:=by rfl):PS X (.Expr e pos) (Qug te):=by
 intro pins s σ H D I h
 exact wpAny_Expr_any (thn (he pins s σ H _ I h) fun v s1 ⟨x,H1,I1,r1,q1⟩=>⟨σ,H1,I1,q1⟩) I.quiet hs
noncomputable abbrev Qx4 (te:TE):TS:=fun D σ H=>te σ H D.rt
theorem Q7l (he:PE X e te):PS X (.Return (some e) pos) (Qx4 te):=by
 intro pins s σ H D I h
 exact wpAny_Return_some (thn (he pins s σ H _ I h) fun v s1 ⟨x,H1,I1,r1,q1⟩=>⟨x,σ,H1,I1,r1,q1⟩)
noncomputable abbrev Q7m (c:TT) (t u:TS):TS:=fun D σ H=>c σ H fun b H1=>if b=true then t D σ H1 else u D σ H1
theorem Qabw {c:Expr} {a b:List Stmt} {tc:TT} (hc:PT X c tc) (ha:PSs X a t) (hb:PSs X b u):PS X (.If c a b pos) (Q7m tc t u):=by
 intro pins s σ H D I h
 refine wpAny_If (thn (hc pins s σ H _ I h) fun d s1 ⟨H1,I1,q1⟩=>?_)
 cases d with
 | true=>exact ha pins s1 σ H1 D I1 q1
 | false=>exact hb pins s1 σ H1 D I1 q1
end
noncomputable abbrev TG:=V→St→Hp→(St→Hp→Prop)→Prop
noncomputable abbrev TGs:=List V→St→Hp→(St→Hp→Prop)→Prop
noncomputable def PG (X:Cx) (target:Expr) (t:TG):Prop :=
 ∀ (pins:List (Addr×Obj)) (s:Shared) (σ:St) (H:Hp) (v:V) (u:Value) (Q:St→Hp→Prop),Inv X pins σ H s→RelV v u→t v σ H Q →
  wpAny (model X.prog X.w) X.A (assign target X.env u) (fun _ s'=>∃ σ' H',Inv X pins σ' H' s'∧Q σ' H') X.xe s
noncomputable def PGs (X:Cx) (ts:List Expr) (t:TGs):Prop :=
 ∀ (pins:List (Addr×Obj)) (s:Shared) (σ:St) (H:Hp) (vs:List V) (us:List Value) (Q:St→Hp→Prop),Inv X pins σ H s→Vals vs us→t vs σ H Q →
  wpAny (model X.prog X.w) X.A (assignInOrder ((assignEach ts X.env).map (·.2)) us) (fun _ s'=>∃ σ' H',Inv X pins σ' H' s'∧Q σ' H') X.xe s
noncomputable abbrev Q7n:=V→V→V→Hp→(Hp→Prop)→Prop
noncomputable def PSet (X:Cx) (t:Q7n):Prop :=
 ∀ (pins:List (Addr×Obj)) (s:Shared) (σ:St) (H:Hp) (o i v:V) (ov iv u:Value) (Q:Hp→Prop),Inv X pins σ H s→RelV o ov→RelV i iv→RelV v u→t o i v H Q →
  wpAny (model X.prog X.w) X.A (setItem ov iv u) (fun _ s'=>∃ H',Inv X pins σ H' s'∧Q H') X.xe s
section
variable {X:Cx} {pos:Pos}
noncomputable abbrev Qgx (i:Nat):TG:=fun v σ H Q=>Q (σ.set i (some v)) H
theorem Q18 {i:Nat} {x:Str} (hN:X.N.Nodup) (hi:X.N[i]?=some x) (hx:Loc X.env.scope x) (hf:X.fn x=true∨X.env.scope.names.lookup x=some .local:=by first | exact .inl rfl | exact .inr rfl | assumption):PG X (.Name x pos) (Qgx i):=by
 intro pins s σ H v u Q I r h
 exact wpAny_assign_Name (Qiv I hN hi hx r (fun s' I'=>⟨_,H,I',h⟩) hf)
noncomputable abbrev Q7o:TGs:=fun vs σ H Q=>vs=[]∧Q σ H
noncomputable abbrev Qx5 (t:TG) (u:TGs):TGs:=fun vs σ H Q=>∃ v r,vs=v::r∧t v σ H fun σ' H'=>u r σ' H' Q
theorem Q19:PGs X [] Q7o:=by
 intro pins s σ H vs us Q I r h
 obtain ⟨e,h⟩:=h
 subst e
 cases r
 exact assignInOrder_nil ⟨σ,H,I,h⟩
theorem Qx6 {e:Expr} {es:List Expr} {t:TG} {u:TGs} (h1:PG X e t) (h2:PGs X es u)
  (hs:(assignEach (e::es) X.env).map (·.2)=assign e X.env::(assignEach es X.env).map (·.2):=by rfl):PGs X (e::es) (Qx5 t u):=by
 intro pins s σ H vs us Q I r h
 obtain ⟨v,vr,e1,h⟩:=h
 subst e1
 cases r with
 | cons r rr =>
  rw [hs]
  refine assignInOrder_cons (thn (h1 pins s σ H _ _ _ I r h) fun _ s1 ⟨σ1,H1,I1,q1⟩=>?_)
  exact h2 pins s1 σ1 H1 _ _ Q I1 rr q1
noncomputable def Q2a (K:PySem.W.Frag) (n:Nat) (t:TGs):TG:=fun v σ H Q=>∃ a xs,v=.ref a∧SqT K H a xs∧xs.length=n∧t xs σ H Q
theorem Q7p {es:List Expr} {k:Nat} {t:TGs} {n:Nat} (hc:X.calm=true) (h:PGs X es t)
  (hn:(assignEach es X.env).length=n:=by rfl) (hst:(assignEach es X.env).findIdx? (·.1)=none:=by rfl):PG X (.Tuple es k pos) (Q2a X.K n t):=by
 intro pins s σ H v u Q I r hw
 obtain ⟨a,xs,e1,hq,hl,hw⟩:=hw
 subst e1
 cases r
 obtain ⟨its,rv,ht,hz⟩:=I.tuple hq
 refine assign_Tuple_tuple (I.ok.hd hc) ht (by simp [hn,←hl,rv.length]) hst fun h' hx=>?_
 have I1:Inv X pins σ H { s with heap:=h' }:=I.kept (t':=s.toks) fun b o e=>hx b o (Nat.ne_of_lt (Heap.lt_size e)) e
 exact h pins _ σ H xs _ Q I1 (by simpa using rv) hw
noncomputable abbrev Q7q (to ti:TE) (t:Q7n):TG:=fun v σ H Q=>to σ H fun o H1=>ti σ H1 fun i H2=>t o i v H2 fun H3=>Q σ H3
theorem Q7r {o i:Expr} {to ti:TE} {t:Q7n} (ho:PE X o to) (hi:PE X i ti) (hs:PSet X t)
  (ha:∀ v,assign (.Subscript o i pos) X.env v=(do
   let ov ← holding [v] (eval o X.env)
   let iv ← holding [v,ov] (eval i X.env)
   standAt pos
   holding [v,ov,iv] (setItem ov iv v)
   release [v,ov,iv] []):=by intro _;rfl):PG X (.Subscript o i pos) (Q7q to ti t):=by
 intro pins s σ H v u Q I r h
 rw [ha]
 refine wpAny_bind (wpAny_holding (thn (ho pins s σ H _ I h) fun ov s1 ⟨x,H1,I1,r1,q1⟩=>?_))
 refine wpAny_bind (wpAny_holding (thn (hi pins s1 σ H1 _ I1 q1) fun iv s2 ⟨y,H2,I2,r2,q2⟩=>?_))
 refine wpAny_bind (wpAny_standAt (wpAny_bind (wpAny_holding (thn (hs pins s2 σ H2 x y v ov iv u _ I2 r1 r2 r q2) fun _ s3 ⟨H3,I3,q3⟩=>?_))))
 exact wpAny_release ⟨σ,H3,I3,q3⟩
noncomputable abbrev Qm4 (te:TE) (g:TG):TS:=fun D σ H=>te σ H fun x H1=>g x σ H1 D.nx
theorem Q7s {tg e:Expr} {te:TE} {g:TG} (he:PE X e te) (hg:PG X tg g) (hs:swapsWithSole [tg] e pos.line X.env=pure false:=by rfl) (hw:swappedStores [tg] e X.env=pure none:=by rfl)
  (h1:(assignEach [tg] X.env).map (·.2)=[assign tg X.env]:=by rfl):PS X (.Assign [tg] e pos) (Qm4 te g):=by
 intro pins s σ H D I h
 refine wpAny_Assign_stores (thn (he pins s σ H _ I h) fun v s1 ⟨x,H1,I1,r1,q1⟩=>?_) hs hw
 rw [h1]
 exact thn (hg pins s1 σ H1 x v _ I1 r1 q1) fun _ s2 q=>q
theorem Q7t {i:Nat} {x:Str} {e:Expr} {te:TE} {pos':Pos} (hN:X.N.Nodup) (hi:X.N[i]?=some x) (hx:Loc X.env.scope x) (he:PE X e te) (hs:swapsWith e (some (.Name x pos')) pos.line X.env=pure false:=by rfl) (hf:X.fn x=true∨X.env.scope.names.lookup x=some .local:=by first | exact .inl rfl | exact .inr rfl | assumption) :
  PS X (.Assign [.Name x pos'] e pos) (Qm4 te (Qgx i)):=by
 intro pins s σ H D I h
 refine wpAny_Assign_Name (thn (he pins s σ H _ I h) fun v s1 ⟨y,H1,I1,r1,q1⟩=>?_) hs
 exact Qiv I1 hN hi hx r1 (fun s2 I2=>⟨_,H1,I2,q1⟩) hf
end
section
variable {X:Cx} {pos:Pos}
noncomputable def Qx7 (c:TT) (tb:TS):TS:=fun D σ H=>∃ W:Nat→St→Hp→Prop,(∃ m,W m σ H)∧∀ m σ H,W m σ H →
 c σ H fun b H1=>if b=true then ∃ N:St→Hp→Prop,(∀ σ' H',N σ' H'→∃ m',m'<m∧W m' σ' H')∧tb { D with nx:=N,ct:=N,bk:=D.nx } σ H1 else D.nx σ H1
theorem Qx8 {c:Expr} {body:List Stmt} {tc:TT} {tb:TS} (hp:PassesOwn (model X.prog X.w) X.A X.env X.xe) (hc:PT X c tc) (hb:PSs X body tb):PS X (.While c body [] pos) (Qx7 tc tb):=by
 intro pins s σ H D I h
 obtain ⟨W,⟨m0,w0⟩,turn⟩:=h
 refine wpAny_While (codeAny_whileLoop (fun n s'=>∃ σ' H',Inv X pins σ' H' s'∧W n σ' H') ?_ m0 ⟨σ,H,I,w0⟩)
 rintro n s1 ⟨σ1,H1,I1,w1⟩
 refine wpAny_passesOwn hp (thn (hc pins s1 σ1 H1 _ I1 (turn n σ1 H1 w1)) fun b s2 ⟨H2,I2,q2⟩=>?_)
 cases b with
 | true =>
  obtain ⟨N,hN,q2⟩:=q2
  rw [if_pos rfl]
  refine wpAny_passesOwn hp (thn (hb pins s2 σ1 H2 _ I2 q2) fun f s3 q3=>?_)
  cases f with
  | next =>
   obtain ⟨σ3,H3,I3,n3⟩:=q3
   obtain ⟨m',hm,w3⟩:=hN σ3 H3 n3
   exact ⟨m',hm,σ3,H3,I3,w3⟩
  | cont =>
   obtain ⟨σ3,H3,I3,n3⟩:=q3
   obtain ⟨m',hm,w3⟩:=hN σ3 H3 n3
   exact ⟨m',hm,σ3,H3,I3,w3⟩
  | brk=>exact q3
  | ret v=>exact q3
 | false =>
  rw [if_neg Bool.false_ne_true]
  exact wpAny_execs_nil ⟨σ1,H2,I2,q2⟩
end
structure It where
 go:Nat→Hp→Prop
 yld:Nat→Hp→V→Hp→Prop
 stop:Nat→Hp→Prop
noncomputable def Qg5 (X:Cx) (pins:List (Addr×Obj)) (H:Hp) (b:Addr):Prop :=
 H b=none∧b≠X.env.locals∧b∉X.fs∧(b∈X.ex∨X.s₀.heap.objs.size≤b)∧(∀ x c,X.env.cells.lookup x=some c→c≠b)∧∀ p∈X.pn++pins,p.1≠b
theorem Inv.fpOk {X:Cx} {pins:List (Addr×Obj)} {σ:St} {H H':Hp} {s:Shared} {b:Addr} (I:Inv X pins σ H s) (hb:s.heap.objs.size≤b) (hn:H' b=none):Qg5 X pins H' b:=by
 refine ⟨hn,Nat.ne_of_gt (Nat.lt_of_lt_of_le I.lt hb),I.nofs hb,.inr (Nat.le_trans I.sz hb),fun x c e z=>?_,fun p hp z=>?_⟩
 ·obtain ⟨v,q⟩:=I.cell x c e
  exact absurd (Nat.lt_of_lt_of_le q.lt (by rw [z];exact hb)) (Nat.lt_irrefl _)
 ·exact absurd (Nat.lt_of_lt_of_le (Heap.lt_size (I.pin p hp).1) (by rw [z];exact hb)) (Nat.lt_irrefl _)
structure Turn (P:Program) (w:World) (K:PySem.W.Frag) (tg:Expr) (J:It) (fp:List Addr) (it:Addr) (tn:Nat→Heap→Prop):Prop where
 mem:it∈fp
 obj:∀ i h,tn i h→∀ b∈fp,∃ o,h.get? b=some o∧∀ v,o.data≠.cell v
 keep:∀ i h h',tn i h→(∀ b∈fp,∀ o,h.get? b=some o→h'.get? b=some o)→tn i h'
 item:∀ (X:Cx),X.prog=P→X.w=w→X.K=K→X.calm=true→∀ (i:Nat) (pins:List (Addr×Obj)) (s:Shared) (σ:St) (H:Hp) (E:Value→Shared→Prop),Inv X pins σ H s→(∀ b∈fp,Qg5 X pins H b)→tn i s.heap→J.go i H →
  wpAny (model P w) X.A (pyNext (.ref it)) (fun r s1=>∃ u,r=some u ∧
   wpAny (model P w) X.A (letOwnedTupleGo tg (.ref it) u) (fun _ s2=>∃ x H',Inv X pins σ H' s2∧RelV x u∧J.yld i H x H'∧tn (i+1) s2.heap∧∀ b∈fp,H' b=none) E s1) E s
 done:∀ (X:Cx),X.prog=P→X.w=w→X.K=K→X.calm=true→∀ (i:Nat) (pins:List (Addr×Obj)) (s:Shared) (σ:St) (H:Hp) (E:Value→Shared→Prop),Inv X pins σ H s→(∀ b∈fp,Qg5 X pins H b)→tn i s.heap→J.stop i H →
  wpAny (model P w) X.A (pyNext (.ref it)) (fun r s1=>r=none∧Inv X pins σ H s1) E s
 self:∀ (A:Around) (i:Nat) (s:Shared) (Q:Value→Shared→Prop) (E:Value→Shared→Prop),tn i s.heap→Q (.ref it) s→wpAny (model P w) A (pyIter (.ref it)) Q E s
noncomputable abbrev TI:=St→Hp→(It→Hp→Prop)→Prop
noncomputable def PIE (X:Cx) (pins:List (Addr×Obj)) (σ:St) (tg:Expr) (R:It→Hp→Prop) (itv:Value) (s2:Shared):Prop :=
 ∃ (it:Addr) (fp:List Addr) (tn:Nat→Heap→Prop) (J:It) (H':Hp),itv=.ref it∧Inv X pins σ H' s2∧Turn X.prog X.w X.K tg J fp it tn∧tn 0 s2.heap∧(∀ b∈fp,Qg5 X pins H' b)∧R J H'
noncomputable def PI (X:Cx) (tg iter:Expr) (wi:TI):Prop :=
 ∀ (pins:List (Addr×Obj)) (s:Shared) (σ:St) (H:Hp) (R:It→Hp→Prop),Inv X pins σ H s→wi σ H R →
  wpAny (model X.prog X.w) X.A (eval iter X.env) (fun v s1=>wpAny (model X.prog X.w) X.A (pyIter v) (PIE X pins σ tg R) X.xe s1) X.xe s
theorem Quh {M:Model} {A:Around} {E:Value→Shared→Prop} {s:Shared} {tg:Expr} {it:Addr} {u:Value} {o:Obj} {n:String} {vs:Array Value} {Q:Unit→Shared→Prop} (ho:s.heap.get? it=some o) (hc:o.cls=.type n) (hd:o.data=.fields vs)
  (hn:["enumerate","zip","dict_itemiterator","dict_reverseitemiterator","odict_iterator","itertools.zip_longest","itertools.pairwise"].contains n=false) (hQ:Q () s):wpAny M A (letOwnedTupleGo tg (.ref it) u) Q E s:=by
 unfold letOwnedTupleGo
 cases tg <;> first
  | exact wpAny_pure hQ
  | (cases u <;> first
    | exact wpAny_pure hQ
    | (refine wpAny_bind (wpAny_load ho ?_)
       rw [hc,hd]
       show wpAny M A (if (["enumerate","zip","dict_itemiterator","dict_reverseitemiterator","odict_iterator","itertools.zip_longest","itertools.pairwise"].contains n&&vs[0]?==some (rawInt _))=true then _ else _) Q E s
       rw [if_neg (by intro h;rw [hn,Bool.false_and] at h;cases h)]
       exact wpAny_pure hQ))
noncomputable def Itl (K:PySem.W.Frag) (a:Addr):It :=
 ⟨fun i H=>∃ xs x,SqL K H a xs∧xs[i]?=some x,fun i H x H'=>H'=H∧∀ xs,SqL K H a xs→xs[i]?=some x,fun i H=>∃ xs,SqL K H a xs∧xs.length≤i⟩
noncomputable def Itt (K:PySem.W.Frag) (a:Addr):It :=
 ⟨fun i H=>∃ xs x,SqT K H a xs∧xs[i]?=some x,fun i H x H'=>H'=H∧∀ xs,SqT K H a xs→xs[i]?=some x,fun i H=>∃ xs,SqT K H a xs∧xs.length≤i⟩
noncomputable def Itr (lo:Int) (n:Nat):It:=⟨fun i _=>i<n,fun i H x H'=>H'=H∧x=.int (lo+i),fun i _=>n≤i⟩
theorem Qv9 {P:Program} {w:World} {K:PySem.W.Frag} {tg:Expr} (a it:Addr):Turn P w K tg (Itl K a) [it] it (fun i h=>h.IsListIter it a i) where
 mem:=by simp
 obj:=fun i h st b hb=>by
  have e:b=it:=by simpa using hb
  subst e
  obtain ⟨o,e,c,d⟩:=st
  exact ⟨o,e,fun v z=>by rw [d] at z;cases z⟩
 keep:=fun i h h' st k=>st.at fun o e=>k it (by simp) o e
 item:=by
  intro X hP hw hK hc i pins s σ H E I hf st hg
  subst hP hw hK
  obtain ⟨xs,x,hq,hx⟩:=hg
  obtain ⟨its,rv,p,hz⟩:=I.list hq
  obtain ⟨u,hu,ru⟩:=rv.get hx
  obtain ⟨f0,f1,f2,f3,f4,f5⟩:=hf it (by simp)
  refine wpAny_pyNext_list_item st p.isList (x:=u) (by simpa using hu) fun h' st' sb=>?_
  have I1:Inv X pins σ H { s with heap:=h' }:=I.turned (t':=s.toks) (fun b o hb e=>(sb.2 b hb).trans e) f0 f1 f3 f4 f5
  obtain ⟨o,e,c,d⟩:=id st'
  exact ⟨u,rfl,Quh (s:={ s with heap:=h' }) e c d (by decide) ⟨x,H,I1,ru,⟨rfl,fun ys hy=>by rw [I.list_inj hy hq];exact hx⟩,st',fun b hb=>(hf b hb).1⟩⟩
 done:=by
  intro X hP hw hK hc i pins s σ H E I hf st hg
  subst hP hw hK
  obtain ⟨xs,hq,hx⟩:=hg
  obtain ⟨its,rv,p,hz⟩:=I.list hq
  obtain ⟨f0,f1,f2,f3,f4,f5⟩:=hf it (by simp)
  have hl:=rv.length
  exact wpAny_pyNext_list_end (I.ok.hd hc) st p.isList (by simp;omega) fun h' eb=>⟨rfl,I.turned (t':=s.toks) (fun b o hb e=>eb b o hb e) f0 f1 f3 f4 f5⟩
 self:=fun _ _ _ _ _ st h=>wpAny_pyIter_listiter st h
theorem Qsu {P:Program} {w:World} {K:PySem.W.Frag} {tg:Expr} (a it:Addr):Turn P w K tg (Itt K a) [it] it (fun i h=>h.IsTupleIter it a i) where
 mem:=by simp
 obj:=fun i h st b hb=>by
  have e:b=it:=by simpa using hb
  subst e
  obtain ⟨o,e,c,d⟩:=st
  exact ⟨o,e,fun v z=>by rw [d] at z;cases z⟩
 keep:=fun i h h' st k=>st.at fun o e=>k it (by simp) o e
 item:=by
  intro X hP hw hK hc i pins s σ H E I hf st hg
  subst hP hw hK
  obtain ⟨xs,x,hq,hx⟩:=hg
  obtain ⟨its,rv,p,hz⟩:=I.tuple hq
  obtain ⟨u,hu,ru⟩:=rv.get hx
  obtain ⟨f0,f1,f2,f3,f4,f5⟩:=hf it (by simp)
  refine wpAny_pyNext_tuple_item st (show s.heap.IsTuple a its.toArray from p) (x:=u) (by simpa using hu) fun h' st' sb=>?_
  have I1:Inv X pins σ H { s with heap:=h' }:=I.turned (t':=s.toks) (fun b o hb e=>(sb.2 b hb).trans e) f0 f1 f3 f4 f5
  obtain ⟨o,e,c,d⟩:=id st'
  exact ⟨u,rfl,Quh (s:={ s with heap:=h' }) e c d (by decide) ⟨x,H,I1,ru,⟨rfl,fun ys hy=>by rw [I.tuple_inj hy hq];exact hx⟩,st',fun b hb=>(hf b hb).1⟩⟩
 done:=by
  intro X hP hw hK hc i pins s σ H E I hf st hg
  subst hP hw hK
  obtain ⟨xs,hq,hx⟩:=hg
  obtain ⟨its,rv,p,hz⟩:=I.tuple hq
  obtain ⟨f0,f1,f2,f3,f4,f5⟩:=hf it (by simp)
  have hl:=rv.length
  exact wpAny_pyNext_tuple_end (I.ok.hd hc) st (show s.heap.IsTuple a its.toArray from p) (by simp;omega) fun h' eb=>⟨rfl,I.turned (t':=s.toks) (fun b o hb e=>eb b o hb e) f0 f1 f3 f4 f5⟩
 self:=fun _ _ _ _ _ st h=>wpAny_pyIter_tupleiter st h
theorem Qsv {P:Program} {w:World} {K:PySem.W.Frag} {tg:Expr} (it:Addr) (lo:Int) (n:Nat):Turn P w K tg (Itr lo n) [it] it (fun i h=>IsRangeIter h it (lo+(i:Nat)*1) ((n:Int)-(i:Nat)) 1) where
 mem:=by simp
 obj:=fun i h st b hb=>by
  have e:b=it:=by simpa using hb
  subst e
  exact ⟨_,st,fun v z=>by
   have z':Data.fields _=Data.cell v:=z
   cases z'⟩
 keep:=fun i h h' st k=>k it (by simp) _ st
 item:=by
  intro X hP hw hK hc i pins s σ H E I hf st hg
  subst hP hw hK
  obtain ⟨f0,f1,f2,f3,f4,f5⟩:=hf it (by simp)
  have W:=Walks.range (prog:=X.prog) (w:=X.w) (I.ok.hd hc) it lo 1 n
  refine W.item i s _ _ hg st fun v h' tk hv st' kk=>?_
  obtain ⟨t,rfl⟩:=hv
  have I1:Inv X pins σ H { s with heap:=h',toks:=tk }:=I.turned (fun b o hb e=>kk b o (by simpa using hb) e) f0 f1 f3 f4 f5
  refine ⟨_,rfl,Quh (s:={ s with heap:=h',toks:=tk }) (n := "range_iterator") st' rfl rfl (by decide) ⟨.int (lo+i),H,I1,⟨t,?_⟩,⟨rfl,rfl⟩,st',fun b hb=>(hf b hb).1⟩⟩
  rw [Int.mul_one]
 done:=by
  intro X hP hw hK hc i pins s σ H E I hf st hg
  subst hP hw hK
  obtain ⟨f0,f1,f2,f3,f4,f5⟩:=hf it (by simp)
  exact wpAny_pyNext_range_end (I.ok.hd hc) st (by have:n≤i:=hg;omega) fun h' eb=>⟨rfl,I.turned (t':=s.toks) (fun b o hb e=>eb b o hb e) f0 f1 f3 f4 f5⟩
 self:=fun _ _ _ _ _ st h=>wpAny_pyIter_rangeiter st h
section
variable {X:Cx} {tg:Expr}
theorem Qx9 {pins:List (Addr×Obj)} {σ:St} {H:Hp} {s:Shared} {R:It→Hp→Prop} {E:Value→Shared→Prop} {lo hi:Int} {t u v:Tok} {tk:Nat} (I:Inv X pins σ H s) (h1:-(2^62)≤lo) (h2:lo<2^62) (h3:-(2^62)≤hi) (h4:hi<2^62)
  (q:R (Itr lo (hi-lo).toNat) H):wpAny (model X.prog X.w) X.A (pyIter (.ref s.heap.objs.size)) (PIE X pins σ tg R) E { s with heap:=s.heap.push { cls:=.type "range",data:=.fields #[.int lo t,.int hi u,.int 1 v] },toks:=tk }:=by
 refine wpAny_pyIter_range (IsRange.new ..) (small_one h1 h2 h3 h4) ?_
 have I1:Inv X pins σ H { s with heap:=s.heap.push { cls:=.type "range",data:=.fields #[.int lo t,.int hi u,.int 1 v] },toks:=tk }:=I.kept fun b o e=>Heap.get?_push_of_some _ e
 refine ⟨(s.heap.push { cls:=.type "range",data:=.fields #[.int lo t,.int hi u,.int 1 v] }).objs.size,[(s.heap.push { cls:=.type "range",data:=.fields #[.int lo t,.int hi u,.int 1 v] }).objs.size],_,_,H,rfl,
  I1.kept (t':=tk) fun b o e=>Heap.get?_push_of_some _ e,Qsv _ lo (hi-lo).toNat,?_,fun b hb=>?_,q⟩
 ·have e1:lo+((0:Nat):Int)*1=lo:=by simp
  have e2:(((hi-lo).toNat:Nat):Int)-((0:Nat):Int)=Builtin.Range.rangeSize lo hi 1:=by rw [rangeSize_one];split <;> omega
  show IsRangeIter _ _ (lo+((0:Nat):Int)*1) ((((hi-lo).toNat:Nat):Int)-((0:Nat):Int)) 1
  rw [e1,e2]
  exact Heap.get?_push_size _ rfl
 ·have e:b=(s.heap.push { cls:=.type "range",data:=.fields #[.int lo t,.int hi u,.int 1 v] }).objs.size:=by simpa using hb
  subst e
  exact I1.fpOk (Nat.le_refl _) (I1.hok.fresh (Nat.le_refl _))
noncomputable def Q5s (ta:TA):TI:=fun σ H R=>ta σ H fun vs H1=>∃ j:Int,vs=[.int j] ∧ -(2^62)≤j∧j<2^62∧R (Itr 0 j.toNat) H1
theorem Qwa {a:Expr} {ta:TA} {p pos:Pos} (hg:Gl X "range") (hm:X.mg "range" = none) (ha:PA X [a] ta) (hs:starEach [a] X.env=[(false,eval a X.env)]:=by rfl):PI X tg (.Call (.Name "range" p) [a] [] pos) (Q5s ta):=by
 intro pins s σ H R I h
 refine Call_ (Qlm I hg hm boot_range (PyProof.Rows.callWith_type1 (thn (ha pos pins s σ H _ I h) fun us s1 ⟨vs,H1,I1,r1,q1⟩=>?_) hs rfl))
 obtain ⟨j,e,q1,q2,q⟩:=q1
 subst e
 cases r1 with
 | cons r rr =>
  cases rr
  obtain ⟨t,rfl⟩:=r
  exact call_range_1 (Qx9 I1 (by omega) (by omega) q1 q2 (by simpa using q))
noncomputable def Qya (wi:TI) (g:TG) (tb:TS):TS:=fun D σ H=>wi σ H fun J H1=>∃ W:Nat→Nat→St→Hp→Prop,(∃ m,W 0 m σ H1)∧∀ i m σ H,W i m σ H →
 (J.stop i H∧D.nx σ H)∨(J.go i H∧∃ N:St→Hp→Prop,(∀ σ' H',N σ' H'→∃ m',m'<m∧W (i+1) m' σ' H')∧∀ x H',J.yld i H x H'→g x σ H' fun σ2 H2=>tb { D with nx:=N,ct:=N,bk:=D.nx } σ2 H2)
noncomputable def Qjs (fp:List Addr) (h:Heap):List (Addr×Obj):=fp.filterMap fun b=>(h.get? b).map fun o=>(b,o)
theorem Qc1 {fp:List Addr} {h:Heap} {b:Addr} {o:Obj} (hb:b∈fp) (e:h.get? b=some o):(b,o)∈Qjs fp h:=List.mem_filterMap.mpr ⟨b,hb,by rw [e];rfl⟩
theorem Qwb {fp:List Addr} {h:Heap} {p:Addr×Obj} (hp:p∈Qjs fp h):p.1∈fp∧h.get? p.1=some p.2:=by
 obtain ⟨b,hb,e⟩:=List.mem_filterMap.mp hp
 cases q:h.get? b with
 | none=>rw [q] at e;cases e
 | some o =>
  rw [q] at e
  have e':(b,o)=p:=Option.some.inj e
  subst e'
  exact ⟨hb,q⟩
theorem Inv.pinned {pins:List (Addr×Obj)} {σ:St} {H:Hp} {s:Shared} {fp:List Addr} (I:Inv X pins σ H s) (hf:∀ b∈fp,Qg5 X pins H b) (ho:∀ b∈fp,∃ o,s.heap.get? b=some o∧∀ v,o.data≠.cell v):Inv X (pins++Qjs fp s.heap) σ H s :=
 I.pins_of fun p hp=>(List.mem_append.mp hp).elim (fun z=>I.pin p (List.mem_append_right _ z)) fun z=>by
  obtain ⟨hb,e⟩:=Qwb z
  obtain ⟨f0,f1,f2,_⟩:=hf p.1 hb
  obtain ⟨o,e',d⟩:=ho p.1 hb
  rw [e] at e';cases e'
  exact ⟨e,f0,f1,f2,d⟩
theorem Inv.unpinned {pins pl:List (Addr×Obj)} {σ:St} {H:Hp} {s:Shared} (I:Inv X (pins++pl) σ H s):Inv X pins σ H s:=I.pins_of fun p hp=>I.pin p (List.mem_append_right _ (List.mem_append_left _ hp))
theorem Q7u {iter:Expr} {body:List Stmt} {wi:TI} {g:TG} {tb:TS} {pos:Pos} (hp:PassesOwn (model X.prog X.w) X.A X.env X.xe) (hc:X.calm=true) (hi:PI X tg iter wi) (hg:PG X tg g) (hb:PSs X body tb)
  (hs:∀ x,foldedSetIterable iter X.env x=pure x:=by intro _;rfl):PS X (.For tg iter body [] pos) (Qya wi g tb):=by
 intro pins s σ H D I h
 refine wpAny_For (thn (hi pins s σ H _ I h) fun v s1 h1=>thn h1 fun itv s2 h2=>?_) hs
 obtain ⟨it,fp,tn,J,H2,e,I2,T,st2,f2,W,⟨m0,w0⟩,turn⟩:=h2
 subst e
 -- what stays true of the iterator's objects through the loop
 have stat:∀ {H':Hp},(∀ b∈fp,H' b=none)→∀ b∈fp,Qg5 X pins H' b:=fun hn b hb=>⟨hn b hb,(f2 b hb).2⟩
 refine codeAny_forLoop_any (fun n s'=>∃ i σ' H',Inv X pins σ' H' s'∧tn i s'.heap∧(∀ b∈fp,H' b=none)∧W i n σ' H') ?_ m0 ⟨0,σ,H2,I2,st2,fun b hb=>(f2 b hb).1,w0⟩
 rintro n s3 ⟨i,σ3,H3,I3,st3,fr3,w3⟩
 rcases turn i n σ3 H3 w3 with ⟨stop,qn⟩ | ⟨go,N,hN,step⟩
 ·refine wpAny_passesOwn hp (thn (T.done X rfl rfl rfl hc i pins s3 σ3 H3 X.xe I3 (stat fr3) st3 stop) fun r s4 ⟨hr,I4⟩=>?_)
  subst hr
  exact wpAny_execs_nil ⟨σ3,H3,I4,qn⟩
 ·refine wpAny_passesOwn hp (thn (T.item X rfl rfl rfl hc i pins s3 σ3 H3 X.xe I3 (stat fr3) st3 go) fun r s4 ⟨u,hr,h4⟩=>?_)
  subst hr
  refine wpAny_passesOwn hp (thn h4 fun _ s5 ⟨x,H5,I5,r5,y5,st5,fr5⟩=>?_)
  have I5':=I5.pinned (stat fr5) (T.obj _ _ st5)
  refine wpAny_passesOwn hp (thn (hg _ s5 σ3 H5 x u _ I5' r5 (step x H5 y5)) fun _ s6 ⟨σ6,H6,I6,q6⟩=>?_)
  refine wpAny_passesOwn hp (thn (hb _ s6 σ6 H6 _ I6 q6) fun f s7 q7=>?_)
  have again:∀ {σ7:St} {H7:Hp},Inv X (pins++Qjs fp s5.heap) σ7 H7 s7→N σ7 H7→∃ m,m<n∧∃ i σ' H',Inv X pins σ' H' s7∧tn i s7.heap∧(∀ b∈fp,H' b=none)∧W i m σ' H':=fun {σ7 H7} I7 n7=>by
   obtain ⟨m',hm,w7⟩:=hN σ7 H7 n7
   refine ⟨m',hm,i+1,σ7,H7,I7.unpinned,T.keep _ _ _ st5 fun b hb o e=>(I7.pin (b,o) (List.mem_append_right _ (List.mem_append_right _ (Qc1 hb e)))).1,fun b hb=>?_,w7⟩
   obtain ⟨o,e,d⟩:=T.obj _ _ st5 b hb
   exact (I7.pin (b,o) (List.mem_append_right _ (List.mem_append_right _ (Qc1 hb e)))).2.1
  cases f with
  | next=>obtain ⟨σ7,H7,I7,n7⟩:=q7;exact again I7 n7
  | cont=>obtain ⟨σ7,H7,I7,n7⟩:=q7;exact again I7 n7
  | brk=>obtain ⟨σ7,H7,I7,q7⟩:=q7;exact ⟨σ7,H7,I7.unpinned,q7⟩
  | ret v=>obtain ⟨x7,σ7,H7,I7,r7,q7⟩:=q7;exact ⟨x7,σ7,H7,I7.unpinned,r7,q7⟩
end
theorem Qyb {K:PySem.W.Frag} {a:Addr} {xs:List V} {g:TG} {tb:TS} {D:Ends} {σ:St} {H:Hp} (Pv:Nat→St→Hp→Prop) (h0:Pv 0 σ H) (hl:∀ i σ H,i≤xs.length→Pv i σ H→SqL K H a xs)
  (hs:∀ i x σ H,xs[i]?=some x→Pv i σ H→g x σ H fun σ2 H2=>tb { D with nx:=Pv (i+1),ct:=Pv (i+1),bk:=D.nx } σ2 H2) (hd:∀ σ H,Pv xs.length σ H→D.nx σ H) :
  ∃ W:Nat→Nat→St→Hp→Prop,(∃ m,W 0 m σ H)∧∀ i m σ H,W i m σ H →
   ((Itl K a).stop i H∧D.nx σ H)∨((Itl K a).go i H∧∃ N:St→Hp→Prop,(∀ σ' H',N σ' H'→∃ m',m'<m∧W (i+1) m' σ' H')∧∀ x H',(Itl K a).yld i H x H'→g x σ H' fun σ2 H2=>tb { D with nx:=N,ct:=N,bk:=D.nx } σ2 H2):=by
 refine ⟨fun i m σ H=>m=xs.length-i∧i≤xs.length∧Pv i σ H,⟨xs.length,by simp,Nat.zero_le _,h0⟩,?_⟩
 rintro i m σ H ⟨rfl,hi,p⟩
 have q:=hl i σ H hi p
 by_cases hlt:i<xs.length
 ·refine .inr ⟨⟨xs,xs[i],q,by simp [hlt]⟩,Pv (i+1),fun σ' H' p'=>⟨xs.length-(i+1),by omega,rfl,hlt,p'⟩,fun x H' y=>?_⟩
  obtain ⟨e,y⟩:=y
  subst e
  exact hs i x σ _ (y xs q) p
 ·have e:i=xs.length:=by omega
  subst e
  exact .inl ⟨⟨xs,q,Nat.le_refl _⟩,hd σ H p⟩
noncomputable abbrev R2:=V→V→Hp→VK→Prop
noncomputable def OpR (X:Cx) (f:Value→Value→Sem Value) (r:R2):Prop :=
 ∀ (pins:List (Addr×Obj)) (s:Shared) (σ:St) (H:Hp) (x y:V) (v u:Value) (Q:VK),Inv X pins σ H s→RelV x v→RelV y u→r x y H Q →
  wpAny (model X.prog X.w) X.A (f v u) (EP X pins σ Q) X.xe s
noncomputable def UnR (X:Cx) (f:Value→Sem Value) (r:V→Hp→VK→Prop):Prop :=
 ∀ (pins:List (Addr×Obj)) (s:Shared) (σ:St) (H:Hp) (x:V) (v:Value) (Q:VK),Inv X pins σ H s→RelV x v→r x H Q →
  wpAny (model X.prog X.w) X.A (f v) (EP X pins σ Q) X.xe s
noncomputable def CallR (X:Cx) (f:Value) (r:List V→Hp→VK→Prop):Prop :=
 ∀ (pins:List (Addr×Obj)) (s:Shared) (σ:St) (H:Hp) (xs:List V) (us:List Value) (Q:VK),Inv X pins σ H s→Vals xs us→r xs H Q →
  wpAny (model X.prog X.w) X.A (call f us) (EP X pins σ Q) X.xe s
noncomputable abbrev tOp (r:R2) (ta tb:TE):TE:=fun σ H Q=>ta σ H fun x H1=>tb σ H1 fun y H2=>r x y H2 Q
noncomputable abbrev tUn (r:V→Hp→VK→Prop) (ta:TE):TE:=fun σ H Q=>ta σ H fun x H1=>r x H1 Q
noncomputable def rI (C:Int→Int→Prop) (g:Int→Int→V):R2:=fun x y H Q=>∃ i j,x=.int i∧y=.int j∧C i j∧Q (g i j) H
noncomputable def rI0 (g:Int→Int→V):R2:=fun x y H Q=>∃ i j,x=.int i∧y=.int j∧Q (g i j) H
noncomputable def rU (g:Int→V):V→Hp→VK→Prop:=fun x H Q=>∃ i,x=.int i∧Q (g i) H
section
variable {X:Cx} {a b c:Expr} {ta tb tc:TE} {pos:Pos}
theorem Q7v (ha:PE X a ta) (hb:PE X b tb) {pins:List (Addr×Obj)} {s:Shared} {σ:St} {H:Hp} {R:V→V→Hp→Prop} (I:Inv X pins σ H s)
  (h:ta σ H fun x H1=>tb σ H1 fun y H2=>R x y H2) {Q:Value→Shared→Prop} {f:Value→Value→Sem Value}
  (hf:∀ v u s2 x y H2,Inv X pins σ H2 s2→RelV x v→RelV y u→R x y H2→wpAny (model X.prog X.w) X.A (f v u) Q X.xe s2) :
  wpAny (model X.prog X.w) X.A (eval a X.env) (fun v s₁=>wpAny (model X.prog X.w) X.A (eval b X.env) (fun u s₂=>wpAny (model X.prog X.w) X.A (f v u) Q X.xe s₂) X.xe s₁) X.xe s:=by
 refine thn (ha pins s σ H _ I h) fun v s1 ⟨x,H1,I1,r1,q1⟩=>?_
 refine thn (hb pins s1 σ H1 _ I1 q1) fun u s2 ⟨y,H2,I2,r2,q2⟩=>?_
 exact hf v u s2 x y H2 I2 r1 r2 q2
theorem Qaby {op:Operator} {r:R2} (ho:OpR X (binaryOp op) r) (ha:PE X a ta) (hb:PE X b tb):PE X (.BinOp a op b pos) (tOp r ta tb):=by
 intro pins s σ H Q I h
 exact wpAny_BinOp (Q7v ha hb I h fun v u s2 x y H2 I2 rx ry q=>ho pins s2 σ H2 x y v u Q I2 rx ry q)
theorem Qabz {op:UnaryOp} {r:V→Hp→VK→Prop} (ho:UnR X (unaryOp op) r) (ha:PE X a ta):PE X (.UnaryOp op a pos) (tUn r ta):=by
 intro pins s σ H Q I h
 exact UnaryOp_ (thn (ha pins s σ H _ I h) fun v s1 ⟨x,H1,I1,r1,q1⟩=>ho pins s1 σ H1 x v Q I1 r1 q1)
theorem opI {f:Value→Value→Sem Value} {C:Int→Int→Prop} {g:Int→Int→Int}
  (rule:∀ (i j:Int) (t u:Tok) (s:Shared) (Q:Value→Shared→Prop) (E:Value→Shared→Prop),C i j→Q (.int (g i j) s.toks) { s with toks:=s.toks+1 }→wpAny (model X.prog X.w) X.A (f (.int i t) (.int j u)) Q E s) :
  OpR X f (rI C fun i j=>.int (g i j)):=by
 intro pins s σ H x y v u Q I rx ry h
 obtain ⟨i,j,rfl,rfl,hc,q⟩:=h
 obtain ⟨t,rfl⟩:=rx
 obtain ⟨t',rfl⟩:=ry
 exact rule i j t t' s _ _ hc ⟨.int (g i j),H,I.tok _,⟨_,rfl⟩,q⟩
theorem opI0 {f:Value→Value→Sem Value} {g:Int→Int→Int}
  (rule:∀ (i j:Int) (t u:Tok) (s:Shared) (Q:Value→Shared→Prop) (E:Value→Shared→Prop),Q (.int (g i j) s.toks) { s with toks:=s.toks+1 }→wpAny (model X.prog X.w) X.A (f (.int i t) (.int j u)) Q E s) :
  OpR X f (rI0 fun i j=>.int (g i j)):=by
 intro pins s σ H x y v u Q I rx ry h
 obtain ⟨i,j,rfl,rfl,q⟩:=h
 obtain ⟨t,rfl⟩:=rx
 obtain ⟨t',rfl⟩:=ry
 exact rule i j t t' s _ _ ⟨.int (g i j),H,I.tok _,⟨_,rfl⟩,q⟩
theorem Q2b {f:Value→Value→Sem Value} {g:Int→Int→Bool}
  (rule:∀ (i j:Int) (t u:Tok) (s:Shared) (Q:Value→Shared→Prop) (E:Value→Shared→Prop),Q (.bool (g i j)) s→wpAny (model X.prog X.w) X.A (f (.int i t) (.int j u)) Q E s) :
  OpR X f (rI0 fun i j=>.bl (g i j)):=by
 intro pins s σ H x y v u Q I rx ry h
 obtain ⟨i,j,rfl,rfl,q⟩:=h
 obtain ⟨t,rfl⟩:=rx
 obtain ⟨t',rfl⟩:=ry
 exact rule i j t t' s _ _ ⟨.bl (g i j),H,I,rfl,q⟩
noncomputable def Q7w (i j:Int):Prop:=0≤j∧j≤1000000∧i.natAbs<2^64
noncomputable def CMul (i j:Int):Prop:=(-(2^64)<i∧i<2^64)∨(-(2^64)<j∧j<2^64)
theorem CMul.ok {i j:Int} (h:CMul i j):IntMulOk i j:=by
 rcases h with ⟨h1,h2⟩ | ⟨h1,h2⟩
 ·exact .of_left (intBits_le_64 h1 h2)
 ·exact .of_right (intBits_le_64 h1 h2)
theorem Q7x:OpR X (binaryOp .Add) (rI0 fun i j=>.int (i+j)):=opI0 fun _ _ _ _ _ _ _ q=>add_int q
theorem Q7y:OpR X (binaryOp .Sub) (rI0 fun i j=>.int (i-j)):=opI0 fun _ _ _ _ _ _ _ q=>sub_int q
theorem Q7z:OpR X (binaryOp .Mult) (rI CMul fun i j=>.int (i*j)):=opI fun _ _ _ _ _ _ _ hc q=>mul_int q hc.ok
theorem Q2c:OpR X (binaryOp .Mod) (rI (fun _ j=>j≠0) fun i j=>.int (i.fmod j)):=opI fun _ _ _ _ _ _ _ hc q=>mod_int' hc q
theorem Q70:OpR X (binaryOp .Pow) (rI Q7w fun i j=>.int (i^j.toNat)):=opI fun _ _ _ _ _ _ _ hc q=>pow_int_small hc.1 hc.2.1 hc.2.2 q
theorem unI {f:Value→Sem Value} {g:Int→Int}
  (rule:∀ (i:Int) (t:Tok) (s:Shared) (Q:Value→Shared→Prop) (E:Value→Shared→Prop),Q (.int (g i) s.toks) { s with toks:=s.toks+1 }→wpAny (model X.prog X.w) X.A (f (.int i t)) Q E s) :
  UnR X f (rU fun i=>.int (g i)):=by
 intro pins s σ H x v Q I rx h
 obtain ⟨i,rfl,q⟩:=h
 obtain ⟨t,rfl⟩:=rx
 exact rule i t s _ _ ⟨.int (g i),H,I.tok _,⟨_,rfl⟩,q⟩
theorem Q71:UnR X (unaryOp .USub) (rU fun i=>.int (-i)):=unI fun _ _ _ _ _ q=>neg_int q
end
noncomputable def Q72:V→V→Bool
 | .non,.non=>true | .non,.int _=>true | .int _,.non=>true | .non,.bl _=>true | .bl _,.non=>true | .non,.str _=>true | .str _,.non=>true
 | .int _,.int _=>true | .bl _,.bl _=>true | .str _,.str _=>true | .byt _,.byt _=>true
 | .int _,.str _=>true | .str _,.int _=>true | .bl _,.str _=>true | .str _,.bl _=>true
 | _,_=>false
noncomputable def rEq:R2:=fun x y H Q=>Q72 x y=true∧Q (.bl (decide (x=y))) H
noncomputable def rNe:R2:=fun x y H Q=>Q72 x y=true∧Q (.bl (!decide (x=y))) H
theorem Qui {i j:Int}:decide (V.int i=V.int j)=(i==j):=by
 rw [Bool.eq_iff_iff]
 simp
theorem Qyc {i j:Bool}:decide (V.bl i=V.bl j)=(i==j):=by
 rw [Bool.eq_iff_iff]
 simp
theorem Quj {i j:Str}:decide (V.str i=V.str j)=(i==j):=by
 rw [Bool.eq_iff_iff]
 simp
theorem Quk {i j:Array UInt8}:decide (V.byt i=V.byt j)=(i.toList==j.toList):=by
 rw [Bool.eq_iff_iff]
 cases i
 cases j
 simp
section
variable {X:Cx} {a b c:Expr} {ta tb tc:TE} {pos:Pos}
theorem Qaw {pins:List (Addr×Obj)} {σ:St} {H:Hp} {s:Shared} {Q:VK} {k k':Bool} (I:Inv X pins σ H s) (q:Q (.bl k) H) (e:k=k'):EP X pins σ Q (.bool k') s:=by
 subst e
 exact ⟨.bl k,H,I,rfl,q⟩
theorem Qab1:OpR X (compareOp .Eq) rEq:=by
 intro pins s σ H x y v u Q I rx ry h
 obtain ⟨hs,q⟩:=h
 cases x with
 | non =>
  cases rx
  cases y with
  | non=>cases ry;exact PySem.EqNone.eq_none_none (Qaw I q (by simp))
  | bl j=>cases ry;exact PySem.EqNone.eq_none_bool (Qaw I q (by simp))
  | int j=>obtain ⟨t',rfl⟩:=ry;exact PySem.EqNone.eq_none_int (Qaw I q (by simp))
  | str j=>obtain ⟨t',rfl⟩:=ry;exact PySem.EqNone.eq_none_str (Qaw I q (by simp))
  | _=>exact absurd (show false=true from hs) Bool.false_ne_true
 | bl i =>
  cases rx
  cases y with
  | non=>cases ry;exact PySem.EqNone.eq_bool_none (Qaw I q (by simp))
  | bl j=>cases ry;exact eq_bool (Qaw I q Qyc)
  | str j=>obtain ⟨t',rfl⟩:=ry;exact PySem.EqMixed.eq_bool_str (Qaw I q (by simp))
  | _=>exact absurd (show false=true from hs) Bool.false_ne_true
 | int i =>
  obtain ⟨t,rfl⟩:=rx
  cases y with
  | non=>cases ry;exact PySem.EqNone.eq_int_none (Qaw I q (by simp))
  | int j=>obtain ⟨t',rfl⟩:=ry;exact eq_int (Qaw I q Qui)
  | str j=>obtain ⟨t',rfl⟩:=ry;exact PySem.EqMixed.eq_int_str (Qaw I q (by simp))
  | _=>exact absurd (show false=true from hs) Bool.false_ne_true
 | str i =>
  obtain ⟨t,rfl⟩:=rx
  cases y with
  | non=>cases ry;exact PySem.EqNone.eq_str_none (Qaw I q (by simp))
  | bl j=>cases ry;exact PySem.EqMixed.eq_str_bool (Qaw I q (by simp))
  | int j=>obtain ⟨t',rfl⟩:=ry;exact PySem.EqMixed.eq_str_int (Qaw I q (by simp))
  | str j=>obtain ⟨t',rfl⟩:=ry;exact eq_str (Qaw I q Quj)
  | _=>exact absurd (show false=true from hs) Bool.false_ne_true
 | byt i =>
  obtain ⟨t,rfl⟩:=rx
  cases y with
  | byt j=>obtain ⟨t',rfl⟩:=ry;exact PySem.W.eq_bytes (Qaw I q Quk)
  | _=>exact absurd (show false=true from hs) Bool.false_ne_true
 | _=>cases y <;> exact absurd (show false=true from hs) Bool.false_ne_true
theorem Qab2:OpR X (compareOp .NotEq) rNe:=by
 intro pins s σ H x y v u Q I rx ry h
 obtain ⟨hs,q⟩:=h
 cases x with
 | non =>
  cases rx
  cases y with
  | non=>cases ry;exact PySem.EqNone.ne_none_none (Qaw I q (by simp))
  | bl j=>cases ry;exact PySem.EqNone.ne_none_bool (Qaw I q (by simp))
  | int j=>obtain ⟨t',rfl⟩:=ry;exact PySem.EqNone.ne_none_int (Qaw I q (by simp))
  | str j=>obtain ⟨t',rfl⟩:=ry;exact PySem.EqNone.ne_none_str (Qaw I q (by simp))
  | _=>exact absurd (show false=true from hs) Bool.false_ne_true
 | bl i =>
  cases rx
  cases y with
  | non=>cases ry;exact PySem.EqNone.ne_bool_none (Qaw I q (by simp))
  | bl j=>cases ry;exact ne_bool (Qaw I q (congrArg not Qyc))
  | str j=>obtain ⟨t',rfl⟩:=ry;exact PySem.EqMixed.ne_bool_str (Qaw I q (by simp))
  | _=>exact absurd (show false=true from hs) Bool.false_ne_true
 | int i =>
  obtain ⟨t,rfl⟩:=rx
  cases y with
  | non=>cases ry;exact PySem.EqNone.ne_int_none (Qaw I q (by simp))
  | int j=>obtain ⟨t',rfl⟩:=ry;exact ne_int (Qaw I q (congrArg not Qui))
  | str j=>obtain ⟨t',rfl⟩:=ry;exact PySem.EqMixed.ne_int_str (Qaw I q (by simp))
  | _=>exact absurd (show false=true from hs) Bool.false_ne_true
 | str i =>
  obtain ⟨t,rfl⟩:=rx
  cases y with
  | non=>cases ry;exact PySem.EqNone.ne_str_none (Qaw I q (by simp))
  | bl j=>cases ry;exact PySem.EqMixed.ne_str_bool (Qaw I q (by simp))
  | int j=>obtain ⟨t',rfl⟩:=ry;exact PySem.EqMixed.ne_str_int (Qaw I q (by simp))
  | str j=>obtain ⟨t',rfl⟩:=ry;exact ne_str (Qaw I q (congrArg not Quj))
  | _=>exact absurd (show false=true from hs) Bool.false_ne_true
 | byt i =>
  obtain ⟨t,rfl⟩:=rx
  cases y with
  | byt j=>obtain ⟨t',rfl⟩:=ry;exact PySem.W.ne_bytes (Qaw I q (congrArg not Quk))
  | _=>exact absurd (show false=true from hs) Bool.false_ne_true
 | _=>cases y <;> exact absurd (show false=true from hs) Bool.false_ne_true
theorem Qab3:OpR X (compareOp .Lt) (rI0 fun i j=>.bl (decide (i<j))):=Q2b fun _ _ _ _ _ _ _ q=>lt_int q
theorem Q5t:OpR X (compareOp .LtE) (rI0 fun i j=>.bl (decide (i≤j))):=Q2b fun _ _ _ _ _ _ _ q=>le_int q
theorem Qab4:OpR X (compareOp .Gt) (rI0 fun i j=>.bl (decide (j<i))):=Q2b fun _ _ _ _ _ _ _ q=>gt_int q
theorem Qab5:OpR X (compareOp .GtE) (rI0 fun i j=>.bl (decide (j≤i))):=Q2b fun _ _ _ _ _ _ _ q=>ge_int q
theorem Qwc:OpR X (compareOp .In) (fun x y H Q=>∃ i j,x=.str i∧y=.str j∧Q (.bl (!(Builtin.Str.occurrences j i 0 j.length 1).isEmpty)) H):=by
 intro pins s σ H x y v u Q I rx ry h
 obtain ⟨i,j,rfl,rfl,q⟩:=h
 obtain ⟨t,rfl⟩:=rx
 obtain ⟨t',rfl⟩:=ry
 exact in_str (Qaw I q rfl)
theorem Q2d:OpR X (compareOp .IsNot) (fun x y H Q=>y=.non∧Q (.bl (!decide (x=.non))) H):=by
 intro pins s σ H x y v u Q I rx ry h
 obtain ⟨rfl,q⟩:=h
 cases ry
 refine isnot_none_gen (Qaw I q ?_)
 cases x <;> first
  | (cases rx;rfl)
  | (obtain ⟨t,rfl⟩:=rx;rfl)
theorem OpR.or {f:Value→Value→Sem Value} {r r':R2} (h:OpR X f r) (h':OpR X f r'):OpR X f (fun x y H Q=>r x y H Q∨r' x y H Q):=by
 intro pins s σ H x y v u Q I rx ry q
 rcases q with q | q
 ·exact h pins s σ H x y v u Q I rx ry q
 ·exact h' pins s σ H x y v u Q I rx ry q
theorem Qor (b:Expr) {op:CmpOp} (h:op≠.In:=by decide) (h2:op≠.NotIn:=by decide):behindInMarks op b=false:=by
 have e1:(op==CmpOp.In)=false:=by cases op <;> first | rfl | exact absurd rfl h
 have e2:(op==CmpOp.NotIn)=false:=by cases op <;> first | rfl | exact absurd rfl h2
 cases b <;> simp [behindInMarks,e1,e2]
theorem Q2e {op:CmpOp} {r:R2} (ho:OpR X (compareOp op) r) (ha:PE X a ta) (hb:PE X b tb) (hm:behindInMarks op b=false):PE X (.Compare a [op] [b] pos) (tOp r ta tb):=by
 intro pins s σ H Q I h
 exact wpAny_Compare1 (Q7v ha hb I h fun v u s2 x y H2 I2 rx ry q=>ho pins s2 σ H2 x y v u Q I2 rx ry q) hm
noncomputable abbrev Qul (t:TE):TT:=fun σ H Q=>t σ H fun x H'=>∃ k,x=.bl k∧Q k H'
theorem Q2f {op:CmpOp} {r:R2} (ho:OpR X (compareOp op) r) (ha:PE X a ta) (hb:PE X b tb) (hm:behindInMarks op b=false):PT X (.Compare a [op] [b] pos) (Qul (tOp r ta tb)):=by
 intro pins s σ H Q I h
 refine wpAny_isTrue_Compare1 (thn (ha pins s σ H _ I h) fun v s1 ⟨x,H1,I1,r1,q1⟩=>thn (hb pins s1 σ H1 _ I1 q1) fun u s2 ⟨y,H2,I2,r2,q2⟩ =>
  thn (ho pins s2 σ H2 x y v u _ I2 r1 r2 q2) fun c s3 ⟨z,H3,I3,r3,k,e,q3⟩=>?_) hm
 subst e
 cases r3
 exact wpAny_truthy_bool ⟨H3,I3,q3⟩
noncomputable abbrev Qyd (r r':R2) (ta tb tc:TE):TE:=fun σ H Q=>ta σ H fun x H1=>tb σ H1 fun y H2=>r x y H2 fun z H3=>∃ k,z=.bl k ∧
 (if k=true then tc σ H3 fun w' H4=>r' y w' H4 Q else Q (.bl false) H3)
theorem Qye {op op':CmpOp} {r r':R2} (ho:OpR X (compareOp op) r) (ho':OpR X (compareOp op') r') (ha:PE X a ta) (hb:PE X b tb) (hc:PE X c tc)
  (hm:lastMarks [op,op'] [b,c]=false:=by with_unfolding_all rfl):PT X (.Compare a [op,op'] [b,c] pos) (Qul (Qyd r r' ta tb tc)):=by
 intro pins s σ H Q I h
 refine isTrue_chain (thn (ha pins s σ H _ I h) fun v s1 ⟨x,H1,I1,r1,q1⟩=>test_link (thn (hb pins s1 σ H1 _ I1 q1) fun u s2 ⟨y,H2,I2,r2,q2⟩ =>
  thn (ho pins s2 σ H2 x y v u _ I2 r1 r2 q2) fun d s3 ⟨z,H3,I3,r3,k,e,q3⟩=>?_)) hm
 subst e
 cases r3
 refine wpAny_truthy_bool ?_
 cases k with
 | false =>
  obtain ⟨k',e',q'⟩:=q3
  cases e'
  exact ite_ff ⟨H3,I3,q'⟩
 | true =>
  refine ite_tt (test_last (thn (hc pins s3 σ H3 _ I3 q3) fun w' s4 ⟨z',H4,I4,r4,q4⟩=>thn (ho' pins s4 σ H4 y z' u w' _ I4 r2 r4 q4) fun d' s5 ⟨z2,H5,I5,r5,k2,e2,q5⟩=>?_))
  subst e2
  cases r5
  exact wpAny_truthy_bool ⟨H5,I5,q5⟩
theorem Qjt:(sizeLine:Nat)<2^63:=by rw [sizeLine_eq];decide
theorem Qsw:OpR X (binaryOp .Add) (fun x y H Q=>∃ i j,x=.str i∧y=.str j∧i.length+j.length≤sizeLine∧Q (.str (i++j)) H):=by
 intro pins s σ H x y v u Q I rx ry h
 obtain ⟨i,j,rfl,rfl,hz,q⟩:=h
 obtain ⟨t,rfl⟩:=rx
 obtain ⟨t',rfl⟩:=ry
 exact add_str (fun t' tk=>⟨.str (i++j),H,I.tok _,⟨_,rfl⟩,q⟩) hz
theorem Qfs {x:V} {us:List Value} (r:Vals [x] us):∃ u,us=[u]∧RelV x u:=by
 cases r with
 | cons r1 r2=>cases r2;exact ⟨_,rfl,r1⟩
theorem Qum {x y:V} {us:List Value} (r:Vals [x,y] us):∃ u w',us=[u,w']∧RelV x u∧RelV y w':=by
 cases r with
 | cons r1 r2 =>
  cases r2 with
  | cons r3 r4=>cases r4;exact ⟨_,_,rfl,r1,r3⟩
theorem Qyf:CallR X (.builtin "abs") (fun xs H Q=>∃ i,xs=[.int i]∧Q (.int (if i<0 then -i else i)) H):=by
 intro pins s σ H xs us Q I r h
 obtain ⟨i,rfl,q⟩:=h
 obtain ⟨u,rfl,t,rfl⟩:=Qfs r
 exact call_abs_int fun u tk=>⟨.int (if i<0 then -i else i),H,I.tok _,⟨_,rfl⟩,q⟩
theorem Qwd (hc:X.calm=true):CallR X (.builtin "max") (fun xs H Q=>∃ i j,xs=[.int i,.int j]∧Q (.int (if j>i then j else i)) H):=by
 intro pins s σ H xs us Q I r h
 obtain ⟨i,j,rfl,q⟩:=h
 obtain ⟨u,w',rfl,⟨t,rfl⟩,⟨t',rfl⟩⟩:=Qum r
 refine max_two_ints (I.ok.hd hc) fun h' tk k=>⟨_,H,I.kept k,?_,q⟩
 by_cases hj:j>i
 ·rw [if_pos hj,if_pos hj];exact ⟨_,rfl⟩
 ·rw [if_neg hj,if_neg hj];exact ⟨_,rfl⟩
theorem Qwe:CallR X (.type "int") (fun xs H Q=>(∃ i,xs=[.int i]∧Q (.int i) H)∨∃ k,xs=[.bl k]∧Q (.int (if k then 1 else 0)) H):=by
 intro pins s σ H xs us Q I r h
 rcases h with ⟨i,rfl,q⟩ | ⟨k,rfl,q⟩
 ·obtain ⟨u,rfl,t,rfl⟩:=Qfs r
  exact call_int_int ⟨.int i,H,I,⟨_,rfl⟩,q⟩
 ·obtain ⟨u,rfl,r1⟩:=Qfs r
  cases r1
  exact call_int_bool ⟨.int (if k then 1 else 0),H,I.tok _,⟨_,rfl⟩,q⟩
theorem Qos:CallR X (.type "str") (fun xs H Q=>∃ i,xs=[.int i]∧i.natAbs.log2<1920∧Q (.str (toString i)) H):=by
 intro pins s σ H xs us Q I r h
 obtain ⟨i,rfl,hz,q⟩:=h
 obtain ⟨u,rfl,t,rfl⟩:=Qfs r
 exact PySem.P.str_of_int hz ⟨.str _,H,I.tok _,⟨_,rfl⟩,q⟩
end
structure ObjM (h:Heap) (x dx C:Addr) (mA:Str→Option Value):Prop where
 obj:h.get? x=some (PySem.W.instObj C dx)
 ns:h.Ns1 dx mA
 ne:dx≠x
theorem Qwf {h:Heap} {dx:Addr} {mA:Str→Option Value} (n:h.Ns1 dx mA):∃ od,h.get? dx=some od∧∀ name,PySem.W.lookIn name od=some (mA name):=by
 obtain ⟨o,es,ep,ho,hd,hk,_,hm⟩:=n
 refine ⟨o,ho,fun name=>?_⟩
 have e:=hm name
 unfold nsFind findBy at e
 rw [←Array.find?_toList] at e
 unfold PySem.W.lookIn
 rw [hd]
 dsimp only
 split
 ·rename_i y q
  rw [q] at e
  exact congrArg some e
 ·rename_i q
  rw [q] at e
  have a:es.toList.any (·.refKey)=false:=by
   rw [List.any_eq_false]
   intro y hy
   obtain ⟨z,t,hkey⟩:=hk y (Array.mem_toList_iff.mp hy)
   simp [DictEntry.refKey,hkey]
  have a':¬ es.toList.any (·.refKey)=true:=by rw [a];exact Bool.false_ne_true
  rw [if_neg a']
  exact congrArg some e
theorem ObjM.look {h:Heap} {x dx C:Addr} {mA:Str→Option Value} (I:ObjM h x dx C mA):∃ od,PySem.W.InstAt h x (PySem.W.instObj C dx) C (some od)∧∀ name,PySem.W.lookIn name od=some (mA name) :=
 let ⟨od,ho,hl⟩:=Qwf I.ns
 ⟨od,⟨I.obj,rfl,rfl,ho⟩,hl⟩
section
variable {prog:Program} {w:World} {A:Around} {E:Value→Shared→Prop} {s:Shared} {K:PySem.W.Frag} {x dx C f:Addr} {mA:Str→Option Value} {name:Str} {v:Value}
end
section
variable {P:Program} {w:World} {H H':Hp} {h h':Heap} {a C dx:Addr} {fs fs':List (Str×V)}
theorem Q2g (hok:HOk P w H h) (e:H a=some (.ins C dx fs)):∃ mA,ObjM h a dx C mA∧(∀ f,Q7a (fs.lookup f) (mA f))∧PySem.Within mA (fs.map (·.1))∧fs.length≤1000∧H dx=some (.own a):=by
 obtain ⟨d,z,ne,ob,mA,n,r,q⟩:=(show ObjOk P w H h a (.ins C dx fs) from hok a _ e)
 exact ⟨mA,⟨ob,n,ne⟩,r,q,z,d⟩
end
structure Cls (K:PySem.W.Frag) (C:Addr):Prop where
 pg:PySem.W.plainGet K C Str.empty=true
 hd:PySem.W.hasDictIn K C=true
 po:PySem.W.plainOver K C=true
 sa:PySem.W.findIn K (.ref C) "__setattr__" = some (some (.builtin "object.__setattr__"))
theorem Cls.get {K:PySem.W.Frag} {C:Addr} (c:Cls K C) (f:Str):PySem.W.plainGet K C f=true:=c.pg
structure Con (K:PySem.W.Frag) (C:Addr) (f:Str) (v:V) (u:Value):Prop where
 at_:PySem.W.findIn K (.ref C) f=some (some u)
 rel:RelV v u
 get:PySem.W.specialIn K u "__get__" = some none
 cp:PySem.W.copiedNames.contains f=false
structure Meth (K:PySem.W.Frag) (C:Addr) (m:Str) (f:Addr):Prop where
 at_:PySem.W.findIn K (.ref C) m=some (some (.ref f))
 fn:PySem.W.isFn K (.ref f)=true
 kp:PySem.W.keepIn K (.ref f)=true
section
variable {X:Cx} {pins:List (Addr×Obj)} {σ:St} {H:Hp} {s:Shared} {a C dx:Addr} {fs:List (Str×V)} {f:Str} {v:V} {A:Around} {E:Value→Shared→Prop}
theorem Q2h {prog:Program} {w:World} {env:Env} {e:Expr} {f:Str} {pos:Pos} {s:Shared} {Q:Value→Shared→Prop} (hb:attributeBase e f env (eval e env)=eval e env)
  (h:wpAny (model prog w) A (eval e env) (fun o s₁=>wpAny (model prog w) A (getAttr o f true) Q E s₁) E s):wpAny (model prog w) A (eval (.Attribute e f pos) env) Q E s :=
 Attribute_any_ h (by rw [arm_eval_Attribute,hb])
end
section
variable {X:Cx} {o e value:Expr} {f:Str} {pos pos' tpos:Pos} {ta tv:TE}
end
section
variable {X:Cx} {pins:List (Addr×Obj)} {σ:St} {H:Hp} {s:Shared} {A:Around} {E:Value→Shared→Prop} {Q:Value→Shared→Prop} {c:Value} {b:Bool}
inductive TyOf (K:PySem.W.Frag) (H:Hp):V→Value→Prop where
 | non:TyOf K H .non (.type "NoneType")
 | bl (x:Bool):TyOf K H (.bl x) (.type "bool")
 | int (i:Int):TyOf K H (.int i) (.type "int")
 | str (x:Str):TyOf K H (.str x) (.type "str")
 | flt (x:UInt64):TyOf K H (.flt x) (.type "float")
 | lst {a:Addr} {xs:List V} (e:H a=some (.lst xs)):TyOf K H (.ref a) (.type "list")
 | frz {a:Addr} {o:Obj} {xs:List V} (e:H a=some (.frz o (.lst xs))):TyOf K H (.ref a) (.type "list")
 | tup {a:Addr} {xs:List V} (e:H a=some (.tup xs)):TyOf K H (.ref a) (.type "tuple")
 | dK {a:Addr} {kvs:List (Key×V)} (e:H a=some (.dK kvs)):TyOf K H (.ref a) (.type "dict")
 | dT {a:Addr} {kvs:List (List Key×V)} (e:H a=some (.dT kvs)):TyOf K H (.ref a) (.type "dict")
 | ins {a C dx:Addr} {fs:List (Str×V)} (e:H a=some (.ins C dx fs)) (cl:Cls K C) (ha:PySem.W.findIn K (.ref C) "__class__" = some (some (.builtin "object.__class__")))
   (hn:PySem.W.specialIn K (.builtin "object.__class__") "__get__" = some (some (.builtin "getset_descriptor.__get__"))) (htk:PySem.W.takesIn K (.builtin "object.__class__")=some true)
   (hm:PySem.W.mroIn K C (.type "object")=some true):TyOf K H (.ref a) (.ref C)
theorem Qwg {x:V} {u t:Value} (I:Inv X pins σ H s) (rx:RelV x u) (ty:TyOf X.K H x t) (e:PySem.W.kitOne X.K t c=some b) (h:∀ tk,Q (.bool b) { s with toks:=tk }) :
  wpAny (model X.prog X.w) A (call (.builtin "isinstance") [u,c]) Q E s:=by
 cases ty with
 | non=>cases (show u=Value.none from rx);exact PySem.W.kia_one PySem.W.kitx_none I.kIn True.intro e (fun z=>nomatch z) h
 | bl y=>cases (show u=Value.bool y from rx);exact PySem.W.kia_one PySem.W.kitx_bool I.kIn True.intro e (fun z=>nomatch z) h
 | int i=>obtain ⟨t,q⟩:=(show ∃ t,u=Value.int i t from rx);cases q;exact PySem.W.kia_one PySem.W.kitx_int I.kIn True.intro e (fun z=>nomatch z) h
 | str y=>obtain ⟨t,q⟩:=(show ∃ t,u=Value.str y t from rx);cases q;exact PySem.W.kia_one PySem.W.kitx_str I.kIn True.intro e (fun z=>nomatch z) h
 | flt y=>obtain ⟨t,q⟩:=(show ∃ t,u=Value.float y t from rx);cases q;exact PySem.W.kia_one PySem.W.kitx_float I.kIn True.intro e (fun z=>nomatch z) h
 | @lst a xs ea =>
  cases (show u=Value.ref a from rx)
  obtain ⟨_,_,n,_,h1⟩:=(show ObjOk X.prog X.w H s.heap a (.lst xs) from I.hok a _ ea)
  exact PySem.W.kia_one PySem.W.kitx_list I.kIn ⟨_,h1,rfl⟩ e (fun z=>nomatch z) h
 | @frz a ob xs ea =>
  cases (show u=Value.ref a from rx)
  obtain ⟨_,_,_,n,_,h1⟩:=(show ObjOk X.prog X.w H s.heap a (.frz ob (.lst xs)) from I.hok a _ ea)
  exact PySem.W.kia_one PySem.W.kitx_list I.kIn ⟨_,h1,rfl⟩ e (fun z=>nomatch z) h
 | @tup a xs ea =>
  cases (show u=Value.ref a from rx)
  obtain ⟨_,_,_,p⟩:=(show ObjOk X.prog X.w H s.heap a (.tup xs) from I.hok a _ ea)
  obtain ⟨o,h1,h2,_⟩:=p
  exact PySem.W.kia_one PySem.W.kitx_tuple I.kIn ⟨o,h1,h2⟩ e (fun z=>nomatch z) h
 | @dK a kvs ea =>
  cases (show u=Value.ref a from rx)
  obtain ⟨_,_,vs,_,p⟩:=(show ObjOk X.prog X.w H s.heap a (.dK kvs) from I.hok a _ ea)
  obtain ⟨o,es,ep,h1,h2,_⟩:=p
  exact PySem.W.kia_one PySem.W.kitx_dict I.kIn ⟨o,h1,h2.1⟩ e (fun z=>nomatch z) h
 | @dT a kvs ea =>
  cases (show u=Value.ref a from rx)
  obtain ⟨_,_,xs,_,o,es,ep,h1,h2,_⟩:=(show ObjOk X.prog X.w H s.heap a (.dT kvs) from I.hok a _ ea)
  exact PySem.W.kia_one PySem.W.kitx_dict I.kIn ⟨o,h1,h2.1⟩ e (fun z=>nomatch z) h
 | @ins a C dx fs ea cl ha hn htk hm =>
  cases (show u=Value.ref a from rx)
  obtain ⟨mA,O,_⟩:=Q2g I.hok ea
  obtain ⟨od,J,_⟩:=O.look
  exact PySem.W.kia_one (PySem.W.kitx_own (cl.get _) cl.hd ha hn htk hm) I.kIn J e (fun z=>nomatch z) h
end
structure Room (k:Nat) (A:Around):Prop where
 hd:A.handled=none
 dp:A.depth+3*k+5<recursionLimit
 un:A.units+16*k+200<cLine
 gd:A.guards=some []
theorem Room.mono {j k:Nat} {A:Around} (r:Room k A) (h:j≤k):Room j A:=⟨r.hd,by have:=r.dp;omega,by have:=r.un;omega,r.gd⟩
theorem Room.deeper {k:Nat} {A:Around} (r:Room (k+1) A) (env:Env):Room k (A.deeper env) :=
 ⟨r.hd,by have:=r.dp;show A.depth+1+3*k+5<_;omega,by have:=r.un;show A.units+3+16*k+200<_;omega,r.gd⟩
theorem Room.depth {k:Nat} {A:Around} (r:Room k A):A.depth<recursionLimit:=by have:=r.dp;omega
theorem Room.units {k:Nat} {A:Around} (r:Room k A):A.units+64<cLine:=by have:=r.un;omega
noncomputable abbrev Qp9:TA:=fun _ H Q=>Q [] H
noncomputable abbrev Qh7 (ta:TE) (tr:TA):TA:=fun σ H Q=>ta σ H fun x H1=>tr σ H1 fun xs H2=>Q (x::xs) H2
section
variable {X:Cx} {e:Expr} {es:List Expr} {te:TE} {t:TA} {pos:Pos}
theorem Qyg:PA X [] Qp9:=fun _ _ _ _ H Q I h=>Calls.spliced_nil ⟨[],H,I,.nil,h⟩
theorem Q2i (ha:PE X e te) (hr:PA X es t) (hs:starEach (e::es) X.env=(false,eval e X.env)::starEach es X.env:=by rfl):PA X (e::es) (Qh7 te t):=by
 intro pos pins s σ H Q I h
 rw [hs]
 show wpAny _ _ (spliced ((false,eval e X.env)::backTo pos (starEach es X.env))) _ _ s
 refine Calls.spliced_cons (thn (ha pins s σ H _ I h) fun u s1 ⟨x,H1,I1,r1,q1⟩=>?_)
 exact thn (hr pos pins s1 σ H1 _ I1 q1) fun us s2 ⟨xs,H2,I2,r2,q2⟩=>⟨x::xs,H2,I2,.cons r1 r2,q2⟩
noncomputable abbrev tTup (t:TA):TE:=fun σ H Q=>t σ H fun xs H1=>xs.length≤sizeLine∧∀ p,H1 p=none→Q (.ref p) (upd H1 p (.tup xs))
noncomputable abbrev tLst (t:TA):TE:=fun σ H Q=>t σ H fun xs H1=>xs.length≤sizeLine∧∀ p,H1 p=none→Q (.ref p) (upd H1 p (.lst xs))
theorem Q73 {x1} (h:PA X es t):PE X (.Tuple es x1 pos) (tTup t):=by
 intro pins s σ H Q I hq
 refine wpAny_Tuple_spliced (thn (h pos pins s σ H _ I hq) fun us s1 ⟨xs,H1,I1,r,z,q⟩=>⟨by rw [←r.length];exact z,?_⟩)
 have hf:H1 s1.heap.objs.size=none:=I1.hok.fresh (Nat.le_refl _)
 refine ⟨.ref s1.heap.objs.size,upd H1 s1.heap.objs.size (.tup xs),I1.laid (t':=s1.toks) (fun b u e=>Heap.get?_push_of_some _ e) (Nat.le_refl _) ?_,rfl,q _ hf⟩
 exact ⟨z,us,r,⟨_,Heap.get?_push_size _ rfl,rfl,_,rfl,rfl⟩⟩
theorem Qyh (h:PA X es t):PE X (.List es pos) (tLst t):=by
 intro pins s σ H Q I hq
 refine wpAny_List_spliced (thn (h pos pins s σ H _ I hq) fun us s1 ⟨xs,H1,I1,r,z,q⟩=>⟨by rw [←r.length];exact z,?_⟩)
 have hf:H1 s1.heap.objs.size=none:=I1.hok.fresh (Nat.le_refl _)
 refine ⟨.ref s1.heap.objs.size,upd H1 s1.heap.objs.size (.lst xs),I1.laid (t':=s1.toks) (fun b u e=>Heap.get?_push_of_some _ e) (Nat.le_refl _) ?_,rfl,q _ hf⟩
 exact ⟨z,us,0,r,Heap.get?_push_size _ rfl⟩
end
noncomputable abbrev Sp:=List V→Hp→VK→XK→Prop
noncomputable abbrev CXT:=List Env→Hp→Shared→XK→Value→Shared→Prop
structure Env0 (P:Program) (w:World) (K:PySem.W.Frag) (mg:Str→Option Value) (base:Heap) (A:Around) (outer:List Env) (s:Shared) (H:Hp):Prop where
 frames:A.frames=some outer
 mod:Mod K mg base
 bs:∀ b o,base.get? b=some o→s.heap.get? b=some o∧H b=none
 bsz:base.objs.size≤s.heap.objs.size
 funs:s.heap.FunFrames base outer
 frf:(∀ b∈frs outer,H b=none)∧Qxy K H
 hok:HOk P w H s.heap
 bare:AllBare s.gens
noncomputable def CE (outer:List Env) (P:Program) (w:World) (H:Hp) (s:Shared) (Q:VK) (u:Value) (s':Shared):Prop :=
 ∃ v H',s'.os=s.os∧AllBare s'.gens∧Un (frs outer) [] H H' s.heap s'.heap∧HOk P w H' s'.heap∧RelV v u∧Q v H'
noncomputable def CR (CX:CXT) (outer:List Env) (P:Program) (w:World) (H:Hp) (s:Shared) (Q:VK) (E:XK) (r:Result) (s':Shared):Prop :=
 match r with
 | .ok (.ret u)=>CE outer P w H s Q u s'
 | .ok _=>False
 | .error e=>CX outer H s E e s'
structure FnOk (P:Program) (w:World) (K:PySem.W.Frag) (mg:Str→Option Value) (base:Heap) (CX:CXT) (k:Nat) (f:Addr) (fd:FuncData) (ps:List Str) (sp:Sp):Prop where
 len:∀ vs H Q E,sp vs H Q E→vs.length=ps.length
 run:∀ (A:Around) (outer:List Env) (s:Shared) (H:Hp) (args:Args) (us:List Value) (vs:List V) (Q:VK) (E:XK),Room k A→Env0 P w K mg base A outer s H→BindsTo s fd args (ps.zip us)→Vals vs us→sp vs H Q E →
  codeAny (model P w) A (.call (.ref f) args) (CR CX outer P w H s Q E) s
theorem FnOk.mono {P:Program} {w:World} {K:PySem.W.Frag} {mg:Str→Option Value} {base:Heap} {CX:CXT} {j k:Nat} {f:Addr} {fd:FuncData} {ps:List Str} {sp:Sp} (F:FnOk P w K mg base CX j f fd ps sp) (h:j≤k) :
  FnOk P w K mg base CX k f fd ps sp:=⟨F.len,fun A outer s H args us vs Q E hr=>F.run A outer s H args us vs Q E (hr.mono h)⟩
section
variable {X:Cx} {pins:List (Addr×Obj)} {σ:St} {H:Hp} {s s':Shared}
theorem Inv.env0 (I:Inv X pins σ H s):Env0 X.prog X.w X.K X.mg X.base X.A X.stack s H :=
 ⟨I.ok.frames,I.ok.mod,I.bs,Nat.le_trans I.ok.bsz I.sz,I.stack,⟨I.stkFree,I.tab⟩,I.hok,I.bare⟩
theorem Inv.after {Q:VK} {u:Value} (I:Inv X pins σ H s) (h:CE X.stack X.prog X.w H s Q u s'):EP X pins σ Q u s':=by
 obtain ⟨v,H',os,bare,un,hok,r,q⟩:=h
 obtain ⟨hh,g,d,t,os'⟩:=s'
 obtain rfl:os'=s.os:=os
 exact ⟨v,H',I.call (h':=hh) (g':=g) (d':=d) (t':=t) (ch:=[]) un hok bare (fun b z=>absurd z (by simp)),r,q⟩
end
noncomputable abbrev Qko (sp:Sp) (dvs:List V) (E:XK) (t:TA):TE:=fun σ H Q=>t σ H fun vs H1=>sp (vs++dvs) H1 Q E
noncomputable def Binds (K:PySem.W.Frag) (fd:FuncData) (ps:List Str) (ds:List Value):Prop :=
 ∀ (s:Shared) (us:List Value),K.In s.heap→(us++ds).length=ps.length→BindsTo s fd ⟨us,[]⟩ (ps.zip (us++ds))
theorem Binds.all {K:PySem.W.Frag} {fd:FuncData} {ps:List Str} (h:∀ us:List Value,us.length=ps.length→bindArgs fd ⟨us,[]⟩=pure (ps.zip us)):Binds K fd ps []:=fun s us _ hl=>by
 rw [List.append_nil] at hl ⊢
 exact .of_eq (h us hl)
noncomputable def Qsx (CX:CXT) (X:Cx) (E:XK):Prop:=∀ (pins:List (Addr×Obj)) (σ:St) (H:Hp) (s:Shared) (e:Value) (s':Shared),Inv X pins σ H s→CX X.stack H s E e s'→X.xe e s'
section
variable {X:Cx} {CX:CXT} {k:Nat} {f C:Addr} {fd:FuncData} {ps:List Str} {sp:Sp} {dvs:List V} {ds:List Value} {E:XK} {x m:Str} {p pos apos:Pos} {e o:Expr} {es:List Expr} {ta:TE} {t:TA}
theorem Q74 {pins:List (Addr×Obj)} {σ:St} {H:Hp} {s:Shared} {Q:VK} {us:List Value} {vs:List V} (F:FnOk X.prog X.w X.K X.mg X.base CX k f fd ps sp) (hr:Room k X.A) (hb:Binds X.K fd ps ds) (hd:Vals dvs ds) (hx:Qsx CX X E)
  (I:Inv X pins σ H s) (r:Vals vs us) (h:sp (vs++dvs) H Q E):wpAny (model X.prog X.w) X.A (call (.ref f) us) (EP X pins σ Q) X.xe s:=by
 have r2:Vals (vs++dvs) (us++ds):=r.append hd
 have hl:(us++ds).length=ps.length:=by rw [←r2.length];exact F.len _ _ _ _ h
 refine wpAny_call (codeAny_mono (F.run X.A X.stack s H ⟨us,[]⟩ (us++ds) (vs++dvs) Q E hr I.env0 (hb s us I.kIn hl) r2 h) fun r s' hq=>?_)
 cases r with
 | error e=>exact hx pins σ H s e s' I hq
 | ok fl =>
  cases fl with
  | ret u=>exact I.after hq
  | next=>exact False.elim hq
  | brk=>exact False.elim hq
  | cont=>exact False.elim hq
theorem Q2j (F:FnOk X.prog X.w X.K X.mg X.base CX k f fd ps sp) (hr:Room k X.A) (hg:Gl X x) (hm:X.mg x=some (.ref f)) (hk:PySem.W.keepIn X.K (.ref f)=true) (hb:Binds X.K fd ps ds) (hd:Vals dvs ds) (hx:Qsx CX X E)
  (ha:PA X (e::es) t) (hdb:(x==("__debug__" : Str))=false:=by decide) (he:starEach (e::es) X.env=(false,eval e X.env)::starEach es X.env:=by rfl) (hpl:(backTo pos (starEach es X.env)).any (·.1)=false:=by rfl) :
  PE X (.Call (.Name x p) (e::es) [] pos) (Qko sp dvs E t):=by
 intro pins s σ H Q I h
 refine wpAny_Call_Name_kw (Qf4 I hg hm ?_ hdb)
 refine PySem.W.callWith_K (h₀:=X.base) I.ok.mod.kin hk (thn (ha pos pins s σ H _ I h) fun us s1 ⟨vs,H1,I1,r,q⟩=>⟨I1.kIn,?_⟩) he hpl
 exact Q74 F hr hb hd hx I1 r q
structure Mk (K:PySem.W.Frag) (C f:Addr):Prop where
 makes:PySem.W.makesIn K C=true
 init:PySem.W.findIn K (.ref C) "__init__" = some (some (.ref f))
 fn:PySem.W.isFn K (.ref f)=true
 kp:PySem.W.keepIn K (.ref C)=true
end
section
variable {X:Cx} {CX:CXT} {k:Nat} {f C:Addr} {fd:FuncData} {ps ks:List Str} {sp:Sp} {E:XK} {x m:Str} {p pos apos kpos:Pos} {e o:Expr} {es:List Expr} {kws:List Keyword} {te ta:TE} {t tk:TA} {nm:Option Str}
structure KBinds (K:PySem.W.Frag) (fd:FuncData) (ps ks:List Str) (g:List Value→List Value→List Value) (gV:List V→List V→List V):Prop where
 to:∀ (s:Shared) (us ws:List Value),K.In s.heap→(g us ws).length=ps.length→BindsTo s fd ⟨us,ks.zip ws⟩ (ps.zip (g us ws))
 rel:∀ {vs:List V} {us:List Value} {zs:List V} {ws:List Value},Vals vs us→Vals zs ws→Vals (gV vs zs) (g us ws)
variable {g:List Value→List Value→List Value} {gV:List V→List V→List V}
end
structure FnScope (N P:List Str) (sc:Scope):Prop where
 kind:sc.kind=.function
 co:sc.isCoroutine=false
 gen:sc.isGenerator=false
 nd:N.Nodup
 pre:N.take P.length=P
 par:∀ x∈P,sc.names.lookup x=some .local∨sc.names.lookup x=some .cell
 nofree:∀ y∈sc.names,y.2≠.free
theorem Qnr {kindOf:Str→Option NameKind} {x:Str}:∀ {binds:List (Str×Value)} {m:Str→Option Value},(∀ v,(x,v)∉binds)→bindL kindOf binds m x=m x
 | [],_,_=>rfl
 | (n,v)::r,m,h=>by
  unfold bindL
  rw [Qnr fun w hw=>h w (List.mem_cons_of_mem _ hw)]
  split
  ·have:x≠n:=by rintro rfl;exact h v List.mem_cons_self
   simp [this]
  ·rfl
theorem Qns {kindOf:Str→Option NameKind} {x:Str}:∀ {binds:List (Str×Value)} {m:Str→Option Value},(∀ v,(x,v)∉binds)→bindC kindOf binds m x=m x
 | [],_,_=>rfl
 | (n,v)::r,m,h=>by
  unfold bindC
  rw [Qns fun w hw=>h w (List.mem_cons_of_mem _ hw)]
  split
  ·rfl
  ·have:x≠n:=by rintro rfl;exact h v List.mem_cons_self
   simp [this]
theorem Qft {kindOf:Str→Option NameKind} {x:Str} {v:Value}:∀ {P:List Str} {vs:List Value} {i:Nat} {m:Str→Option Value},P.Nodup→P[i]?=some x→vs[i]?=some v→kindOf x=some .local →
  bindL kindOf (P.zip vs) m x=some v
 | [],_,_,_,_,h,_,_=>by simp at h
 | _::_,[],_,_,_,_,h,_=>by simp at h
 | p::P,w::vs,0,m,nd,h1,h2,hk=>by
  simp at h1 h2;subst h1;subst h2
  show bindL kindOf ((p,w)::P.zip vs) m p=_
  unfold bindL
  rw [Qnr fun v hv=>(List.nodup_cons.mp nd).1 (List.of_mem_zip hv).1,if_pos hk]
  simp
 | p::P,w::vs,i+1,m,nd,h1,h2,hk=>by
  show bindL kindOf ((p,w)::P.zip vs) m x=_
  unfold bindL
  exact Qft (i:=i) (List.nodup_cons.mp nd).2 (by simpa using h1) (by simpa using h2) hk
theorem Qju {kindOf:Str→Option NameKind} {x:Str} {v:Value}:∀ {P:List Str} {vs:List Value} {i:Nat} {m:Str→Option Value},P.Nodup→P[i]?=some x→vs[i]?=some v→kindOf x≠some .local →
  bindC kindOf (P.zip vs) m x=some v
 | [],_,_,_,_,h,_,_=>by simp at h
 | _::_,[],_,_,_,_,h,_=>by simp at h
 | p::P,w::vs,0,m,nd,h1,h2,hk=>by
  simp at h1 h2;subst h1;subst h2
  show bindC kindOf ((p,w)::P.zip vs) m p=_
  unfold bindC
  rw [Qns fun v hv=>(List.nodup_cons.mp nd).1 (List.of_mem_zip hv).1,if_neg hk]
  simp
 | p::P,w::vs,i+1,m,nd,h1,h2,hk=>by
  show bindC kindOf ((p,w)::P.zip vs) m x=_
  unfold bindC
  exact Qju (i:=i) (List.nodup_cons.mp nd).2 (by simpa using h1) (by simpa using h2) hk
noncomputable def Qbs (N:List Str) (vs:List V):St:=vs.map some++List.replicate (N.length-vs.length) none
noncomputable def Qh2 (g:Str→Bool) (CX:CXT) (P:Program) (w:World) (K:PySem.W.Frag) (mg:Str→Option Value) (base:Heap) (N:List Str) (qual:Str) (scope:Scope) (f:Addr) (cd:Value) (A:Around) (outer:List Env) (s:Shared) (H:Hp) (E:XK):Cx where
 prog:=P
 w:=w
 K:=K
 mg:=mg
 base:=base
 A:=A.deeper (envOfC qual scope s.heap.objs.size f cd)
 N:=N
 s₀:=s
 H₀:=H
 env:=envOfC qual scope s.heap.objs.size f cd
 outer:=outer
 stack:=envOfC qual scope s.heap.objs.size f cd::outer
 ex:=[]
 calm:=true
 fn:=g
 pn:=[]
 xe:=fun e s'=>wpAny (model P w) (A.deeper (envOfC qual scope s.heap.objs.size f cd)) (leaving (envOfC qual scope s.heap.objs.size f cd) e) (fun _ s''=>CX outer H s E e s'') (fun e' s''=>CX outer H s E e' s'') s'
theorem Qiw {sc:Scope} {n:Nat} {x:Str} (h:sc.names.lookup x=some .cell):∃ c,(cellsFrom n sc.names []).lookup x=some c:=by
 have q:=PySem.W.cellsFrom_some sc.names n [] (.inl h)
 exact Option.isSome_iff_exists.mp q
theorem Qwh {g:Str→Bool} {CX:CXT} {P:Program} {w:World} {K:PySem.W.Frag} {mg:Str→Option Value} {base:Heap} {N ps:List Str} {qual:Str} {scope:Scope} {f:Addr} {cd:Value} {A:Around} {outer:List Env} {s s1:Shared} {H:Hp} {E:XK} {us:List Value} {vs:List V}
  (S:FnScope N ps scope) (hd:A.handled=none) (e0:Env0 P w K mg base A outer s H) (hl:vs.length=ps.length) (r:Vals vs us)
  (x:InCallC s s.heap.objs.size (bindL (envOfC qual scope s.heap.objs.size f cd).kindOf (ps.zip us) fun _=>none) (cellsFrom (s.heap.objs.size+1) scope.names []) (bindC (envOfC qual scope s.heap.objs.size f cd).kindOf (ps.zip us) fun _=>none) s1) :
  Inv (Qh2 g CX P w K mg base N qual scope f cd A outer s H E) [] (Qbs N vs) H s1:=by
 have hpl:ps.length≤N.length:=by have:=congrArg List.length S.pre;rw [List.length_take] at this;omega
 obtain ⟨h1,tk,rfl,hk⟩:=x.done
 have noA:∀ b:Addr,b∉(Qh2 g CX P w K mg base N qual scope f cd A outer s H E).ex:=fun b z=>absurd (show b∈([]:List Addr) from z) (by simp)
 refine ⟨⟨e0.mod,S.kind,rfl,rfl,Nat.le_refl _,fun y z c h1 h2=>?_,fun y hy=>?_,fun y c _ h=>?_,fun _=>hd,Around.frames_deeper e0.frames,.inr ⟨rfl,rfl⟩,fun b z=>absurd z (noA b),e0.bs,e0.bsz,fun b _ _=>noA b,fun b z=>absurd z (noA b),e0.funs,e0.frf⟩,
  rfl,e0.bare,Un.kept hk,⟨_,x.toInCall.ns,fun i y v h1 h2 h3=>?_⟩,fun y c h=>⟨_,x.cell y c h⟩,e0.hok.fresh (Nat.le_refl _),fun y c h=>?_,fun p hp=>absurd (show p∈([]:List (Addr×Obj)) from hp) (by simp),e0.hok.kept hk,?_⟩
 ·exact name_of_addr x.apart (PySem.mem_of_lookup h1) (PySem.mem_of_lookup h2)
 ·have hy:scope.names.lookup y=some .cell∨scope.names.lookup y=some .free:=hy
  rcases hy with hy | hy
  ·exact Qiw hy
  ·exact absurd rfl (S.nofree _ (PySem.mem_of_lookup hy))
 ·exact Nat.le_of_lt (x.above y c (PySem.mem_of_lookup h))
 ·have hi:i<vs.length:=by
   unfold Qbs at h2
   by_cases hi:i<vs.length
   ·exact hi
   ·rw [List.getElem?_append_right (by simpa using hi)] at h2
    rw [List.getElem?_replicate] at h2
    split at h2 <;> cases h2
  have ha:vs[i]?=some v:=by
   unfold Qbs at h2
   rw [List.getElem?_append_left (by simpa using hi),List.getElem?_map] at h2
   cases e:vs[i]? with
   | none=>rw [e] at h2;cases h2
   | some a=>rw [e] at h2;cases h2;rfl
  obtain ⟨u,hu,rv⟩:=r.get ha
  have hp:ps[i]?=some y:=by
   rw [←S.pre,List.getElem?_take_of_lt (by omega)];exact h1
  have ndP:ps.Nodup:=by rw [←S.pre];exact S.nd.sublist (List.take_sublist _ _)
  refine ⟨u,rv,?_⟩
  rcases S.par y (List.mem_of_getElem? hp) with k | k
  ·exact .inl ⟨k,Qft ndP hp hu k⟩
  ·obtain ⟨c,e⟩:=Qiw (n:=s.heap.objs.size+1) k
   refine .inr ⟨.inl k,c,e,?_⟩
   have q:=x.cell y c e
   rw [Qju ndP hp hu (by show scope.names.lookup y≠_;rw [k];decide)] at q
   exact q
 ·exact .inl (e0.hok.fresh (Nat.le_of_lt (x.above y c (PySem.mem_of_lookup h))))
 ·unfold Qbs
  show _=N.length
  rw [List.length_append,List.length_map,List.length_replicate]
  omega
theorem Q5u {g:Str→Bool} {CX:CXT} {P:Program} {w:World} {K:PySem.W.Frag} {mg:Str→Option Value} {base:Heap} {k:Nat} {f:Addr} {name qual:Str} {params:Arguments} {body:List Stmt} {scope:Scope} {dV kV doc pm cdv ct oc:Value} {an od:Option Addr}
  {osl:Array (Option Value)} {N ps:List Str} {sp:Sp} (lk:K.lookup f=some ⟨oc,od,.func (PySem.W.fnOf name qual params body scope dV kV doc pm an cdv ct),osl⟩) (hcd:PySem.W.codeIn K cdv qual=true) (S:FnScope N ps scope)
  (len:∀ vs H Q E,sp vs H Q E→vs.length=ps.length)
  (hbody:∀ (A:Around) (outer:List Env) (s:Shared) (H:Hp) (vs:List V) (Q:VK) (E:XK),Room k (A.deeper (envOfC qual scope s.heap.objs.size f cdv))→sp vs H Q E →
   ∃ t,PSs (Qh2 g CX P w K mg base N qual scope f cdv A outer s H E) body t∧t { nx:=fun _ H'=>Q .non H',rt:=Q } (Qbs N vs) H) :
  FnOk P w K mg base CX (k+1) f (PySem.W.fnOf name qual params body scope dV kV doc pm an cdv ct) ps sp:=by
 refine ⟨len,fun A outer s H args us vs Q E hr e0 hb r hsp=>?_⟩
 have hl:=len _ _ _ _ hsp
 have KX:K.In s.heap:=e0.mod.kin.keeps fun b o e=>(e0.bs b o e).1
 have lim:s.heap.NoLimit:=e0.mod.nolimit.keeps fun b o e=>(e0.bs b o e).1
 have hkind:∀ y∈ps.zip us,scope.names.lookup y.1=some .local∨(scope.names.lookup y.1=some .cell∧((cellsFrom (s.heap.objs.size+1) scope.names []).lookup y.1).isSome=true):=fun zz1 hy=>by
  obtain ⟨n,v⟩:=zz1
  rcases S.par n (List.of_mem_zip hy).1 with q | q
  ·exact .inl q
  ·exact .inr ⟨q,PySem.W.cellsFrom_some _ _ _ (.inl q)⟩
 refine codeAny_call_function hr.depth (KX _ _ lk) rfl S.co S.gen rfl (PySem.W.codeRec_of KX hcd) (hb _ _ _ _ ?_)
 refine wpAny_newFunctionEnv_cells S.kind hkind fun env he s1 x=>?_
 subst he
 refine ⟨lim.keeps x.toInCall.keep,codeAny_func ?_⟩
 obtain ⟨t,ht,hq⟩:=hbody A outer s H vs Q E (hr.deeper _) hsp
 have I:Inv (Qh2 g CX P w K mg base N qual scope f cdv A outer s H E) [] (Qbs N vs) H s1:=Qwh S hr.hd e0 hl r x
 refine wpAny_mono (ht [] s1 (Qbs N vs) H _ I hq) (fun fl s' hs=>?_) fun e s' hs=>hs
 have fin:∀ {σ':St} {H':Hp} {v:V} {u:Value},Inv (Qh2 g CX P w K mg base N qual scope f cdv A outer s H E) [] σ' H' s'→RelV v u→Q v H'→CE outer P w H s Q u s' :=
  fun {σ' H' v u} J rv q=>⟨v,H',J.os,J.bare,J.base,J.hok,rv,q⟩
 cases fl with
 | ret u =>
  obtain ⟨v,σ',H',J,rv,q⟩:=hs
  exact fin J rv q
 | next =>
  obtain ⟨σ',H',J,q⟩:=hs
  exact fin (v:=V.non) (u:=Value.none) J rfl q
 | brk =>
  obtain ⟨_,_,_,q⟩:=hs
  exact False.elim q
 | cont =>
  obtain ⟨_,_,_,q⟩:=hs
  exact False.elim q
section
variable {X:Cx} {x:Str} {p pos:Pos} {e:Expr} {es:List Expr} {t:TA} {id T:String} {r:List V→Hp→VK→Prop}
noncomputable abbrev tCB (r:List V→Hp→VK→Prop) (t:TA):TE:=fun σ H Q=>t σ H fun vs H1=>r vs H1 Q
theorem Qyi (hc:CallR X (.builtin id) r) (hg:Gl X x) (hm:X.mg x=none) (hv:bootBuiltins x=some (.builtin id)) (ha:PA X (e::es) t) (hn:x ≠ "__name__" := by decide) (hdb:(x==("__debug__" : Str))=false:=by decide)
  (he:starEach (e::es) X.env=(false,eval e X.env)::starEach es X.env:=by rfl) (hpl:(backTo pos (starEach es X.env)).any (·.1)=false:=by rfl):PE X (.Call (.Name x p) (e::es) [] pos) (tCB r t):=by
 intro pins s σ H Q I h
 refine wpAny_Call_Name_kw (Qlm I hg hm hv ?_ hn hdb)
 exact PyProof.Rows.callWith_builtin1 (thn (ha pos pins s σ H _ I h) fun us s1 ⟨vs,H1,I1,r1,q1⟩=>hc pins s1 σ H1 vs us Q I1 r1 q1) he hpl
theorem Qwi (hc:CallR X (.type T) r) (hg:Gl X x) (hm:X.mg x=none) (hv:bootBuiltins x=some (.type T)) (ha:PA X (e::es) t) (hn:x ≠ "__name__" := by decide) (hdb:(x==("__debug__" : Str))=false:=by decide)
  (he:starEach (e::es) X.env=(false,eval e X.env)::starEach es X.env:=by rfl) (hpl:(backTo pos (starEach es X.env)).any (·.1)=false:=by rfl):PE X (.Call (.Name x p) (e::es) [] pos) (tCB r t):=by
 intro pins s σ H Q I h
 refine wpAny_Call_Name_kw (Qlm I hg hm hv ?_ hn hdb)
 exact PyProof.Rows.callWith_type1 (thn (ha pos pins s σ H _ I h) fun us s1 ⟨vs,H1,I1,r1,q1⟩=>hc pins s1 σ H1 vs us Q I1 r1 q1) he hpl
end
end L2
namespace HT
open PySem PyProof.Rows
noncomputable def lexLt:List Int→List Int→Bool
 | [],[]=>false
 | [],_::_=>true
 | _::_,[]=>false
 | x::xs,y::ys=>if x=y then lexLt xs ys else decide (x<y)
section
open PySem.SeqAt
open PySem.AutoSeq1 (wpAny_loadPart')
open PySem.MeetsSeq PySem.MeetsSeq2 PySem.MeetsSeq3
end
section
variable {prog:Program} {w:World} {A:Around} {E:Value→Shared→Prop} {s:Shared}
theorem cat_tup {t b:Addr} {vs ws:List Value} {Q:Value→Shared→Prop} (ht:IsTup s.heap t vs.toArray) (hb:IsTup s.heap b ws.toArray) (hv:vs≠[])
  (h1:ws=[]→Q (.ref t) s) (h2:ws≠[]→Q (.ref s.heap.objs.size) { s with heap:=s.heap.push { cls:=.type "tuple",data:=.seq (vs++ws).toArray } })
  (hsz:vs.length+ws.length≤sizeLine):wpAny (model prog w) A (binaryOp .Add (.ref t) (.ref b)) Q E s:=by
 obtain ⟨⟨cls,dd,data,sl⟩,ho,hc,n,hd⟩:=id ht
 obtain ⟨⟨cls2,dd2,data2,sl2⟩,ho2,hc2,n2,hd2⟩:=id hb
 simp only at hc hd hc2 hd2
 subst hc hd hc2 hd2
 have e:vs.toArray++ws.toArray=(vs++ws).toArray:=by simp
 by_cases hw:ws=[]
 ·exact concat_meets ⟨_,ho,rfl⟩ ⟨_,ho2,rfl⟩ noFill_tuple_add seq_tuple_add PySem.F.slot_tuple_add PySem.F.entry_tuple_add (PySem.F.args_tuple_add_2 _ _)
   (tuple_addW1 t b vs.toArray ws.toArray n n2 dd dd2 sl sl2 (by simpa using hv) (by simp [hw])) ⟨ho,ho2,h1 hw⟩
 ·refine concat_meets ⟨_,ho,rfl⟩ ⟨_,ho2,rfl⟩ noFill_tuple_add seq_tuple_add PySem.F.slot_tuple_add PySem.F.entry_tuple_add (PySem.F.args_tuple_add_2 _ _)
   (tuple_addW2 t b vs.toArray ws.toArray n n2 dd dd2 sl sl2 (by simpa using hv) (by simpa using hw) (by rw [List.size_toArray,List.size_toArray];exact hsz)) ⟨ho,ho2,?_⟩
  rw [e]
  exact h2 hw
noncomputable def sIx (n d:Nat):Option Int→Nat
 | none=>d
 | some v=>if v<0 then (v+(n:Int)).toNat else min v.toNat n
theorem sIx_le (n d:Nat) (hd:d≤n) (o:Option Int):sIx n d o≤n:=by
 cases o with
 | none=>exact hd
 | some v =>
  show (if v<0 then (v+(n:Int)).toNat else min v.toNat n)≤n
  by_cases hv:v<0
  ·rw [if_pos hv];omega
  ·rw [if_neg hv];exact Nat.min_le_right _ _
theorem clip_eq (v:Int) (n d:Nat):(if v<0 then max (v+(n:Int)) 0 else min v (n:Int))=((sIx n d (some v):Nat):Int):=by
 show (if v<0 then max (v+(n:Int)) 0 else min v (n:Int))=(((if v<0 then (v+(n:Int)).toNat else min v.toNat n):Nat):Int)
 by_cases hv:v<0
 ·simp only [if_pos hv];omega
 ·simp only [if_neg hv];omega
theorem adjust_gen (lo hi:Option Int) (n:Nat):Builtin.Slice.sliceAdjust lo hi 1 (n:Int)=(((sIx n 0 lo:Nat):Int),((sIx n n hi:Nat):Int)):=by
 have h1:¬ ((1:Int)<0):=by omega
 unfold Builtin.Slice.sliceAdjust
 simp only [h1,if_false]
 refine Prod.ext ?_ ?_
 ·cases lo with
  | none=>rfl
  | some v=>exact clip_eq v n 0
 ·cases hi with
  | none=>rfl
  | some v=>exact clip_eq v n n
theorem places_gen (i j:Nat):Builtin.Slice.slicePlaces (i:Int) (j:Int) 1=j-i:=by
 unfold Builtin.Slice.slicePlaces
 have h1:(1:Int)>0:=by omega
 simp only [h1,if_true,Int.ediv_one]
 split <;> omega
theorem slicePart_ {v:Value} {o:Option Int} {Q:Option Int→Shared→Prop} (p:IsPart v o) (h:Q o s):wpAny (model prog w) A (Builtin.Slice.slicePartIndex v) Q E s:=by
 cases p with
 | none=>exact slicePart_none h
 | int i t=>exact slicePart_int h
theorem sliceApplied_gen {sl:Addr} {vl vu:Value} {lo hi:Option Int} {n:Nat} {Q:Int×Int×Nat→Shared→Prop} (hs:s.heap.IsSliceOf sl vl vu .none) (pl:IsPart vl lo) (pu:IsPart vu hi)
  (h:Q (((sIx n 0 lo:Nat):Int),1,sIx n n hi-sIx n 0 lo) s):wpAny (model prog w) A (Builtin.Slice.sliceApplied (.ref sl) (pure (n:Int))) Q E s:=by
 obtain ⟨os,hos,hcs,hds⟩:=id hs
 unfold Builtin.Slice.sliceApplied Builtin.Slice.sliceFields
 refine wpAny_bind (wpAny_bind (wpAny_field hos hds (x:=vl) rfl (wpAny_bind (wpAny_field hos hds (x:=vu) rfl (wpAny_bind (wpAny_field hos hds (x:=.none) rfl (wpAny_pure ?_)))))))
 refine wpAny_bind (slicePart_none ?_)
 show wpAny _ _ (if ((1:Int)==0)=true then _ else _) _ _ s
 rw [if_neg (by decide)]
 refine wpAny_bind (slicePart_ pl (wpAny_bind (slicePart_ pu (wpAny_bind (wpAny_pure ?_)))))
 show wpAny _ _ (match Builtin.Slice.sliceAdjust lo hi 1 (n:Int) with | (lo,hi)=>pure (lo,(1:Int),Builtin.Slice.slicePlaces lo hi 1)) _ _ s
 rw [adjust_gen lo hi n]
 show wpAny _ _ (pure (((sIx n 0 lo:Nat):Int),(1:Int),Builtin.Slice.slicePlaces ((sIx n 0 lo:Nat):Int) ((sIx n n hi:Nat):Int) 1)) _ _ s
 rw [places_gen]
 exact wpAny_pure h
theorem pick_gen (xs:Array Value) (i k:Nat):((List.range k).filterMap fun (m:Nat)=>xs[((i:Int)+(m:Int)*1).toNat]?).toArray=((xs.toList.drop i).take k).toArray:=by
 have e:(fun (m:Nat)=>xs[((i:Int)+(m:Int)*1).toNat]?)=fun m=>xs[i+m]?:=by
  funext m
  have:((i:Int)+(m:Int)*1).toNat=i+m:=by omega
  rw [this]
 rw [e]
 have:=pick_run xs i k
 rw [List.filterMap_map] at this
 have e2:((fun x=>xs[x]?) ∘ fun x=>i+x)=fun m=>xs[i+m]?:=rfl
 rw [e2] at this
 rw [this]
theorem getItem_tuple_cut {t sl:Addr} {items:Array Value} {vl vu:Value} {lo hi:Option Int} {Q:Value→Shared→Prop} (ht:IsTup s.heap t items) (hs:s.heap.IsSliceOf sl vl vu .none) (pl:IsPart vl lo) (pu:IsPart vu hi)
  (hw:¬ (sIx items.size 0 lo=0∧sIx items.size items.size hi=items.size))
  (h:Q (.ref s.heap.objs.size) { s with heap:=s.heap.push { cls:=.type "tuple",data:=.seq ((items.toList.drop (sIx items.size 0 lo)).take (sIx items.size items.size hi-sIx items.size 0 lo)).toArray } })
  (hsz:items.size≤sizeLine):wpAny (model prog w) A (getItem (.ref t) (.ref sl)) Q E s:=by
 have htake:sizeOk (.seq ((items.toList.drop (sIx items.size 0 lo)).take (sIx items.size items.size hi-sIx items.size 0 lo)).toArray):=by
  show ((items.toList.drop (sIx items.size 0 lo)).take (sIx items.size items.size hi-sIx items.size 0 lo)).toArray.size≤sizeLine
  rw [List.size_toArray,List.length_take,List.length_drop,Array.length_toList]
  omega
 have hj:sIx items.size items.size hi≤items.size:=sIx_le _ _ (Nat.le_refl _) hi
 obtain ⟨os,hos,hcs,hds⟩:=id hs
 have hTs:s.TypeIs (.ref sl) "slice" := ⟨os,hos,hcs⟩
 unfold getItem
 try with_reducible refine wpAny_holding ?_
 first | refine wpAny_bind (wpAny_pure ?_) | skip
 refine wpAny_bind (wpAny_sequenceKey ht.typeIs (by decide) ?_)
 refine wpAny_bind (wpAny_callSpecial?_slot (name:=Str.ofString "__getitem__") ht.typeIs PyProof.Rows.slot_tuple_getitem
  (wpAny_call_entry PyProof.Rows.slot_tuple_getitem ht.typeIs entry_tuple_getitem ?_ (args_tuple_getitem _ _)))
 show wpAny _ _ (Builtin.Tuple.tupleItemsOf (.ref t) >>= _) _ _ s
 refine wpAny_bind (tupleItemsOf_ ht ?_)
 refine wpAny_bind (wpAny_typeOf hTs ?_)
 rw [if_pos (by decide)]
 refine wpAny_bind (sliceApplied_gen hs pl pu ?_)
 have hno:¬ ((((sIx items.size 0 lo:Nat):Int)==0&&(1:Int)==1&&(sIx items.size items.size hi-sIx items.size 0 lo)==items.size)=true):=by
  intro q
  rw [Bool.and_eq_true,Bool.and_eq_true] at q
  have q1:((sIx items.size 0 lo:Nat):Int)=0:=eq_of_beq q.1.1
  have q2:sIx items.size items.size hi-sIx items.size 0 lo=items.size:=eq_of_beq q.2
  exact hw ⟨by omega,by omega⟩
 show wpAny _ _ (if (((sIx items.size 0 lo:Nat):Int)==0&&(1:Int)==1&&(sIx items.size items.size hi-sIx items.size 0 lo)==items.size)=true then _ else _) _ _ s
 rw [if_neg hno,pick_gen]
 first
  | exact wpAny_bind (m:=Builtin.Tuple.tupleExact _) (wpAny_newObj_type (wpAny_pure ⟨_,rfl,wpAny_pure h⟩) htake)
  | exact wpAny_bind (m:=Builtin.Tuple.tupleExact _) (wpAny_newObj_type (wpAny_bind (wpAny_pure (wpAny_pure ⟨_,rfl,wpAny_pure h⟩))) htake)
  | exact wpAny_bind (wpAny_bind (m:=Builtin.Tuple.tupleExact _) (wpAny_newObj_type (wpAny_pure (wpAny_pure ⟨_,rfl,wpAny_pure h⟩)) htake))
  | exact wpAny_bind (wpAny_bind (m:=Builtin.Tuple.tupleExact _) (wpAny_newObj_type (wpAny_pure ⟨_,rfl,wpAny_pure h⟩) htake))
end
end HT
namespace L2
open PySem PySem.Spec PyProof.Rows
noncomputable abbrev TO:=St→Hp→(Option Int→Hp→Prop)→Prop
noncomputable def PO (X:Cx) (e:Option Expr) (t:TO):Prop :=
 ∀ (pins:List (Addr×Obj)) (s:Shared) (σ:St) (H:Hp) (Q:Option Int→Hp→Prop),Inv X pins σ H s→t σ H Q →
  wpAny (model X.prog X.w) X.A (evalPart e X.env) (fun u s'=>∃ o H',Inv X pins σ H' s'∧IsPart u o∧Q o H') X.xe s
noncomputable abbrev Qun:TO:=fun _ H Q=>Q none H
noncomputable abbrev Quo (t:TE):TO:=fun σ H Q=>t σ H fun x H1=>∃ i,x=.int i∧Q (some i) H1
theorem Qsy {ns:List Int}:∀ {us:List Value},Vals (ns.map V.int) us→IntsAre us ns:=by
 induction ns with
 | nil=>intro us r;rw [List.map_nil] at r;cases r;exact .nil
 | cons n ns ih =>
  intro us r
  rw [List.map_cons] at r
  cases r with
  | cons r1 r2 =>
   obtain ⟨t,e⟩:=r1
   subst e
   exact .cons n t (ih r2)
section
variable {X:Cx} {e:Expr} {te:TE} {lo hi:Option Expr} {tl th:TO} {pos p2:Pos}
theorem Q2k:PO X none Qun:=by
 intro pins s σ H Q I h
 rw [evalPart_none]
 exact wpAny_pure ⟨none,H,I,.none,h⟩
theorem Q2l (h:PE X e te):PO X (some e) (Quo te):=by
 intro pins s σ H Q I hw
 rw [evalPart_some]
 refine thn (h pins s σ H _ I hw) fun u s1 ⟨x,H1,I1,r1,q1⟩=>?_
 obtain ⟨i,rfl,q⟩:=q1
 obtain ⟨t,rfl⟩:=r1
 exact ⟨some i,H1,I1,.int i t,q⟩
noncomputable def SlR (X:Cx) (r:V→Option Int→Option Int→Hp→VK→Prop):Prop :=
 ∀ (pins:List (Addr×Obj)) (s:Shared) (σ:St) (H:Hp) (x:V) (v vl vu:Value) (lo hi:Option Int) (sl:Addr) (Q:VK),Inv X pins σ H s→RelV x v→s.heap.IsSliceOf sl vl vu .none→IsPart vl lo→IsPart vu hi→r x lo hi H Q →
  ∃ T id,typeLookup (.type T) "__getitem__" = pure (some (.builtin id))∧s.TypeIs v T∧wpAny (model X.prog X.w) X.A (getItem v (.ref sl)) (EP X pins σ Q) X.xe s
theorem SlR.or {r r':V→Option Int→Option Int→Hp→VK→Prop} (h:SlR X r) (h':SlR X r'):SlR X (fun x lo hi H Q=>r x lo hi H Q∨r' x lo hi H Q):=by
 intro pins s σ H x v vl vu lo hi sl Q I rx hs pl pu q
 rcases q with q | q
 ·exact h pins s σ H x v vl vu lo hi sl Q I rx hs pl pu q
 ·exact h' pins s σ H x v vl vu lo hi sl Q I rx hs pl pu q
noncomputable abbrev tSl (r:V→Option Int→Option Int→Hp→VK→Prop) (te:TE) (tl th:TO):TE:=fun σ H Q=>te σ H fun x H1=>tl σ H1 fun l H2=>th σ H2 fun u H3=>r x l u H3 Q
theorem Qyj {r:V→Option Int→Option Int→Hp→VK→Prop} (hr:SlR X r) (he:PE X e te) (hl:PO X lo tl) (hu:PO X hi th):PE X (.Subscript e (.Slice lo hi none p2) pos) (tSl r te tl th):=by
 intro pins s σ H Q I h
 refine Subscript_ (thn (he pins s σ H _ I h) fun v s1 ⟨x,H1,I1,r1,q1⟩=>?_)
 refine wpAny_Slice (thn (hl pins s1 σ H1 _ I1 q1) fun vl s2 ⟨l,H2,I2,pl,q2⟩=>thn (hu pins s2 σ H2 _ I2 q2) fun vu s3 ⟨u,H3,I3,pu,q3⟩=>?_)
 rw [evalPart_none]
 refine wpAny_pure ?_
 have I4:Inv X pins σ H3 { s3 with heap:=s3.heap.push { cls:=.type "slice",data:=.fields #[vl,vu,.none] } }:=I3.kept (t':=s3.toks) fun b ob q=>Heap.get?_push_of_some _ q
 obtain ⟨T,id,hT,ht,hg⟩:=hr pins { s3 with heap:=s3.heap.push { cls:=.type "slice",data:=.fields #[vl,vu,.none] } } σ H3 x v vl vu l u s3.heap.objs.size Q I4 r1 (Heap.IsSliceOf.new ..) pl pu q3
 show wpAny (model X.prog X.w) X.A (subscriptTail e (.Slice lo hi none p2) v (.ref s3.heap.objs.size)) (EP X pins σ Q) X.xe { s3 with heap:=s3.heap.push { cls:=.type "slice",data:=.fields #[vl,vu,.none] } }
 exact tail_any (ops:=[.ref s3.heap.objs.size,v]) ht hT hg (by with_unfolding_all rfl)
noncomputable def Qg6 (xs:List V) (lo hi:Option Int):List V:=(xs.drop (HT.sIx xs.length 0 lo)).take (HT.sIx xs.length xs.length hi-HT.sIx xs.length 0 lo)
theorem Qg7 (xs:List V) (lo hi:Option Int):(Qg6 xs lo hi).length≤xs.length:=by
 unfold Qg6
 rw [List.length_take,List.length_drop]
 omega
noncomputable def rSlT (K:PySem.W.Frag):V→Option Int→Option Int→Hp→VK→Prop:=fun x lo hi H Q=>∃ a xs,x=.ref a∧SqT K H a xs ∧
 ¬ (HT.sIx xs.length 0 lo=0∧HT.sIx xs.length xs.length hi=xs.length)∧∀ p,H p=none→Q (.ref p) (upd H p (.tup (Qg6 xs lo hi)))
theorem Q75:SlR X (rSlT X.K):=by
 intro pins s σ H x v vl vu lo hi sl Q I rx hs pl pu h
 obtain ⟨a,xs,rfl,hx,hw,q⟩:=h
 cases rx
 obtain ⟨its,r,ht,hz⟩:=I.tuple hx
 have hlen:its.toArray.size=xs.length:=by rw [List.size_toArray];exact r.length.symm
 refine ⟨"tuple",_,PyProof.Rows.slot_tuple_getitem.lookup,ht.typeIs,?_⟩
 refine HT.getItem_tuple_cut ht hs pl pu (by rw [hlen];exact hw) ?_ (by rw [hlen];exact hz)
 rw [hlen]
 refine ⟨.ref s.heap.objs.size,_,I.laid (t':=s.toks) (o:=.tup (Qg6 xs lo hi)) (fun b ob q=>Heap.get?_push_of_some _ q) (Nat.le_refl _) ?_,rfl,q _ (I.hok.fresh (Nat.le_refl _))⟩
 exact ⟨Nat.le_trans (Qg7 xs lo hi) hz,_,(r.drop (HT.sIx xs.length 0 lo)).take (HT.sIx xs.length xs.length hi-HT.sIx xs.length 0 lo),IsTupD.new _ _⟩
noncomputable def Qab6 (K:PySem.W.Frag):R2:=fun x y H Q=>∃ a b xs ys,x=.ref a∧y=.ref b∧SqT K H a xs∧SqT K H b ys∧xs≠[]∧xs.length+ys.length≤sizeLine ∧
 (ys=[]→Q (.ref a) H)∧(ys≠[]→∀ p,H p=none→Q (.ref p) (upd H p (.tup (xs++ys))))
theorem Vals.nil_iff {xs:List V} {us:List Value} (r:Vals xs us):us=[]↔xs=[]:=by
 cases r with
 | nil=>simp
 | cons _ _=>simp
theorem Q2m:OpR X (binaryOp .Add) (Qab6 X.K):=by
 intro pins s σ H x y v u Q I rx ry h
 obtain ⟨a,b,xs,ys,rfl,rfl,ha,hb,hx,hz,q1,q2⟩:=h
 cases rx
 cases ry
 obtain ⟨its,r1,p1,_⟩:=I.tuple ha
 obtain ⟨its2,r2,p2,_⟩:=I.tuple hb
 refine HT.cat_tup p1 p2 (fun z=>hx (r1.nil_iff.mp z)) (fun z=>⟨.ref a,H,I,rfl,q1 (r2.nil_iff.mp z)⟩) (fun z=>?_) (by rw [←r1.length,←r2.length];exact hz)
 refine ⟨.ref s.heap.objs.size,_,I.laid (t':=s.toks) (o:=.tup (xs++ys)) (fun b ob q=>Heap.get?_push_of_some _ q) (Nat.le_refl _) ?_,rfl,q2 (fun w=>z (r2.nil_iff.mpr w)) _ (I.hok.fresh (Nat.le_refl _))⟩
 exact ⟨by rw [List.length_append];exact hz,_,r1.append r2,IsTupD.new _ _⟩
end
noncomputable def ixN (n:Nat) (i:Int):Option Nat:=if 0≤i then (if i<n then some i.toNat else none) else if -(n:Int)≤i then some (i+n).toNat else none
noncomputable def atI {α:Type} (xs:List α) (i:Int):Option α:=(ixN xs.length i).bind fun j=>xs[j]?
theorem Qup {n:Nat} {i:Int} {j:Nat} (h:ixN n i=some j):seqIndex? i n=some j∧j<n ∧ -(n:Int)≤i∧i<n:=by
 unfold ixN at h
 by_cases h0:0≤i
 ·rw [if_pos h0] at h
  by_cases h1:i<n
  ·rw [if_pos h1] at h
   have e:i.toNat=j:=Option.some.inj h
   exact ⟨by rw [seqIndex_of h0 h1,e],by omega,by omega,h1⟩
  ·rw [if_neg h1] at h;cases h
 ·rw [if_neg h0] at h
  by_cases h1:-(n:Int)≤i
  ·rw [if_pos h1] at h
   have e:(i+n).toNat=j:=Option.some.inj h
   exact ⟨by rw [seqIndex_neg (by omega) h1,e],by omega,h1,by omega⟩
  ·rw [if_neg h1] at h;cases h
theorem Qot {α:Type} {xs:List α} {i:Int} {v:α} (h:atI xs i=some v):∃ j,seqIndex? i xs.length=some j∧xs[j]?=some v∧j<xs.length ∧ -(xs.length:Int)≤i∧i<xs.length:=by
 unfold atI at h
 cases e:ixN xs.length i with
 | none=>rw [e] at h;cases h
 | some j =>
  rw [e] at h
  obtain ⟨h1,h2,h3,h4⟩:=Qup e
  exact ⟨j,h1,h,h2,h3,h4⟩
theorem Qcb {α:Type} {xs:List α} {j:Nat} {v:α} (h:xs[j]?=some v):atI xs (j:Int)=some v:=by
 have hj:j<xs.length:=(List.getElem?_eq_some_iff.mp h).1
 have e:ixN xs.length (j:Int)=some j:=by
  unfold ixN
  rw [if_pos (by omega),if_pos (by omega)];simp
 unfold atI;rw [e];exact h
noncomputable def Qix (b:Expr):Prop:=∀ o i,subscripted b false o i=operate [o,i] (getItem o i)
noncomputable def IxR (X:Cx) (r:R2):Prop :=
 ∀ (value slice:Expr) (pins:List (Addr×Obj)) (s:Shared) (σ:St) (H:Hp) (x y:V) (v u:Value) (Q:VK),Inv X pins σ H s→RelV x v→RelV y u→r x y H Q →
  subscripted slice false v u=operate [v,u] (getItem v u)→wpAny (model X.prog X.w) X.A (subscriptTail value slice v u) (EP X pins σ Q) X.xe s
noncomputable def MtR (X:Cx) (id:String) (r:V→List V→Hp→VK→Prop):Prop :=
 ∀ (pins:List (Addr×Obj)) (s:Shared) (σ:St) (H:Hp) (x:V) (xs:List V) (v:Value) (us:List Value) (Q:VK),Inv X pins σ H s→RelV x v→Vals xs us→r x xs H Q →
  wpAny (model X.prog X.w) X.A (call (.builtin id) (v::us)) (EP X pins σ Q) X.xe s
section
variable {X:Cx} {a b:Expr} {ta tb:TE} {pos:Pos}
theorem IxR.or {r r':R2} (h:IxR X r) (h':IxR X r'):IxR X (fun x y H Q=>r x y H Q∨r' x y H Q):=by
 intro value slice pins s σ H x y v u Q I rx ry q hs
 rcases q with q | q
 ·exact h value slice pins s σ H x y v u Q I rx ry q hs
 ·exact h' value slice pins s σ H x y v u Q I rx ry q hs
theorem Qab7 {r:R2} (hr:IxR X r) (ha:PE X a ta) (hb:PE X b tb) (hs:Qix b):PE X (.Subscript a b pos) (tOp r ta tb):=by
 intro pins s σ H Q I h
 exact Subscript_ (Q7v ha hb I h fun v u s2 x y H2 I2 rx ry q=>hr a b pins s2 σ H2 x y v u Q I2 rx ry q (hs _ _))
noncomputable def rIxL (K:PySem.W.Frag):R2:=fun x y H Q=>∃ p xs i v,x=.ref p∧y=.int i∧SqL K H p xs∧atI xs i=some v∧Q v H
noncomputable def rIxT (K:PySem.W.Frag):R2:=fun x y H Q=>∃ p xs i v,x=.ref p∧y=.int i∧SqT K H p xs∧atI xs i=some v∧Q v H
noncomputable def Q76:R2:=fun x y H Q=>∃ z i c,x=.str z∧y=.int i∧z.length≤sizeLine∧atI z.cps.toList i=some c∧Q (.str ⟨#[c]⟩) H
theorem Q2n:IxR X (rIxL X.K):=by
 intro value slice pins s σ H x y v u Q I rx ry h hs
 obtain ⟨p,xs,i,z,rfl,rfl,hq,he,q⟩:=h
 cases rx
 obtain ⟨t,rfl⟩:=ry
 obtain ⟨its,r,pl,hz⟩:=I.list hq
 obtain ⟨j,h1,h2,h3,h4,h5⟩:=Qot he
 obtain ⟨w,ew,rw'⟩:=r.get h2
 have hl:=r.length
 have hn:=Qjt
 have fin:EP X pins σ Q w s:=⟨z,H,I,rw',q⟩
 by_cases h0:0≤i
 ·have hj:i.toNat=j:=by
   rw [seqIndex_of h0 h5] at h1
   exact Option.some.inj h1
  exact item_listR pl.isList h0 (by omega) (by rw [hj];simpa using ew) fin hs
 ·have hj:(i+(its.toArray.size:Int)).toNat=j:=by
   rw [seqIndex_neg (by omega) h4] at h1
   rw [List.size_toArray,←hl]
   exact Option.some.inj h1
  exact subscriptTail_builtinR (x:=w) pl.isList.typeIs slot_list_getitem.lookup
   (wpAny_getItem_list_neg (Q:=fun r s'=>r=w∧EP X pins σ Q r s') pl.isList (by omega) (by rw [List.size_toArray] <;> omega) (by omega) (by rw [hj];simpa using ew) ⟨rfl,fin⟩) hs
theorem Q77:IxR X (rIxT X.K):=by
 intro value slice pins s σ H x y v u Q I rx ry h hs
 obtain ⟨p,xs,i,z,rfl,rfl,hq,he,q⟩:=h
 cases rx
 obtain ⟨t,rfl⟩:=ry
 obtain ⟨its,r,pl,hz⟩:=I.tuple hq
 obtain ⟨j,h1,h2,h3,h4,h5⟩:=Qot he
 obtain ⟨w,ew,rw'⟩:=r.get h2
 have hl:=r.length
 have hn:=Qjt
 have fin:EP X pins σ Q w s:=⟨z,H,I,rw',q⟩
 exact subscriptTail_builtinR (x:=w) pl.typeIs slot_tuple_getitem.lookup
  (getItem_tuple (j:=j) (Q:=fun r s'=>r=w∧EP X pins σ Q r s') pl (by omega) (by omega) (by rw [List.size_toArray,←hl];exact h1) (by simpa using ew) ⟨rfl,fin⟩) hs
theorem Qyk:IxR X Q76:=by
 intro value slice pins s σ H x y v u Q I rx ry h hs
 obtain ⟨z,i,c,rfl,rfl,hz,he,q⟩:=h
 obtain ⟨t,rfl⟩:=rx
 obtain ⟨t',rfl⟩:=ry
 obtain ⟨j,h1,h2,h3,h4,h5⟩:=Qot he
 have hl:z.cps.toList.length=z.length:=by simp [Str.length]
 rw [hl] at h1 h4 h5
 have hn:=Qjt
 exact tail_any (typeIs_str s z t) slot_str_getitem.lookup (getItem_str (c:=c) (by
  have e1:decide (i < -(2^63:Int))=false:=decide_eq_false (by omega)
  have e2:decide (i≥2^63)=false:=decide_eq_false (by omega)
  rw [e1,e2,Bool.or_false]) (by rw [h1];simpa using h2) ⟨.str ⟨#[c]⟩,H,I.tok _,⟨_,rfl⟩,q⟩) hs
noncomputable def rIx (K:PySem.W.Frag):R2:=fun x y H Q=>rIxL K x y H Q∨rIxT K x y H Q∨Q76 x y H Q
theorem Q78:IxR X (rIx X.K):=Q2n.or (Q77.or Qyk)
theorem Qsz (its:List Value) (n j:Nat) (u:Value):Obj.mapSeq (·.setIfInBounds j u) { cls:=.type "list",data:=.seq its.toArray n }={ cls:=.type "list",data:=.seq (its.set j u).toArray n }:=by
 simp [Obj.mapSeq]
theorem Inv.lst {pins:List (Addr×Obj)} {σ:St} {H:Hp} {s:Shared} {p:Addr} {xs:List V} (I:Inv X pins σ H s) (h:H p=some (.lst xs)) :
  ∃ (its:List Value) (n:Nat),Vals xs its∧s.heap.get? p=some { cls:=.type "list",data:=.seq its.toArray n }∧xs.length≤sizeLine:=by
 obtain ⟨z,its,n,r,e⟩:=I.hok p _ h
 exact ⟨its,n,r,e,z⟩
theorem Inv.lstUpd {pins:List (Addr×Obj)} {σ:St} {H:Hp} {s:Shared} {p:Addr} {xs ys:List V} {its its':List Value} {n n':Nat} {f:Obj→Obj} (I:Inv X pins σ H s) (h:H p=some (.lst xs))
  (ho:s.heap.get? p=some { cls:=.type "list",data:=.seq its.toArray n }) (hf:f { cls:=.type "list",data:=.seq its.toArray n }={ cls:=.type "list",data:=.seq its'.toArray n' }) (r:Vals ys its') (hz:ys.length≤sizeLine) (t:Nat) :
  Inv X pins σ (upd H p (.lst ys)) { s with heap:=s.heap.update p f,toks:=t }:=by
 have e:(s.heap.update p f).get? p=some { cls:=.type "list",data:=.seq its'.toArray n' }:=by
  rw [Heap.get?_update_self f ho (by rw [hf] <;> rfl),hf]
 refine I.write (x:=p) (e:=p) (by rw [h];trivial) (.inl rfl) (fun b u hb q=>(Heap.get?_update_other _ _ (Ne.symm hb)).trans q) ⟨_,e⟩ ?_
 exact ⟨hz,its',n',r,e⟩
noncomputable def Quq:V→V→V→Hp→(Hp→Prop)→Prop:=fun o i v H Q=>∃ p xs k j,o=.ref p∧i=.int k∧H p=some (.lst xs)∧ixN xs.length k=some j∧Q (upd H p (.lst (xs.set j v)))
theorem Qyl:PSet X Quq:=by
 intro pins s σ H o i v ov iv u Q I ro ri rv h
 obtain ⟨p,xs,k,j,rfl,rfl,hp,hj,q⟩:=h
 cases ro
 obtain ⟨t,rfl⟩:=ri
 obtain ⟨its,n,r,ho,hz⟩:=I.lst hp
 obtain ⟨h1,h2,h3,h4⟩:=Qup hj
 have hl:=r.length
 have hn:=Qjt
 have I':Inv X pins σ (upd H p (.lst (xs.set j v))) { s with heap:=s.heap.update p (Obj.mapSeq (·.setIfInBounds j u)) } :=
  I.lstUpd hp ho (Qsz its n j u) (r.set rv j) (by rw [List.length_set];exact hz) s.toks
 by_cases h0:0≤k
 ·have hk:k.toNat=j:=by
   rw [seqIndex_of h0 h4] at h1
   exact Option.some.inj h1
  exact PySem.W.ki_setAt ho h0 (by omega) (by rw [List.size_toArray,←hl];exact h4) (by rw [hk];exact ⟨_,I',q⟩)
 ·have hk:(k+(its.toArray.size:Int)).toNat=j:=by
   rw [seqIndex_neg (by omega) h3] at h1
   rw [List.size_toArray,←hl]
   exact Option.some.inj h1
  exact PySem.W.ki_setBack ho (by omega) (by rw [List.size_toArray,←hl];exact h3) (by omega) (by rw [hk];exact ⟨_,I',q⟩)
theorem Qou (lo hi:Option Int) (n:Nat):(sliceBounds lo hi none n).1=((HT.sIx n 0 lo:Nat):Int)∧(sliceBounds lo hi none n).2.1=((HT.sIx n n hi:Nat):Int)∧(sliceBounds lo hi none n).2.2=1:=by
 refine ⟨?_,?_,rfl⟩
 ·cases lo with
  | none=>simp [sliceBounds,HT.sIx]
  | some i =>
   simp only [sliceBounds,HT.sIx,Option.getD_none,show (1:Int)>0 by decide,if_true]
   by_cases h:i<0
   ·simp only [h,if_true] <;> omega
   ·simp only [h,if_false] <;> omega
 ·cases hi with
  | none=>simp [sliceBounds,HT.sIx]
  | some i =>
   simp only [sliceBounds,HT.sIx,Option.getD_none,show (1:Int)>0 by decide,if_true]
   by_cases h:i<0
   ·simp only [h,if_true] <;> omega
   ·simp only [h,if_false] <;> omega
theorem Qm5 (its:List Value) (lo hi:Option Int):slicePick its.toArray lo hi none=((its.drop (HT.sIx its.length 0 lo)).take (HT.sIx its.length its.length hi-HT.sIx its.length 0 lo)).toArray:=by
 obtain ⟨h1,h2,h3⟩:=Qou lo hi its.toArray.size
 unfold slicePick
 rw [h1,h2,h3]
 simp only [sliceRange_one,pick_run,List.size_toArray] <;> rfl
noncomputable def rSlL (K:PySem.W.Frag):V→Option Int→Option Int→Hp→VK→Prop:=fun x lo hi H Q=>∃ a xs,x=.ref a∧SqL K H a xs∧∀ p,H p=none→Q (.ref p) (upd H p (.lst (Qg6 xs lo hi)))
theorem Q2o:SlR X (rSlL X.K):=by
 intro pins s σ H x v vl vu lo hi sl Q I rx hs pl pu h
 obtain ⟨a,xs,rfl,hx,q⟩:=h
 cases rx
 obtain ⟨its,r,ht,hz⟩:=I.list hx
 have hlen:=r.length
 refine ⟨"list",_,slot_list_getitem.lookup,ht.isList.typeIs,?_⟩
 refine wpAny_getItem_list_slice ht.isList hs pl pu .none (by simp) ?_ (by rw [List.size_toArray] <;> omega)
 rw [Qm5,←hlen]
 refine ⟨.ref s.heap.objs.size,_,I.laid (t':=s.toks) (o:=.lst (Qg6 xs lo hi)) (fun b ob q=>Heap.get?_push_of_some _ q) (Nat.le_refl _) ?_,rfl,q _ (I.hok.fresh (Nat.le_refl _))⟩
 exact ⟨Nat.le_trans (Qg7 xs lo hi) hz,_,0,(r.drop (HT.sIx xs.length 0 lo)).take (HT.sIx xs.length xs.length hi-HT.sIx xs.length 0 lo),Heap.get?_push_size _ rfl⟩
theorem Qov:OpR X (compareOp .NotIn) (fun x y H Q=>∃ i j,x=.str i∧y=.str j∧Q (.bl (!(!(Builtin.Str.occurrences j i 0 j.length 1).isEmpty))) H):=by
 intro pins s σ H x y v u Q I rx ry h
 obtain ⟨i,j,rfl,rfl,q⟩:=h
 obtain ⟨t,rfl⟩:=rx
 obtain ⟨t',rfl⟩:=ry
 exact notIn_str ⟨.bl _,H,I,rfl,q⟩
theorem Qow:CallR X (.builtin "len") (fun xs H Q=>∃ p ys,xs=[.ref p]∧(SqL X.K H p ys∨SqT X.K H p ys)∧Q (.int ys.length) H):=by
 intro pins s σ H xs us Q I r h
 obtain ⟨p,ys,rfl,hq,q⟩:=h
 obtain ⟨u,rfl,rx⟩:=Qfs r
 cases rx
 have hn:=Qjt
 rcases hq with hq | hq
 ·obtain ⟨its,r',pl,hz⟩:=I.list hq
  have hlen:=r'.length
  exact Calls.call_len_list pl.isList (by simp only [List.size_toArray] <;> omega) ⟨.int ys.length,H,I.tok _,⟨s.toks+1,by rw [List.size_toArray,hlen]⟩,q⟩
 ·obtain ⟨its,r',pl,hz⟩:=I.tuple hq
  have hlen:=r'.length
  exact len_tuple pl (by simp only [List.size_toArray] <;> omega) ⟨.int ys.length,H,I.tok _,⟨s.toks+1,by rw [List.size_toArray,hlen]⟩,q⟩
theorem Qox:CallR X (.builtin "len") (fun xs H Q=>∃ z,xs=[.str z]∧z.length≤sizeLine∧Q (.int z.length) H):=by
 intro pins s σ H xs us Q I r h
 obtain ⟨z,rfl,hz,q⟩:=h
 obtain ⟨u,rfl,t,rfl⟩:=Qfs r
 have hn:=Qjt
 exact len_str (by omega) ⟨.int z.length,H,I.tok _,⟨_,rfl⟩,q⟩
theorem CallR.or {f:Value} {r r':List V→Hp→VK→Prop} (h:CallR X f r) (h':CallR X f r'):CallR X f (fun xs H Q=>r xs H Q∨r' xs H Q):=by
 intro pins s σ H xs us Q I rs q
 rcases q with q | q
 ·exact h pins s σ H xs us Q I rs q
 ·exact h' pins s σ H xs us Q I rs q
theorem Qoy:CallR X (.type "list") (fun xs H Q=>∃ p ys,xs=[.ref p]∧(SqL X.K H p ys∨SqT X.K H p ys)∧∀ l,H l=none→Q (.ref l) (upd H l (.lst ys))):=by
 intro pins s σ H xs us Q I r h
 obtain ⟨p,ys,rfl,hq,q⟩:=h
 obtain ⟨u,rfl,rx⟩:=Qfs r
 cases rx
 have fin:∀ (its:List Value),Vals ys its→ys.length≤sizeLine→∀ (h':Heap) (c':Nat),(∀ b o',s.heap.get? b=some o'→h'.get? b=some o') →
   h'.get? s.heap.objs.size=some { cls:=.type "list",dict:=none,data:=.seq its.toArray c',slots:=#[] }→EP X pins σ Q (.ref s.heap.objs.size) { s with heap:=h' }:=fun its r' hz h' c' kp e =>
  ⟨.ref s.heap.objs.size,_,I.laid (t':=s.toks) kp (Nat.le_refl _) (show ObjOk X.prog X.w _ h' _ (.lst ys) from ⟨hz,its,c',r',e⟩),rfl,q _ (I.hok.fresh (Nat.le_refl _))⟩
 rcases hq with hq | hq
 ·obtain ⟨its,r',pl,hz⟩:=I.list hq
  have hlen:=r'.length
  obtain ⟨o,ho,hc,n,hd⟩:=pl.isList
  exact call_list_seq p (.inl rfl) ho hc hd (fun h' c' kp e=>fin its r' hz h' c' kp e) (by simp only [List.size_toArray] <;> omega)
 ·obtain ⟨its,r',pl,hz⟩:=I.tuple hq
  have hlen:=r'.length
  obtain ⟨o,ho,hc,n,hd⟩:=pl
  exact call_list_seq p (.inr rfl) ho hc hd (fun h' c' kp e=>fin its r' hz h' c' kp e) (by simp only [List.size_toArray] <;> omega)
theorem Qm6:CallR X (.type "tuple") (fun xs H Q=>∃ p ys,xs=[.ref p]∧((SqL X.K H p ys∧∀ l,H l=none→Q (.ref l) (upd H l (.tup ys)))∨(SqT X.K H p ys∧Q (.ref p) H))):=by
 intro pins s σ H xs us Q I r h
 obtain ⟨p,ys,rfl,h⟩:=h
 obtain ⟨u,rfl,rx⟩:=Qfs r
 cases rx
 rcases h with ⟨hq,q⟩ | ⟨hq,q⟩
 ·obtain ⟨its,r',pl,hz⟩:=I.list hq
  have hlen:=r'.length
  refine call_tuple_list pl.isList (fun h' kp=>?_) (by simp only [List.size_toArray] <;> omega)
  have I1:Inv X pins σ H { s with heap:=h' }:=I.kept (t':=s.toks) kp
  have I2:Inv X pins σ (upd H h'.objs.size (.tup ys)) { s with heap:=h'.push { cls:=.type "tuple",data:=.seq its.toArray } } :=
   I1.laid (t':=s.toks) (fun b o e=>Heap.get?_push_of_some _ e) (Nat.le_refl _) (show ObjOk X.prog X.w _ _ _ (.tup ys) from ⟨hz,its,r',IsTupD.new _ _⟩)
  exact ⟨.ref h'.objs.size,_,I2,rfl,q _ (I1.hok.fresh (Nat.le_refl _))⟩
 ·obtain ⟨its,r',pl,hz⟩:=I.tuple hq
  exact call_tuple_same pl ⟨.ref p,H,I,rfl,q⟩
noncomputable def tyV (K:PySem.W.Frag) (T:String) (x:V) (H:Hp):Prop:=match x with
 | .str _=>T = "str"
 | .int _=>T = "int"
 | .ref p=>(T = "list" ∧ ∃ xs,SqL K H p xs)∨(T = "tuple" ∧ ∃ o,K.lookup p=some o∧o.cls=.type "tuple" ∧ o.dict=none) ∨
   (T = "dict" ∧ ((∃ kvs,H p=some (.dK kvs))∨∃ kvs,H p=some (.dT kvs)))∨(T = "set" ∧ ∃ S n,H p=some (.set S n))
 | _=>False
theorem Qym {pins:List (Addr×Obj)} {σ:St} {H:Hp} {s:Shared} {T:String} {x:V} {v:Value} (I:Inv X pins σ H s) (r:RelV x v) (ty:tyV X.K T x H) :
  s.TypeIs v T∧∀ a,v=.ref a→∃ ob,s.heap.get? a=some ob∧ob.dict=none:=by
 cases x with
 | str z =>
  obtain ⟨t,rfl⟩:=r
  cases (show T = "str" from ty)
  exact ⟨typeIs_str s z t,fun _ e=>nomatch e⟩
 | int i =>
  obtain ⟨t,rfl⟩:=r
  cases (show T = "int" from ty)
  exact ⟨typeIs_int s i t,fun _ e=>nomatch e⟩
 | ref p =>
  cases r
  rcases ty with ⟨rfl,xs,hq⟩ | ⟨rfl,o,hk,hc,hd⟩ | ⟨rfl,hk⟩ | ⟨rfl,S,n,hk⟩
  ·obtain ⟨its,_,pl,_⟩:=I.list hq
   refine ⟨pl.isList.typeIs,fun a e=>?_⟩
   cases e
   obtain ⟨o,n,e,c,hd,_⟩:=pl
   exact ⟨o,e,hd⟩
  ·refine ⟨⟨o,I.kIn p o hk,hc⟩,fun a e=>?_⟩
   cases e
   exact ⟨o,I.kIn _ o hk,hd⟩
  ·have z:∃ o,s.heap.get? p=some o∧o.ExactDict:=by
    rcases hk with ⟨kvs,hk⟩ | ⟨kvs,hk⟩
    ·obtain ⟨_,_,_,_,o,_,_,e,ex,_⟩:=I.hok p _ hk
     exact ⟨o,e,ex⟩
    ·obtain ⟨_,_,_,_,o,_,_,e,ex,_⟩:=I.hok p _ hk
     exact ⟨o,e,ex⟩
   obtain ⟨o,e,ex⟩:=z
   refine ⟨⟨o,e,ex.1⟩,fun a e2=>?_⟩
   cases e2
   exact ⟨o,e,ex.2.1⟩
  ·obtain ⟨o,_,_,_,e,ex,_⟩:=I.hok p _ hk
   refine ⟨⟨o,e,ex.1⟩,fun a e2=>?_⟩
   cases e2
   exact ⟨o,e,ex.2.1⟩
 | _=>exact False.elim ty
noncomputable abbrev Q79 (K:PySem.W.Frag) (T:String) (r:V→List V→Hp→VK→Prop) (to:TE):TE:=fun σ H Q=>to σ H fun x H1=>tyV K T x H1∧r x [] H1 Q
noncomputable abbrev tBM (K:PySem.W.Frag) (T:String) (r:V→List V→Hp→VK→Prop) (to:TE) (t:TA):TE:=fun σ H Q=>to σ H fun x H1=>tyV K T x H1∧t σ H1 fun xs H2=>r x xs H2 Q
variable {o e:Expr} {es:List Expr} {to:TE} {t:TA} {name:Str} {apos cpos:Pos} {T id:String} {r:V→List V→Hp→VK→Prop}
theorem Q8a (pa:PlainAttrs T) (slot:Slot T name id) (hty:typeOf (.builtin id)=pure (.type "method_descriptor")) (hm:MtR X id r) (ho:PE X o to)
  (hbase:attributeBase o name X.env (eval o X.env)=eval o X.env:=by rfl) (hline:(apos.endLine==cpos.line)=true:=by rfl):PE X (.Call (.Attribute o name apos) [] [] cpos) (Q79 X.K T r to):=by
 intro pins s σ H Q I h
 refine wpAny_Call_method0_late hbase hline (thn (ho pins s σ H _ I h) fun v s1 ⟨x,H1,I1,r1,ty,q1⟩=>?_)
 obtain ⟨h1,h2⟩:=Qym I1 r1 ty
 exact ⟨T,id,pa,slot,hty,h1,h2,Calls.callWith_builtin rfl (PySem.evalArgs_none (hm pins s1 σ H1 x [] v [] Q I1 r1 .nil q1))⟩
theorem Qacb (pa:PlainAttrs T) (slot:Slot T name id) (hty:typeOf (.builtin id)=pure (.type "method_descriptor")) (hm:MtR X id r) (ho:PE X o to) (ha:PA X (e::es) t)
  (hbase:attributeBase o name X.env (eval o X.env)=eval o X.env:=by rfl)
  (hfew:((backTo cpos (starEach (e::es) X.env)).all (fun x=>!x.1)&&(backToKw cpos (keywordEach [] X.env)).all (fun x=>x.1.isSome)
   && decide ((e::es).length+([]:List Keyword).length+(if ([]:List Keyword).isEmpty then 0 else 1)<30))=true:=by rfl)
  (hline:(apos.endLine==cpos.line)=true:=by rfl) (hs:starEach (e::es) X.env=(false,eval e X.env)::starEach es X.env:=by rfl) (hplain:(backTo cpos (starEach es X.env)).any (·.1)=false:=by rfl) :
  PE X (.Call (.Attribute o name apos) (e::es) [] cpos) (tBM X.K T r to t):=by
 intro pins s σ H Q I h
 refine wpAny_Call_method_late hbase hfew hline rfl (thn (ho pins s σ H _ I h) fun v s1 ⟨x,H1,I1,r1,ty,q1⟩=>?_)
 obtain ⟨h1,h2⟩:=Qym I1 r1 ty
 refine ⟨T,id,pa,slot,hty,h1,h2,?_⟩
 have hA:=ha cpos pins s1 σ H1 _ I1 q1
 rw [hs] at hA ⊢
 refine Calls.callWith_builtin (by show (false||(backTo cpos (starEach es X.env)).any (·.1))=false;rw [hplain] <;> rfl) (Calls.evalArgs_plain ?_)
 exact thn hA fun us s2 ⟨vs,H2,I2,r2,q2⟩=>hm pins s2 σ H2 x vs v us Q I2 r1 r2 q2
end
noncomputable def MtM (X:Cx) (id:String) (r:V→List V→Hp→VK→Prop):Prop :=
 ∀ (pins:List (Addr×Obj)) (s:Shared) (σ:St) (H:Hp) (x:V) (xs:List V) (v:Value) (us:List Value) (Q:VK),Inv X pins σ H s→RelV x v→Vals xs us→r x xs H Q →
  wpAny (model X.prog X.w) X.A (call (.builtin id) (v::us)) (EP X pins σ Q) X.xe s
theorem Vals.one:∀ {x:V} {us:List Value},Vals [x] us→∃ u,us=[u]∧RelV x u
 | _,_,.cons r .nil=>⟨_,rfl,r⟩
theorem Vals.zero:∀ {us:List Value},Vals [] us→us=[]
 | _,.nil=>rfl
theorem Vals.reverse {xs:List V} {us:List Value} (h:Vals xs us):Vals xs.reverse us.reverse:=by
 induction h with
 | nil=>exact .nil
 | cons r t ih=>rw [List.reverse_cons,List.reverse_cons];exact Vals.append ih (.cons r .nil)
theorem Vals.rep {xs:List V} {us:List Value} (h:Vals xs us):∀ k:Nat,Vals (List.replicate k xs).flatten (List.replicate k us).flatten
 | 0=>.nil
 | k+1=>by
  rw [List.replicate_succ,List.replicate_succ,List.flatten_cons,List.flatten_cons]
  exact Vals.append h (Vals.rep h k)
theorem Qjv (its:List Value):∀ (k:Nat) (acc:List Value),
  List.foldl (fun x1 x2=>x1++x2) acc.toArray (List.replicate k its.toArray)=(acc++(List.replicate k its).flatten).toArray
 | 0,acc=>by simp
 | k+1,acc=>by
  have e:acc.toArray++its.toArray=(acc++its).toArray:=by simp
  have e2:(acc++its)++(List.replicate k its).flatten=acc++(List.replicate (k+1) its).flatten:=by
   rw [List.replicate_succ,List.flatten_cons,List.append_assoc]
  rw [←e2,←Qjv its k (acc++its),←e,List.replicate_succ,List.foldl_cons]
section
variable {X:Cx} {pins:List (Addr×Obj)} {σ:St} {H:Hp} {s:Shared} {l b:Addr} {xs ys zs:List V}
theorem Inv.lset {its its':List Value} {n:Nat} {f:Array Value→Array Value} {t':Nat} (I:Inv X pins σ H s) (hH:H l=some (.lst xs))
  (e:s.heap.get? l=some { cls:=.type "list",data:=.seq its.toArray n }) (hf:f its.toArray=its'.toArray) (hv:Vals ys its') (hz:ys.length≤sizeLine) :
  Inv X pins σ (upd H l (.lst ys)) { s with heap:=s.heap.update l (Obj.mapSeq f),toks:=t' }:=by
 have q:=PySem.IsL.update e f
 rw [hf] at q
 refine I.write (x:=l) (e:=l) (by rw [hH];exact trivial) (.inl rfl) (fun b' u hb hu=>(Heap.get?_update_other s.heap (Obj.mapSeq f) (Ne.symm hb)).trans hu) ⟨_,q⟩ ?_
 exact ⟨hz,its',_,hv,q⟩
theorem Inv.lnew {its:List Value} {t':Nat} (I:Inv X pins σ H s) (hv:Vals ys its) (hz:ys.length≤sizeLine) :
  Inv X pins σ (upd H s.heap.objs.size (.lst ys)) { s with heap:=s.heap.push { cls:=.type "list",data:=.seq its.toArray },toks:=t' } :=
 I.laid (fun _ _ q=>Heap.get?_push_of_some _ q) (Nat.le_refl _) ⟨hz,its,0,hv,Heap.get?_push_size _ rfl⟩
theorem Inv.fresh (I:Inv X pins σ H s):H s.heap.objs.size=none:=I.hok.fresh (Nat.le_refl _)
theorem Inv.lstM (I:Inv X pins σ H s) (hH:H l=some (.lst xs)):xs.length≤sizeLine∧∃ (its:List Value) (n:Nat),Vals xs its∧xs.length=its.length∧s.heap.get? l=some { cls:=.type "list",data:=.seq its.toArray n }:=by
 obtain ⟨z,its,n,r,e⟩:=I.hok l _ hH
 exact ⟨z,its,n,r,r.length,e⟩
theorem Qyn {n:Nat} (h:n≤sizeLine):Builtin.List.listTooLong n=false:=by
 unfold Builtin.List.listTooLong
 exact decide_eq_false (by omega)
end
section
variable {X:Cx}
noncomputable def Qlf:V→List V→Hp→VK→Prop:=fun x vs H Q=>∃ l xs y,x=.ref l∧vs=[y]∧H l=some (.lst xs)∧xs.length<sizeLine∧Q .non (upd H l (.lst (xs++[y])))
theorem Qjw:MtM X "list.append" Qlf:=by
 intro pins s σ H x vs v us Q I rx rv h
 obtain ⟨l,xs,y,rfl,rfl,hH,hz,q⟩:=h
 cases rx
 obtain ⟨u,rfl,ru⟩:=rv.one
 obtain ⟨z,its,n,r,hl,e⟩:=I.lstM hH
 refine call_meets F.slot_list_append ⟨_,e,rfl⟩ F.entry_list_append (F.args_list_append_2 _ _) (PySem.list_append l its.toArray n u (by rw [List.size_toArray];omega)) ⟨e,?_⟩
 refine ⟨.non,_,I.lset (its':=its++[u]) hH e (by simp) (r.append (.cons ru .nil)) ?_,rfl,q⟩
 rw [List.length_append,List.length_singleton]
 omega
noncomputable def Qqa:V→List V→Hp→VK→Prop:=fun x vs H Q=>∃ l xs,x=.ref l∧vs=[]∧H l=some (.lst xs)∧Q .non (upd H l (.lst xs.reverse))
theorem Qs0:MtM X "list.reverse" Qqa:=by
 intro pins s σ H x vs v us Q I rx rv h
 obtain ⟨l,xs,rfl,rfl,hH,q⟩:=h
 cases rx
 have hus:=rv.zero
 subst hus
 obtain ⟨z,its,n,r,hl,e⟩:=I.lstM hH
 refine call_meets F.slot_list_reverse ⟨_,e,rfl⟩ F.entry_list_reverse (F.args_list_reverse_1 _) (AutoSeq1.list_reverse_list_0 l its.toArray n (by rw [List.size_toArray];omega)) ⟨e,?_⟩
 refine ⟨.non,_,I.lset (its':=its.reverse) hH e (by simp) r.reverse ?_,rfl,q⟩
 rw [List.length_reverse]
 omega
noncomputable def rCat:R2:=fun x y H Q=>∃ l b xs zs,x=.ref l∧y=.ref b∧H l=some (.lst xs)∧H b=some (.lst zs)∧xs.length+zs.length≤sizeLine∧∀ p,H p=none→Q (.ref p) (upd H p (.lst (xs++zs)))
theorem Q8b:OpR X (binaryOp .Add) rCat:=by
 intro pins s σ H x y v u Q I rx ry h
 obtain ⟨l,b,xs,zs,rfl,rfl,hH,hB,hz,q⟩:=h
 cases rx
 cases ry
 obtain ⟨z,its,n,r,hl,e⟩:=I.lstM hH
 obtain ⟨z2,its2,n2,r2,hl2,e2⟩:=I.lstM hB
 refine PySem.P.add_list e e2 ?_ (by rw [List.size_toArray,List.size_toArray];omega)
 have ea:its.toArray++its2.toArray=(its++its2).toArray:=by simp
 rw [ea]
 exact ⟨.ref _,_,I.lnew (t':=s.toks) (r.append r2) (by rw [List.length_append];omega),rfl,q _ I.fresh⟩
noncomputable def rRep:R2:=fun x y H Q=>∃ l k xs,x=.ref l∧y=.int k∧H l=some (.lst xs) ∧ -(2^63)≤k∧k<2^63∧xs.length*k.toNat≤sizeLine ∧
 ∀ p,H p=none→Q (.ref p) (upd H p (.lst (List.replicate k.toNat xs).flatten))
theorem Qiy {α:Type} (xs:List α) (k:Nat):(List.replicate k xs).flatten.length=k*xs.length:=by
 induction k with
 | zero=>simp
 | succ k ih=>rw [List.replicate_succ,List.flatten_cons,List.length_append,ih,Nat.succ_mul,Nat.add_comm]
theorem Q8c:OpR X (binaryOp .Mult) rRep:=by
 intro pins s σ H x y v u Q I rx ry h
 obtain ⟨l,k,xs,rfl,rfl,hH,h1,h2,hz,q⟩:=h
 cases rx
 obtain ⟨t,rfl⟩:=ry
 obtain ⟨z,its,n,r,hl,e⟩:=I.lstM hH
 have hlen:its.toArray.size*k.toNat≤sizeLine:=by rw [List.size_toArray,←hl];exact hz
 have hcap:¬ its.toArray.size*k.toNat>(2^63-1) / 8:=by
  have:(sizeLine:Nat)≤(2^63-1) / 8:=by decide
  omega
 have hfit:¬ (!Builtin.List.listFitsIndex k)=true:=by
  rw [fitsIndex_both h1 h2]
  exact Bool.false_ne_true
 have hlong:¬ Builtin.List.listTooLong (its.toArray.size*k.toNat)=true:=by
  rw [Qyn hlen]
  exact Bool.false_ne_true
 have hnew:List.foldl (fun x1 x2=>x1++x2) #[] (List.replicate (if its.toArray.isEmpty=true then 0 else k.toNat) its.toArray)=(List.replicate k.toNat its).flatten.toArray:=by
  have f0:∀ m:Nat,List.foldl (fun x1 x2=>x1++x2) #[] (List.replicate m its.toArray)=(List.replicate m its).flatten.toArray:=fun m=>by
   have:=Qjv its m []
   rw [List.nil_append] at this
   exact this
  rw [f0]
  cases its with
  | nil=>simp
  | cons a r'=>rw [if_neg (by simp)]
 refine wpAny_binaryOp_repeat_ref (T := "list") (U := "int") (by decide) ⟨_,e,rfl⟩ (fun s'=>typeIs_int s' k t) noFill_list_mul F.fills_int_mul F.slot_int_rmul repeat_list F.slot_int_index.lookup
  (call_meets F.slot_int_rmul (typeIs_int s k t) F.entry_int_rmul (F.args_int_rmul_2 _ _) (int___rmul___int_list k t l its.toArray n)
   ⟨e,rfl,⟨_,e,rfl⟩,call_meets F.slot_list_mul ⟨_,e,rfl⟩ F.entry_list_mul (F.args_list_mul_2 _ _) (AutoListH.list___mul___list_int_3 l its.toArray n k t hfit hcap hlong) ⟨e,?_⟩⟩)
 rw [hnew]
 exact ⟨.ref _,_,I.lnew (t':=s.toks) (r.rep k.toNat) (by rw [Qiy,Nat.mul_comm];exact hz),rfl,q _ I.fresh⟩
end
section
variable {prog:Program} {w:World} {A:Around} {E:Value→Shared→Prop} {s:Shared}
end
section
variable {X:Cx}
end
end L2
namespace Att
open PySem PySem.W PySem.Calls PyProof.Rows
theorem ints_of_wellAll {P:Params} {h:Heap}:∀ (ns:List Int) (vs:List Value),WellAll P h vs (ns.map WData.int)→IntsAre vs ns:=by
 intro ns
 induction ns with
 | nil =>
  intro vs w
  rw [List.map_nil] at w
  cases w
  exact .nil
 | cons n ns ih =>
  intro vs w
  rw [List.map_cons] at w
  cases w with
  | cons a b =>
   cases a
   exact .cons _ _ (ih _ b)
theorem script_of {l:OpenLaw} {n:Nat} (hn:l.most=some n) {P:Params} {h:Heap} {args:List WData} {vals:List Value}
  (hpre:l.row.toRowW.claim.pre args=true) (hwl:WellAll P h vals args) :
  ∃ a vs ns,vals=[Value.ref a]∧args=[WData.list (ns.map WData.int)]∧h.get? a=some { cls:=.type "list",data:=.seq vs.toArray }∧IntsAre vs ns∧ns.length≤n:=by
 have hsh:WShape.hasAll [] args [.list .int]=true:=(pre_splitW hpre).1
 have hc:l.pre.holds [] { args:=args }=true:=(pre_splitW hpre).2
 obtain ⟨d,r,rfl,h1,h2⟩:=hasAllW_cons hsh
 obtain rfl:=hasAllW_nil h2
 obtain ⟨xs,rfl,h3⟩:=hasW_list h1
 obtain ⟨ns,rfl⟩:=items_int h3
 have hlen:ns.length≤n:=by
  unfold OpenLaw.pre at hc
  have h4:(WTm.not (.lt (.lit (.int (n:Int))) (.len (.arg 0)))).holds [] { args:=[.list (ns.map .int)] }=true:=by
   have h4:=(holds_andW hc).1
   rw [hn] at h4
   exact h4
  have h5:=condW_of h4 (w_not (w_lt w_lit (w_len_list (w_arg rfl))))
  rw [List.length_map] at h5
  refine Nat.le_of_not_lt fun q=>?_
  have q':(n:Int)<((ns.length:Nat):Int):=by omega
  first
   | (rw [decide_eq_true q'] at h5;exact absurd h5 (by decide))
   | (simp at h5;omega)
 cases hwl with
 | cons w1 w2 =>
  cases w2
  cases w1 with
  | list ho hall=>exact ⟨_,_,ns,rfl,rfl,ho,ints_of_wellAll ns _ hall,hlen⟩
theorem post_true (l:OpenLaw) (args:List WData):l.row.toRowW.claim.post args (.bool true) args=true :=
 postW_of (r:=l.row.toRowW) (X:=(true==true))
  (show WShape.has [] (.bool true) .bool=true by first | rfl | decide | simp [WShape.has,WShape.arms,WShape.armsAll])
  (show (WTm.eq .res (.lit (.bool true))).value [] { args:=args,res:=some (.bool true),after:=args }=some (.bool (true==true)) from w_eq_bool (w_res rfl) w_lit) rfl
theorem attach_call {l:OpenLaw} {n:Nat} {q:Program} {loose:List Str} {XP:(Str→Option Value)→Heap→Prop} {YP:World→Heap→Prop} {d:DefRec}
  (hn:l.most=some n) (hdf:d.params.defaults=[])
  (call:∀ (w:World) (s₀ s₁:Shared) (mg mb:Str→Option Value) (fa:Addr) (o:Obj) (pm cd doc:Value) (a:Addr) (vs:List Value) (ns:List Int),
   Ground q loose [] XP w s₀ mg mb s₁.heap→YP w s₁.heap →
   s₁.heap.get? fa=some o→o.data=.func (docDef d.name d.params d.body d.scope pm cd doc)→s₁.heap.CodeRec cd d.name→mg d.name=some (.ref fa) →
   s₁.heap.get? a=some { cls:=.type "list",data:=.seq vs.toArray }→IntsAre vs ns→ns.length≤n→s₁.gens = #[] →
   codeAny (model l.prog w) callerA (.call (.ref fa) ⟨[.ref a],[]⟩) (fun r s'=>r=.ok (.ret (.bool true))∧OldK s₁.heap s'.heap∧s'.os=s₁.os∧AllBare s'.gens) s₁) :
  WalkO q loose XP YP l.row.toRowW d [] (fun f vs=>PySem.call f vs):=by
 intro w s₀ s₁ mg mb G Y fa o pm cd doc dV kV ho hd hcd hD hmg hg args vals as hpre hlay hrd hwl hlo
 obtain rfl:dV=.none:=Dflts.none hD hdf
 obtain rfl:kV=.none:=Dflts.noKw hD
 obtain ⟨a,vs,ns,rfl,rfl,hobj,hints,hlen⟩:=script_of hn hpre hwl
 refine enter_call (codeAny_mono (call w s₀ s₁ mg mb fa o pm cd doc a vs ns G Y ho (fd_plain hd) hcd hmg hobj hints hlen hg) fun r s' hq=>?_)
 obtain ⟨rfl,h2,h3,h4⟩:=hq
 exact ⟨.inl ⟨.bool true,.bool true,[],rfl,fun _=>rfl,.bool true,post_true l _,fun _=>⟨List.Pairwise.nil,fun _ hm=>(nomatch hm)⟩⟩,h2,h3,h4⟩
section
variable {prog:Program} {w:World} {A:Around} {E:Value→Shared→Prop} {s:Shared} {K:Frag}
end
end Att
namespace L2
open PySem PySem.Spec PyProof.Rows
theorem Qnt:∀ {vs:List Value} {ns:List Int},IntsAre vs ns→Vals (ns.map V.int) vs
 | _,_,.nil=>.nil
 | _,_,.cons n t h=>.cons ⟨t,rfl⟩ (Qnt h)
noncomputable def Q2p (H:Hp):Prop:=∀ b,H b=none∨∃ o xs,H b=some (.frz o (.lst xs))
theorem Qyo {P:Program} {w:World} {K:PySem.W.Frag} {mg mb:Str→Option Value} {CX:CXT} {k:Nat} {fa a:Addr} {fd:FuncData} {x:Str} {sp:Sp} {s₁:Shared} {vs:List Value} {ns:List Int}
  (KX:K.In s₁.heap) (hns:s₁.heap.Ns mainGlobals mg) (hb:s₁.heap.Ns builtinsNs mb) (hbb:∀ x:Str,x ≠ "__name__" → mb x=bootBuiltins x) (hlim:s₁.heap.NoLimit) (hg:s₁.gens = #[])
  (ha:s₁.heap.get? a=some { cls:=.type "list",data:=.seq vs.toArray }) (hi:IntsAre vs ns) (hl:ns.length≤sizeLine) (hr:Room k callerA)
  (F:∀ base:Heap,K.In base→base.Ns mainGlobals mg→FnOk P w K mg base CX k fa fd [x] sp) (hbind:∀ (s:Shared) (u:Value),BindsTo s fd ⟨[u],[]⟩ [(x,u)])
  (hsp:∀ H:Hp,Q2p H→SqL K H a (ns.map V.int)→sp [.ref a] H (fun v _=>v=.bl true) fun _ _ _=>False)
  (hCX:∀ H e s',CX [] H s₁ (fun _ _ _=>False) e s'→False)
  (hbm:∃ bm ob,mg "__builtins__" = some (.ref bm)∧bm≠builtinsNs∧s₁.heap.get? bm=some ob∧ob.cls=.type "module" ∧ ob.dict=some builtinsNs∧ob.data=.plain) (hT:∀ a q,¬ Qxx K a q) :
  codeAny (model P w) callerA (.call (.ref fa) ⟨[.ref a],[]⟩) (fun r s'=>r=.ok (.ret (.bool true))∧OldK s₁.heap s'.heap∧s'.os=s₁.os∧AllBare s'.gens) s₁:=by
 have rv:=Qnt hi
 have lenV:=hi.length
 -- from an abstract heap in which nothing but the script may be tracked
 have core:∀ H:Hp,Q2p H→SqL K H a (ns.map V.int)→HOk P w H s₁.heap→(∀ b,H b≠none→b=a)→(H a≠none→K.lookup a=none) →
   codeAny (model P w) callerA (.call (.ref fa) ⟨[.ref a],[]⟩) (fun r s'=>r=.ok (.ret (.bool true))∧OldK s₁.heap s'.heap∧s'.os=s₁.os∧AllBare s'.gens) s₁:=by
  intro H hO hS hok hA hK
  have base_of:∀ {b:Addr} {o:Obj},s₁.heap.get? b=some o→H b=none→(Qoq s₁.heap H).get? b=some o:=fun e n=>Qxw e n
  have noA:∀ {b:Addr} {o:Obj} {es:Array DictEntry} {ep:Nat},s₁.heap.get? b=some o→o.data=.dict es ep→H b=none:=fun {b o es ep} e d=>by
   cases q:H b with
   | none=>rfl
   | some u =>
    have e':b=a:=hA b (by rw [q];simp)
    subst e'
    rw [ha] at e;cases e
    have d':Data.seq vs.toArray _=Data.dict es ep:=d
    cases d'
  have noS:∀ {b:Addr} {o:Obj},s₁.heap.get? b=some o→o.data=.plain→H b=none:=fun {b o} e d=>by
   cases q:H b with
   | none=>rfl
   | some u =>
    have e':b=a:=hA b (by rw [q];simp)
    subst e'
    rw [ha] at e;cases e
    cases (show Data.seq vs.toArray _=Data.plain from d)
  have nsK:∀ {b:Addr} {m:Str→Option Value},s₁.heap.Ns b m→(Qoq s₁.heap H).Ns b m:=fun {b m} ⟨o,es,ep,e,d,r⟩=>⟨o,es,ep,base_of e (noA e d),d,r⟩
  have hKb:K.In (Qoq s₁.heap H):=fun b o e=>base_of (KX b o e) (by
   cases q:H b with
   | none=>rfl
   | some u =>
    have e':b=a:=hA b (by rw [q];simp)
    subst e'
    rw [hK (by rw [q];simp)] at e;cases e)
  have hM:Mod K mg (Qoq s₁.heap H):=⟨hKb,nsK hns,⟨mb,nsK hb,hbb⟩,let ⟨mc,h1,h2⟩:=hlim;⟨mc,nsK h1,h2⟩,let ⟨bm,ob,b1,b2,b3,b4,b5,b6⟩:=hbm;⟨bm,ob,b1,b2,base_of b3 (noS b3 b6),b4,b5,b6⟩⟩
  have e0:Env0 P w K mg (Qoq s₁.heap H) callerA [] s₁ H:=⟨rfl,hM,fun b o e=>Q11 e,Nat.le_of_eq (Qv7 _ _),trivial,⟨fun b hb=>absurd (show b∈([]:List Addr) from hb) (by simp),fun a q z=>(hT a q z).elim⟩,hok,.of_eq hg⟩
  refine codeAny_mono ((F _ hKb (nsK hns)).run callerA [] s₁ H ⟨[.ref a],[]⟩ [.ref a] [.ref a] _ _ hr e0 (hbind s₁ (.ref a)) (.cons rfl .nil) (hsp H hO hS)) fun r s' h=>?_
  cases r with
  | error e=>exact (hCX H e s' h).elim
  | ok fl =>
   cases fl with
   | next=>exact False.elim h
   | brk=>exact False.elim h
   | cont=>exact False.elim h
   | ret u =>
    obtain ⟨v,H',os,bare,un,hok',r',q⟩:=h
    have q':v=.bl true:=q
    subst q'
    obtain rfl:u=Value.bool true:=r'
    refine ⟨rfl,OldK.of_keep fun b o e=>?_,os,bare⟩
    cases q:H b with
    | none=>exact un.keep b o e q (by intro z;exact absurd (show b∈([]:List Addr) from z) (by simp)) (by simp)
    | some u =>
     rcases hO b with z | ⟨ob,xs,z⟩
     ·rw [q] at z;cases z
     ·have z2:=un.frzs b ob _ z
      obtain ⟨e1,_⟩:=hok b _ z
      obtain ⟨e2,_⟩:=hok' b _ z2
      rw [e] at e1;cases e1
      exact e2
 cases hk:K.lookup a with
 | some o =>
  -- the script is one of the module's own objects
  have e:=KX a o hk
  rw [ha] at e
  cases e
  refine core (fun _=>none) (fun _=>.inl rfl) (.inr ⟨_,vs.toArray,_,hk,rfl,rfl,rfl,by rw [List.size_toArray,lenV];exact hl,by simpa using rv⟩) (fun b u z=>by have z':(none:Option HO)=some u:=z;cases z') (fun b z=>absurd rfl z) fun z=>absurd rfl z
 | none =>
  refine core (fun b=>if b=a then some (.frz { cls:=.type "list",data:=.seq vs.toArray } (.lst (ns.map V.int))) else none) (fun b=>?_) (.inl (.inr ⟨{ cls:=.type "list",data:=.seq vs.toArray },if_pos rfl⟩)) (fun b u z=>?_) (fun b z=>?_) fun _=>hk
  ·by_cases hb:b=a
   ·exact .inr ⟨_,_,if_pos hb⟩
   ·exact .inl (if_neg hb)
  ·by_cases hb:b=a
   ·have z':=(if_pos hb).symm.trans z
    cases z'
    subst hb
    exact ⟨ha,by rw [List.length_map];exact hl,vs,_,rv,ha⟩
   ·have z':=(if_neg hb).symm.trans z
    cases z'
  ·by_cases hb:b=a
   ·exact hb
   ·exact absurd (if_neg hb) z
noncomputable abbrev KOf {K:PySem.W.Frag} {h:Heap} (_:K.In h):PySem.W.Frag:=K
theorem Q2q {l:PySem.W.OpenLaw} {n k:Nat} {q:Program} {loose:List Str} {XP:(Str→Option Value)→Heap→Prop} {YP:World→Heap→Prop} {d:DefRec} {K:Params→PySem.W.Frag} {CX:World→CXT} {sp:World→Sp} {x:Str}
  (hn:l.most=some n) (hn2:n≤sizeLine) (hdf:d.params.defaults=[]) (hr:Room k callerA)
  (hY:∀ (w:World) (h:Heap),YP w h→(K w.params).In h)
  (F:∀ (w:World) (mg:Str→Option Value) (fa:Addr) (h:Heap),(K w.params).In h→h.Ns mainGlobals mg→mg d.name=some (.ref fa) →
   ∃ fd:FuncData,(∀ (s:Shared) (u:Value),BindsTo s fd ⟨[u],[]⟩ [(x,u)]) ∧
    ∀ base:Heap,(K w.params).In base→base.Ns mainGlobals mg→FnOk l.prog w (K w.params) mg base (CX w) k fa fd [x] (sp w))
  (hsp:∀ (w:World) (H:Hp) (a:Addr) (ns:List Int),ns.length≤n→Q2p H→SqL (K w.params) H a (ns.map V.int)→sp w [.ref a] H (fun v _=>v=.bl true) fun _ _ _=>False)
  (hCX:∀ (w:World) (H:Hp) (s:Shared) (e:Value) (s':Shared),CX w [] H s (fun _ _ _=>False) e s'→False) (hT:∀ (w:World) a q,¬ Qxx (K w.params) a q) :
  PySem.W.WalkO q loose XP YP l.row.toRowW d [] (fun f vs=>PySem.call f vs):=by
 refine Att.attach_call hn hdf fun w s₀ s₁ mg mb fa o pm cd doc a vs ns G Y ho hd hcd hmg hobj hints hlen hg=>?_
 have KX:=hY w _ Y
 obtain ⟨fd,hb,hF⟩:=F w mg fa _ KX G.T.g hmg
 exact Qyo KX G.T.g G.T.b G.T.builtins G.T.nolimit hg hobj hints (Nat.le_trans hlen hn2) hr hF hb (fun H hO hS=>hsp w H a ns hlen hO hS) (fun H e s'=>hCX w H s₁ e s') G.T.bmain (hT w)
theorem Qyp {l:PySem.W.OpenLaw} {n k:Nat} {q:Program} {loose:List Str} {XP:(Str→Option Value)→Heap→Prop} {YP:World→Heap→Prop} {d:DefRec} {K:Params→PySem.W.Frag} {CX:CXT} {sp:PySem.W.Frag→Sp} {x:Str}
  (hn:l.most=some n) (hn2:n≤sizeLine) (hdf:d.params.defaults=[]) (hr:Room k callerA)
  (hY:∀ (w:World) (h:Heap),YP w h→(K w.params).In h)
  (F:∀ (w:World) (mg:Str→Option Value) (fa:Addr) (h:Heap),(K w.params).In h→h.Ns mainGlobals mg→mg d.name=some (.ref fa) →
   ∃ fd:FuncData,(∀ (s:Shared) (u:Value),BindsTo s fd ⟨[u],[]⟩ [(x,u)]) ∧
    ∀ base:Heap,(K w.params).In base→base.Ns mainGlobals mg→FnOk l.prog w (K w.params) mg base CX k fa fd [x] (sp (K w.params)))
  (hsp:∀ (K:PySem.W.Frag) (H:Hp) (a:Addr) (ns:List Int),ns.length≤n→Q2p H→SqL K H a (ns.map V.int)→sp K [.ref a] H (fun v _=>v=.bl true) fun _ _ _=>False)
  (hCX:∀ (H:Hp) (s:Shared) (e:Value) (s':Shared),CX [] H s (fun _ _ _=>False) e s'→False) (hT:∀ (w:World) a q,¬ Qxx (K w.params) a q) :
  PySem.W.WalkO q loose XP YP l.row.toRowW d [] (fun f vs=>PySem.call f vs) :=
 Q2q (K:=K) (CX:=fun _=>CX) (sp:=fun w=>sp (K w.params)) hn hn2 hdf hr hY F (fun w H a ns h1 h2 h3=>hsp (K w.params) H a ns h1 h2 h3) (fun _ H s e s'=>hCX H s e s') hT
noncomputable def Q2r (s:Stmt) (j:Nat):Stmt:=match s with
 | .ClassDef _ _ _ body _ _ _ _ _ _ _=>body.getD j (.Pass ⟨0,0,0,0⟩)
 | _=>.Pass ⟨0,0,0,0⟩
noncomputable def Qbe (s:Stmt):Arguments:=match s with
 | .FunctionDef _ a _ _ _ _ _ _ _ _=>a
 | _=>{ posonlyargs:=[],args:=[],vararg:=none,kwonlyargs:=[],kw_defaults:=[],kwarg:=none,defaults:=[] }
noncomputable def Qaa (s:Stmt):List Stmt:=match s with
 | .FunctionDef _ _ b _ _ _ _ _ _ _=>b
 | _=>[]
noncomputable def Qf (s:Stmt):Scope:=match s with
 | .FunctionDef _ _ _ _ _ _ sc _ _ _=>sc
 | _=>{ kind:=.function,names:=[],isGenerator:=false,isCoroutine:=false }
noncomputable abbrev CX0:CXT:=fun _ _ _ _ _ _=>False
noncomputable abbrev E0:XK:=fun _ _ _=>False
theorem Qace {X:Cx}:Qsx CX0 X E0:=fun _ _ _ _ _ _ _ h=>h.elim
structure Fun (K:PySem.W.Frag) (x qual:Str) (st:Stmt) (f:Addr) (fd:FuncData):Prop where
 ex:∃ (oc:Value) (od:Option Addr) (kV doc pm:Value) (an:Option Addr) (cdv ct:Value) (osl:Array (Option Value)),
  fd=PySem.W.fnOf x qual (Qbe st) (Qaa st) (Qf st) .none kV doc pm an cdv ct∧K.lookup f=some ⟨oc,od,.func fd,osl⟩∧PySem.W.codeIn K cdv qual=true
 kp:PySem.W.keepIn K (.ref f)=true
section
variable {P:Program} {w:World} {K:PySem.W.Frag} {mg:Str→Option Value} {base:Heap}
theorem Fun.ok {x qual:Str} {st:Stmt} {f:Addr} {fd:FuncData} {N ps:List Str} {k:Nat} {sp:Sp} (F:Fun K x qual st f fd) (S:FnScope N ps (Qf st)) (len:∀ vs H Q E,sp vs H Q E→vs.length=ps.length)
  (hbody:∀ (cdv:Value) (A:Around) (outer:List Env) (s:Shared) (H:Hp) (vs:List V) (Q:VK) (E:XK),Room k (A.deeper (envOfC qual (Qf st) s.heap.objs.size f cdv))→sp vs H Q E →
   ∃ t,PSs (Qh2 (fun _=>true) CX0 P w K mg base N qual (Qf st) f cdv A outer s H E).nox (Qaa st) t∧t { nx:=fun _ H'=>Q .non H',rt:=Q } (Qbs N vs) H):FnOk P w K mg base CX0 (k+1) f fd ps sp:=by
 obtain ⟨oc,od,kV,doc,pm,an,cdv,ct,osl,rfl,lk,hcd⟩:=F.ex
 refine Q5u (g:=fun _=>true) lk hcd S len fun A outer s H vs Q E hr hsp=>?_
 obtain ⟨t,h,q⟩:=hbody cdv A outer s H vs Q E hr hsp
 exact ⟨t,h.nox,q⟩
theorem Fun.binds {x qual:Str} {st:Stmt} {f:Addr} {fd:FuncData} {ps:List Str} (F:Fun K x qual st f fd)
  (h:∀ (kV doc pm:Value) (an:Option Addr) (cdv ct:Value) (us:List Value),us.length=ps.length→bindArgs (PySem.W.fnOf x qual (Qbe st) (Qaa st) (Qf st) .none kV doc pm an cdv ct) ⟨us,[]⟩=pure (ps.zip us)):Binds K fd ps []:=by
 obtain ⟨oc,od,kV,doc,pm,an,cdv,ct,osl,rfl,lk,hcd⟩:=F.ex
 exact .all (h kV doc pm an cdv ct)
theorem Qyq {x qual:Str} {st:Stmt} {f:Addr} {oc:Value} {od an:Option Addr} {osl:Array (Option Value)} {kV doc pm cdv ct:Value} (l:K.lookup f=some ⟨oc,od,.func (PySem.W.fnOf x qual (Qbe st) (Qaa st) (Qf st) .none kV doc pm an cdv ct),osl⟩)
  (c:PySem.W.codeIn K cdv qual=true) (k:PySem.W.keepIn K (.ref f)=true):Fun K x qual st f (PySem.W.fnOf x qual (Qbe st) (Qaa st) (Qf st) .none kV doc pm an cdv ct):=⟨⟨oc,od,kV,doc,pm,an,cdv,ct,osl,rfl,l,c⟩,k⟩
end
section
variable {X:Cx}
theorem pv (i:Nat) {x:Str} {pos:Pos} (hN:X.N[i]?=some x:=by rfl) (hv:Vis X.env.scope x:=by first | exact Or.inl rfl | exact Or.inr (Or.inl rfl) | exact Or.inr (Or.inr rfl)) (hd:(x==("__debug__" : Str))=false:=by decide)
  (hcd:(x==("__classdict__" : Str))=false:=by decide):PE X (.Name x pos) (Qk4 i):=Q7b hN hv hd hcd
end
theorem iteF {A B:Prop} (h:B):if false=true then A else B:=by
 rw [if_neg Bool.false_ne_true]
 exact h
theorem Q8d {A B:Prop} (h:A):if true=true then A else B:=by
 rw [if_pos rfl]
 exact h
theorem ite2 {c A B:Prop} [Decidable c] (h1:c→A) (h2:¬ c→B):if c then A else B:=by
 by_cases h:c
 ·rw [if_pos h]
  exact h1 h
 ·rw [if_neg h]
  exact h2 h
noncomputable def Same (H H':Hp):Prop:=∀ b o,H b=some o→H' b=some o
theorem Same.refl (H:Hp):Same H H:=fun _ _ h=>h
theorem Same.trans {H H1 H2:Hp} (a:Same H H1) (b:Same H1 H2):Same H H2:=fun c o h=>b c o (a c o h)
theorem Same.free {H H':Hp} (e:Same H H') {l:Addr} (h:H' l=Option.none):H l=Option.none:=by
 cases q:H l with
 | none=>rfl
 | some o =>
  rw [e l o q] at h
  cases h
theorem Same.seq {K:PySem.W.Frag} {H H':Hp} {a:Addr} {xs:List V} (e:Same H H') (h:SqL K H a xs):SqL K H' a xs:=by
 rcases h with (h | ⟨o,h⟩) | h
 ·exact .inl (.inl (e _ _ h))
 ·exact .inl (.inr ⟨o,e _ _ h⟩)
 ·exact .inr h
structure LamT where
 qual:Str
 params:Arguments
 body:Expr
 scope:Scope
 caps:List Str
 ps:List Str
noncomputable def Qyr:List (Nat×LamT):=[]
section
variable {κ:Type} [DecidableEq κ]
noncomputable def Qqb (kvs:List (κ×V)) (k:κ) (v:V):List (κ×V) :=
 if (kvs.any fun kv=>decide (kv.1=k))=true then kvs.map (fun kv=>if kv.1=k then (kv.1,v) else kv) else kvs++[(k,v)]
theorem Qqc (kvs:List (κ×V)) (k:κ) (v:V):(Qqb kvs k v).length≤kvs.length+1:=by
 unfold Qqb
 split
 ·rw [List.length_map];omega
 ·rw [List.length_append,List.length_cons,List.length_nil];omega
theorem KV.any {kvs:List (κ×V)} {vs:List (κ×Value)} (r:KV kvs vs) (k:κ):(kvs.any fun kv=>decide (kv.1=k))=vs.any fun kv=>decide (kv.1=k):=by
 unfold KV at r
 induction r with
 | nil=>rfl
 | cons h t ih=>rw [List.any_cons,List.any_cons,ih,h.1]
theorem KV.repl {kvs:List (κ×V)} {vs:List (κ×Value)} (r:KV kvs vs) (k:κ) {y:V} {u:Value} (ry:RelV y u) :
  KV (kvs.map fun kv=>if kv.1=k then (kv.1,y) else kv) (vs.map fun kv=>if kv.1=k then (kv.1,u) else kv):=by
 unfold KV at r ⊢
 induction r with
 | nil=>exact .nil
 | @cons p q ps qs h t ih =>
  rw [List.map_cons,List.map_cons]
  refine .cons ?_ ih
  obtain ⟨h1,h2⟩:=h
  by_cases e:p.1=k
  ·rw [if_pos e,if_pos (h1.symm.trans e)];exact ⟨h1,ry⟩
  ·rw [if_neg e,if_neg (fun z=>e (h1.trans z))];exact ⟨h1,h2⟩
theorem KV.put {kvs:List (κ×V)} {vs:List (κ×Value)} (r:KV kvs vs) (k:κ) {y:V} {u:Value} (ry:RelV y u):KV (Qqb kvs k y) (stored vs k u):=by
 unfold Qqb stored
 rw [r.any k]
 by_cases e:(vs.any fun kv=>decide (kv.1=k))=true
 ·rw [if_pos e,if_pos e];exact r.repl k ry
 ·rw [if_neg e,if_neg e];exact Paired.snoc r ⟨rfl,ry⟩
end
theorem Qacg {P:Program} {w:World} {k:Key} {u:Value} (r:RelV (kV k) u):(Qdm P w).is k u=true:=by
 cases k with
 | inl i=>obtain ⟨t,e⟩:=(show ∃ t,u=Value.int i t from r);subst e;exact Qp7 P w i t
 | inr x=>obtain ⟨t,e⟩:=(show ∃ t,u=Value.str x t from r);subst e;exact Qp8 P w x t
section
variable {P:Program} {w:World} {H:Hp} {h:Heap} {a:Addr}
theorem Qach {u:HO} (ok:HOk P w H h) (e:Rd H a u):ObjOk P w H h a u:=e.ok ok
theorem Qaci {kvs:List (Key×V)} (ok:HOk P w H h) (e:Rd H a (.dK kvs)):kvs.length≤sizeLine∧(a==sysModules)=false∧∃ vs,KV kvs vs∧h.DictOf (Qdm P w) a vs :=
 show ObjOk P w H h a (.dK kvs) from Qach ok e
theorem Qacj {kvs:List (Key×V)} (ok:HOk P w H h) (e:H a=some (.dK kvs)):kvs.length≤sizeLine∧(a==sysModules)=false∧∃ vs,KV kvs vs∧h.DictOf (Qdm P w) a vs:=Qaci ok (.inl e)
end
section
variable {X:Cx} {pins:List (Addr×Obj)} {σ:St} {H:Hp} {s:Shared} {a:Addr} {y v:V} {u r:Value} {o:Option V} {A:Around} {E:Value→Shared→Prop}
theorem Inv.big (I:Inv X pins σ H s):sysModules<s.heap.objs.size:=by
 have h:mainGlobals<s.heap.objs.size:=(I.mod.glob.keeps I.bk).lt
 exact Nat.lt_trans (by decide) h
theorem Q2s {h':Heap} {t':Nat} {ob:HO} (I:Inv X pins σ H s) (mu:Mut (H a)) (hs:Heap.SameBut a s.heap h') (he:∃ q,h'.get? a=some q) (new:ObjOk X.prog X.w (upd H a ob) h' a ob) :
  Inv X pins σ (upd H a ob) { s with heap:=h',toks:=t' } :=
 I.write (x:=a) (e:=a) mu (.inl rfl) (fun b q hb z=>(hs.2 b hb).trans z) he new
theorem Q8e {P:Program} {w:World} {H':Hp} {h':Heap} {kvs:List (Key×V)} {vs:List (Key×Value)} (z:kvs.length≤sizeLine) (hd:(a==sysModules)=false) (rel:KV kvs vs) (dd:h'.DictOf (Qdm P w) a vs) :
  ObjOk P w H' h' a (.dK kvs):=⟨z,hd,vs,rel,dd⟩
end
section
variable {X:Cx} {pins:List (Addr×Obj)} {σ:St} {H:Hp} {s:Shared} {a:Addr} {kvs:List (Key×V)} {k:Key} {u:Value} {A:Around} {E:Value→Shared→Prop}
end
section
variable {X:Cx} {o i e value:Expr} {pos pos' tpos:Pos} {td ty tv:TE}
end
theorem Qys {P:Program} {w:World} {H:Hp} (h:Heap) (hb:sysModules<h.objs.size):ObjOk P w H (h.push { cls:=.type "dict",data:=.dict #[] }) h.objs.size (.dK []) :=
 ⟨Nat.zero_le _,beq_eq_false_iff_ne.mpr (Ne.symm (Nat.ne_of_lt hb)),[],.nil,Heap.DictOf.new h⟩
section
variable {X:Cx} {pos:Pos}
end
noncomputable def Qs1:List (TE×TE)→St→Hp→(List (V×V)→Hp→Prop)→Prop
 | [],_,H,Q=>Q [] H
 | (tk,tv)::r,σ,H,Q=>tk σ H fun x H1=>tv σ H1 fun y H2=>Qs1 r σ H2 fun ps H3=>Q ((x,y)::ps) H3
noncomputable abbrev VV:List (V×V)→List (Value×Value)→Prop:=Paired fun p q=>RelV p.1 q.1∧RelV p.2 q.2
noncomputable def PPs (X:Cx) (pos:Pos) (keys:List (Option Expr)) (values:List Expr) (trs:List (TE×TE)):Prop :=
 ∀ (pins:List (Addr×Obj)) (s:Shared) (σ:St) (H:Hp) (Q:List (V×V)→Hp→Prop),Inv X pins σ H s→Qs1 trs σ H Q →
  wpAny (model X.prog X.w) X.A (evalPairs (pairTrees keys values X.env pos)) (fun vs s'=>∃ ps H',Inv X pins σ H' s'∧VV ps vs∧Q ps H') X.xe s
theorem Q2t {X:Cx} {pos:Pos}:PPs X pos [] [] []:=fun pins s σ H Q I h=>pairTrees_nil_walk ⟨[],H,I,.nil,h⟩
theorem Qyt {X:Cx} {pos:Pos} {k v:Expr} {ks:List (Option Expr)} {vs:List Expr} {tk tv:TE} {trs:List (TE×TE)} (hk:PE X k tk) (hv:PE X v tv) (hr:PPs X pos ks vs trs) :
  PPs X pos (some k::ks) (v::vs) ((tk,tv)::trs):=fun pins s σ H Q I h =>
 pairTrees_cons_walk (thn (hk pins s σ H _ I h) fun u s1 ⟨x,H1,I1,rx,q1⟩=>thn (hv pins s1 σ H1 _ I1 q1) fun w2 s2 ⟨y,H2,I2,ry,q2⟩ =>
  thn (hr pins s2 σ H2 _ I2 q2) fun ws s3 ⟨ps,H3,I3,rel,q3⟩=>⟨(x,y)::ps,H3,I3,.cons ⟨rx,ry⟩ rel,q3⟩)
noncomputable def Qjx (kvs more:List (Key×V)):List (Key×V):=more.foldl (fun acc kv=>Qqb acc kv.1 kv.2) kvs
theorem KV.merge:∀ {more:List (Key×V)} {rs:List (Key×Value)} {kvs:List (Key×V)} {vs:List (Key×Value)},KV more rs→KV kvs vs→KV (Qjx kvs more) (merged vs rs):=by
 intro more rs kvs vs r
 unfold KV at r
 induction r generalizing kvs vs with
 | nil=>intro q;exact q
 | @cons p q ps qs h t ih =>
  intro r0
  have e:KV (Qqb kvs p.1 p.2) (stored vs q.1 q.2):=by
   have:=r0.put p.1 h.2
   rw [←h.1];exact this
  exact ih e
theorem Qh8:∀ (more kvs:List (Key×V)),(Qjx kvs more).length≤kvs.length+more.length
 | [],kvs=>by show kvs.length≤kvs.length+0;omega
 | p::r,kvs=>by
  have h1:=Qh8 r (Qqb kvs p.1 p.2)
  have h2:=Qqc kvs p.1 p.2
  show (Qjx (Qqb kvs p.1 p.2) r).length≤_
  rw [List.length_cons];omega
theorem Qln {P:Program} {w:World}:∀ {kvs:List (Key×V)} {ws:List (Value×Value)},VV (kvs.map fun kv=>(kV kv.1,kv.2)) ws→∃ rs,Carries (Qdm P w) ws rs∧KV kvs rs
 | [],_,r=>by rw [List.map_nil] at r;cases r;exact ⟨[],True.intro,.nil⟩
 | p::kvs,_,r=>by
  rw [List.map_cons] at r
  cases r with
  | @cons a b as bs h t =>
   obtain ⟨rs,c,q⟩:=Qln (P:=P) (w:=w) t
   obtain ⟨b1,b2⟩:=b
   exact ⟨(p.1,b2)::rs,⟨Qacg h.1,rfl,c⟩,.cons ⟨rfl,h.2⟩ q⟩
noncomputable def Qack (trs:List (TE×TE)):TE:=fun σ H Q=>∀ p,H p=none→Qs1 trs σ (upd H p (.dK [])) fun ps H2=>H2 p=some (.dK [])∧∃ kvs:List (Key×V),ps=kvs.map (fun kv=>(kV kv.1,kv.2))∧kvs.length≤15∧Q (.ref p) (upd H2 p (.dK (Qjx [] kvs)))
theorem Q2u {X:Cx} {pos:Pos} {keys:List (Option Expr)} {values:List Expr} {trs:List (TE×TE)} (h:PPs X pos keys values trs) (hall:keys.all (·.isSome)=true) (hl:keys.length=values.length) (h0:keys≠[])
  (h15:keys.length≤15):PE X (.Dict keys values pos) (Qack trs):=by
 intro pins s σ H Q I q
 have hn:=I.hok.fresh (Nat.le_refl s.heap.objs.size)
 have I1:=I.laid (a:=s.heap.objs.size) (o:=.dK []) (h':=s.heap.push { cls:=.type "dict",data:=.dict #[] }) (t':=s.toks) (fun _ _ q=>Heap.get?_push_of_some _ q) (Nat.le_refl _) (Qys s.heap I.big)
 refine wpAny_Dict_walk (knd:=Qdm X.prog X.w) hall hl h0 h15 (thn (h pins _ σ _ _ I1 (q _ hn)) fun ws s2 ⟨ps,H2,I2,rel,e,kvs,ep,lk,q2⟩=>?_)
 subst ep
 obtain ⟨rs,c,rk⟩:=Qln (P:=X.prog) (w:=X.w) rel
 obtain ⟨z,hd,vs0,r0,dd⟩:=Qacj I2.hok e
 cases r0
 refine ⟨rs,c,dd,fun h' dd' hs=>⟨.ref s.heap.objs.size,_,?_,rfl,q2⟩⟩
 have hz:(Qjx [] kvs).length≤sizeLine:=by
  have h1:=Qh8 kvs []
  rw [List.length_nil] at h1
  rw [sizeLine_eq];omega
 have he:∃ q,h'.get? s.heap.objs.size=some q:=let ⟨q,_,_,hq,_⟩:=dd';⟨q,hq⟩
 exact Q2s I2 (by rw [e];exact True.intro) hs he (Q8e hz hd (rk.merge .nil) dd')
structure M1 (X:Cx) (o:Expr) (m:Str) (apos:Pos) (e:Expr) (cpos:Pos):Prop where
 base:attributeBase o m X.env (eval o X.env)=eval o X.env
 few:((backTo cpos (starEach [e] X.env)).all (fun x=>!x.1)&&(backToKw cpos (keywordEach [] X.env)).all (fun x=>x.1.isSome)
  && decide (([e]:List Expr).length+([]:List Keyword).length+(if ([]:List Keyword).isEmpty then 0 else 1)<30))=true
 line:(apos.endLine==cpos.line)=true
 trees:backTo cpos (starEach [e] X.env)=[(false,eval e X.env)]
structure M2 (X:Cx) (o:Expr) (m:Str) (apos:Pos) (e f:Expr) (cpos:Pos):Prop where
 base:attributeBase o m X.env (eval o X.env)=eval o X.env
 few:((backTo cpos (starEach [e,f] X.env)).all (fun x=>!x.1)&&(backToKw cpos (keywordEach [] X.env)).all (fun x=>x.1.isSome)
  && decide (([e,f]:List Expr).length+([]:List Keyword).length+(if ([]:List Keyword).isEmpty then 0 else 1)<30))=true
 line:(apos.endLine==cpos.line)=true
 trees:backTo cpos (starEach [e,f] X.env)=[(false,eval e X.env),(false,eval f X.env)]
section
variable {X:Cx} {pins:List (Addr×Obj)} {σ:St} {H:Hp} {s:Shared} {a:Addr} {y d:V} {u r:Value} {o:Option V} {A:Around} {E:Value→Shared→Prop}
end
section
variable {X:Cx} {o e f:Expr} {apos cpos:Pos} {td ty tx:TE}
end
section
variable {X:Cx} {pins:List (Addr×Obj)} {σ:St} {H:Hp} {s:Shared} {a:Addr} {kvs:List (Key×V)} {A:Around} {E:Value→Shared→Prop}
end
section
variable {X:Cx} {pins:List (Addr×Obj)} {σ:St} {H:Hp} {s:Shared} {a:Addr} {y:V} {u:Value} {A:Around} {E:Value→Shared→Prop}
end
noncomputable def Qiz (env:Env):List (Str×NameKind)→List (Str×Addr)→List (Str×Addr)
 | [],acc=>acc
 | (n,k)::r,acc=>if k==.free then Qiz env r ((n,(env.cells.lookup n).getD 0)::acc) else Qiz env r acc
theorem Qih {env:Env}:∀ (names:List (Str×NameKind)) (acc:List (Str×Addr)),(∀ x∈names,x.2=.free→∃ c,env.cells.lookup x.1=some c) →
  (forIn names acc (fun (x:Str×NameKind) (cs:List (Str×Addr))=>(if (x.2==.free)=true then do let a ← cellOf env x.1;pure (ForInStep.yield ((x.1,a)::cs)) else pure (ForInStep.yield cs):Sem (ForInStep (List (Str×Addr))))))=(pure (Qiz env names acc):Sem (List (Str×Addr)))
 | [],acc,_=>by rw [List.forIn_nil];rfl
 | (n,k)::r,acc,h=>by
  have hr:∀ x∈r,x.2=.free→∃ c,env.cells.lookup x.1=some c:=fun x hx=>h x (List.mem_cons_of_mem _ hx)
  rw [List.forIn_cons]
  unfold Qiz
  by_cases hk:(k==NameKind.free)=true
  ·obtain ⟨c,hc⟩:=h (n,k) List.mem_cons_self (by simpa using hk)
   have hc':env.cells.lookup n=some c:=hc
   rw [if_pos hk]
   simp only [hk,if_true,cellOf,hc',pure_bind,Option.getD_some]
   exact Qih r _ hr
  ·rw [if_neg hk]
   simp only [hk,if_false,pure_bind,Bool.false_eq_true]
   exact Qih r _ hr
theorem Qlo {env:Env} {scope:Scope} (h:∀ x∈scope.names,x.2=.free→∃ c,env.cells.lookup x.1=some c):closureFor scope env=pure (Qiz env scope.names []):=by
 have q:=Qih (env:=env) scope.names [] h
 unfold closureFor
 simp only [bind_pure_comp] at q ⊢
 have e:(fun (x:Str×NameKind) (r:List (Str×Addr))=>(if (x.2==NameKind.free)=true then (fun a=>ForInStep.yield ((x.1,a)::r)) <$> cellOf env x.1 else pure (ForInStep.yield r):Sem (ForInStep (List (Str×Addr)))))=(fun (x:Str×NameKind) (cs:List (Str×Addr))=>(match x with | (name,kind)=>if (kind==NameKind.free)=true then (fun a=>ForInStep.yield ((name,a)::cs)) <$> cellOf env name else pure (ForInStep.yield cs):Sem (ForInStep (List (Str×Addr))))):=by
  funext x cs
  obtain ⟨n,k⟩:=x
  rfl
 rw [e] at q
 simpa using q
theorem Qcc {env:Env} {x:Str} {c:Addr}:∀ (names:List (Str×NameKind)) (acc:List (Str×Addr)),(∀ y∈names,y.2=.free→∃ c,env.cells.lookup y.1=some c)→(Qiz env names acc).lookup x=some c →
  acc.lookup x=some c∨env.cells.lookup x=some c
 | [],acc,_,h=>.inl h
 | (n,k)::r,acc,hf,h=>by
  have hr:∀ x∈r,x.2=.free→∃ c,env.cells.lookup x.1=some c:=fun x hx=>hf x (List.mem_cons_of_mem _ hx)
  unfold Qiz at h
  by_cases hk:(k==NameKind.free)=true
  ·rw [if_pos hk] at h
   obtain ⟨d,hd⟩:=hf (n,k) List.mem_cons_self (by simpa using hk)
   have hd':env.cells.lookup n=some d:=hd
   rcases Qcc r _ hr h with q | q
   ·rw [List.lookup_cons,hd'] at q
    by_cases hx:(x==n)=true
    ·rw [hx] at q
     have e:x=n:=by simpa using hx
     subst e
     simp only [Option.getD_some] at q
     exact .inr (hd'.trans q)
    ·have hx':(x==n)=false:=by simpa using hx
     rw [hx'] at q
     exact .inl q
   ·exact .inr q
  ·rw [if_neg hk] at h
   exact Qcc r _ hr h
theorem Qi0 {env:Env} {x:Str}:∀ (names:List (Str×NameKind)) (acc:List (Str×Addr)),((x,NameKind.free)∈names∨∃ c,acc.lookup x=some c)→∃ c,(Qiz env names acc).lookup x=some c
 | [],acc,h=>by
  rcases h with h | h
  ·cases h
  ·exact h
 | (n,k)::r,acc,h=>by
  unfold Qiz
  by_cases hk:(k==NameKind.free)=true
  ·rw [if_pos hk]
   refine Qi0 r _ ?_
   by_cases hx:(x==n)=true
   ·exact .inr ⟨_,by rw [List.lookup_cons,hx]⟩
   ·have hx':(x==n)=false:=by simpa using hx
    rcases h with h | ⟨c,h⟩
    ·rcases List.mem_cons.mp h with e | h
     ·cases e;simp at hx
     ·exact .inl h
    ·exact .inr ⟨c,by rw [List.lookup_cons,hx'];exact h⟩
  ·rw [if_neg hk]
   refine Qi0 r _ ?_
   rcases h with h | h
   ·rcases List.mem_cons.mp h with e | h
    ·cases e;simp at hk
    ·exact .inl h
   ·exact .inr h
theorem Qck {x:Str} {c:Addr}:∀ (names:List (Str×NameKind)) (n:Nat) (acc:List (Str×Addr)),(cellsFrom n names acc).lookup x=some c→acc.lookup x=some c∨(n≤c∧(x,NameKind.cell)∈names)
 | [],_,_,h=>.inl h
 | (y,k)::r,n,acc,h=>by
  unfold cellsFrom at h
  by_cases hk:(k==NameKind.cell)=true
  ·rw [if_pos hk] at h
   have hk':k=.cell:=by simpa using hk
   rcases Qck r _ _ h with q | ⟨q1,q2⟩
   ·rw [List.lookup_cons] at q
    by_cases hx:(x==y)=true
    ·rw [hx] at q
     cases q
     exact .inr ⟨Nat.le_refl _,by rw [show x=y by simpa using hx,hk'];exact List.mem_cons_self⟩
    ·rw [show (x==y)=false by simpa using hx] at q
     exact .inl q
   ·exact .inr ⟨by omega,List.mem_cons_of_mem _ q2⟩
  ·rw [if_neg hk] at h
   rcases Qck r _ _ h with q | ⟨q1,q2⟩
   ·exact .inl q
   ·exact .inr ⟨q1,List.mem_cons_of_mem _ q2⟩
theorem Qdn {x:Str} {c:Addr}:∀ (names:List (Str×NameKind)) (n:Nat) (acc:List (Str×Addr)),(x,NameKind.cell)∈names→(cellsFrom n names acc).lookup x=some c→n≤c
 | [],_,_,h,_=>by cases h
 | (y,k)::r,n,acc,hm,h=>by
  unfold cellsFrom at h
  by_cases hk:(k==NameKind.cell)=true
  ·rw [if_pos hk] at h
   by_cases hx:(x==y)=true
   ·rcases Qck r _ _ h with q | ⟨q1,q2⟩
    ·rw [List.lookup_cons,hx] at q
     cases q
     exact Nat.le_refl _
    ·omega
   ·rcases List.mem_cons.mp hm with e | hm
    ·cases e;simp at hx
    ·have:=Qdn r _ _ hm h
     omega
  ·rw [if_neg hk] at h
   rcases List.mem_cons.mp hm with e | hm
   ·cases e;simp at hk
   ·exact Qdn r _ _ hm h
theorem Qfi:∀ (names:List (Str×NameKind)) (n:Nat) (acc:List (Str×Addr)),(∀ x c,acc.lookup x=some c→c<n)→(∀ x y c,acc.lookup x=some c→acc.lookup y=some c→x=y) →
  ∀ x y c,(cellsFrom n names acc).lookup x=some c→(cellsFrom n names acc).lookup y=some c→x=y
 | [],_,_,_,hi=>hi
 | (z,k)::r,n,acc,hb,hi=>by
  unfold cellsFrom
  by_cases hk:(k==NameKind.cell)=true
  ·rw [if_pos hk]
   refine Qfi r (n+1) _ (fun x c h=>?_) (fun x y c h1 h2=>?_)
   ·rw [List.lookup_cons] at h
    by_cases hx:(x==z)=true
    ·rw [hx] at h;cases h;exact Nat.lt_succ_self _
    ·rw [show (x==z)=false by simpa using hx] at h
     exact Nat.lt_succ_of_lt (hb x c h)
   ·rw [List.lookup_cons] at h1 h2
    by_cases hx:(x==z)=true
    ·rw [hx] at h1;cases h1
     by_cases hy:(y==z)=true
     ·rw [show x=z by simpa using hx,show y=z by simpa using hy]
     ·rw [show (y==z)=false by simpa using hy] at h2
      exact absurd (hb y n h2) (Nat.lt_irrefl _)
    ·rw [show (x==z)=false by simpa using hx] at h1
     by_cases hy:(y==z)=true
     ·rw [hy] at h2;cases h2
      exact absurd (hb x n h1) (Nat.lt_irrefl _)
     ·rw [show (y==z)=false by simpa using hy] at h2
      exact hi x y c h1 h2
  ·rw [if_neg hk]
   exact Qfi r n acc hb hi
theorem Qdk {names:List (Str×NameKind)}:∀ (names:List (Str×NameKind)) (h:Heap) (acc:List (Str×Addr)),(∀ x c,acc.lookup x=some c→∃ v,h.IsCell c v)→∀ x c,(cellsFrom h.objs.size names acc).lookup x=some c→∃ v,(pushCells h names).IsCell c v
 | [],_,_,hi=>hi
 | (z,k)::r,h,acc,hi=>by
  unfold cellsFrom pushCells
  by_cases hk:(k==NameKind.cell)=true
  ·rw [if_pos hk,if_pos hk]
   have q:=Qdk (names:=names) r (h.push { cls:=.type "cell",data:=.cell none }) ((z,h.objs.size)::acc) (fun x c hx=>by
    rw [List.lookup_cons] at hx
    by_cases hz:(x==z)=true
    ·rw [hz] at hx;cases hx
     exact ⟨none,⟨_,Heap.get?_push_size _ rfl,rfl⟩⟩
    ·rw [show (x==z)=false by simpa using hz] at hx
     obtain ⟨v,w⟩:=hi x c hx
     exact ⟨v,w.keeps fun b o e=>Heap.get?_push_of_some _ e⟩)
   rwa [Heap.size_push] at q
  ·rw [if_neg hk,if_neg hk]
   exact Qdk (names:=names) r h acc hi
theorem Qkp {M:Model} {A:Around} {E:Value→Shared→Prop} {s:Shared} {scope:Scope} {globals:Addr} {cl:List (Str×Addr)} {qual:Str} {env:Env} {Q:Env→Shared→Prop}
  (hQ:Q { scope:=scope,locals:=s.heap.objs.size,globals:=globals,cells:=cellsFrom (s.heap.objs.size+1) scope.names cl,qual:=qual,func:=none,code:=env.code,frame:=env.frame,builtins:=env.builtins } { s with heap:=pushCells (s.heap.push { cls:=.type "dict",data:=.dict #[] }) scope.names }) :
  wpAny M A (newFunctionEnv scope globals cl [] qual none .none (some env)) Q E s:=by
 simp only [newFunctionEnv,Option.isSome_some,if_true]
 refine wpAny_bind (wpAny_alloc ?_)
 refine wpAny_bind (wpAny_layCells _ (fun name kind cells=>by cases hkc:kind==NameKind.cell <;> simp [hkc]) _ _ _ _ ?_)
 rw [show ({ s with heap:=s.heap.push { cls:=.type "dict",data:=.dict #[] } }:Shared).heap.objs.size=s.heap.objs.size+1 from Heap.size_push ..]
 simp only [List.forIn_nil,pure_bind]
 exact wpAny_pure hQ
theorem Qi1 {prog:Program} {w:World} {A:Around} {R:Result→Shared→Prop} {s:Shared} {elt target iter:Expr} {ifs:List Expr} {scope:Scope} {pos:Pos} {it acc:Value} {env:Env} (I:Nat→Shared→Prop)
  (turn:∀ n s,I n s→wpAny (model prog w) A (pyNext it) (fun r s1=>match r with
   | none=>R (.ok .next) s1
   | some v=>wpAny (model prog w) A (letOwnedTupleGo target it v) (fun _ s1'=>wpAny (model prog w) A (assign target env v) (fun _ s2 =>
     wpAny (model prog w) A (forIn ifs true fun c r=>if r=true then do let ok ← isTrue c env (eval c env);pure (ForInStep.yield ok) else pure (ForInStep.yield r)) (fun ok s3 =>
      if ok=true then wpAny (model prog w) A (eval elt env) (fun x s4 =>
       wpAny (model prog w) A (call (.builtin "list.append") [acc,x]) (fun _ s5=>∃ m,m<n∧I m s5) (fun _ _=>False) s4) (fun _ _=>False) s3
      else ∃ m,m<n∧I m s3) (fun _ _=>False) s2) (fun _ _=>False) s1') (fun _ _=>False) s1) (fun _ _=>False) s)
  (n:Nat) (h:I n s) :
  codeAny (model prog w) A (.compLoop (.ListComp elt [⟨target,iter,ifs,0⟩] scope pos) 0 it acc env) R s:=by
 refine codeAny_loop rfl I (fun n s hI=>?_) n h
 show wpAny _ A ((compTurn (.ListComp elt [⟨target,iter,ifs,0⟩] scope pos) 0 it acc env).onRaise (fun x=>do noteFrame x env;theTreesLotGoes x)) _ _ s
 refine wpAny_noted ?_
 rw [compTurn_list]
 refine wpAny_bind (wpAny_standAt (wpAny_bind (wpAny_mono (turn n s hI) (fun r s1 h1=>?_) fun _ _ h'=>h'.elim)))
 cases r with
 | none=>exact wpAny_pure h1
 | some v =>
  refine wpAny_bind (wpAny_mono h1 (fun _ s1' h1'=>wpAny_bind (wpAny_mono h1' (fun _ s2 h2=>wpAny_bind (wpAny_mono h2 (fun ok s3 h3=>?_) fun _ _ h'=>h'.elim)) fun _ _ h'=>h'.elim)) fun _ _ h'=>h'.elim)
  cases ok with
  | false=>exact wpAny_pure ⟨rfl,h3⟩
  | true =>
   exact wpAny_bind (wpAny_bind (wpAny_mono h3 (fun x s4 h4=>wpAny_bind (wpAny_mono h4 (fun _ s5 h5=>wpAny_pure (wpAny_pure ⟨rfl,h5⟩)) fun _ _ h'=>h'.elim)) fun _ _ h'=>h'.elim))
noncomputable def Q9 (X:Cx) (scope:Scope) (N:List Str) (s:Shared) (H:Hp) (fp:List Addr):Cx where
 prog:=X.prog
 w:=X.w
 K:=X.K
 mg:=X.mg
 base:=X.base
 A:=X.A
 N:=N
 s₀:=s
 H₀:=H
 env:={ scope:=relabel scope X.env,locals:=s.heap.objs.size,globals:=X.env.globals,cells:=cellsFrom (s.heap.objs.size+1) scope.names (Qiz X.env scope.names []),qual:=X.env.qual,func:=none,code:=X.env.code,frame:=X.env.frame,builtins:=X.env.builtins }
 outer:=X.stack
 stack:=X.stack
 ex:=fp
 fn:=fun x=>decide ((x,NameKind.cell)∈scope.names)
 calm:=X.calm
 pn:=[]
 xe:=fun _ _=>False
noncomputable def Qfu (js:List (Option Nat)) (σ:St):St:=js.map fun o=>match o with | none=>none | some j=>(σ[j]?).join
noncomputable def Qi2 (X:Cx) (scope:Scope) (N:List Str) (js:List (Option Nat)):Bool :=
 (N.length==js.length)&&(N.zip js).all fun p=>match p.2 with
  | none=>true
  | some j=>X.N[j]?==some p.1&&(scope.names.lookup p.1==some .free&&(X.env.scope.names.lookup p.1==some .cell||X.env.scope.names.lookup p.1==some .free))
noncomputable def scOk (X:Cx) (scope:Scope):Bool :=
 scope.names.all fun p=>(p.2 != .free||(X.env.scope.names.lookup p.1==some .cell||X.env.scope.names.lookup p.1==some .free))&&scope.names.lookup p.1==some p.2
section
variable {X:Cx} {pins:List (Addr×Obj)} {σ:St} {H:Hp} {s:Shared} {scope:Scope}
theorem scOk.get (h:scOk X scope=true) {p:Str×NameKind} (hp:p∈scope.names):(p.2=.free→X.env.scope.names.lookup p.1=some .cell∨X.env.scope.names.lookup p.1=some .free)∧scope.names.lookup p.1=some p.2:=by
 have q:=List.all_eq_true.mp h p hp
 rw [Bool.and_eq_true] at q
 refine ⟨fun e=>?_,by simpa using q.2⟩
 have q1:=q.1
 rw [e] at q1
 simpa using q1
theorem scOk.cells (I:Inv X pins σ H s) (h:scOk X scope=true):∀ x∈scope.names,x.2=.free→∃ c,X.env.cells.lookup x.1=some c:=fun x hx e=>I.ok.has x.1 ((scOk.get h hx).1 e)
theorem scOk.one (h:scOk X scope=true) {x:Str} {k j:NameKind} (e:(x,k)∈scope.names) (e':(x,j)∈scope.names):k=j:=by
 have q1:=(scOk.get h e).2
 have q2:=(scOk.get h e').2
 exact Option.some.inj (q1.symm.trans q2)
theorem Qjy (I:Inv X pins σ H s) (h:scOk X scope=true) {n:Nat} {x:Str} {c:Addr} (e:(cellsFrom n scope.names (Qiz X.env scope.names [])).lookup x=some c):X.env.cells.lookup x=some c∨(n≤c∧(x,NameKind.cell)∈scope.names):=by
 rcases Qck _ _ _ e with q | q
 ·rcases Qcc _ _ (scOk.cells I h) q with z | z
  ·cases z
  ·exact .inl z
 ·exact .inr q
theorem Qc9 {env:Env} {x:Str} {k:NameKind}:∀ {names:List (Str×NameKind)},(names.map fun (n,k)=>if (k==NameKind.free&&env.scope.kind==.function&&env.kindOf n==some .cell) then (n,NameKind.cell) else (n,k)).lookup x=some k →
  names.lookup x=some k∨(k=.cell∧names.lookup x=some .free)
 | [],h=>by cases h
 | (n,j)::r,h=>by
  rw [List.map_cons] at h
  replace h:List.lookup x ((if (j==NameKind.free&&env.scope.kind==.function&&env.kindOf n==some .cell)=true then (n,NameKind.cell) else (n,j))::_)=some k:=h
  by_cases hc:(j==NameKind.free&&env.scope.kind==.function&&env.kindOf n==some .cell)=true
  ·rw [if_pos hc,List.lookup_cons] at h
   rw [List.lookup_cons]
   by_cases hx:(x==n)=true
   ·rw [hx] at h ⊢
    cases h
    simp only [Bool.and_eq_true] at hc
    exact .inr ⟨rfl,by rw [show j=.free by simpa using hc.1.1]⟩
   ·rw [show (x==n)=false by simpa using hx] at h ⊢
    exact Qc9 h
  ·rw [if_neg hc,List.lookup_cons] at h
   rw [List.lookup_cons]
   by_cases hx:(x==n)=true
   ·rw [hx] at h ⊢
    exact .inl h
   ·rw [show (x==n)=false by simpa using hx] at h ⊢
    exact Qc9 h
theorem Qf5 {env:Env} {x:Str}:∀ {names:List (Str×NameKind)},names.lookup x=some .free →
  (names.map fun (n,k)=>if (k==NameKind.free&&env.scope.kind==.function&&env.kindOf n==some .cell) then (n,NameKind.cell) else (n,k)).lookup x=some .cell ∨
  (names.map fun (n,k)=>if (k==NameKind.free&&env.scope.kind==.function&&env.kindOf n==some .cell) then (n,NameKind.cell) else (n,k)).lookup x=some .free
 | [],h=>by cases h
 | (n,j)::r,h=>by
  rw [List.map_cons]
  show List.lookup x ((if (j==NameKind.free&&env.scope.kind==.function&&env.kindOf n==some .cell)=true then (n,NameKind.cell) else (n,j))::_)=some .cell∨List.lookup x ((if (j==NameKind.free&&env.scope.kind==.function&&env.kindOf n==some .cell)=true then (n,NameKind.cell) else (n,j))::_)=some .free
  rw [List.lookup_cons] at h
  by_cases hx:(x==n)=true
  ·rw [hx] at h
   cases h
   by_cases hc:(NameKind.free==NameKind.free&&env.scope.kind==.function&&env.kindOf n==some .cell)=true
   ·rw [if_pos hc,List.lookup_cons,hx];exact .inl rfl
   ·rw [if_neg hc,List.lookup_cons,hx];exact .inr rfl
  ·rw [show (x==n)=false by simpa using hx] at h
   by_cases hc:(j==NameKind.free&&env.scope.kind==.function&&env.kindOf n==some .cell)=true
   ·rw [if_pos hc,List.lookup_cons,show (x==n)=false by simpa using hx];exact Qf5 h
   ·rw [if_neg hc,List.lookup_cons,show (x==n)=false by simpa using hx];exact Qf5 h
theorem Q2v {N:List Str} {fp:List Addr} (I:Inv X pins σ H s) (hk:scope.kind=.function) (h:scOk X scope=true) (hf:∀ b∈fp,Qg5 X pins H b) (ho:∀ b∈fp,∃ o,s.heap.get? b=some o∧∀ v,o.data≠.cell v):(Q9 X scope N s H fp).Ok where
 mod:=I.ok.mod
 kind:=hk
 glob:=I.ok.glob
 blt:=I.ok.blt
 above:=Nat.le_refl _
 inj:=fun x y c h1 h2=>Qfi _ _ _ (fun z c hz=>by
   rcases Qcc _ _ (scOk.cells I h) hz with q | q
   ·cases q
   ·obtain ⟨v,w⟩:=I.cell z c q
    exact Nat.lt_succ_of_lt w.lt) (fun y z c h1 h2=>by
   rcases Qcc _ _ (scOk.cells I h) h1 with q | q
   ·cases q
   ·rcases Qcc _ _ (scOk.cells I h) h2 with q' | q'
    ·cases q'
    ·exact I.ok.inj y z c q q') x y c h1 h2
 has:=fun x hx=>by
  have key:(x,NameKind.cell)∈scope.names∨(x,NameKind.free)∈scope.names:=by
   rcases hx with hx | hx
   ·rcases Qc9 hx with q | ⟨_,q⟩
    ·exact .inl (PySem.mem_of_lookup q)
    ·exact .inr (PySem.mem_of_lookup q)
   ·rcases Qc9 hx with q | ⟨q,_⟩
    ·exact .inr (PySem.mem_of_lookup q)
    ·cases q
  rcases key with q | q
  ·have e:scope.names.lookup x=some .cell:=(scOk.get h q).2
   exact Option.isSome_iff_exists.mp (PySem.W.cellsFrom_some scope.names _ _ (.inl e))
  ·obtain ⟨c,hc⟩:=Qi0 (env:=X.env) scope.names [] (.inl q)
   exact Option.isSome_iff_exists.mp (PySem.W.cellsFrom_some scope.names _ _ (.inr (by rw [hc];rfl)))
 cab:=fun x c hx hc=>Nat.le_of_succ_le (Qdn _ _ _ (of_decide_eq_true hx) hc)
 hd:=I.ok.hd
 frames:=I.ok.frames
 stk:=.inl rfl
 exf:=fun b hb=>by
  obtain ⟨o,e,d⟩:=ho b hb
  refine ⟨Nat.ne_of_lt (Heap.lt_size e),fun x c hc z=>?_⟩
  rcases Qjy I h hc with q | ⟨q,_⟩
  ·exact (hf b hb).2.2.2.2.1 x c q z
  ·rw [z] at q
   exact absurd (Nat.lt_of_lt_of_le (Heap.lt_size e) (Nat.le_of_succ_le q)) (Nat.lt_irrefl _)
 bs:=I.bs
 bsz:=Nat.le_trans I.ok.bsz I.sz
 noex:=fun b o e hb=>by
  rcases (hf b hb).2.2.2.1 with q | q
  ·exact I.ok.noex b o e q
  ·exact absurd (Nat.lt_of_lt_of_le (Heap.lt_size e) (Nat.le_trans I.ok.bsz q)) (Nat.lt_irrefl _)
 exfs:=fun b hb hs=>by
  rcases List.mem_cons.mp (I.stkSub b hs) with q | q
  ·exact (hf b hb).2.1 q
  ·exact (hf b hb).2.2.1 q
 funs:=I.stack
 frf:=⟨I.stkFree,I.tab⟩
theorem Qqd {N:List Str} {js:List (Option Nat)} {fp:List Addr} (I:Inv X pins σ H s) (hk:scope.kind=.function) (h:scOk X scope=true) (hc:Qi2 X scope N js=true) (hf:∀ b∈fp,Qg5 X pins H b) (ho:∀ b∈fp,∃ o,s.heap.get? b=some o∧∀ v,o.data≠.cell v) :
  Inv (Q9 X scope N s H fp) [] (Qfu js σ) H { s with heap:=pushCells (s.heap.push { cls:=.type "dict",data:=.dict #[] }) scope.names }:=by
 have kp:∀ b o,s.heap.get? b=some o→(pushCells (s.heap.push { cls:=.type "dict",data:=.dict #[] }) scope.names).get? b=some o:=fun b o e=>pushCells_keeps _ _ _ _ (Heap.get?_push_of_some _ e)
 have hcap:N.length=js.length∧∀ p∈N.zip js,∀ j,p.2=some j→X.N[j]?=some p.1∧scope.names.lookup p.1=some .free∧(X.env.scope.names.lookup p.1=some .cell∨X.env.scope.names.lookup p.1=some .free):=by
  unfold Qi2 at hc
  rw [Bool.and_eq_true] at hc
  refine ⟨by simpa using hc.1,fun p hp j e=>?_⟩
  have q:=List.all_eq_true.mp hc.2 p hp
  rw [e] at q
  simpa using q
 refine ⟨Q2v I hk h hf ho,rfl,I.bare,Un.kept kp,?_,fun x c e=>?_,I.hok.fresh (Nat.le_refl _),fun x c e=>?_,fun p hp=>absurd (show p∈([]:List (Addr×Obj)) from hp) (by simp),I.hok.kept kp,?_⟩
 ·refine ⟨fun _=>none,(Heap.Ns.new s.heap (.type "dict")).keeps (pushCells_keeps _ _),fun i x v h1 h2 h3=>?_⟩
  obtain ⟨o,ho1,ho2⟩:∃ o,js[i]?=some o∧(match o with | none=>none | some j=>(σ[j]?).join)=some v:=by
   unfold Qfu at h2
   rw [List.getElem?_map] at h2
   cases e:js[i]? with
   | none=>rw [e] at h2;cases h2
   | some o=>rw [e] at h2;exact ⟨o,rfl,Option.some.inj h2⟩
  cases o with
  | none=>cases ho2
  | some j =>
   have hz:(x,some j)∈N.zip js:=List.mem_of_getElem? (i:=i) (by rw [List.getElem?_zip_eq_some];exact ⟨h1,ho1⟩)
   obtain ⟨q1,q2,q3⟩:=hcap.2 _ hz j rfl
   have hσ:σ[j]?=some (some v):=by
    have ho2:(σ[j]?).join=some v:=ho2
    cases e:σ[j]? with
    | none=>rw [e] at ho2;cases ho2
    | some w=>rw [e] at ho2;exact congrArg some ho2
   obtain ⟨m,hn,hl⟩:=I.loc
   obtain ⟨u,r,l⟩:=hl j x v q1 hσ (by rcases q3 with z | z;exact .inr (.inl z);exact .inr (.inr z))
   refine ⟨u,r,.inr ⟨Qf5 q2,?_⟩⟩
   have fin:∀ c,X.env.cells.lookup x=some c→s.heap.IsCell c (some u)→∃ c,(cellsFrom (s.heap.objs.size+1) scope.names (Qiz X.env scope.names [])).lookup x=some c∧(pushCells (s.heap.push { cls:=.type "dict",data:=.dict #[] }) scope.names).IsCell c (some u):=fun c hc hv=>by
    obtain ⟨d,hd⟩:=Qi0 (env:=X.env) scope.names [] (.inl (PySem.mem_of_lookup q2))
    obtain ⟨c',hc'⟩:=Option.isSome_iff_exists.mp (PySem.W.cellsFrom_some scope.names (s.heap.objs.size+1) (Qiz X.env scope.names []) (.inr (by rw [hd];rfl)))
    refine ⟨c',hc',?_⟩
    rcases Qjy I h hc' with z | ⟨_,z⟩
    ·rw [hc] at z;cases z
     exact hv.keeps kp
    ·have:=scOk.one h z (PySem.mem_of_lookup q2)
     cases this
   rcases l with ⟨hk,_⟩ | ⟨_,c,hc,hv⟩
   ·have hk:X.env.scope.names.lookup x=some .local:=hk
    rcases q3 with z | z <;> (rw [z] at hk;cases hk)
   ·exact fin c hc hv
 ·have q:=Qdk (names:=[]) scope.names (s.heap.push { cls:=.type "dict",data:=.dict #[] }) (Qiz X.env scope.names []) (fun y d hd=>by
   rcases Qcc _ _ (scOk.cells I h) hd with z | z
   ·cases z
   ·obtain ⟨v,w⟩:=I.cell y d z
    exact ⟨v,w.keeps fun b o e=>Heap.get?_push_of_some _ e⟩)
  rw [Heap.size_push] at q
  exact q x c e
 ·rcases Qjy I h e with q | ⟨q,_⟩
  ·rcases I.freeC x c q with z | ⟨_,z⟩
   ·exact .inl z
   ·refine .inr ⟨?_,z⟩
    show decide ((x,NameKind.cell)∈scope.names)=false
    refine decide_eq_false fun hx=>?_
    have h1:=Qdn _ _ _ hx e
    obtain ⟨v,w⟩:=I.cell x c q
    exact absurd (Nat.lt_of_lt_of_le (Nat.lt_succ_of_lt w.lt) h1) (Nat.lt_irrefl _)
  ·exact .inl (I.hok.fresh (Nat.le_of_succ_le q))
 ·show (Qfu js σ).length=N.length
  unfold Qfu
  rw [List.length_map,hcap.1]
end
noncomputable def Qacl (J:It) (l:Addr) (σ:St) (H1:Hp) (g:TG) (tc:TT) (te:TE) (Q:VK):Prop:=∃ W:Nat→Nat→List V→St→Hp→Prop,
 (∃ m,W 0 m [] σ (upd H1 l (.lst [])))∧∀ i m ys σ2 H2,W i m ys σ2 H2 →
  (J.stop i H2∧Q (.ref l) H2) ∨
  (J.go i H2∧∀ x H3,J.yld i H2 x H3→g x σ2 H3 fun σ4 H4=>tc σ4 H4 fun b H5 =>
   if b=true then te σ4 H5 fun y H6=>H6 l=some (.lst ys)∧ys.length<sizeLine∧∃ m',m'<m∧W (i+1) m' (ys++[y]) σ4 (upd H6 l (.lst (ys++[y])))
   else ∃ m',m'<m∧W (i+1) m' ys σ4 H5)
noncomputable abbrev Qqe (wi:TI) (js:List (Option Nat)) (g:TG) (tc:TT) (te:TE):TE:=fun σ H Q=>wi σ H fun J H1=>∀ l,H1 l=none→Qacl J l (Qfu js σ) H1 g tc te Q
noncomputable def PTs (X:Cx) (ifs:List Expr) (t:TT):Prop :=
 ∀ (pins:List (Addr×Obj)) (s:Shared) (σ:St) (H:Hp) (Q:Bool→Hp→Prop),Inv X pins σ H s→t σ H Q →
  wpAny (model X.prog X.w) X.A (forIn ifs true fun c r=>if r=true then do let ok ← isTrue c X.env (eval c X.env);pure (ForInStep.yield ok) else pure (ForInStep.yield r)) (TP X pins σ Q) X.xe s
noncomputable abbrev tYes:TT:=fun _ H Q=>Q true H
theorem Q2w {X:Cx}:PTs X [] tYes:=fun pins s σ H Q I h=>wpAny_tests_nil ⟨H,I,h⟩
theorem Q2x {X:Cx} {c:Expr} {t:TT} (h:PT X c t):PTs X [c] t:=fun pins s σ H Q I q=>wpAny_tests_one (h pins s σ H Q I q)
theorem Qyu {X:Cx} {tg elt iter:Expr} {ifs:List Expr} {scope:Scope} {pos:Pos} {N:List Str} {js:List (Option Nat)} {wi:TI} {g:TG} {tc:TT} {te:TE} (hcalm:X.calm=true)
  (hi:PI X tg iter wi) (hg:∀ s H fp,PG (Q9 X scope N s H fp) tg g) (hc:∀ s H fp,PTs (Q9 X scope N s H fp) ifs tc) (he:∀ s H fp,PE (Q9 X scope N s H fp) elt te)
  (hk:scope.kind=.function:=by rfl) (h1:scOk X scope=true:=by rfl) (h2:Qi2 X scope N js=true:=by rfl)
  (hs:∀ x,foldedSetIterable iter X.env x=pure x:=by intro _;rfl):PE X (.ListComp elt [⟨tg,iter,ifs,0⟩] scope pos) (Qqe wi js g tc te):=by
 intro pins s σ H Q I h
 rw [eval_ListComp]
 refine wpAny_comprehension_free (use:=none) rfl hs (Qlo (scOk.cells I h1)) hk (fun x hx hl=>by rw [(scOk.get h1 hx).2,hl]) ?_
 refine thn (hi pins s σ H _ I h) fun v s1 h1'=>thn h1' fun itv s2 h2'=>?_
 obtain ⟨it,fp,tn,J,H2,e,I2,T,st2,f2,q⟩:=h2'
 subst e
 refine wpAny_newObj_type ?_
 have hl:H2 s2.heap.objs.size=none:=I2.hok.fresh (Nat.le_refl _)
 obtain ⟨W,⟨m0,w0⟩,turn⟩:=q _ hl
 have I3:Inv X pins σ (upd H2 s2.heap.objs.size (.lst [])) { s2 with heap:=s2.heap.push { cls:=.type "list",data:=.seq ([]:List Value).toArray } }:=I2.lnew (t':=s2.toks) (ys:=[]) .nil (Nat.zero_le _)
 generalize hs3:({ s2 with heap:=s2.heap.push { cls:=.type "list",data:=.seq ([]:List Value).toArray } }:Shared)=s3 at I3
 generalize hH3:upd H2 s2.heap.objs.size (.lst [])=H3 at I3 w0
 generalize hl':s2.heap.objs.size=l at turn hH3 hl
 have kp3:∀ b o,s2.heap.get? b=some o→s3.heap.get? b=some o:=fun b o e=>by rw [←hs3];exact Heap.get?_push_of_some _ e
 have ob3:∀ b∈fp,∃ o,s3.heap.get? b=some o∧∀ v,o.data≠.cell v:=fun b hb=>by
  obtain ⟨o,e,d⟩:=T.obj _ _ st2 b hb
  exact ⟨o,kp3 b o e,d⟩
 have f3:∀ b∈fp,Qg5 X pins H3 b:=fun b hb=>by
  obtain ⟨o,e,d⟩:=T.obj _ _ st2 b hb
  refine ⟨?_,(f2 b hb).2⟩
  rw [←hH3,Q2 (Nat.ne_of_lt (by rw [←hl'];exact Heap.lt_size e))]
  exact (f2 b hb).1
 refine Qkp ?_
 have I4:=Qqd (N:=N) (js:=js) I3 hk h1 h2 f3 ob3
 have st4:tn 0 (pushCells (s3.heap.push { cls:=.type "dict",data:=.dict #[] }) scope.names):=T.keep _ _ _ st2 fun b hb o e=>pushCells_keeps _ _ _ _ (Heap.get?_push_of_some _ (kp3 b o e))
 have fr4:∀ b∈fp,H3 b=none:=fun b hb=>(f3 b hb).1
 have fpX:∀ {H':Hp},(∀ b∈fp,H' b=none)→∀ b∈fp,Qg5 (Q9 X scope N s3 H3 fp) [] H' b:=fun hn b hb=>by
  have ok:=I4.ok
  refine ⟨hn b hb,(ok.exf b hb).1,ok.exfs b hb,.inl hb,(ok.exf b hb).2,fun p hp=>absurd (show p∈([]:List (Addr×Obj)) from hp) (by simp)⟩
 -- the block's end
 have fin:∀ {σ':St} {H':Hp} {s':Shared},Inv (Q9 X scope N s3 H3 fp) [] σ' H' s'→Q (.ref l) H'→compPost (model X.prog X.w) X.A X.xe none (EP X pins σ Q) (.ref l) s3.heap.objs.size (.ok .next) s':=fun {σ' H' s'} I' q'=>by
  obtain ⟨m,hn,_⟩:=id I'.loc
  refine ⟨m,hn,fun h' hsb=>⟨.ref l,H',?_,rfl,q'⟩⟩
  have hfr:H' s3.heap.objs.size=none:=I'.free
  refine I3.call' (s':={ s' with heap:=h' }) (ch:=fp) I'.os ⟨fun b o e n hb hx=>?_,fun b o e n hb hx=>?_,I'.base.free,fun b o e hx=>?_,I'.base.tups,I'.base.frzs,I'.base.tbls⟩ (fun b u e=>?_) I'.bare (fun b hb=>⟨(f3 b hb).2.2.2.1,(f3 b hb).2.1,(f3 b hb).2.2.2.2.1,(f3 b hb).2.2.2.2.2⟩)
  ·exact (hsb.2 b (Nat.ne_of_lt (Heap.lt_size e))).trans (I'.base.keep b o e n hb hx)
  ·obtain ⟨sl,z⟩:=I'.base.slot b o e n hb hx
   exact ⟨sl,(hsb.2 b (Nat.ne_of_lt (Heap.lt_size e))).trans z⟩
  ·obtain ⟨o',z⟩:=I'.base.there b o e hx
   exact ⟨o',(hsb.2 b (Nat.ne_of_lt (Heap.lt_size e))).trans z⟩
  ·refine (I'.hok b u e).stay (fun c w' hc z=>(hsb.2 c ?_).trans z) (fun _ z=>z) fun _ _ z=>z
   rintro rfl
   rcases hc with rfl | hc
   ·rw [hfr] at e;cases e
   ·rw [hfr] at hc;cases hc
 have loop:codeAny (model X.prog X.w) X.A (.compLoop (.ListComp elt [⟨tg,iter,ifs,0⟩] scope pos) 0 (.ref it) (.ref l) (Q9 X scope N s3 H3 fp).env) (compPost (model X.prog X.w) X.A X.xe none (EP X pins σ Q) (.ref l) s3.heap.objs.size)
   { s3 with heap:=pushCells (s3.heap.push { cls:=.type "dict",data:=.dict #[] }) scope.names }:=by
  refine Qi1 (fun n s'=>∃ i ys σ' H',Inv (Q9 X scope N s3 H3 fp) [] σ' H' s'∧tn i s'.heap∧(∀ b∈fp,H' b=none)∧W i n ys σ' H') ?_ m0 ⟨0,[],Qfu js σ,H3,I4,st4,fr4,w0⟩
  rintro n s5 ⟨i,ys,σ5,H5,I5,st5,fr5,w5⟩
  rcases turn i n ys σ5 H5 w5 with ⟨stop,qn⟩ | ⟨go,step⟩
  ·refine thn (T.done (Q9 X scope N s3 H3 fp) rfl rfl rfl hcalm i [] s5 σ5 H5 _ I5 (fpX fr5) st5 stop) fun r s6 ⟨hr,I6⟩=>?_
   subst hr
   exact fin I6 qn
  ·refine thn (T.item (Q9 X scope N s3 H3 fp) rfl rfl rfl hcalm i [] s5 σ5 H5 _ I5 (fpX fr5) st5 go) fun r s6 ⟨u,hr,h6⟩=>?_
   subst hr
   refine thn h6 fun _ s7 ⟨x,H7,I7,r7,y7,st7,fr7⟩=>?_
   have I7':=I7.pinned (fpX fr7) (T.obj _ _ st7)
   have again:∀ {σ8:St} {H8:Hp} {s8:Shared} {ys8:List V},Inv (Q9 X scope N s3 H3 fp) ([]++Qjs fp s7.heap) σ8 H8 s8→(∃ m',m'<n∧W (i+1) m' ys8 σ8 H8) →
     ∃ m,m<n∧∃ i ys σ' H',Inv (Q9 X scope N s3 H3 fp) [] σ' H' s8∧tn i s8.heap∧(∀ b∈fp,H' b=none)∧W i m ys σ' H':=fun {σ8 H8 s8 ys8} I8 ⟨m',hm,w8⟩=>by
    refine ⟨m',hm,i+1,ys8,σ8,H8,I8.unpinned,T.keep _ _ _ st7 fun b hb o e=>(I8.pin (b,o) (List.mem_append_right _ (List.mem_append_right _ (Qc1 hb e)))).1,fun b hb=>?_,w8⟩
    obtain ⟨o,e,d⟩:=T.obj _ _ st7 b hb
    exact (I8.pin (b,o) (List.mem_append_right _ (List.mem_append_right _ (Qc1 hb e)))).2.1
   refine thn (hg s3 H3 fp _ s7 σ5 H7 x u _ I7' r7 (step x H7 y7)) fun _ s8 ⟨σ8,H8,I8,q8⟩=>?_
   refine thn (hc s3 H3 fp _ s8 σ8 H8 _ I8 q8) fun ok s9 ⟨H9,I9,q9⟩=>?_
   cases ok with
   | false =>
    rw [if_neg Bool.false_ne_true] at q9 ⊢
    exact again I9 q9
   | true =>
    rw [if_pos rfl] at q9 ⊢
    refine thn (he s3 H3 fp _ s9 σ8 H9 _ I9 q9) fun y s10 ⟨vy,H10,I10,r10,a10,z10,q10⟩=>?_
    refine thn (Qjw (X:=Q9 X scope N s3 H3 fp) _ s10 σ8 H10 (.ref l) [vy] (.ref l) [y] (fun _ H'=>∃ m',m'<n∧W (i+1) m' (ys++[vy]) σ8 H') I10 rfl (.cons r10 .nil) ⟨l,ys,vy,rfl,rfl,a10,z10,q10⟩) fun _ s11 ⟨_,H11,I11,_,q11⟩=>?_
    exact again I11 q11
 first
  | exact codeAny_compStart_list loop (T.self _ 0 _ _ _ st4 loop)
  | (rw [← hs3] at loop st4
     exact codeAny_compStart_list loop (T.self _ 0 _ _ _ st4 loop))
section
variable {X:Cx}
theorem Qqf:CallR X (.builtin "isinstance") (fun xs H Q=>∃ x T t b,xs=[x,.ty T]∧TyOf X.K H x t∧PySem.W.kitOne X.K t (.type T)=some b∧Q (.bl b) H):=by
 intro pins s σ H xs us Q I r h
 obtain ⟨x,T,t,b,rfl,ty,e,q⟩:=h
 obtain ⟨u,w',rfl,rx,ry⟩:=Qum r
 obtain rfl:w'=Value.type T:=ry
 exact Qwg I rx ty e fun tk=>⟨.bl b,H,I.tok _,rfl,q⟩
noncomputable def Qqg:V→Bool
 | .bl b=>b
 | .int i=>i != 0
 | _=>false
noncomputable def Qqh:V→Bool
 | .bl _=>true
 | .int _=>true
 | .non=>true
 | _=>false
theorem Qyv {A:Around} {s:Shared} {x:V} {v:Value} {Q:Bool→Shared→Prop} {E:Value→Shared→Prop} (r:RelV x v) (f:Qqh x=true) (h:Q (Qqg x) s):wpAny (model X.prog X.w) A (truthy v) Q E s:=by
 cases x with
 | bl b=>cases r;exact wpAny_truthy_bool h
 | int i=>obtain ⟨t,rfl⟩:=r;exact truthy_int h
 | non=>cases r;exact truthy_none h
 | _=>exact absurd (show false=true from f) Bool.false_ne_true
theorem Qs2 {α:Type} (f:α→Bool) (d:α) (xs:List α):((List.range xs.length).all fun i=>f (xs.getD i d))=xs.all f:=by
 rw [Bool.eq_iff_iff,List.all_eq_true,List.all_eq_true]
 constructor
 ·intro h x hx
  obtain ⟨i,hi,rfl⟩:=List.getElem_of_mem hx
  have:=h i (List.mem_range.mpr hi)
  rwa [List.getD_eq_getElem?_getD,List.getElem?_eq_getElem hi,Option.getD_some] at this
 ·intro h i hi
  have hi:=List.mem_range.mp hi
  rw [List.getD_eq_getElem?_getD,List.getElem?_eq_getElem hi,Option.getD_some]
  exact h _ (List.getElem_mem hi)
theorem Qyw (hc:X.calm=true):CallR X (.builtin "all") (fun xs H Q=>∃ p ys,xs=[.ref p]∧SqL X.K H p ys∧ys.all Qqh=true∧Q (.bl (ys.all Qqg)) H):=by
 intro pins s σ H xs us Q I r h
 obtain ⟨p,ys,rfl,hq,hf,q⟩:=h
 obtain ⟨u,rfl,rx⟩:=Qfs r
 cases rx
 obtain ⟨its,r',pl,hz⟩:=I.list hq
 have hlt:p<s.heap.objs.size:=by obtain ⟨_,e,_⟩:=pl.isList;exact Heap.lt_size e
 have hlen:=r'.length
 refine call_all_walk (wpAny_pyIter_list pl.isList ?_)
 refine ⟨s.heap.objs.size,[s.heap.objs.size,p],[s.heap.objs.size],its.toArray.size,_,_,fun i=>Qqg (ys.getD i .non),rfl,Walks.list (A:=X.A.in1) (I.ok.hd hc) _ p (Nat.ne_of_lt hlt) its.toArray,
  ⟨⟨_,Heap.get?_push_size _ rfl,rfl,rfl⟩,pl.isList.push _⟩,fun i v s' Q' E' hP hQ=>?_,fun h' tk hk=>?_⟩
 ·have hi:its[i]?=some v:=by simpa using hP
  have hy:∃ y,ys[i]?=some y:=by
   have:=(List.getElem?_eq_some_iff.mp hi).1
   exact ⟨ys[i],List.getElem?_eq_getElem (by omega)⟩
  obtain ⟨y,hy⟩:=hy
  obtain ⟨v',hv',rv⟩:=r'.get hy
  rw [hi] at hv';cases hv'
  refine Qyv (X:=X) rv (List.all_eq_true.mp hf y (List.mem_of_getElem? hy)) ?_
  have hQ:Q' (Qqg (ys.getD i V.non)) s':=hQ
  rw [List.getD_eq_getElem?_getD,hy,Option.getD_some] at hQ
  exact hQ
 ·rw [List.size_toArray,←hlen,Qs2]
  exact ⟨.bl _,H,I.kept fun b x e=>hk b x (fun hm=>by rw [List.mem_singleton.mp hm] at e;exact Nat.lt_irrefl _ (Heap.lt_size e)) (Heap.get?_push_of_some _ e),rfl,q⟩
theorem Qwj (hc:X.calm=true):CallR X (.builtin "max") (fun xs H Q=>∃ (p:Addr) (ns:List Int),xs=[.ref p]∧SqL X.K H p (ns.map V.int)∧ns≠[]∧∀ M,M∈ns→(∀ a∈ns,a≤M)→Q (.int M) H):=by
 intro pins s σ H xs us Q I r h
 obtain ⟨p,ns,rfl,hq,hne,q⟩:=h
 obtain ⟨u,rfl,rx⟩:=Qfs r
 cases rx
 obtain ⟨its,r',pl,hz⟩:=I.list hq
 have hi:IntsAre its ns:=Qsy r'
 obtain ⟨xs,e⟩:=hi.allInts.items
 have hns:ns=xs.toList.map (·.1):=by rw [←hi.numsOf,←nums_intItems,←e]
 have hsz:0<xs.size:=by
  have h3:0<ns.length:=List.length_pos_iff.mpr hne
  rw [hns,List.length_map,Array.length_toList] at h3;exact h3
 have hl:=pl.isList
 rw [e] at hl
 refine max_intList (I.ok.hd hc) hl hsz fun v h' tk hv hk=>?_
 obtain ⟨t,rfl⟩:=intItems_at hv
 obtain ⟨h1,h2⟩:=argBest_gt (numAt xs) (xs.size-1)
 refine ⟨.int _,H,I.kept hk,⟨t,rfl⟩,q _ ?_ fun a ha=>?_⟩
 ·rw [hns,numAt_eq];exact getD_mem (by rw [List.length_map,Array.length_toList];omega)
 ·rw [hns] at ha
  obtain ⟨j,hj,rfl⟩:=mem_getD ha
  rw [List.length_map,Array.length_toList] at hj
  rw [←numAt_eq];exact h2 j (by omega)
end
open PySem.AutoSeq1 (wpAny_loadPart')
theorem Same.upd {H:Hp} {a:Addr} {o:HO} (h:H a=none):Same H (upd H a o):=fun b u e=>by rw [Q2 (Qbr e h)];exact e
theorem Qs3 (l:Addr) (items:Array Value) (n:Nat) (x:Int) (u:Tok) (dd:Option Addr) (sl:Array (Option Value)) (h0:¬ (x < -(2^63)||x≥2^63)=true) (h1:¬ (items.isEmpty||x==1)=true) (h2:¬ (x≤0||items.isEmpty)=true) (h3:¬ items.size*x>(2^63-1) / 8) (h4:¬ Builtin.Tuple.tupleTooMany (items.size*x)=true)
  (hz:(List.foldl (fun x1 x2=>x1++x2) #[] (List.replicate x.toNat items)).size≤sizeLine) :
  Meets (Builtin.«tuple.__mul__» ⟨[.ref l,.int x u],[]⟩) (fun _ R s=>s.heap.get? l=some { cls:=.type "tuple",dict:=dd,data:=.seq items n,slots:=sl }∧R (.ok (.ret (Value.ref s.heap.objs.size))) { s with heap:=s.heap.push { cls:=Value.type "tuple",data:=Data.seq (List.foldl (fun x1 x2=>x1++x2) #[] (List.replicate x.toNat items)) },toks:=s.toks }) :=
 .of_wp fun prog w A R s h=>by
  obtain ⟨hp,g,d,tk,os⟩:=s;obtain ⟨hl,h⟩:=h;have f1:=AutoSeq1.idx_int
  wp_walk using wpAny_loadPart' hl
  rw [if_neg h0]
  wp_walk using wpAny_loadPart' hl
  rw [if_neg h3]
  wp_walk using wpAny_loadPart' hl
  exact ⟨_,rfl,h⟩
theorem Qqi (l:Addr) (items:Array Value) (n:Nat) (x:Int) (u:Tok) (dd:Option Addr) (sl:Array (Option Value)) (h0:¬ (x < -(2^63)||x≥2^63)=true) (h1:(items.isEmpty||x==1)=true) :
  Meets (Builtin.«tuple.__mul__» ⟨[.ref l,.int x u],[]⟩) (fun _ R s=>s.heap.get? l=some { cls:=.type "tuple",dict:=dd,data:=.seq items n,slots:=sl }∧R (.ok (.ret (Value.ref l))) s) :=
 .of_wp fun prog w A R s h=>by
  obtain ⟨hp,g,d,tk,os⟩:=s;obtain ⟨hl,h⟩:=h;have f1:=AutoSeq1.idx_int
  wp_walk using wpAny_loadPart' hl
  rw [if_neg h0]
  wp_walk using wpAny_loadPart' hl
  exact ⟨_,rfl,h⟩
theorem Qlp (a:Int) (t:Tok) (l:Addr) (items:Array Value) (n:Nat) (dd:Option Addr) (sl:Array (Option Value)) :
  Meets (Builtin.«int.__rmul__» ⟨[.int a t,.ref l],[]⟩) (fun _ R s=>s.heap.get? l=some { cls:=.type "tuple",dict:=dd,data:=.seq items n,slots:=sl }∧R (.ok (.ret Value.notImplemented)) s) :=
 .of_wp fun prog w A R s h=>by obtain ⟨hp,g,d,tk,os⟩:=s;obtain ⟨hl,h⟩:=h;wp_walk;exact ⟨_,rfl,h⟩
theorem Qjz:fillsNumberSlot (.type "tuple") "mul" = pure false :=
 PySem.fillsNumberSlot_seq (id := "tuple.__mul__") (r:=some (.builtin "tuple.__rmul__")) F.slot_tuple_mul.lookup (by decide +kernel) F.slot_tuple_rmul.lookup (by decide +kernel)
theorem Qoz:seqRepeat? (.type "tuple")=pure (some (.builtin "tuple.__mul__")):=by
 unfold seqRepeat?
 rw [PySem.seqSlot_of (T := "tuple") (name := "__mul__") (id := "tuple.__mul__") F.slot_tuple_mul.lookup (by decide +kernel),PySem.seqSlot_of (T := "tuple") (name := "__rmul__") (id := "tuple.__rmul__") F.slot_tuple_rmul.lookup (by decide +kernel)]
 rfl
section
variable {X:Cx}
noncomputable def Q5v (K:PySem.W.Frag):R2:=fun x y H Q=>∃ a b xs ys,x=.ref a∧y=.ref b∧H a=some (.tup xs)∧H b=some (.tup ys)∧xs.length+ys.length≤sizeLine∧∀ p H',Same H H'→H' p=some (.tup (xs++ys))→(p=a∨p=b∨H p=none)→Q (.ref p) H'
theorem Q2y:OpR X (binaryOp .Add) (Q5v X.K):=by
 intro pins s σ H x y v u Q I rx ry h
 obtain ⟨a,b,xs,ys,rfl,rfl,ha,hb,hz,q⟩:=h
 by_cases hx:xs=[]
 ·cases rx
  cases ry
  subst hx
  obtain ⟨its,r1,⟨⟨cls,dd,data,sl⟩,e1,hc,n,hd⟩,_⟩:=I.tuple (SqT.of ha)
  obtain ⟨its2,r2,⟨⟨cls2,dd2,data2,sl2⟩,e2,hc2,n2,hd2⟩,_⟩:=I.tuple (SqT.of hb)
  simp only at hc hd hc2 hd2
  subst hc hd hc2 hd2
  cases r1
  exact concat_meets ⟨_,e1,rfl⟩ ⟨_,e2,rfl⟩ noFill_tuple_add seq_tuple_add PySem.F.slot_tuple_add PySem.F.entry_tuple_add (PySem.F.args_tuple_add_2 _ _)
   (tuple_addW0 a b _ _ n n2 dd dd2 sl sl2 rfl) ⟨e1,e2,⟨.ref b,H,I,rfl,q b H (Same.refl H) hb (.inr (.inl rfl))⟩⟩
 ·refine Q2m pins s σ H _ _ v u Q I rx ry ⟨a,b,xs,ys,rfl,rfl,SqT.of ha,SqT.of hb,hx,hz,fun e=>q a H (Same.refl H) (by rw [ha,e,List.append_nil]) (.inl rfl),fun _ p hp=>q p _ (Same.upd hp) Qp (.inr (.inr hp))⟩
noncomputable def rSlS (K:PySem.W.Frag):V→Option Int→Option Int→Hp→VK→Prop:=fun x lo hi H Q=>∃ a xs,x=.ref a∧H a=some (.tup xs)∧∀ p H',Same H H'→H' p=some (.tup (Qg6 xs lo hi))→(p=a∨H p=none)→Q (.ref p) H'
theorem Q2z:SlR X (rSlS X.K):=by
 intro pins s σ H x v vl vu lo hi sl Q I rx hs pl pu h
 obtain ⟨a,xs,rfl,hx,q⟩:=h
 by_cases hw:HT.sIx xs.length 0 lo=0∧HT.sIx xs.length xs.length hi=xs.length
 ·cases rx
  obtain ⟨its,r,ht,hz⟩:=I.tuple (SqT.of (K:=X.K) hx)
  have hlen:its.toArray.size=xs.length:=by rw [List.size_toArray];exact r.length.symm
  refine ⟨"tuple",_,PyProof.Rows.slot_tuple_getitem.lookup,ht.typeIs,?_⟩
  have hcut:Qg6 xs lo hi=xs:=by
   unfold Qg6
   rw [hw.1,hw.2,List.drop_zero,Nat.sub_zero,List.take_length]
  obtain ⟨os,hos,hcs,hds⟩:=id hs
  have hTs:s.TypeIs (.ref sl) "slice" := ⟨os,hos,hcs⟩
  unfold getItem
  try with_reducible refine wpAny_holding ?_
  first | refine wpAny_bind (wpAny_pure ?_) | skip
  refine wpAny_bind (wpAny_sequenceKey ht.typeIs (by decide) ?_)
  refine wpAny_bind (wpAny_callSpecial?_slot (name:=Str.ofString "__getitem__") ht.typeIs PyProof.Rows.slot_tuple_getitem
   (wpAny_call_entry PyProof.Rows.slot_tuple_getitem ht.typeIs entry_tuple_getitem ?_ (args_tuple_getitem _ _)))
  show wpAny _ _ (Builtin.Tuple.tupleItemsOf (.ref a) >>= _) _ _ s
  refine wpAny_bind (tupleItemsOf_ ht ?_)
  refine wpAny_bind (wpAny_typeOf hTs ?_)
  rw [if_pos (by decide)]
  refine wpAny_bind (HT.sliceApplied_gen hs pl pu ?_)
  rw [hlen,hw.1,hw.2]
  show wpAny _ _ (if ((((0:Nat):Int)==0&&(1:Int)==1&&(xs.length-0)==xs.length)=true) then _ else _) _ _ s
  rw [if_pos (by simp)]
  have fin:EP X pins σ Q (.ref a) s:=⟨.ref a,H,I,rfl,q a H (Same.refl H) (by rw [hcut];exact hx) (.inl rfl)⟩
  refine wpAny_bind (wpAny_bind (wpAny_typeOf ht.typeIs (wpAny_pure ?_)))
  rw [if_pos (by decide)]
  exact wpAny_bind (wpAny_rule (wpAny_pure ⟨_,rfl,wpAny_pure fin⟩))
 ·exact Q75 pins s σ H _ v vl vu lo hi sl Q I rx hs pl pu ⟨a,xs,rfl,SqT.of hx,hw,fun p hp=>q p _ (Same.upd hp) Qp (.inr hp)⟩
end
open PySem.AutoSeq1 (wpAny_loadPart')
section
variable {X:Cx}
noncomputable def Q5w:R2:=fun x y H Q=>∃ a k xs,x=.ref a∧y=.int k∧H a=some (.tup xs)∧xs≠[]∧1≤k∧k<2^31∧xs.length*k.toNat≤sizeLine∧∀ p H',Same H H'→H' p=some (.tup (List.replicate k.toNat xs).flatten)→(p=a∨H p=none)→Q (.ref p) H'
theorem Q20:OpR X (binaryOp .Mult) Q5w:=by
 intro pins s σ H x y v u Q I rx ry h
 obtain ⟨a,k,xs,rfl,rfl,hH,hne,h1,h2,hz,q⟩:=h
 cases rx
 obtain ⟨t,rfl⟩:=ry
 obtain ⟨its,r,⟨⟨cls,dd,data,sl⟩,e,hc,n,hd⟩,_⟩:=I.tuple (SqT.of (K:=X.K) hH)
 simp only at hc hd
 subst hc hd
 have hl:=r.length
 have hn0:its≠[]:=fun z=>hne (r.nil_iff.mp z)
 have hem:its.toArray.isEmpty=false:=by
  cases its with
  | nil=>exact absurd rfl hn0
  | cons _ _=>rfl
 have h0:¬ (decide (k < -(2^63))||decide (k≥2^63))=true:=by
  simp only [Bool.or_eq_true,decide_eq_true_eq]
  omega
 refine wpAny_binaryOp_repeat_ref (T := "tuple") (U := "int") (by decide) ⟨_,e,rfl⟩ (fun s'=>typeIs_int s' k t) Qjz F.fills_int_mul F.slot_int_rmul Qoz F.slot_int_index.lookup
  (call_meets F.slot_int_rmul (typeIs_int s k t) F.entry_int_rmul (F.args_int_rmul_2 _ _) (Qlp k t a its.toArray n dd sl) ⟨e,rfl,⟨_,e,rfl⟩,?_⟩)
 by_cases hk:k=1
 ·subst hk
  refine call_meets F.slot_tuple_mul ⟨_,e,rfl⟩ F.entry_tuple_mul (F.args_tuple_mul_2 _ _) (Qqi a its.toArray n 1 t dd sl h0 (by simp)) ⟨e,?_⟩
  exact ⟨.ref a,H,I,rfl,q a H (Same.refl H) (by rw [hH];simp) (.inl rfl)⟩
 ·have hlen:its.toArray.size*k.toNat≤sizeLine:=by rw [List.size_toArray,←hl];exact hz
  have hki:(its.toArray.size:Int)*k=((its.toArray.size*k.toNat:Nat):Int):=by
   rw [Int.natCast_mul,Int.toNat_of_nonneg (by omega)]
  have hs:sizeLine=16777216:=sizeLine_eq
  have hnew:List.foldl (fun x1 x2=>x1++x2) #[] (List.replicate k.toNat its.toArray)=(List.replicate k.toNat its).flatten.toArray:=by
   have:=Qjv its k.toNat []
   rw [List.nil_append] at this
   exact this
  refine call_meets F.slot_tuple_mul ⟨_,e,rfl⟩ F.entry_tuple_mul (F.args_tuple_mul_2 _ _) (Qs3 a its.toArray n k t dd sl h0 (by rw [hem];simpa using hk) (by rw [hem];simp;omega)
   (by rw [hki];omega) (by rw [hki];unfold Builtin.Tuple.tupleTooMany;rw [decide_eq_true_eq];omega) (by rw [hnew,List.size_toArray,Qiy,←hl,Nat.mul_comm];exact hz)) ⟨e,?_⟩
  rw [hnew]
  have I2:Inv X pins σ (upd H s.heap.objs.size (.tup (List.replicate k.toNat xs).flatten)) { s with heap:=s.heap.push { cls:=.type "tuple",data:=.seq (List.replicate k.toNat its).flatten.toArray },toks:=s.toks } :=
   I.laid (fun b o e=>Heap.get?_push_of_some _ e) (Nat.le_refl _) ⟨by rw [Qiy,Nat.mul_comm];exact hz,_,r.rep k.toNat,IsTupD.new _ _⟩
  exact ⟨.ref _,_,I2,rfl,q _ _ (Same.upd I.fresh) Qp (.inr I.fresh)⟩
end
section
variable {X:Cx}
end
section
variable {X:Cx}
theorem Qwk {j:Int} (h0:0<j) (h:j<2^64):j.natAbs.log2<9000:=by
 have h1:j.natAbs≠0:=by omega
 have h2:j.natAbs.log2<64:=(Nat.log2_lt h1).mpr (by omega)
 omega
noncomputable def CDv (i j:Int):Prop:=0<j∧j<2^64
theorem Qyx:CallR X (.builtin "divmod") (fun xs H Q=>∃ i j,xs=[.int i,.int j]∧CDv i j∧∀ p,H p=none→Q (.ref p) (upd H p (.tup [.int (i / j),.int (i%j)]))):=by
 intro pins s σ H xs us Q I r h
 obtain ⟨i,j,rfl,⟨h1,h2⟩,q⟩:=h
 obtain ⟨u,w',rfl,⟨t,rfl⟩,⟨t',rfl⟩⟩:=Qum r
 refine divmod_int (by omega) ?_ (.inl (PyProof.noPylong_of_log2 (Qwk h1 h2)))
 rw [Int.fdiv_eq_ediv_of_nonneg i (by omega),Int.fmod_eq_emod_of_nonneg i (by omega)]
 have hn:H s.heap.objs.size=none:=I.hok.fresh (Nat.le_refl _)
 refine ⟨.ref s.heap.objs.size,_,?_,rfl,q _ hn⟩
 refine I.laid (fun b o e=>Heap.get?_push_of_some _ e) (Nat.le_refl _) ⟨by simp only [List.length_cons,List.length_nil];rw [sizeLine_eq];decide,[.int (i / j) s.toks,.int (i%j) (s.toks+1)],.cons ⟨_,rfl⟩ (.cons ⟨_,rfl⟩ .nil),?_⟩
 exact ⟨_,Heap.get?_push_size s.heap rfl,rfl,0,rfl,rfl⟩
noncomputable def Qnu (K:PySem.W.Frag):R2:=fun x y H Q=>(rI0 fun i j=>.int (i+j)) x y H Q∨rCat x y H Q∨Q5v K x y H Q
theorem uAdd:OpR X (binaryOp .Add) (Qnu X.K):=Q7x.or (Q8b.or Q2y)
noncomputable def Q5x:R2:=fun x y H Q=>(rI CMul fun i j=>.int (i*j)) x y H Q∨rRep x y H Q∨Q5w x y H Q
theorem uMul:OpR X (binaryOp .Mult) Q5x:=Q7z.or (Q8c.or Q20)
noncomputable abbrev Q21 (K:PySem.W.Frag) (tl:TE):TI:=fun σ H R=>tl σ H fun x H1=>∃ a,x=.ref a∧(((∃ xs,SqL K H1 a xs)∧R (Itl K a) H1)∨((∃ xs,SqT K H1 a xs)∧R (Itt K a) H1))
theorem Q8f {tg l:Expr} {tl:TE} (hl:PE X l tl):PI X tg l (Q21 X.K tl):=by
 intro pins s σ H R I h
 refine thn (hl pins s σ H _ I h) fun v s1 ⟨x,H1,I1,r1,q1⟩=>?_
 obtain ⟨a,e,q⟩:=q1
 subst e
 cases r1
 rcases q with ⟨⟨xs,hq⟩,q⟩ | ⟨⟨xs,hq⟩,q⟩
 ·obtain ⟨its,rv,p,hz⟩:=I1.list hq
  refine wpAny_pyIter_list p.isList ?_
  refine ⟨s1.heap.objs.size,[s1.heap.objs.size],_,_,H1,rfl,I1.kept (t':=s1.toks) fun b o e=>Heap.get?_push_of_some _ e,Qv9 a _,⟨_,Heap.get?_push_size _ rfl,rfl,rfl⟩,fun b hb=>?_,q⟩
  have e:b=s1.heap.objs.size:=by simpa using hb
  subst e
  exact I1.fpOk (Nat.le_refl _) (I1.hok.fresh (Nat.le_refl _))
 ·obtain ⟨its,rv,p,hz⟩:=I1.tuple hq
  refine wpAny_pyIter_tuple (show s1.heap.IsTuple a its.toArray from p) ?_
  refine ⟨s1.heap.objs.size,[s1.heap.objs.size],_,_,H1,rfl,I1.kept (t':=s1.toks) fun b o e=>Heap.get?_push_of_some _ e,Qsu a _,⟨_,Heap.get?_push_size _ rfl,rfl,rfl⟩,fun b hb=>?_,q⟩
  have e:b=s1.heap.objs.size:=by simpa using hb
  subst e
  exact I1.fpOk (Nat.le_refl _) (I1.hok.fresh (Nat.le_refl _))
noncomputable def Qyy (K:PySem.W.Frag):V→Option Int→Option Int→Hp→VK→Prop:=fun x lo hi H Q=>rSlL K x lo hi H Q∨rSlS K x lo hi H Q
theorem uSl:SlR X (Qyy X.K):=Q2o.or Q2z
end
structure Dfn (K:PySem.W.Frag) (mg:Str→Option Value) (x:Str) (st:Stmt):Prop where
 ex:∃ f fd,Fun K x x st f fd∧mg x=some (.ref f)
noncomputable def Has (P:Program) (w:World) (K:PySem.W.Frag) (mg:Str→Option Value) (base:Heap) (x:Str) (ps:List Str) (k:Nat) (sp:Sp):Prop :=
 ∃ f fd,PySem.W.keepIn K (.ref f)=true∧mg x=some (.ref f)∧Binds K fd ps []∧FnOk P w K mg base CX0 k f fd ps sp
noncomputable def Qag (x:Str) (st:Stmt) (ps:List Str):Prop:=∀ (kV doc pm:Value) (an:Option Addr) (cdv ct:Value) (us:List Value),us.length=ps.length→bindArgs (PySem.W.fnOf x x (Qbe st) (Qaa st) (Qf st) .none kV doc pm an cdv ct) ⟨us,[]⟩=pure (ps.zip us)
section
variable {P:Program} {w:World} {K:PySem.W.Frag} {mg:Str→Option Value} {base:Heap}
theorem Q8g {x:Str} {st:Stmt} {N ps:List Str} {k:Nat} {sp:Sp} (d:Dfn K mg x st) (S:FnScope N ps (Qf st)) (bd:Qag x st ps) (len:∀ vs H Q E,sp vs H Q E→vs.length=ps.length)
  (hbody:∀ (f:Addr) (cdv:Value) (A:Around) (outer:List Env) (s:Shared) (H:Hp) (vs:List V) (Q:VK) (E:XK),Room k (A.deeper (envOfC x (Qf st) s.heap.objs.size f cdv))→sp vs H Q E →
   ∃ t,PSs (Qh2 (fun _=>true) CX0 P w K mg base N x (Qf st) f cdv A outer s H E).nox (Qaa st) t∧t { nx:=fun _ H'=>Q .non H',rt:=Q } (Qbs N vs) H):Has P w K mg base x ps (k+1) sp:=by
 obtain ⟨f,fd,F,m⟩:=d.ex
 exact ⟨f,fd,F.kp,m,F.binds bd,F.ok S len fun cdv A outer s H vs Q E hr hs=>hbody f cdv A outer s H vs Q E hr hs⟩
end
theorem Qyz {X:Cx} {x:Str} {ps:List Str} {k:Nat} {sp:Sp} {e:Expr} {es:List Expr} {t:TA} {p pos:Pos} (h:Has X.prog X.w X.K X.mg X.base x ps k sp) (hr:Room k X.A) (ha:PA X (e::es) t) (hg:Gl X x:=by rfl)
  (hdb:(x==("__debug__" : Str))=false:=by decide) (he:starEach (e::es) X.env=(false,eval e X.env)::starEach es X.env:=by rfl) (hpl:(backTo pos (starEach es X.env)).any (·.1)=false:=by rfl) :
  PE X (.Call (.Name x p) (e::es) [] pos) (Qko sp [] E0 t):=by
 obtain ⟨f,fd,kp,m,b,F⟩:=h
 exact Q2j F hr hg m kp b .nil Qace ha hdb he hpl
inductive T where
 | non | bl (b:Bool) | int (i:Int) | str (x:Str) | tup (ts:List T) | lst (ts:List T) | dct (ks:List Key) (ts:List T) | dtt (ks:List (List Int)) (ts:List T) | clo (k:Nat) (ts:List T)
noncomputable def kIs (ks:List Int):List Key:=ks.map Sum.inl
noncomputable def CellsAt (H:Hp):List Addr→List V→Prop
 | [],vs=>vs=[]
 | c::cs,vs=>∃ v r oc u w,vs=v::r∧H c=some (.frz oc w)∧oc.data=.cell (some u)∧RelV v u∧CellsAt H cs r
noncomputable def CloAt (H:Hp) (f:Addr) (l:LamT) (us:List V):Prop:=∃ cs c' pm ctv,cs.Nodup∧cs.length=l.caps.length∧H f=some (.frz (PySem.W.kla_obj "<lambda>" l.qual l.params l.body l.scope (l.caps.zip cs) pm c' ctv) (.own f))∧H c'=some (.cod l.qual)∧CellsAt H cs us
theorem CellsAt.mono {H H':Hp} (h:Same H H'):∀ {cs:List Addr} {vs:List V},CellsAt H cs vs→CellsAt H' cs vs
 | [],_,r=>r
 | c::cs,_,r=>by
  obtain ⟨v,w,oc,u,w',e,a,b,d,q⟩:=r
  exact ⟨v,w,oc,u,w',e,h _ _ a,b,d,CellsAt.mono h q⟩
theorem CloAt.mono {H H':Hp} (h:Same H H') {f:Addr} {l:LamT} {us:List V} (r:CloAt H f l us):CloAt H' f l us:=by
 obtain ⟨cs,c',pm,ctv,a,b,c,d,e⟩:=r
 exact ⟨cs,c',pm,ctv,a,b,h _ _ c,h _ _ d,e.mono h⟩
mutual
noncomputable def Is (H:Hp):V→T→Prop
 | v,.non=>v=.non
 | v,.bl b=>v=.bl b
 | v,.int i=>v=.int i
 | v,.str x=>v=.str x
 | v,.tup ts=>ts.length≤100000∧∃ a vs,v=.ref a∧H a=some (.tup vs)∧IsL H vs ts
 | v,.lst ts=>ts.length≤100000∧∃ a vs,v=.ref a∧H a=some (.lst vs)∧IsL H vs ts
 | v,.dct ks ts=>∃ a vs,v=.ref a∧H a=some (.dK (ks.zip vs))∧ks.length=vs.length∧IsL H vs ts
 | v,.dtt ks ts=>ks.length≤100000∧∃ a vs,v=.ref a∧H a=some (.dT ((ks.map kIs).zip vs))∧ks.length=vs.length∧IsL H vs ts
 | v,.clo k ts=>∃ f us l,v=.ref f∧Qyr.lookup k=some l∧CloAt H f l us∧IsL H us ts
noncomputable def IsL (H:Hp):List V→List T→Prop
 | vs,[]=>vs=[]
 | vs,t::ts=>∃ v r,vs=v::r∧Is H v t∧IsL H r ts
end
mutual
theorem Is.mono {H H':Hp} (h:Same H H'):∀ {v:V} {t:T},Is H v t→Is H' v t
 | v,.non,r=>by unfold Is at r ⊢;exact r
 | v,.bl b,r=>by unfold Is at r ⊢;exact r
 | v,.int i,r=>by unfold Is at r ⊢;exact r
 | v,.str x,r=>by unfold Is at r ⊢;exact r
 | v,.tup ts,r=>by
  unfold Is at r ⊢
  obtain ⟨z,a,vs,e,ha,q⟩:=r
  exact ⟨z,a,vs,e,h _ _ ha,IsL.mono h q⟩
 | v,.lst ts,r=>by
  unfold Is at r ⊢
  obtain ⟨z,a,vs,e,ha,q⟩:=r
  exact ⟨z,a,vs,e,h _ _ ha,IsL.mono h q⟩
 | v,.dct ks ts,r=>by
  unfold Is at r ⊢
  obtain ⟨a,vs,e,ha,l,q⟩:=r
  exact ⟨a,vs,e,h _ _ ha,l,IsL.mono h q⟩
 | v,.dtt ks ts,r=>by
  unfold Is at r ⊢
  obtain ⟨z,a,vs,e,ha,l,q⟩:=r
  exact ⟨z,a,vs,e,h _ _ ha,l,IsL.mono h q⟩
 | v,.clo l ts,r=>by
  unfold Is at r ⊢
  obtain ⟨f,us,l,e,k,c,q⟩:=r
  exact ⟨f,us,l,e,k,c.mono h,IsL.mono h q⟩
theorem IsL.mono {H H':Hp} (h:Same H H'):∀ {vs:List V} {ts:List T},IsL H vs ts→IsL H' vs ts
 | vs,[],r=>by unfold IsL at r ⊢;exact r
 | vs,t::ts,r=>by
  unfold IsL at r ⊢
  obtain ⟨v,w,e,a,b⟩:=r
  exact ⟨v,w,e,Is.mono h a,IsL.mono h b⟩
end
theorem IsL.nil {H:Hp}:IsL H [] []:=by unfold IsL;rfl
theorem IsL.cons {H:Hp} {v:V} {t:T} {vs:List V} {ts:List T} (a:Is H v t) (b:IsL H vs ts):IsL H (v::vs) (t::ts):=by unfold IsL;exact ⟨v,vs,rfl,a,b⟩
theorem IsL.cons_inv {H:Hp} {vs:List V} {t:T} {ts:List T} (r:IsL H vs (t::ts)):∃ v w,vs=v::w∧Is H v t∧IsL H w ts:=by unfold IsL at r;exact r
theorem IsL.nil_inv {H:Hp} {vs:List V} (r:IsL H vs []):vs=[]:=by unfold IsL at r;exact r
theorem IsL.length {H:Hp}:∀ {ts:List T} {vs:List V},IsL H vs ts→vs.length=ts.length
 | [],vs,r=>by rw [r.nil_inv];rfl
 | t::ts,vs,r=>by
  obtain ⟨v,w,rfl,_,q⟩:=r.cons_inv
  rw [List.length_cons,List.length_cons,q.length]
theorem IsL.get {H:Hp}:∀ {ts:List T} {vs:List V} {i:Nat} {v:V},IsL H vs ts→vs[i]?=some v→∃ t,ts[i]?=some t∧Is H v t
 | [],vs,i,v,r,e=>by rw [r.nil_inv] at e;simp at e
 | t::ts,vs,0,v,r,e=>by
  obtain ⟨x,w,rfl,a,q⟩:=r.cons_inv
  rw [List.getElem?_cons_zero] at e ⊢
  cases e
  exact ⟨t,rfl,a⟩
 | t::ts,vs,i+1,v,r,e=>by
  obtain ⟨x,w,rfl,a,q⟩:=r.cons_inv
  rw [List.getElem?_cons_succ] at e ⊢
  exact IsL.get q e
theorem IsL.getT {H:Hp}:∀ {ts:List T} {vs:List V} {i:Nat} {t:T},IsL H vs ts→ts[i]?=some t→∃ v,vs[i]?=some v∧Is H v t
 | [],vs,i,v,r,e=>by simp at e
 | t::ts,vs,0,v,r,e=>by
  obtain ⟨x,w,rfl,a,q⟩:=r.cons_inv
  rw [List.getElem?_cons_zero] at e ⊢
  cases e
  exact ⟨x,rfl,a⟩
 | t::ts,vs,i+1,v,r,e=>by
  obtain ⟨x,w,rfl,a,q⟩:=r.cons_inv
  rw [List.getElem?_cons_succ] at e ⊢
  exact IsL.getT q e
theorem IsL.append {H:Hp}:∀ {ts us:List T} {vs ws:List V},IsL H vs ts→IsL H ws us→IsL H (vs++ws) (ts++us)
 | [],us,vs,ws,r,q=>by rw [r.nil_inv];exact q
 | t::ts,us,vs,ws,r,q=>by
  obtain ⟨x,w,rfl,a,r⟩:=r.cons_inv
  exact .cons a (r.append q)
theorem IsL.take {H:Hp}:∀ {ts:List T} {vs:List V} (n:Nat),IsL H vs ts→IsL H (vs.take n) (ts.take n)
 | _,_,0,_=>by rw [List.take_zero,List.take_zero];exact .nil
 | [],vs,n+1,r=>by rw [r.nil_inv];exact .nil
 | t::ts,vs,n+1,r=>by
  obtain ⟨x,w,rfl,a,r⟩:=r.cons_inv
  exact .cons a (r.take n)
theorem IsL.drop {H:Hp}:∀ {ts:List T} {vs:List V} (n:Nat),IsL H vs ts→IsL H (vs.drop n) (ts.drop n)
 | _,_,0,r=>r
 | [],vs,n+1,r=>by rw [r.nil_inv];exact .nil
 | t::ts,vs,n+1,r=>by
  obtain ⟨x,w,rfl,a,r⟩:=r.cons_inv
  exact r.drop n
theorem IsL.flat {H:Hp}:∀ (k:Nat) {ts:List T} {vs:List V},IsL H vs ts→IsL H (List.replicate k vs).flatten (List.replicate k ts).flatten
 | 0,ts,vs,r=>by simpa using IsL.nil
 | k+1,ts,vs,r=>by
  rw [List.replicate_succ,List.replicate_succ,List.flatten_cons,List.flatten_cons]
  exact r.append (IsL.flat k r)
theorem IsL.one {H:Hp} {v:V} {t:T} (a:Is H v t):IsL H [v] [t]:=.cons a .nil
theorem Is.int {H:Hp} {i:Int}:Is H (.int i) (.int i):=by unfold Is;rfl
theorem Is.bl {H:Hp} {b:Bool}:Is H (.bl b) (.bl b):=by unfold Is;rfl
theorem Is.non {H:Hp}:Is H .non .non:=by unfold Is;rfl
theorem Is.str {H:Hp} {x:Str}:Is H (.str x) (.str x):=by unfold Is;rfl
theorem Is.tup {H:Hp} {a:Addr} {vs:List V} {ts:List T} (h:H a=some (.tup vs)) (r:IsL H vs ts) (z:ts.length≤100000):Is H (.ref a) (.tup ts):=by unfold Is;exact ⟨z,a,vs,rfl,h,r⟩
theorem Is.lst {H:Hp} {a:Addr} {vs:List V} {ts:List T} (h:H a=some (.lst vs)) (r:IsL H vs ts) (z:ts.length≤100000):Is H (.ref a) (.lst ts):=by unfold Is;exact ⟨z,a,vs,rfl,h,r⟩
theorem Is.int_inv {H:Hp} {v:V} {i:Int} (r:Is H v (.int i)):v=.int i:=by unfold Is at r;exact r
theorem Is.tup_inv {H:Hp} {v:V} {ts:List T} (r:Is H v (.tup ts)):∃ a vs,v=.ref a∧H a=some (.tup vs)∧IsL H vs ts:=by unfold Is at r;exact r.2
theorem Is.tup_len {H:Hp} {v:V} {ts:List T} (r:Is H v (.tup ts)):ts.length≤100000:=by unfold Is at r;exact r.1
theorem Is.lst_len {H:Hp} {v:V} {ts:List T} (r:Is H v (.lst ts)):ts.length≤100000:=by unfold Is at r;exact r.1
theorem Is.lst_inv {H:Hp} {v:V} {ts:List T} (r:Is H v (.lst ts)):∃ a vs,v=.ref a∧H a=some (.lst vs)∧IsL H vs ts:=by unfold Is at r;exact r.2
theorem IsL.ints {H:Hp}:∀ (ns:List Int),IsL H (ns.map V.int) (ns.map T.int)
 | []=>.nil
 | n::ns=>.cons Is.int (IsL.ints ns)
theorem IsL.ints_inv {H:Hp}:∀ {ns:List Int} {vs:List V},IsL H vs (ns.map T.int)→vs=ns.map V.int
 | [],vs,r=>r.nil_inv
 | n::ns,vs,r=>by
  obtain ⟨x,w,rfl,a,r⟩:=r.cons_inv
  rw [a.int_inv,r.ints_inv]
  rfl
theorem Qc2 {n:Nat} (h:n≤100000):n≤sizeLine:=by rw [sizeLine_eq];omega
noncomputable def del (H:Hp) (p:Addr):Hp:=fun b=>if b=p then none else H b
noncomputable def tyT:T→String
 | .non => "NoneType" | .bl _ => "bool" | .int _ => "int" | .str _ => "str" | .tup _ => "tuple" | .lst _ => "list" | .dct _ _ => "dict" | .dtt _ _ => "dict" | .clo _ _ => "function"
noncomputable def Qda:T→Bool
 | .clo _ _=>true
 | _=>false
theorem Is.tyOf {K:PySem.W.Frag} {H:Hp} {v:V} {t:T} (r:Is H v t) (hc:Qda t=false):TyOf K H v (.type (tyT t)):=by
 cases t with
 | non=>unfold Is at r;subst r;exact .non
 | bl b=>unfold Is at r;subst r;exact .bl b
 | int i=>unfold Is at r;subst r;exact .int i
 | str x=>unfold Is at r;subst r;exact .str x
 | tup ts=>obtain ⟨a,vs,rfl,h,_⟩:=r.tup_inv;exact .tup h
 | lst ts=>obtain ⟨a,vs,rfl,h,_⟩:=r.lst_inv;exact .lst h
 | dct ks ts=>unfold Is at r;obtain ⟨a,vs,rfl,h,_⟩:=r;exact .dK h
 | dtt ks ts=>unfold Is at r;obtain ⟨_,a,vs,rfl,h,_⟩:=r;exact .dT h
 | clo l ts=>cases hc
noncomputable def Qe3 (a c:String):Bool:=a==c||(a == "bool" && c == "int")
theorem Q22 (K:PySem.W.Frag):∀ a∈["NoneType","bool","int","str","tuple","list","dict"],∀ c∈["int","bool","tuple","list","dict","str"],PySem.W.kitOne K (.type a) (.type c)=some (Qe3 a c):=by
 intro a ha c hc
 simp only [List.mem_cons,List.not_mem_nil,or_false] at ha hc
 rcases ha with rfl | rfl | rfl | rfl | rfl | rfl | rfl <;> rcases hc with rfl | rfl | rfl | rfl | rfl | rfl <;> rfl
theorem Qwl {X:Cx}:CallR X (.builtin "isinstance") (fun xs H Q=>∃ x c t,xs=[x,.ty c]∧Is H x t∧Qda t=false∧c∈["int","bool","tuple","list","dict","str"]∧Q (.bl (Qe3 (tyT t) c)) H):=by
 intro pins s σ H xs us Q I r h
 obtain ⟨x,c,t,e,ty,nc,hc,q⟩:=h
 refine Qqf pins s σ H xs us Q I r ⟨x,c,_,_,e,ty.tyOf nc,Q22 X.K (tyT t) ?_ c hc,q⟩
 cases t <;> first | (cases nc;done) | simp [tyT]
noncomputable def Q5:Expr→Bool
 | .Starred _ _=>false
 | _=>true
theorem Qb2 {e:Expr} {es:List Expr} {env:Env} (h:Q5 e=true):starEach (e::es) env=(false,eval e env)::starEach es env:=by
 cases e <;> first | rfl | exact absurd h Bool.false_ne_true
theorem paC {X:Cx} {e:Expr} {es:List Expr} {te:TE} {t:TA} (ha:PE X e te) (hr:PA X es t) (hs:Q5 e=true:=by rfl):PA X (e::es) (Qh7 te t):=Q2i ha hr (Qb2 hs)
noncomputable def frp (H H':Hp):Hp:=fun b=>if (H b).isSome=true then none else H' b
theorem Qi3 {H H':Hp} {b:Addr} {o:HO} (h:H b=none) (e:H' b=some o):frp H H' b=some o:=by unfold frp;rw [h];exact e
theorem Qg8 {H H':Hp} {b:Addr} {o:HO} (e:frp H H' b=some o):H b=none∧H' b=some o:=by
 unfold frp at e
 by_cases h:(H b).isSome=true
 ·rw [if_pos h] at e;cases e
 ·rw [if_neg h] at e
  refine ⟨?_,e⟩
  cases q:H b with
  | none=>rfl
  | some u=>rw [q] at h;simp at h
theorem Qnv {H H1 H2:Hp} (h:Same H1 H2):Same (frp H H1) (frp H H2):=fun b o e=>by
 obtain ⟨a,c⟩:=Qg8 e
 exact Qi3 a (h b o c)
theorem Qy0 {H H1 H2:Hp} (h:Same H H1):Same (frp H1 H2) (frp H H2):=fun b o e=>by
 obtain ⟨a,c⟩:=Qg8 e
 exact Qi3 (h.free a) c
noncomputable abbrev tTh (t:T):TE:=fun _ H Q=>∀ v H',Same H H'→Is (frp H H') v t→Q v H'
noncomputable abbrev Qqj (ts:List T):TA:=fun _ H Q=>∀ vs H',Same H H'→IsL (frp H H') vs ts→Q vs H'
section
variable {X:Cx} {e a b:Expr} {es:List Expr} {t:T} {ts:List T} {pos:Pos}
theorem PE.weak {te te':TE} (h:PE X e te) (q:∀ σ H Q,te' σ H Q→te σ H Q):PE X e te':=fun pins s σ H Q I hq=>h pins s σ H Q I (q _ _ _ hq)
theorem PA.weak {ta ta':TA} (h:PA X es ta) (q:∀ σ H Q,ta' σ H Q→ta σ H Q):PA X es ta':=fun pos pins s σ H Q I hq=>h pos pins s σ H Q I (q _ _ _ hq)
theorem Q23 {i j pos}:PE X (.Constant (.int i) j pos) (tTh (.int i)):=Qxz.weak fun _ H _ q=>q _ H (Same.refl H) Is.int
theorem Q8h {x j pos}:PE X (.Constant (.str x) j pos) (tTh (.str x)):=Qst.weak fun _ H _ q=>q _ H (Same.refl H) Is.str
theorem Q24:PA X [] (Qqj []):=Qyg.weak fun _ H _ q=>q [] H (Same.refl H) .nil
theorem Qy1 (ha:PE X e (tTh t)) (hr:PA X es (Qqj ts)) (hs:Q5 e=true:=by rfl):PA X (e::es) (Qqj (t::ts)) :=
 (paC ha hr hs).weak fun σ H Q q v H1 s1 r1 vs H2 s2 r2=>q (v::vs) H2 (s1.trans s2) (.cons (r1.mono (Qnv s2)) (r2.mono (Qy0 s1)))
theorem Q8i (h:PA X es (Qqj ts)) (hz:Nat.ble ts.length 1000=true:=by rfl):PE X (.List es pos) (tTh (.lst ts)) :=
 (Qyh h).weak fun σ H Q q vs H1 s1 r1=>by
  have hl:=r1.length
  have hz:=Nat.le_of_ble_eq_true hz
  refine ⟨by rw [hl,sizeLine_eq];omega,fun p hp=>q _ _ (s1.trans (Same.upd hp)) (.lst (Qi3 (s1.free hp) Qp) (r1.mono (Qnv (Same.upd hp))) (by omega))⟩
theorem Qy2 {k:Str} {j p2 pos} (h:PE X e (tTh t)):PE X (.Dict [some (.Constant (.str k) j p2)] [e] pos) (tTh (.dct [Sum.inr k] [t])) :=
 (Q2u (Qyt Qst h Q2t) rfl rfl (by simp) (by simp)).weak fun σ H Q q p hp=>by
  intro v H1 s1 r1
  have e1:H1 p=some (.dK []):=s1 p _ Qp
  have s0:Same H H1:=Same.trans (Same.upd hp) s1
  refine ⟨e1,[(Sum.inr k,v)],rfl,by simp,?_⟩
  have e2:Qjx [] [((Sum.inr k:Key),v)]=[((Sum.inr k:Key),v)]:=rfl
  rw [e2]
  have s2:Same H (upd H1 p (.dK [((Sum.inr k:Key),v)])):=fun b o eb=>by
   have:b≠p:=Qbr eb hp
   rw [Q2 this]
   exact s0 b o eb
  refine q _ _ s2 ?_
  unfold Is
  refine ⟨p,[v],rfl,Qi3 hp Qp,rfl,.one (r1.mono ?_)⟩
  intro b o eb
  obtain ⟨a1,a2⟩:=Qg8 eb
  have nb:b≠p:=fun z=>by rw [z,Qp] at a1;cases a1
  rw [Q2 nb] at a1
  exact Qi3 a1 (by rw [Q2 nb];exact a2)
end
structure Wk (J:It) (xs:List V) (P:Hp→Prop):Prop where
 go:∀ i H,i<xs.length→P H→J.go i H
 yld:∀ i H x H',i<xs.length→P H→J.yld i H x H'→H'=H∧xs[i]?=some x
 stop:∀ i H,xs.length≤i→P H→J.stop i H
 mono:∀ H H',Same H H'→P H→P H'
section
variable {X:Cx}
noncomputable def Q8j (K:PySem.W.Frag):List V→Hp→VK→Prop:=fun xs H Q=>∃ p ys,xs=[.ref p]∧(SqL K H p ys∨SqT K H p ys)∧Q (.int ys.length) H
theorem kLen (K:PySem.W.Frag) (hK:X.K=K):CallR X (.builtin "len") (Q8j K):=by subst hK;exact Qow
noncomputable def Q8k (K:PySem.W.Frag):List V→Hp→VK→Prop:=fun xs H Q=>∃ p ys,xs=[.ref p]∧SqL K H p ys∧ys.all Qqh=true∧Q (.bl (ys.all Qqg)) H
theorem kAll (K:PySem.W.Frag) (hK:X.K=K) (hc:X.calm=true):CallR X (.builtin "all") (Q8k K):=by subst hK;exact Qyw hc
noncomputable def Qy3 (K:PySem.W.Frag):List V→Hp→VK→Prop:=fun xs H Q=>∃ (p:Addr) (ns:List Int),xs=[.ref p]∧SqL K H p (ns.map V.int)∧ns≠[]∧∀ M,M∈ns→(∀ a∈ns,a≤M)→Q (.int M) H
theorem Qaco (K:PySem.W.Frag) (hK:X.K=K) (hc:X.calm=true):CallR X (.builtin "max") (Qy3 K):=by subst hK;exact Qwj hc
noncomputable def Qo0 (K:PySem.W.Frag):List V→Hp→VK→Prop:=fun xs H Q=>∃ p ys,xs=[.ref p]∧(SqL K H p ys∨SqT K H p ys)∧∀ l,H l=none→Q (.ref l) (upd H l (.lst ys))
theorem Q25 (K:PySem.W.Frag) (hK:X.K=K):CallR X (.type "list") (Qo0 K):=by subst hK;exact Qoy
noncomputable def Qs4 (K:PySem.W.Frag):List V→Hp→VK→Prop:=fun xs H Q=>∃ p ys,xs=[.ref p]∧((SqL K H p ys∧∀ l,H l=none→Q (.ref l) (upd H l (.tup ys)))∨(SqT K H p ys∧Q (.ref p) H))
theorem Q8l (K:PySem.W.Frag) (hK:X.K=K):CallR X (.type "tuple") (Qs4 K):=by subst hK;exact Qm6
noncomputable def Q5y:List V→Hp→VK→Prop:=fun xs H Q=>∃ x c t,xs=[x,.ty c]∧Is H x t∧Qda t=false∧c∈["int","bool","tuple","list","dict","str"]∧Q (.bl (Qe3 (tyT t) c)) H
theorem Qacp:CallR X (.builtin "isinstance") Q5y:=Qwl
theorem kAdd (K:PySem.W.Frag) (hK:X.K=K):OpR X (binaryOp .Add) (Qnu K):=by subst hK;exact uAdd
theorem kIx (K:PySem.W.Frag) (hK:X.K=K):IxR X (rIx K):=by subst hK;exact Q78
theorem kSl (K:PySem.W.Frag) (hK:X.K=K):SlR X (Qyy K):=by subst hK;exact uSl
theorem kSeq (K:PySem.W.Frag) (hK:X.K=K) {tg l:Expr} {tl:TE} (hl:PE X l tl):PI X tg l (Q21 K tl):=by subst hK;exact Q8f hl
theorem kTup (K:PySem.W.Frag) (hK:X.K=K) {es:List Expr} {k:Nat} {t:TGs} {n:Nat} {pos:Pos} (hc:X.calm=true) (h:PGs X es t)
  (hn:(assignEach es X.env).length=n:=by rfl) (hst:(assignEach es X.env).findIdx? (·.1)=none:=by rfl):PG X (.Tuple es k pos) (Q2a K n t):=by subst hK;exact Q7p hc h hn hst
theorem kBm (K:PySem.W.Frag) (hK:X.K=K) {T:String} {o e:Expr} {es:List Expr} {to:TE} {t:TA} {name:Str} {apos cpos:Pos} {id:String} {r:V→List V→Hp→VK→Prop} (pa:PlainAttrs T) (slot:Slot T name id) (hty:typeOf (.builtin id)=pure (.type "method_descriptor")) (hm:MtR X id r) (ho:PE X o to) (ha:PA X (e::es) t)
  (hbase:attributeBase o name X.env (eval o X.env)=eval o X.env:=by rfl)
  (hfew:((backTo cpos (starEach (e::es) X.env)).all (fun x=>!x.1)&&(backToKw cpos (keywordEach [] X.env)).all (fun x=>x.1.isSome)
   && decide ((e::es).length+([]:List Keyword).length+(if ([]:List Keyword).isEmpty then 0 else 1)<30))=true:=by rfl)
  (hline:(apos.endLine==cpos.line)=true:=by rfl) (hs:starEach (e::es) X.env=(false,eval e X.env)::starEach es X.env:=by rfl) (hplain:(backTo cpos (starEach es X.env)).any (·.1)=false:=by rfl) :
  PE X (.Call (.Attribute o name apos) (e::es) [] cpos) (tBM K T r to t):=by
 subst hK
 exact Qacb pa slot hty hm ho ha hbase hfew hline hs hplain
end
noncomputable def Tups (H H':Hp):Prop:=∀ a xs,H a=some (.tup xs)→H' a=some (.tup xs)
noncomputable def MkT (xs:List V) (H:Hp) (Q:VK):Prop:=xs.length≤sizeLine∧∀ p,H p=none→Q (.ref p) (upd H p (.tup xs))
noncomputable def MkL (xs:List V) (H:Hp) (Q:VK):Prop:=xs.length≤sizeLine∧∀ p,H p=none→Q (.ref p) (upd H p (.lst xs))
noncomputable abbrev Qacq (t:TA):TE:=fun σ H Q=>t σ H fun xs H1=>MkT xs H1 Q
noncomputable abbrev Q5z (t:TA):TE:=fun σ H Q=>t σ H fun xs H1=>MkL xs H1 Q
structure QE (X:Cx) (e:Expr) (t:TE):Prop where
 h:PE X e t
structure QT (X:Cx) (e:Expr) (t:TT):Prop where
 h:PT X e t
structure QW (X:Cx) (e:Expr) (t:TT):Prop where
 h:PW X e t
structure QA (X:Cx) (es:List Expr) (t:TA):Prop where
 h:PA X es t
structure QS (X:Cx) (st:Stmt) (t:TS):Prop where
 h:PS X st t
structure QB (X:Cx) (st:List Stmt) (t:TS):Prop where
 h:PSs X st t
structure QI (X:Cx) (tg it:Expr) (t:TI):Prop where
 h:PI X tg it t
structure QG (X:Cx) (tg:Expr) (t:TG):Prop where
 h:PG X tg t
structure QGs (X:Cx) (tg:List Expr) (t:TGs):Prop where
 h:PGs X tg t
structure QC (X:Cx) (ifs:List Expr) (t:TT):Prop where
 h:PTs X ifs t
structure QO (X:Cx) (e:Option Expr) (t:TO):Prop where
 h:PO X e t
structure QOp (X:Cx) (f:Value→Value→Sem Value) (r:R2):Prop where
 h:OpR X f r
structure QUn (X:Cx) (f:Value→Sem Value) (r:V→Hp→VK→Prop):Prop where
 h:UnR X f r
structure QCl (X:Cx) (f:Value) (r:List V→Hp→VK→Prop):Prop where
 h:CallR X f r
structure QIx (X:Cx) (r:R2):Prop where
 h:IxR X r
structure QSl (X:Cx) (r:V→Option Int→Option Int→Hp→VK→Prop):Prop where
 h:SlR X r
structure QMt (X:Cx) (id:String) (r:V→List V→Hp→VK→Prop):Prop where
 h:MtR X id r
section
variable {X:Cx} {e a b:Expr} {es rest:List Expr} {te ta tb:TE} {t:TA} {tt uu tA tB':TT} {pos p p2:Pos} {x:Str}
theorem Qb5 (i:Nat) (hN:X.N[i]?=some x:=by rfl) (hv:Vis X.env.scope x:=by first | exact Or.inl rfl | exact Or.inr (Or.inl rfl) | exact Or.inr (Or.inr rfl)) (hd:(x==("__debug__" : Str))=false:=by decide)
  (hcd:(x==("__classdict__" : Str))=false:=by decide):QE X (.Name x pos) (Qk4 i):=⟨pv i hN hv hd hcd⟩
theorem Qnw {i j}:QE X (.Constant (.int i) j pos) (tC (.int i)):=⟨Qxz⟩
theorem Q26 {b j}:QE X (.Constant (.bool b) j pos) (tC (.bl b)):=⟨Qabr⟩
theorem Qacr {j}:QE X (.Constant .none j pos) (tC .non):=⟨Q7c⟩
theorem Qlq {x j}:QE X (.Constant (.str x) j pos) (tC (.str x)):=⟨Qst⟩
theorem Qy4 {v:V} (h:∃ u,X.mg x=some u∧RelV v u) (hg:Gl X x:=by rfl) (hd:(x==("__debug__" : Str))=false:=by decide):QE X (.Name x pos) (tC v):=by
 obtain ⟨u,m,r⟩:=h
 exact ⟨Quf hg m r hd⟩
theorem Qii (T:String) (hm:X.mg x=none) (hv:bootBuiltins x=some (.type T)) (hg:Gl X x:=by rfl) (hn:x ≠ "__name__" := by decide) (hd:(x==("__debug__" : Str))=false:=by decide):QE X (.Name x pos) (tC (.ty T)):=⟨Q13 (v:=.ty T) hg hm hv rfl hn hd⟩
theorem Qwm {op:Operator} {r:R2} (ho:QOp X (binaryOp op) r) (ha:QE X a ta) (hb:QE X b tb):QE X (.BinOp a op b pos) (tOp r ta tb):=⟨Qaby ho.h ha.h hb.h⟩
theorem q_un {op:UnaryOp} {r:V→Hp→VK→Prop} (ho:QUn X (unaryOp op) r) (ha:QE X a ta):QE X (.UnaryOp op a pos) (tUn r ta):=⟨Qabz ho.h ha.h⟩
theorem Q50 (ha:QE X a ta):QE X (.UnaryOp .Not a pos) (Q5r ta):=⟨Q7k ha.h⟩
theorem Q51 {op} (ha:QE X a ta):QE X (.BoolOp op [a] pos) ta:=⟨Q7i ha.h⟩
theorem Q52 (ha:QE X a ta) (hb:QE X (.BoolOp .And (b::rest) pos) tb):QE X (.BoolOp .And (a::b::rest) pos) (Q5q ta tb):=⟨Q7j ha.h hb.h⟩
theorem q_or (ha:QE X a ta) (hb:QE X (.BoolOp .Or (b::rest) pos) tb):QE X (.BoolOp .Or (a::b::rest) pos) (tOrV ta tb):=⟨Qabv ha.h hb.h⟩
theorem q_if {c:Expr} (hc:QT X c tA) (ha:QE X a ta) (hb:QE X b tb):QE X (.IfExp c a b pos) (tIf tA ta tb):=⟨Qx0 hc.h ha.h hb.h⟩
theorem Qy5 {op:CmpOp} {r:R2} (ho:QOp X (compareOp op) r) (ha:QE X a ta) (hb:QE X b tb) (hm:behindInMarks op b=false):QE X (.Compare a [op] [b] pos) (tOp r ta tb):=⟨Q2e ho.h ha.h hb.h hm⟩
theorem Qlr {op:CmpOp} {r:R2} (ho:QOp X (compareOp op) r) (ha:QE X a ta) (hb:QE X b tb) (hm:behindInMarks op b=false):QT X (.Compare a [op] [b] pos) (Qul (tOp r ta tb)):=⟨Q2f ho.h ha.h hb.h hm⟩
theorem Qs5 (ha:QE X e te) (he:∀ whole,isTrue e X.env whole=(do let v ← whole;standAt e.pos;holding [v] (truthy v)):=by intro _;rfl):QT X e (tB te):=⟨Q7d ha.h he⟩
theorem Qy6 (ha:QT X a tA):QT X (.UnaryOp .Not a pos) (tNot tA):=⟨Q7h ha.h⟩
theorem Q8m (ha:QW X e tA):QT X e tA:=⟨ha.h.pt⟩
theorem Qur (ha:QT X a tA):QW X (.BoolOp .And [a] pos) tA:=⟨Q14 ha.h⟩
theorem Qy7 (ha:QT X a tA):QW X (.BoolOp .Or [a] pos) tA:=⟨Q7f ha.h⟩
theorem Qy8 (ha:QT X a tA) (hb:QW X (.BoolOp .And (b::rest) pos) tB'):QW X (.BoolOp .And (a::b::rest) pos) (Q7e tA tB'):=⟨Q7g ha.h hb.h⟩
theorem Q53 (ha:QT X a tA) (hb:QW X (.BoolOp .Or (b::rest) pos) tB'):QW X (.BoolOp .Or (a::b::rest) pos) (tOr tA tB'):=⟨Qabt ha.h hb.h⟩
theorem Qa7:QA X [] Qp9:=⟨Qyg⟩
theorem Qs (ha:QE X e te) (hr:QA X es t) (hs:Q5 e=true:=by rfl):QA X (e::es) (Qh7 te t):=⟨paC ha.h hr.h hs⟩
theorem Qacs {x1} (h:QA X es t):QE X (.Tuple es x1 pos) (Qacq t):=⟨Q73 h.h⟩
theorem Qqk (h:QA X es t):QE X (.List es pos) (Q5z t):=⟨Qyh h.h⟩
variable {ts:List T} {u:T}
theorem Qact {i j}:QE X (.Constant (.int i) j pos) (tTh (.int i)):=⟨Q23⟩
theorem Qh9 {x j}:QE X (.Constant (.str x) j pos) (tTh (.str x)):=⟨Q8h⟩
theorem Qacu:QA X [] (Qqj []):=⟨Q24⟩
theorem Qfj (ha:QE X e (tTh u)) (hr:QA X es (Qqj ts)) (hs:Q5 e=true:=by rfl):QA X (e::es) (Qqj (u::ts)):=⟨Qy1 ha.h hr.h hs⟩
theorem Qacv (h:QA X es (Qqj ts)) (hz:Nat.ble ts.length 1000=true:=by rfl):QE X (.List es pos) (tTh (.lst ts)):=⟨Q8i h.h hz⟩
theorem Q27 {k:Str} {j} (h:QE X e (tTh u)):QE X (.Dict [some (.Constant (.str k) j p2)] [e] pos) (tTh (.dct [Sum.inr k] [u])):=⟨Qy2 h.h⟩
theorem q_fn {ps:List Str} {k:Nat} {sp:Sp} (h:Has X.prog X.w X.K X.mg X.base x ps k sp) (hr:Room k X.A) (ha:QA X (e::es) t) (hg:Gl X x:=by rfl)
  (hdb:(x==("__debug__" : Str))=false:=by decide) (he:Q5 e=true:=by rfl) (hpl:(backTo pos (starEach es X.env)).any (·.1)=false:=by rfl):QE X (.Call (.Name x p) (e::es) [] pos) (Qko sp [] E0 t):=⟨Qyz h hr ha.h hg hdb (Qb2 he) hpl⟩
theorem Qh3 {id:String} {r:List V→Hp→VK→Prop} (hc:QCl X (.builtin id) r) (hm:X.mg x=none) (hv:bootBuiltins x=some (.builtin id)) (ha:QA X (e::es) t) (hg:Gl X x:=by rfl) (hn:x ≠ "__name__" := by decide) (hdb:(x==("__debug__" : Str))=false:=by decide)
  (he:Q5 e=true:=by rfl) (hpl:(backTo pos (starEach es X.env)).any (·.1)=false:=by rfl):QE X (.Call (.Name x p) (e::es) [] pos) (tCB r t):=⟨Qyi hc.h hg hm hv ha.h hn hdb (Qb2 he) hpl⟩
theorem Qacw {T:String} {r:List V→Hp→VK→Prop} (hc:QCl X (.type T) r) (hm:X.mg x=none) (hv:bootBuiltins x=some (.type T)) (ha:QA X (e::es) t) (hg:Gl X x:=by rfl) (hn:x ≠ "__name__" := by decide) (hdb:(x==("__debug__" : Str))=false:=by decide)
  (he:Q5 e=true:=by rfl) (hpl:(backTo pos (starEach es X.env)).any (·.1)=false:=by rfl):QE X (.Call (.Name x p) (e::es) [] pos) (tCB r t):=⟨Qwi hc.h hg hm hv ha.h hn hdb (Qb2 he) hpl⟩
theorem Qo1 (K:PySem.W.Frag) (hK:X.K=K) {T:String} {o:Expr} {to:TE} {name:Str} {apos cpos:Pos} {id:String} {r:V→List V→Hp→VK→Prop} (pa:PlainAttrs T) (slot:Slot T name id) (hty:typeOf (.builtin id)=pure (.type "method_descriptor")) (hm:QMt X id r) (ho:QE X o to) (ha:QA X (e::es) t)
  (hbase:attributeBase o name X.env (eval o X.env)=eval o X.env:=by rfl)
  (hfew:((backTo cpos (starEach (e::es) X.env)).all (fun x=>!x.1)&&(backToKw cpos (keywordEach [] X.env)).all (fun x=>x.1.isSome)
   && decide ((e::es).length+([]:List Keyword).length+(if ([]:List Keyword).isEmpty then 0 else 1)<30))=true:=by rfl)
  (hline:(apos.endLine==cpos.line)=true:=by rfl) (hs:Q5 e=true:=by rfl) (hplain:(backTo cpos (starEach es X.env)).any (·.1)=false:=by rfl) :
  QE X (.Call (.Attribute o name apos) (e::es) [] cpos) (tBM K T r to t):=⟨kBm K hK pa slot hty hm.h ho.h ha.h hbase hfew hline (Qb2 hs) hplain⟩
theorem Q28 {r:R2} (hr:QIx X r) (ha:QE X a ta) (hb:QE X b tb) (hs:Qix b:=by exact fun _ _=>rfl):QE X (.Subscript a b pos) (tOp r ta tb):=⟨Qab7 hr.h ha.h hb.h hs⟩
theorem Q29 {r:V→Option Int→Option Int→Hp→VK→Prop} {lo hi:Option Expr} {tl th:TO} (hr:QSl X r) (he:QE X e te) (hl:QO X lo tl) (hu:QO X hi th):QE X (.Subscript e (.Slice lo hi none p2) pos) (tSl r te tl th):=⟨Qyj hr.h he.h hl.h hu.h⟩
theorem Q8n:QO X none Qun:=⟨Q2k⟩
theorem Qls (h:QE X e te):QO X (some e) (Quo te):=⟨Q2l h.h⟩
variable {tg:Expr}
theorem Q54 (K:PySem.W.Frag) (hK:X.K=K) (hl:QE X e te):QI X tg e (Q21 K te):=⟨kSeq K hK hl.h⟩
theorem Q8o (hm:X.mg "range" = none) (ha:QA X [a] t) (hg:Gl X "range" := by rfl) (hs:Q5 a=true:=by rfl):QI X tg (.Call (.Name "range" p) [a] [] pos) (Q5s t):=⟨Qwa hg hm ha.h (Qb2 hs)⟩
theorem Qa4 {i:Nat} (hN:X.N.Nodup) (hi:X.N[i]?=some x:=by rfl) (hx:Loc X.env.scope x:=by first | exact Or.inl rfl | exact Or.inr rfl) (hf:X.fn x=true∨X.env.scope.names.lookup x=some .local:=by first | exact .inl rfl | exact .inr rfl | exact .inl (by decide +kernel)):QG X (.Name x pos) (Qgx i):=⟨Q18 hN hi hx hf⟩
theorem Qy9:QGs X [] Q7o:=⟨Q19⟩
theorem Qlg {es:List Expr} {t:TG} {u:TGs} (h1:QG X e t) (h2:QGs X es u) (hs:(assignEach (e::es) X.env).map (·.2)=assign e X.env::(assignEach es X.env).map (·.2):=by rfl):QGs X (e::es) (Qx5 t u):=⟨Qx6 h1.h h2.h hs⟩
theorem Qza (K:PySem.W.Frag) (hK:X.K=K) {es:List Expr} {k:Nat} {t:TGs} {n:Nat} (hc:X.calm=true) (h:QGs X es t) (hn:(assignEach es X.env).length=n:=by rfl) (hst:(assignEach es X.env).findIdx? (·.1)=none:=by rfl):QG X (.Tuple es k pos) (Q2a K n t):=⟨kTup K hK hc h.h hn hst⟩
theorem Qzb {o i:Expr} {to ti:TE} (ho:QE X o to) (hi:QE X i ti)
  (ha:∀ v,assign (.Subscript o i pos) X.env v=(do
   let ov ← holding [v] (eval o X.env)
   let iv ← holding [v,ov] (eval i X.env)
   standAt pos
   holding [v,ov,iv] (setItem ov iv v)
   release [v,ov,iv] []):=by intro _;rfl):QG X (.Subscript o i pos) (Q7q to ti Quq):=⟨Q7r ho.h hi.h Qyl ha⟩
theorem q_c0:QC X [] tYes:=⟨Q2w⟩
theorem q_c1 (h:QT X e tt):QC X [e] tt:=⟨Q2x h.h⟩
theorem Q8p {elt iter:Expr} {ifs:List Expr} {scope:Scope} (N:List Str) (js:List (Option Nat)) {wi:TI} {g:TG} {tc:TT} (hcalm:X.calm=true)
  (hi:QI X tg iter wi) (hg:∀ s H fp,QG (Q9 X scope N s H fp) tg g) (hc:∀ s H fp,QC (Q9 X scope N s H fp) ifs tc) (he:∀ s H fp,QE (Q9 X scope N s H fp) elt te)
  (hk:scope.kind=.function:=by rfl) (h1:scOk X scope=true:=by rfl) (h2:Qi2 X scope N js=true:=by rfl)
  (hs:∀ x,foldedSetIterable iter X.env x=pure x:=by intro _;rfl):QE X (.ListComp elt [⟨tg,iter,ifs,0⟩] scope pos) (Qqe wi js g tc te):=⟨Qyu hcalm hi.h (fun s H fp=>(hg s H fp).h) (fun s H fp=>(hc s H fp).h) (fun s H fp=>(he s H fp).h) hk h1 h2 hs⟩
variable {st:Stmt} {sts:List Stmt} {t1 t2:TS}
theorem Qo2:QB X [] Qx1:=⟨Q15⟩
theorem Qec (h1:QS X st t1) (h2:QB X sts t2):QB X (st::sts) (Qx2 t1 t2):=⟨Qx3 h1.h h2.h⟩
theorem Qfk (h1:QS X st t1):QB X [st] t1:=⟨Q16 h1.h⟩
theorem Qf6 (he:QE X e te) (hs:swapsWith e none pos.line X.env=pure false:=by rfl):QS X (.Expr e pos) (Qug te):=⟨Q17 he.h hs⟩
theorem Qi4 (he:QE X e te):QS X (.Return (some e) pos) (Qx4 te):=⟨Q7l he.h⟩
theorem Qus {c:Expr} {bs cs:List Stmt} (hc:QT X c tt) (ha:QB X bs t1) (hb:QB X cs t2):QS X (.If c bs cs pos) (Q7m tt t1 t2):=⟨Qabw hc.h ha.h hb.h⟩
theorem Q55 {iter:Expr} {body:List Stmt} {wi:TI} {g:TG} (hp:PassesOwn (model X.prog X.w) X.A X.env X.xe) (hc:X.calm=true) (hi:QI X tg iter wi) (hg:QG X tg g) (hb:QB X body t1)
  (hs:∀ x,foldedSetIterable iter X.env x=pure x:=by intro _;rfl):QS X (.For tg iter body [] pos) (Qya wi g t1):=⟨Q7u hp hc hi.h hg.h hb.h hs⟩
theorem Qa8 {i:Nat} (hN:X.N.Nodup) (he:QE X e te) (hi:X.N[i]?=some x:=by rfl) (hx:Loc X.env.scope x:=by first | exact Or.inl rfl | exact Or.inr rfl) (hs:swapsWith e (some (.Name x p2)) pos.line X.env=pure false:=by rfl) (hf:X.fn x=true∨X.env.scope.names.lookup x=some .local:=by first | exact .inl rfl | exact .inr rfl) :
  QS X (.Assign [.Name x p2] e pos) (Qm4 te (Qgx i)):=⟨Q7t hN hi hx he.h hs hf⟩
theorem Qzc {g:TG} (he:QE X e te) (hg:QG X tg g) (hs:swapsWithSole [tg] e pos.line X.env=pure false:=by rfl) (hw:swappedStores [tg] e X.env=pure none:=by rfl)
  (h1:(assignEach [tg] X.env).map (·.2)=[assign tg X.env]:=by rfl):QS X (.Assign [tg] e pos) (Qm4 te g):=⟨Q7s he.h hg.h hs hw h1⟩
theorem Q3a {c:Expr} {body:List Stmt} (hp:PassesOwn (model X.prog X.w) X.A X.env X.xe) (hc:QT X c tt) (hb:QB X body t1):QS X (.While c body [] pos) (Qx7 tt t1):=⟨Qx8 hp hc.h hb.h⟩
theorem Qut (K:PySem.W.Frag) (hK:X.K=K):QOp X (binaryOp .Add) (Qnu K):=⟨kAdd K hK⟩
theorem Qacx:QOp X (binaryOp .Sub) (rI0 fun i j=>.int (i-j)):=⟨Q7y⟩
theorem Qacy:QOp X (binaryOp .Pow) (rI Q7w fun i j=>.int (i^j.toNat)):=⟨Q70⟩
theorem Qacz:QUn X (unaryOp .USub) (rU fun i=>.int (-i)):=⟨Q71⟩
theorem Q8q:QOp X (compareOp .Eq) rEq:=⟨Qab1⟩
theorem o_ne:QOp X (compareOp .NotEq) rNe:=⟨Qab2⟩
theorem o_lt:QOp X (compareOp .Lt) (rI0 fun i j=>.bl (decide (i<j))):=⟨Qab3⟩
theorem o_gt:QOp X (compareOp .Gt) (rI0 fun i j=>.bl (decide (j<i))):=⟨Qab4⟩
theorem o_ge:QOp X (compareOp .GtE) (rI0 fun i j=>.bl (decide (j≤i))):=⟨Qab5⟩
noncomputable def Q56:R2:=fun x y H Q=>y=.non∧Q (.bl (!decide (x=.non))) H
theorem Q8r:QOp X (compareOp .IsNot) Q56:=⟨Q2d⟩
theorem Q8s (K:PySem.W.Frag) (hK:X.K=K):QIx X (rIx K):=⟨kIx K hK⟩
theorem o_sl (K:PySem.W.Frag) (hK:X.K=K):QSl X (Qyy K):=⟨kSl K hK⟩
theorem Qel:QMt X "list.append" Qlf:=⟨Qjw⟩
theorem Qs6:QCl X (.builtin "isinstance") Q5y:=⟨Qacp⟩
theorem Qgy (K:PySem.W.Frag) (hK:X.K=K):QCl X (.builtin "len") (Q8j K):=⟨kLen K hK⟩
theorem Qkq (K:PySem.W.Frag) (hK:X.K=K) (hc:X.calm=true:=by rfl):QCl X (.builtin "all") (Q8k K):=⟨kAll K hK hc⟩
theorem Q8t (K:PySem.W.Frag) (hK:X.K=K) (hc:X.calm=true:=by rfl):QCl X (.builtin "max") (Qy3 K):=⟨Qaco K hK hc⟩
noncomputable def Q57:List V→Hp→VK→Prop:=fun xs H Q=>∃ i j,xs=[.int i,.int j]∧Q (.int (if j>i then j else i)) H
theorem Q8u (hc:X.calm=true:=by rfl):QCl X (.builtin "max") Q57:=⟨Qwd hc⟩
noncomputable def rAbs:List V→Hp→VK→Prop:=fun xs H Q=>∃ i,xs=[.int i]∧Q (.int (if i<0 then -i else i)) H
theorem Qac5:QCl X (.builtin "abs") rAbs:=⟨Qyf⟩
noncomputable def rDvm:List V→Hp→VK→Prop:=fun xs H Q=>∃ i j,xs=[.int i,.int j]∧CDv i j∧∀ p,H p=none→Q (.ref p) (upd H p (.tup [.int (i / j),.int (i%j)]))
theorem Qac7:QCl X (.builtin "divmod") rDvm:=⟨Qyx⟩
noncomputable def Q58:List V→Hp→VK→Prop:=fun xs H Q=>(∃ i,xs=[.int i]∧Q (.int i) H)∨∃ k,xs=[.bl k]∧Q (.int (if k then 1 else 0)) H
theorem Q8v:QCl X (.type "int") Q58:=⟨Qwe⟩
theorem Q8w (K:PySem.W.Frag) (hK:X.K=K):QCl X (.type "list") (Qo0 K):=⟨Q25 K hK⟩
theorem Qhu (K:PySem.W.Frag) (hK:X.K=K):QCl X (.type "tuple") (Qs4 K):=⟨Q8l K hK⟩
end
section
variable {P:Program} {w:World} {K:PySem.W.Frag} {mg:Str→Option Value} {base:Heap}
theorem Qac8 {x:Str} {st:Stmt} {N ps:List Str} {k:Nat} {sp:Sp} (d:Dfn K mg x st) (S:FnScope N ps (Qf st)) (bd:Qag x st ps) (len:∀ vs H Q E,sp vs H Q E→vs.length=ps.length)
  (hbody:∀ (f:Addr) (cdv:Value) (A:Around) (outer:List Env) (s:Shared) (H:Hp) (vs:List V) (Q:VK) (E:XK),Room k (A.deeper (envOfC x (Qf st) s.heap.objs.size f cdv))→sp vs H Q E →
   ∃ t,QB (Qh2 (fun _=>true) CX0 P w K mg base N x (Qf st) f cdv A outer s H E).nox (Qaa st) t∧t { nx:=fun _ H'=>Q .non H',rt:=Q } (Qbs N vs) H):Has P w K mg base x ps (k+1) sp :=
 Q8g d S bd len fun f cdv A outer s H vs Q E hr hs=>let ⟨t,a,b⟩:=hbody f cdv A outer s H vs Q E hr hs;⟨t,a.h,b⟩
end
section
variable {X:Cx} {tg:Expr}
end
open Classical in
noncomputable def dls (H:Hp) (S:Addr→Prop):Hp:=fun b=>if S b then none else H b
theorem Qdb {H:Hp} {S:Addr→Prop} {b:Addr} (h:¬ S b):dls H S b=H b:=by unfold dls;rw [if_neg h]
theorem Qak {H:Hp} {S:Addr→Prop} {b:Addr} {o:HO} (e:dls H S b=some o):¬ S b∧H b=some o:=by
 unfold dls at e
 by_cases h:S b
 ·rw [if_pos h] at e;cases e
 ·rw [if_neg h] at e;exact ⟨h,e⟩
theorem Qzd (H:Hp) (S:Addr→Prop):Same (dls H S) H:=fun b o e=>(Qak e).2
theorem Qbl {S:Addr→Prop} {H H':Hp} (s:Same H H'):Same (dls H S) (dls H' S):=fun b o e=>by
 obtain ⟨n,e⟩:=Qak e
 rw [Qdb n];exact s b o e
theorem Qed {S S':Addr→Prop} {H:Hp} (h:∀ b,S b→S' b):Same (dls H S') (dls H S):=fun b o e=>by
 obtain ⟨n,e⟩:=Qak e
 rw [Qdb fun z=>n (h b z)];exact e
noncomputable def Q8x:HO→Bool
 | .lst _=>true
 | .dT _=>true
 | _=>false
noncomputable def Pen (H:Hp) (S:Addr→Prop):Prop:=∀ b,S b→∃ o,H b=some o∧Q8x o=true
theorem Pen.mono {H H':Hp} {S:Addr→Prop} (h:Pen H S) (s:Same H H'):Pen H' S:=fun b hb=>by
 obtain ⟨xs,e,p⟩:=h b hb
 exact ⟨xs,s _ _ e,p⟩
theorem Pen.new {H:Hp} {S:Addr→Prop} {q:Addr} (h:Pen H S) (hq:H q=none):¬ S q:=fun z=>by
 obtain ⟨xs,e,_⟩:=h q z
 rw [hq] at e;cases e
theorem Qze {H:Hp} {S:Addr→Prop} (h:Pen H S):Tups H (dls H S):=fun a ys e=>by
 rw [Qdb fun z=>by
  obtain ⟨xs,e',p⟩:=h a z
  rw [e] at e';cases e';cases p]
 exact e
section
variable {K:PySem.W.Frag} {H:Hp} {S:Addr→Prop} {x y:V} {ts us:List T} {Q:VK}
theorem Qwn {H':Hp} {a:Addr} {vs:List V} (hp:Pen H' S) (e:H' a=some (.tup vs)):dls H' S a=some (.tup vs):=Qze hp a vs e
theorem Qe4 {a:Addr} {vs:List V} (hp:Pen H S) (e:H a=some (.tup vs)) (r:IsL (dls H S) vs ts) (z:ts.length≤100000):Is (dls H S) (.ref a) (.tup ts):=.tup (Qwn hp e) r z
noncomputable def Qbb (ts:List T) (lo hi:Option Int):List T:=(ts.drop (HT.sIx ts.length 0 lo)).take (HT.sIx ts.length ts.length hi-HT.sIx ts.length 0 lo)
theorem Qb3 (ts:List T) (lo hi:Option Int):(Qbb ts lo hi).length≤ts.length:=by
 unfold Qbb
 rw [List.length_take,List.length_drop]
 omega
theorem IsL.cut {D:Hp} {vs:List V} (r:IsL D vs ts) (lo hi:Option Int):IsL D (Qg6 vs lo hi) (Qbb ts lo hi):=by
 unfold Qg6 Qbb
 rw [r.length]
 exact (r.drop _).take _
theorem Qzf {lo hi:Option Int} (hp:Pen H S) (it:Is (dls H S) x (.tup ts)) (k:∀ y H',Same H H'→Is (dls H' S) y (.tup (Qbb ts lo hi))→Q y H'):Qyy K x lo hi H Q:=by
 obtain ⟨a,vs,rfl,ha,r⟩:=it.tup_inv
 refine .inr ⟨a,vs,rfl,(Qak ha).2,fun q H' s' e' _=>k _ H' s' (Qe4 (hp.mono s') e' ((r.cut lo hi).mono (Qbl s')) ?_)⟩
 have:=Qb3 ts lo hi
 have:=it.tup_len
 omega
theorem Q8y (hp:Pen H S) (ix:Is (dls H S) x (.tup ts)) (iy:Is (dls H S) y (.tup us)) (hz:ts.length+us.length≤100000) (k:∀ z H',Same H H'→Is (dls H' S) z (.tup (ts++us))→Q z H'):Qnu K x y H Q:=by
 obtain ⟨a,vs,rfl,ha,r⟩:=ix.tup_inv
 obtain ⟨b,ws,rfl,hb,r2⟩:=iy.tup_inv
 refine .inr (.inr ⟨a,b,vs,ws,rfl,rfl,(Qak ha).2,(Qak hb).2,Qc2 (by rw [r.length,r2.length];exact hz),fun q H' s' e' _=>k _ H' s' (Qe4 (hp.mono s') e' ((r.append r2).mono (Qbl s')) (by rw [List.length_append];exact hz))⟩)
theorem Q8z {vs:List V} (hp:Pen H S) (r:IsL (dls H S) vs ts) (hz:ts.length≤100000) (k:∀ z H',Same H H'→Is (dls H' S) z (.tup ts)→Q z H'):MkT vs H Q :=
 ⟨Qc2 (by rw [r.length];exact hz),fun q hq=>k _ _ (Same.upd hq) (Qe4 (hp.mono (Same.upd hq)) Qp (r.mono (Qbl (Same.upd hq))) hz)⟩
theorem Q80 {vs:List V} (hp:Pen H S) (r:IsL (dls H S) vs ts) (hz:ts.length≤100000) (k:∀ l H',Same H H'→H l=none→H' l=some (.lst vs)→Is (dls H' S) (.ref l) (.lst ts)→Q (.ref l) H'):MkL vs H Q :=
 ⟨Qc2 (by rw [r.length];exact hz),fun q hq=>k _ _ (Same.upd hq) hq Qp (.lst (by rw [Qdb (hp.new hq),Qp]) (r.mono (Qbl (Same.upd hq))) hz)⟩
theorem Q81 {t:T} {v:V} {H':Hp} (hp:Pen H S) (r:Is (frp H H') v t):Is (dls H' S) v t:=by
 refine r.mono fun b o e=>?_
 obtain ⟨a,c⟩:=Qg8 e
 rw [Qdb fun z=>by
  obtain ⟨xs,e',_⟩:=hp b z
  rw [a] at e';cases e']
 exact c
end
structure Raw (fs:List Addr) (g:Heap) (H:Hp) (h h':Heap):Prop where
 keep:∀ b o,h.get? b=some o→((∃ u,g.get? b=some u)∨H b≠none)→b∉fs→h'.get? b=some o
 slot:∀ b o,h.get? b=some o→((∃ u,g.get? b=some u)∨H b≠none)→∃ sl,h'.get? b=some { o with slots:=sl }
 size:h.objs.size≤h'.objs.size
theorem Raw.refl (fs:List Addr) (g:Heap) (H:Hp) (h:Heap):Raw fs g H h h:=⟨fun _ _ e _ _=>e,fun _ o e _=>⟨o.slots,e⟩,Nat.le_refl _⟩
theorem Raw.trans {fs:List Addr} {g:Heap} {H:Hp} {h h1 h2:Heap} (a:Raw fs g H h h1) (b:Raw fs g H h1 h2):Raw fs g H h h2 where
 keep:=fun c o e p q=>b.keep c o (a.keep c o e p q) p q
 slot:=fun c o e p=>by
  obtain ⟨sl,e1⟩:=a.slot c o e p
  obtain ⟨sl',e2⟩:=b.slot c _ e1 p
  exact ⟨sl',e2⟩
 size:=Nat.le_trans a.size b.size
noncomputable def XObj (H:Hp) (h:Heap) (g:Heap) (e:Addr) (cls:Value) (dx:Option Addr):Prop :=
 g.get? e=none∧H e=none∧∃ oe vs,h.get? e=some oe∧oe.cls=cls∧oe.dict=dx∧oe.data=.fields vs∧1<vs.size ∧
  (vs[1]?=some .none∨∃ T oT ts,vs[1]?=some (.ref T)∧T≠e∧g.get? T=none∧H T=none∧h.get? T=some oT∧oT.data=.fields ts∧3<ts.size)
section
variable {M:Model} {A:Around} {E:Value→Shared→Prop} {s:Shared} {H:Hp} {g:Heap} {e L:Addr} {cls:Value} {dx:Option Addr} {env:Env} {outer:List Env} {base:Heap} {Q:Unit→Shared→Prop}
theorem Qo3 {fs:List Addr} {h:Heap} {a:Addr} {f:Obj→Obj} (ha:g.get? a=none) (hH:H a=none):Raw fs g H h (h.update a f):=by
 have ne:∀ b,((∃ u,g.get? b=some u)∨H b≠none)→a≠b:=fun b p z=>by
  subst z
  rcases p with p | p
  ·obtain ⟨u,q⟩:=p
   rw [ha] at q;cases q
  ·exact p hH
 refine ⟨fun b o e p _=>?_,fun b o e p=>⟨o.slots,?_⟩,?_⟩
 ·rw [Heap.get?_update_other _ _ (ne b p)];exact e
 ·rw [Heap.get?_update_other _ _ (ne b p)];exact e
 ·exact Nat.le_of_eq (by rw [Heap.size_update])
theorem Qzg {fs:List Addr} {h:Heap} {o:Obj}:Raw fs g H h (h.push o) :=
 ⟨fun _ _ e _ _=>Heap.get?_push_of_some _ e,fun _ u e _=>⟨u.slots,Heap.get?_push_of_some _ e⟩,by rw [Heap.size_push];omega⟩
theorem Qwo {fs:List Addr} {h h':Heap} (x:Heap.SlotsOnly fs h h'):Raw fs g H h h' :=
 ⟨fun b o e _ q=>(x.2.1 b q).trans e,fun b o e _=>x.2.2 b o e,Nat.le_of_eq x.1.symm⟩
theorem Qnx {hd0:Value} {nx:Bool} (hfr:A.frames=some (env::outer)) (hl:s.heap.FunFrames base (env::outer)) (hf:env.frame=some L) (fresh:∀ b,s.heap.objs.size≤b→H b=none) (hn:∀ b o,g.get? b=some o→b<s.heap.objs.size)
  (X:XObj H s.heap g e cls dx) (h:∀ h',XObj H h' g e cls dx→Raw (frs (env::outer)) g H s.heap h'→Q () { s with heap:=h' }) :
  wpAny M A (do let a ← frameOf env;let pl ← entryPlaceOf L nx;let b ← EntryCells.newEntry hd0 a .none (rawInt L) .none pl;setField (.ref e) 1 b) Q E s:=by
 obtain ⟨hne,hHe,oe,vs,he,hc,hdx,hd,hsz,_⟩:=X
 have nofr:e∉frs (env::outer):=fun hm=>by
  obtain ⟨_,o,ho,hnf⟩:=hl.mem hm
  rw [he] at ho;cases ho;exact hnf vs hd
 refine wpAny_bind (wpAny_frameOf_fun hfr hl hf fun h1 hs1=>wpAny_bind (wpAny_entryPlaceOf fun pl hpl=>?_))
 unfold EntryCells.newEntry newFields
 refine wpAny_bind (wpAny_newObj_type ?_ (hpl.sizeOk5 _ _ _ _ _))
 have he1:h1.get? e=some oe:=(hs1.2.1 e nofr).trans he
 have sz1:h1.objs.size=s.heap.objs.size:=hs1.1
 generalize hob:({ cls:=.type "traceback",dict:=none,data:=.fields ([hd0,.ref L,.none,rawInt L,.none]++(if pl.isEmpty then List.replicate 6 Value.none else pl)).toArray }:Obj)=ob
 have he2:(h1.push ob).get? e=some oe:=Heap.get?_push_of_some _ he1
 have hTe:h1.objs.size≠e:=Nat.ne_of_gt (Heap.lt_size he1)
 have dd:=Obj.data_mapFields hd (·.setIfInBounds 1 (Value.ref h1.objs.size))
 refine wpAny_setField he2 hd hsz (h _ ?_ (((Qwo hs1).trans Qzg).trans (Qo3 hne hHe)))
 refine ⟨hne,hHe,_,_,Heap.get?_update_self _ he2 (Obj.isFreed_of_fields dd),(Obj.cls_mapFields _ _).trans hc,?_,dd,by simpa using hsz,.inr ⟨h1.objs.size,ob,_,by simp [hsz],hTe,?_,fresh _ (by omega),?_,by rw [←hob],?_⟩⟩
 ·rw [←hdx]
  cases oe
  subst hd
  rfl
 ·cases z:g.get? h1.objs.size with
  | none=>rfl
  | some o=>exact absurd (hn _ _ z) (by rw [sz1];exact Nat.lt_irrefl _)
 ·rw [Heap.get?_update_other _ _ (Ne.symm hTe)]
  exact Heap.get?_push_size h1 (by rw [←hob];rfl)
 ·simp only [List.size_toArray,List.length_append,List.length_cons,List.length_nil]
  omega
theorem Qql (hfr:A.frames=some (env::outer)) (hl:s.heap.FunFrames base (env::outer)) (hf:env.frame=some L) (fresh:∀ b,s.heap.objs.size≤b→H b=none) (hn:∀ b o,g.get? b=some o→b<s.heap.objs.size)
  (X:XObj H s.heap g e cls dx) (h:∀ h',XObj H h' g e cls dx→Raw (frs (env::outer)) g H s.heap h'→Q () { s with heap:=h' }) :
  wpAny M A (noteFrame (.ref e) env) Q E s:=by
 obtain ⟨hne,hHe,oe,vs,he,hc,hdx,hd,hsz,h1⟩:=id X
 unfold noteFrame
 simp only [hf]
 rcases h1 with h1 | ⟨T,oT,ts,h1,hTe,hnT,hHT,hT,hdT,h3⟩
 ·refine wpAny_bind (wpAny_field he hd h1 ?_)
  rw [if_neg (by decide)]
  exact Qnx hfr hl hf fresh hn X h
 ·refine wpAny_bind (wpAny_field he hd h1 ?_)
  rw [if_pos (by simp)]
  refine wpAny_bind (wpAny_field hT hdT (Array.getElem?_eq_getElem h3) ?_)
  by_cases hz:(ts[3]==rawInt L)=true
  ·rw [if_pos hz]
   exact wpAny_pure (h _ X (Raw.refl _ _ _ _))
  ·rw [if_neg hz]
   refine wpAny_bind (wpAny_setField hT hdT h3 ?_)
   have rw1:Raw (frs (env::outer)) g H s.heap (s.heap.update T (Obj.mapFields (·.setIfInBounds 3 Value.none))):=Qo3 hnT hHT
   have oth:∀ b,b≠T→(s.heap.update T (Obj.mapFields (·.setIfInBounds 3 Value.none))).get? b=s.heap.get? b:=fun b hb=>Heap.get?_update_other _ _ (Ne.symm hb)
   have dT:=Obj.data_mapFields hdT (·.setIfInBounds 3 Value.none)
   refine Qnx (s:={ s with heap:=s.heap.update T (Obj.mapFields (·.setIfInBounds 3 Value.none)) }) hfr (hl.of_keeps fun b o hb hnf=>⟨o,(oth b ?_).trans hb,rfl⟩) hf (fun b hb=>fresh b (Nat.le_trans rw1.size hb)) (fun b o q=>Nat.lt_of_lt_of_le (hn b o q) rw1.size)
    ⟨hne,hHe,oe,vs,(oth e (Ne.symm hTe)).trans he,hc,hdx,hd,hsz,.inr ⟨T,_,_,h1,hTe,hnT,hHT,Heap.get?_update_self _ hT (Obj.isFreed_of_fields dT),dT,by simpa using h3⟩⟩ fun h' x r=>h h' x (rw1.trans r)
   intro z
   rw [z,hT] at hb
   cases hb
   exact hnf ts hdT
theorem Qij {fs:List Addr} (X:XObj H s.heap g e cls dx) (h:∀ h',XObj H h' g e cls dx→Raw fs g H s.heap h'→Q () { s with heap:=h' }):wpAny M A (setFlight (.ref e) none) Q E s:=by
 obtain ⟨hne,hHe,oe,vs,he,hc,hdx,hd,hsz,h1⟩:=id X
 unfold setFlight
 rcases h1 with h1 | ⟨T,oT,ts,h1,hTe,hnT,hHT,hT,hdT,h3⟩
 ·refine wpAny_bind (wpAny_field he hd h1 ?_)
  rw [if_neg (by decide)]
  exact wpAny_pure (h _ X (Raw.refl _ _ _ _))
 ·refine wpAny_bind (wpAny_field he hd h1 ?_)
  rw [if_pos (by simp)]
  have dT:=Obj.data_mapFields hdT (·.setIfInBounds 3 Value.none)
  refine wpAny_setField hT hdT h3 (h _ ⟨hne,hHe,oe,vs,?_,hc,hdx,hd,hsz,.inr ⟨T,_,_,h1,hTe,hnT,hHT,Heap.get?_update_self _ hT (Obj.isFreed_of_fields dT),dT,by simpa using h3⟩⟩ (Qo3 hnT hHT))
  rw [Heap.get?_update_other _ _ hTe]
  exact he
theorem Qwp (hfr:A.frames=some (env::outer)) (hl:s.heap.FunFrames base (env::outer)) (hf:env.frame=some L) (fresh:∀ b,s.heap.objs.size≤b→H b=none) (hn:∀ b o,g.get? b=some o→b<s.heap.objs.size)
  (X:XObj H s.heap g e cls dx) (h:∀ h',XObj H h' g e cls dx→Raw (frs (env::outer)) g H s.heap h'→Q () { s with heap:=h' }) :
  wpAny M A (leaving env (.ref e)) Q E s:=by
 unfold leaving
 exact wpAny_bind (Qql hfr hl hf fresh hn X fun h1 x1 r1=>Qij x1 fun h2 x2 r2=>h h2 x2 (r1.trans r2))
end
noncomputable def CXE (P:Program) (w:World):CXT:=fun outer H s E e s'=>∃ a cls dx H',e=.ref a∧s'.os=s.os∧AllBare s'.gens∧Un (frs outer) [] H H' s.heap s'.heap∧HOk P w H' s'.heap∧XObj H' s'.heap s.heap a cls dx∧E cls dx H'
noncomputable abbrev XR:=Value→Option Addr→St→Hp→Prop
noncomputable def Qe5 (X:Cx) (R:XR):Prop:=∀ (pins:List (Addr×Obj)) (σ:St) (H:Hp) (s:Shared) (e:Value) (s':Shared),Inv X pins σ H s→CXE X.prog X.w X.stack H s (fun cls dx H'=>R cls dx σ H') e s'→X.xe e s'
section
variable {P:Program} {w:World} {H H0:Hp} {h h' h0 g:Heap} {fs fs':List Addr}
theorem Raw.hok (r:Raw fs g H h h') (ok:HOk P w H h) (hf:∀ b∈fs,H b=none):HOk P w H h':=fun a o e=>by
 have ht:∀ b u,H b=some u→((∃ u,g.get? b=some u)∨H b≠none)∧b∉fs:=fun b u q=>⟨.inr (by rw [q];simp),fun z=>by rw [hf b z] at q;cases q⟩
 refine (ok a o e).stay (fun b u hb q=>?_) (fun _ q=>q) fun _ _ q=>q
 rcases hb with rfl | hb
 ·exact r.keep _ u q (ht _ _ e).1 (ht _ _ e).2
 ·exact r.keep _ u q (ht _ _ hb).1 (ht _ _ hb).2
theorem Raw.un (r:Raw fs' g H h h') (u:Un fs [] H0 H h0 h) (hg:∀ b o,h0.get? b=some o→∃ v,g.get? b=some v) (hs:∀ b∈fs',b∈fs∨h0.objs.size≤b):Un fs [] H0 H h0 h' where
 keep:=fun b o e n hb hx=>r.keep b o (u.keep b o e n hb hx) (.inl (hg b o e)) fun z=>by
  rcases hs b z with z | z
  ·exact hb z
  ·exact absurd (Nat.lt_of_lt_of_le (Heap.lt_size e) z) (Nat.lt_irrefl _)
 slot:=fun b o e n hb hx=>by
  obtain ⟨sl,q⟩:=u.slot b o e n hb hx
  obtain ⟨sl',q'⟩:=r.slot b _ q (.inl (hg b o e))
  exact ⟨sl',q'⟩
 free:=u.free
 there:=fun b o e hx=>by
  obtain ⟨o',q⟩:=u.there b o e hx
  obtain ⟨sl',q'⟩:=r.slot b _ q (.inl (hg b o e))
  exact ⟨_,q'⟩
 tups:=u.tups
 frzs:=u.frzs
 tbls:=u.tbls
theorem XObj.mono {e:Addr} {cls:Value} {dx:Option Addr} {g':Heap} (x:XObj H h g e cls dx) (hg:∀ b o,g'.get? b=some o→∃ v,g.get? b=some v):XObj H h g' e cls dx:=by
 have nn:∀ b,g.get? b=none→g'.get? b=none:=fun b q=>by
  cases z:g'.get? b with
  | none=>rfl
  | some o =>
   obtain ⟨v,q'⟩:=hg b o z
   rw [q] at q';cases q'
 obtain ⟨h1,h2,oe,vs,a1,a2,a3,a4,a5,a6⟩:=x
 refine ⟨nn _ h1,h2,oe,vs,a1,a2,a3,a4,a5,a6.imp (fun z=>z) fun ⟨T,oT,ts,b1,b2,b3,b4⟩=>⟨T,oT,ts,b1,b2,nn _ b3,b4⟩⟩
end
section
variable {X:Cx} {pins:List (Addr×Obj)} {σ:St} {H H':Hp} {s s':Shared} {e:Addr} {cls:Value} {dx:Option Addr}
theorem Inv.thrown (I:Inv X pins σ H s) (os:s'.os=s.os) (bare:AllBare s'.gens) (un:Un (frs X.stack) [] H H' s.heap s'.heap) (hok:HOk X.prog X.w H' s'.heap):Inv X pins σ H' s' :=
 I.call' (ch:=[]) os un hok bare fun b z=>absurd z (by simp)
end
theorem Qac9 {g:Str→Bool} {P:Program} {w:World} {K:PySem.W.Frag} {mg:Str→Option Value} {base:Heap} {N:List Str} {qual:Str} {scope:Scope} {f:Addr} {cd:Value} {A:Around} {outer:List Env} {s0:Shared} {H0:Hp} {E:XK} :
  Qe5 (Qh2 g (CXE P w) P w K mg base N qual scope f cd A outer s0 H0 E) (fun cls dx _ H=>E cls dx H):=by
 intro pins σ H s e s' I h
 obtain ⟨a,cls,dx,H',rfl,os,bare,un,hok,xo,hE⟩:=h
 have J:=I.thrown os bare un hok
 show wpAny _ _ (leaving _ _) _ _ _
 refine Qwp (base:=base) (outer:=outer) J.ok.frames J.stack rfl (fun b hb=>J.hok.fresh hb) (fun b o q=>?_) xo fun h' x' r'=>?_
 ·obtain ⟨o',q'⟩:=un.there b o q (by simp)
  exact Heap.lt_size q'
 ·have hg:∀ b o,s0.heap.get? b=some o→∃ v,s.heap.get? b=some v:=fun b o q=>I.base.there b o q (by intro z;exact absurd (show b∈([]:List Addr) from z) (by simp))
  refine ⟨a,cls,dx,H',rfl,J.os,J.bare,r'.un J.base hg (fun b hb=>?_),r'.hok hok J.stkFree,x'.mono hg,hE⟩
  rcases List.mem_cons.mp (J.stkSub b hb) with z | z
  ·rw [z];exact .inr J.ok.above
  ·exact .inl z
noncomputable def Qs7 (K:PySem.W.Frag) (mg:Str→Option Value) (x:Str) (cdv:Value):Prop:=∃ f oc od fd osl,mg x=some (.ref f)∧K.lookup f=some ⟨oc,od,.func fd,osl⟩∧fd.code=cdv
noncomputable def HasE (P:Program) (w:World) (K:PySem.W.Frag) (mg:Str→Option Value) (base:Heap) (x:Str) (ps:List Str) (k:Nat) (sp:Sp):Prop :=
 ∃ f fd,PySem.W.keepIn K (.ref f)=true∧mg x=some (.ref f)∧Binds K fd ps []∧FnOk P w K mg base (CXE P w) k f fd ps sp
section
variable {P:Program} {w:World} {K:PySem.W.Frag} {mg:Str→Option Value} {base:Heap}
theorem Q82 {g:Str→Bool} {x:Str} {st:Stmt} {N ps:List Str} {k:Nat} {sp:Sp} (d:Dfn K mg x st) (S:FnScope N ps (Qf st)) (bd:Qag x st ps) (len:∀ vs H Q E,sp vs H Q E→vs.length=ps.length)
  (hbody:∀ (X:Cx) (f:Addr) (cdv:Value) (A:Around) (outer:List Env) (s:Shared) (H:Hp) (vs:List V) (Q:VK) (E:XK),X=Qh2 g (CXE P w) P w K mg base N x (Qf st) f cdv A outer s H E→Qs7 K mg x cdv→Qe5 (Qh2 g (CXE P w) P w K mg base N x (Qf st) f cdv A outer s H E) (fun cls dx _ H=>E cls dx H) →
   Room k (A.deeper (envOfC x (Qf st) s.heap.objs.size f cdv))→sp vs H Q E →
   ∃ t,QB (Qh2 g (CXE P w) P w K mg base N x (Qf st) f cdv A outer s H E) (Qaa st) t∧t { nx:=fun _ H'=>Q .non H',rt:=Q } (Qbs N vs) H):HasE P w K mg base x ps (k+1) sp:=by
 obtain ⟨f,fd,F,m⟩:=d.ex
 refine ⟨f,fd,F.kp,m,F.binds bd,?_⟩
 obtain ⟨oc,od,kV,doc,pm,an,cdv,ct,osl,rfl,lk,hcd⟩:=F.ex
 refine Q5u (g:=g) lk hcd S len fun A outer s H vs Q E hr hsp=>?_
 obtain ⟨t,h,q⟩:=hbody _ f cdv A outer s H vs Q E rfl ⟨f,_,_,_,_,m,lk,rfl⟩ Qac9 hr hsp
 exact ⟨t,h.h,q⟩
theorem HasE.mono {x:Str} {ps:List Str} {j k:Nat} {sp:Sp} (h:HasE P w K mg base x ps j sp) (hj:j≤k):HasE P w K mg base x ps k sp:=by
 obtain ⟨f,fd,a,b,c,d⟩:=h
 exact ⟨f,fd,a,b,c,d.mono hj⟩
end
noncomputable abbrev Qzh (sp:Sp) (R:XR) (t:TA):TE:=fun σ H Q=>t σ H fun vs H1=>sp vs H1 Q (fun cls dx H2=>R cls dx σ H2)
section
variable {X:Cx} {x:Str} {ps:List Str} {k:Nat} {sp:Sp} {e:Expr} {es:List Expr} {t:TA} {p pos cpos np:Pos} {R:XR}
theorem Qada (h:HasE X.prog X.w X.K X.mg X.base x ps k sp) (pz:Qe5 X R) (hr:Room k X.A) (ha:QA X (e::es) t) (hg:Gl X x:=by rfl)
  (hdb:(x==("__debug__" : Str))=false:=by decide) (he:starEach (e::es) X.env=(false,eval e X.env)::starEach es X.env:=by rfl) (hpl:(backTo pos (starEach es X.env)).any (·.1)=false:=by rfl) :
  QE X (.Call (.Name x p) (e::es) [] pos) (Qzh sp R t):=by
 obtain ⟨f,fd,kp,m,b,F⟩:=h
 refine ⟨fun pins s σ H Q I hq=>?_⟩
 refine wpAny_Call_Name_kw (Qf4 I hg m ?_ hdb)
 refine PySem.W.callWith_K (h₀:=X.base) I.ok.mod.kin kp (thn (ha.h pos pins s σ H _ I hq) fun us s1 ⟨vs,H1,I1,r,q⟩=>⟨I1.kIn,?_⟩) he hpl
 have hl:(us++[]).length=ps.length:=by rw [List.append_nil,←r.length];exact F.len _ _ _ _ q
 have r2:Vals vs (us++[]):=by rw [List.append_nil];exact r
 refine wpAny_call (codeAny_mono (F.run X.A X.stack s1 H1 ⟨us,[]⟩ (us++[]) vs Q _ hr I1.env0 (b s1 us I1.kIn hl) r2 q) fun rr s' hq'=>?_)
 cases rr with
 | error ev=>exact pz pins σ H1 s1 ev s' I1 hq'
 | ok fl =>
  cases fl with
  | ret u=>exact I1.after hq'
  | next=>exact False.elim hq'
  | brk=>exact False.elim hq'
  | cont=>exact False.elim hq'
theorem q_sx {st:Stmt} {t:TS} (h:QS X.nox st t):QS X st t:=⟨fun pins s σ H D I hw=>wpAny_mono (h.h pins s σ H D (I.wish _) hw) (fun _ _ q=>q.unwish) fun _ _ z=>False.elim z⟩
end
theorem Qzi {K:PySem.W.Frag} {h:Heap} {C:Addr} {bmB:List Value} {newId:String} (X:K.In h) (q:PySem.W.excIn K C bmB newId=true) :
  ∃ bm N nm qn bs hdct sn sub ab col dd k0 k1 k2 k3 k5 mN,h.get? C=some (excClassObj nm qn C N bs bm hdct sn sub ab col dd k0 k1 k2 k3 k5 newId)∧h.Ns N mN∧mN "__init__" = none∧OwnTail h bmB bm:=by
 unfold PySem.W.excIn at q
 split at q
 ·rename_i d0 c0 sl0 look
  split at q
  ·rename_i C' bm a0 a1 a2 a3 nid a5 eqm eqs
   simp only [Bool.and_eq_true,beq_iff_eq,Bool.not_eq_true'] at q
   obtain ⟨⟨⟨⟨⟨rfl,rfl⟩,q1⟩,q2⟩,q3⟩,q4⟩:=q
   obtain ⟨nm,bs,mro,ns,qn,hd,sn,sub,ab,col,del⟩:=c0
   dsimp only at eqm q1 q3 q4
   subst eqm q1
   obtain ⟨sll⟩:=sl0
   simp only at eqs
   subst eqs
   exact ⟨bm,ns,nm,qn,bs,hd,sn,sub,ab,col,d0,a0,a1,a2,a3,a5,_,X _ _ look,.of_isNs (PySem.W.isNs_of_in X q3),PySem.W.nsMap_none_of_in X q3 q4,PySem.W.tail_of_in X q2⟩
  ·cases q
 ·cases q
section
variable {X:Cx} {x:Str} {e:Expr} {es:List Expr} {t:TA} {pos cpos np:Pos} {R:XR} {C:Addr} {B newId initId:String} {bmB:List Value}
theorem Q3b (pz:Qe5 X R) (hc:X.calm=true) (F:ExcBaseFacts B newId initId bmB) (hC:PySem.W.excIn X.K C bmB newId=true) (hm:X.mg x=some (.ref C)) (ha:QA X (e::es) t) (hg:Gl X x:=by rfl)
  (hdb:(x==("__debug__" : Str))=false:=by decide) (he:starEach (e::es) X.env=(false,eval e X.env)::starEach es X.env:=by rfl) (hpl:(backTo cpos (starEach es X.env)).any (·.1)=false:=by rfl) :
  QS X (.Raise (some (.Call (.Name x np) (e::es) [] cpos)) none pos) (fun _ σ H=>t σ H fun vs H1=>vs.length≤sizeLine∧R (.ref C) none σ H1):=by
 refine ⟨fun pins s σ H D I hw=>?_⟩
 obtain ⟨bm,N,nm,qn,bs,hdct,sn,sub,ab,col,dd,k0,k1,k2,k3,k5,mN,oC,oN,ni,TL⟩:=Qzi I.ok.mod.kin hC
 refine wpAny_Raise_call_subT (C:=C) (nm:=nm) (q:=qn) (N:=N) (bs:=bs) (bm:=bm) (hdct:=hdct) (sn:=sn) (sub:=sub) (ab:=ab) (col:=col) (dd:=dd) (k0:=k0) (k1:=k1) (k2:=k2) (k3:=k3) (k5:=k5) F (mN:=mN) (TL.hasType F.hasBase) (I.ok.hd hc) ?_ ni (Qf4 I hg hm ⟨rfl,?_⟩ hdb)
 ·rw [he]
  show (false||(backTo cpos (starEach es X.env)).any (·.1))=false
  rw [hpl];rfl
 ·have h2:=ha.h cpos pins s σ H _ I hw
  rw [he] at h2 ⊢
  refine Calls.evalArgs_plain (wpAny_mono h2 (fun us s2 ⟨vs,H1,I1,r,z,q⟩=>⟨rfl,by rw [←r.length];exact z,I1.bk _ _ oC,oN.keeps I1.bk,TL.keeps I1.bk,fun h' ea hm2=>?_⟩) fun _ _ y=>y)
  have hHe:H1 ea=none:=by
   cases z2:H1 ea with
   | none=>rfl
   | some o =>
    have:=I1.hok.lt z2
    have hk:∃ o',s2.heap.get? ea=some o':=by
     have ok:=I1.hok ea o z2
     cases o with
     | lst xs=>obtain ⟨_,_,_,_,e1⟩:=ok;exact ⟨_,e1⟩
     | tup xs=>obtain ⟨_,_,_,o,e1,_⟩:=ok;exact ⟨_,e1⟩
     | dK kvs=>obtain ⟨_,_,_,_,o,_,_,e1,_⟩:=ok;exact ⟨_,e1⟩
     | dT kvs=>obtain ⟨_,_,_,_,o,_,_,e1,_⟩:=ok;exact ⟨_,e1⟩
     | set S n=>obtain ⟨o,_,_,_,e1,_⟩:=ok;exact ⟨_,e1⟩
     | ins C dx fs=>obtain ⟨_,_,_,e1,_⟩:=ok;exact ⟨_,e1⟩
     | own y=>exact ok
     | xd fs=>obtain ⟨_,⟨_,_,_,e1,_⟩,_⟩:=ok;exact ⟨_,e1⟩
     | rng lo hi=>obtain ⟨_,_,_,e1⟩:=ok;exact ⟨_,e1⟩
     | frz ob u=>exact ⟨_,ok.1⟩
     | cod q=>obtain ⟨_,_,_,_,ec,e1,_⟩:=ok;cases ec;exact ⟨_,e1⟩
     | tbl q=>obtain ⟨_,e1,_⟩:=ok;exact ⟨_,e1⟩
     | _=>first | exact ok.2.1 | exact ⟨_,ok⟩ | (obtain ⟨_,e1,_⟩:=ok;exact ⟨_,e1⟩)
    obtain ⟨o',e1⟩:=hk
    rw [hm2.new] at e1;cases e1
  obtain ⟨tt,ht,_,_⟩:=hm2.there
  exact pz pins σ H1 s2 (.ref ea) { s2 with heap:=h' } I1 ⟨ea,.ref C,none,H1,rfl,rfl,I1.bare,Un.kept hm2.keeps,I1.hok.kept hm2.keeps,⟨hm2.new,hHe,_,_,ht,rfl,rfl,rfl,by simp,.inl rfl⟩,q⟩
end
structure RoomH (k:Nat) (A:Around):Prop where
 dp:A.depth+3*k+5<recursionLimit
 un:A.units+16*k+200<cLine
theorem RoomH.deeper {k:Nat} {A:Around} (r:RoomH (k+1) A) (env:Env):RoomH k (A.deeper env) :=
 ⟨by have:=r.dp;show A.depth+1+3*k+5<_;omega,by have:=r.un;show A.units+3+16*k+200<_;omega⟩
theorem RoomH.depth {k:Nat} {A:Around} (r:RoomH k A):A.depth<recursionLimit:=by have:=r.dp;omega
theorem Room.mark {k:Nat} {A:Around} (r:Room k A) (h:Option Value):RoomH k (A.mark h):=⟨r.dp,r.un⟩
structure FnOkH (P:Program) (w:World) (K:PySem.W.Frag) (mg:Str→Option Value) (base:Heap) (CX:CXT) (k:Nat) (f:Addr) (fd:FuncData) (ps:List Str) (sp:Sp):Prop where
 len:∀ vs H Q E,sp vs H Q E→vs.length=ps.length
 run:∀ (A:Around) (outer:List Env) (s:Shared) (H:Hp) (args:Args) (us:List Value) (vs:List V) (Q:VK) (E:XK),RoomH k A→Env0 P w K mg base A outer s H→BindsTo s fd args (ps.zip us)→Vals vs us→sp vs H Q E →
  codeAny (model P w) A (.call (.ref f) args) (CR CX outer P w H s Q E) s
noncomputable def Qny (CX:CXT) (P:Program) (w:World) (K:PySem.W.Frag) (mg:Str→Option Value) (base:Heap) (N:List Str) (qual:Str) (scope:Scope) (f:Addr) (cd:Value) (A:Around) (outer:List Env) (s:Shared) (H:Hp) (E:XK):Cx where
 prog:=P
 w:=w
 K:=K
 mg:=mg
 base:=base
 A:=A.deeper (envOfC qual scope s.heap.objs.size f cd)
 N:=N
 s₀:=s
 H₀:=H
 env:=envOfC qual scope s.heap.objs.size f cd
 outer:=outer
 stack:=envOfC qual scope s.heap.objs.size f cd::outer
 ex:=[]
 calm:=false
 fn:=fun _=>true
 pn:=[]
 xe:=fun e s'=>wpAny (model P w) (A.deeper (envOfC qual scope s.heap.objs.size f cd)) (leaving (envOfC qual scope s.heap.objs.size f cd) e) (fun _ s''=>CX outer H s E e s'') (fun e' s''=>CX outer H s E e' s'') s'
theorem Qs8 {CX:CXT} {P:Program} {w:World} {K:PySem.W.Frag} {mg:Str→Option Value} {base:Heap} {N ps:List Str} {qual:Str} {scope:Scope} {f:Addr} {cd:Value} {A:Around} {outer:List Env} {s s1:Shared} {H:Hp} {E:XK} {us:List Value} {vs:List V}
  (S:FnScope N ps scope) (e0:Env0 P w K mg base A outer s H) (hl:vs.length=ps.length) (r:Vals vs us)
  (x:InCallC s s.heap.objs.size (bindL (envOfC qual scope s.heap.objs.size f cd).kindOf (ps.zip us) fun _=>none) (cellsFrom (s.heap.objs.size+1) scope.names []) (bindC (envOfC qual scope s.heap.objs.size f cd).kindOf (ps.zip us) fun _=>none) s1) :
  Inv (Qny CX P w K mg base N qual scope f cd A outer s H E) [] (Qbs N vs) H s1:=by
 have hpl:ps.length≤N.length:=by have:=congrArg List.length S.pre;rw [List.length_take] at this;omega
 obtain ⟨h1,tk,rfl,hk⟩:=x.done
 have noA:∀ b:Addr,b∉(Qny CX P w K mg base N qual scope f cd A outer s H E).ex:=fun b z=>absurd (show b∈([]:List Addr) from z) (by simp)
 refine ⟨⟨e0.mod,S.kind,rfl,rfl,Nat.le_refl _,fun y z c h1 h2=>?_,fun y hy=>?_,fun y c _ h=>?_,fun z=>(Bool.false_ne_true z).elim,Around.frames_deeper e0.frames,.inr ⟨rfl,rfl⟩,fun b z=>absurd z (noA b),e0.bs,e0.bsz,fun b _ _=>noA b,fun b z=>absurd z (noA b),e0.funs,e0.frf⟩,
  rfl,e0.bare,Un.kept hk,⟨_,x.toInCall.ns,fun i y v h1 h2 h3=>?_⟩,fun y c h=>⟨_,x.cell y c h⟩,e0.hok.fresh (Nat.le_refl _),fun y c h=>?_,fun p hp=>absurd (show p∈([]:List (Addr×Obj)) from hp) (by simp),e0.hok.kept hk,?_⟩
 ·exact name_of_addr x.apart (PySem.mem_of_lookup h1) (PySem.mem_of_lookup h2)
 ·have hy:scope.names.lookup y=some .cell∨scope.names.lookup y=some .free:=hy
  rcases hy with hy | hy
  ·exact Qiw hy
  ·exact absurd rfl (S.nofree _ (PySem.mem_of_lookup hy))
 ·exact Nat.le_of_lt (x.above y c (PySem.mem_of_lookup h))
 ·have hi:i<vs.length:=by
   unfold Qbs at h2
   by_cases hi:i<vs.length
   ·exact hi
   ·rw [List.getElem?_append_right (by simpa using hi)] at h2
    rw [List.getElem?_replicate] at h2
    split at h2 <;> cases h2
  have ha:vs[i]?=some v:=by
   unfold Qbs at h2
   rw [List.getElem?_append_left (by simpa using hi),List.getElem?_map] at h2
   cases e:vs[i]? with
   | none=>rw [e] at h2;cases h2
   | some a=>rw [e] at h2;cases h2;rfl
  obtain ⟨u,hu,rv⟩:=r.get ha
  have hp:ps[i]?=some y:=by
   rw [←S.pre,List.getElem?_take_of_lt (by omega)];exact h1
  have ndP:ps.Nodup:=by rw [←S.pre];exact S.nd.sublist (List.take_sublist _ _)
  refine ⟨u,rv,?_⟩
  rcases S.par y (List.mem_of_getElem? hp) with k | k
  ·exact .inl ⟨k,Qft ndP hp hu k⟩
  ·obtain ⟨c,e⟩:=Qiw (n:=s.heap.objs.size+1) k
   refine .inr ⟨.inl k,c,e,?_⟩
   have q:=x.cell y c e
   rw [Qju ndP hp hu (by show scope.names.lookup y≠_;rw [k];decide)] at q
   exact q
 ·exact .inl (e0.hok.fresh (Nat.le_of_lt (x.above y c (PySem.mem_of_lookup h))))
 ·unfold Qbs
  show _=N.length
  rw [List.length_append,List.length_map,List.length_replicate]
  omega
theorem Q83 {CX:CXT} {P:Program} {w:World} {K:PySem.W.Frag} {mg:Str→Option Value} {base:Heap} {k:Nat} {f:Addr} {name qual:Str} {params:Arguments} {body:List Stmt} {scope:Scope} {dV kV doc pm cdv ct oc:Value} {an od:Option Addr}
  {osl:Array (Option Value)} {N ps:List Str} {sp:Sp} (lk:K.lookup f=some ⟨oc,od,.func (PySem.W.fnOf name qual params body scope dV kV doc pm an cdv ct),osl⟩) (hcd:PySem.W.codeIn K cdv qual=true) (S:FnScope N ps scope)
  (len:∀ vs H Q E,sp vs H Q E→vs.length=ps.length)
  (hbody:∀ (A:Around) (outer:List Env) (s:Shared) (H:Hp) (vs:List V) (Q:VK) (E:XK),RoomH k (A.deeper (envOfC qual scope s.heap.objs.size f cdv))→sp vs H Q E →
   ∃ t,PSs (Qny CX P w K mg base N qual scope f cdv A outer s H E) body t∧t { nx:=fun _ H'=>Q .non H',rt:=Q } (Qbs N vs) H) :
  FnOkH P w K mg base CX (k+1) f (PySem.W.fnOf name qual params body scope dV kV doc pm an cdv ct) ps sp:=by
 refine ⟨len,fun A outer s H args us vs Q E hr e0 hb r hsp=>?_⟩
 have hl:=len _ _ _ _ hsp
 have KX:K.In s.heap:=e0.mod.kin.keeps fun b o e=>(e0.bs b o e).1
 have lim:s.heap.NoLimit:=e0.mod.nolimit.keeps fun b o e=>(e0.bs b o e).1
 have hkind:∀ y∈ps.zip us,scope.names.lookup y.1=some .local∨(scope.names.lookup y.1=some .cell∧((cellsFrom (s.heap.objs.size+1) scope.names []).lookup y.1).isSome=true):=fun zz1 hy=>by
  obtain ⟨n,v⟩:=zz1
  rcases S.par n (List.of_mem_zip hy).1 with q | q
  ·exact .inl q
  ·exact .inr ⟨q,PySem.W.cellsFrom_some _ _ _ (.inl q)⟩
 refine codeAny_call_function hr.depth (KX _ _ lk) rfl S.co S.gen rfl (PySem.W.codeRec_of KX hcd) (hb _ _ _ _ ?_)
 refine wpAny_newFunctionEnv_cells S.kind hkind fun env he s1 x=>?_
 subst he
 refine ⟨lim.keeps x.toInCall.keep,codeAny_func ?_⟩
 obtain ⟨t,ht,hq⟩:=hbody A outer s H vs Q E (hr.deeper _) hsp
 have I:Inv (Qny CX P w K mg base N qual scope f cdv A outer s H E) [] (Qbs N vs) H s1:=Qs8 S e0 hl r x
 refine wpAny_mono (ht [] s1 (Qbs N vs) H _ I hq) (fun fl s' hs=>?_) fun e s' hs=>hs
 have fin:∀ {σ':St} {H':Hp} {v:V} {u:Value},Inv (Qny CX P w K mg base N qual scope f cdv A outer s H E) [] σ' H' s'→RelV v u→Q v H'→CE outer P w H s Q u s' :=
  fun {σ' H' v u} J rv q=>⟨v,H',J.os,J.bare,J.base,J.hok,rv,q⟩
 cases fl with
 | ret u =>
  obtain ⟨v,σ',H',J,rv,q⟩:=hs
  exact fin J rv q
 | next =>
  obtain ⟨σ',H',J,q⟩:=hs
  exact fin (v:=V.non) (u:=Value.none) J rfl q
 | brk =>
  obtain ⟨_,_,_,q⟩:=hs
  exact False.elim q
 | cont =>
  obtain ⟨_,_,_,q⟩:=hs
  exact False.elim q
section
variable {X:Cx} {pins p2:List (Addr×Obj)} {σ σ0:St} {H H0:Hp} {s s0:Shared} {h':Heap} {R:XR}
theorem Inv.ns_in (I:Inv X pins σ H s):∃ o,s.heap.get? X.env.locals=some o:=by
 obtain ⟨m,⟨o,_,_,ho,_⟩,_⟩:=I.loc
 exact ⟨o,ho⟩
theorem Inv.cell_in (I:Inv X pins σ H s) {x:Str} {c:Addr} (e:X.env.cells.lookup x=some c):∃ o,s.heap.get? c=some o:=by
 obtain ⟨v,o,ho,_⟩:=I.cell x c e
 exact ⟨o,ho⟩
theorem Inv.old_in (I:Inv X pins σ H s) {b:Addr} {o:Obj} (e:X.s₀.heap.get? b=some o) (hx:b∉X.ex):∃ v,s.heap.get? b=some v:=I.base.there b o e hx
theorem Inv.raw (I:Inv X pins σ H s) (I0:Inv X pins σ0 H0 s0) (r:Raw (frs X.stack) s0.heap H s.heap h'):Inv X pins σ H { s with heap:=h' }:=by
 have sub:∀ b,b∉X.fs→b≠X.env.locals→b∉frs X.stack:=fun b h1 h2 z=>(List.mem_cons.mp (I.stkSub b z)).elim h2 h1
 have cellK:∀ x c v,X.env.cells.lookup x=some c→s.heap.IsCell c v→h'.IsCell c v:=fun x c v e zz1=>by
  obtain ⟨o,ho,hd⟩:=zz1
  obtain ⟨sl,q⟩:=r.slot c o ho (.inl (I0.cell_in e))
  exact ⟨_,q,hd⟩
 refine ⟨I.ok,I.os,I.bare,⟨fun b o e n hb hx=>?_,fun b o e n hb hx=>?_,I.base.free,fun b o e hx=>?_,I.base.tups,I.base.frzs,I.base.tbls⟩,?_,fun x c e=>?_,I.free,I.freeC,fun p hp=>?_,r.hok I.hok I.stkFree,I.len⟩
 ·refine r.keep b o (I.base.keep b o e n hb hx) (.inl (I0.old_in e hx)) (sub b hb ?_)
  exact Nat.ne_of_lt (Nat.lt_of_lt_of_le (Heap.lt_size e) I.ok.above)
 ·obtain ⟨sl,q⟩:=I.base.slot b o e n hb hx
  obtain ⟨sl',q'⟩:=r.slot b _ q (.inl (I0.old_in e hx))
  exact ⟨sl',q'⟩
 ·obtain ⟨o',q⟩:=I.base.there b o e hx
  obtain ⟨sl',q'⟩:=r.slot b _ q (.inl (I0.old_in e hx))
  exact ⟨_,q'⟩
 ·obtain ⟨m,⟨o,es,ep,ho,rest⟩,hl⟩:=I.loc
  obtain ⟨sl,q⟩:=r.slot _ o ho (.inl I0.ns_in)
  refine ⟨m,⟨_,es,ep,q,rest⟩,fun i x v e1 e2 e3=>?_⟩
  obtain ⟨u,rv,l⟩:=hl i x v e1 e2 e3
  refine ⟨u,rv,?_⟩
  rcases l with l | ⟨k,c,e,z⟩
  ·exact .inl l
  ·exact .inr ⟨k,c,e,cellK x c _ e z⟩
 ·obtain ⟨v,z⟩:=I.cell x c e
  exact ⟨v,cellK x c v e z⟩
 ·obtain ⟨e,n,ne,nf,d⟩:=I.pin p hp
  exact ⟨r.keep p.1 p.2 e (.inl ⟨_,(I0.pin p hp).1⟩) (sub _ nf ne),n,ne,nf,d⟩
noncomputable def Qo4 (a:Addr) (cls:Value) (dx:Option Addr):HO:=.ext fun h=>∃ o vs,h.get? a=some o∧o.cls=cls∧o.dict=dx∧o.data=.fields vs
theorem Inv.track {a:Addr} {cls:Value} {dx:Option Addr} (I:Inv X pins σ H s) (I0:Inv X pins σ0 H0 s0) (x:XObj H s.heap s0.heap a cls dx):Inv X pins σ (upd H a (Qo4 a cls dx)) s:=by
 obtain ⟨hn,hH,oe,vs,he,hc,hdx,hd,_⟩:=x
 have ne:∀ b o,s0.heap.get? b=some o→b≠a:=fun b o e z=>by rw [z,hn] at e;cases e
 have neH:∀ b u,H b=some u→b≠a:=fun b u e z=>by rw [z,hH] at e;cases e
 obtain ⟨oL,hL⟩:=I0.ns_in
 refine ⟨I.ok,I.os,I.bare,⟨I.base.keep,I.base.slot,fun b o e n hx=>?_,I.base.there,fun b xs e=>?_,fun b o u e=>?_,fun b ps e=>?_⟩,I.loc,I.cell,?_,fun x c e=>?_,fun p hp=>?_,fun b u e=>?_,I.len⟩
 ·obtain ⟨v,q⟩:=I0.old_in e hx
  rw [Q2 (ne _ _ q)]
  exact I.base.free b o e n hx
 ·have q:=I.base.tups b xs e
  rw [Q2 (neH _ _ q)];exact q
 ·have q:=I.base.frzs b o u e
  rw [Q2 (neH _ _ q)];exact q
 ·have q:=I.base.tbls b ps e
  rw [Q2 (neH _ _ q)];exact q
 ·rw [Q2 (ne _ _ hL)];exact I.free
 ·obtain ⟨o,q⟩:=I0.cell_in e
  rw [Q2 (ne _ _ q)];exact I.freeC x c e
 ·obtain ⟨e,n,r⟩:=I.pin p hp
  exact ⟨e,by rw [Q2 (ne _ _ (I0.pin p hp).1)];exact n,r⟩
 ·by_cases hb:b=a
  ·subst hb
   rw [Qp] at e
   cases e
   refine ⟨⟨oe,vs,he,hc,hdx,hd⟩,⟨oe,he⟩,fun h1 h2 ⟨o,vs',q,r1,r2,r3⟩ k=>⟨o,vs',k o q,r1,r2,r3⟩⟩
  ·rw [Q2 hb] at e
   exact (I.hok b u e).stay (fun _ _ _ q=>q) (fun c q=>by rw [Q2 (neH _ _ q)];exact q) (fun c xs q=>by rw [Q2 (neH _ _ q)];exact q) fun c xs q=>by rw [Q2 (neH _ _ q)];exact q
noncomputable def Qlt (X:Cx) (pins:List (Addr×Obj)) (R:XR):Cx:={ X with
 pn:=X.pn++pins
 xe:=fun e s'=>∃ a cls dx σ' H' H1 s1,e=.ref a∧Inv X pins σ' H1 s1∧Inv X pins σ' H' s'∧XObj H' s'.heap s1.heap a cls dx∧(∀ b o,s1.heap.get? b=some o→b<s'.heap.objs.size)∧R cls dx σ' H' }
theorem Inv.toTry (I:Inv X pins σ H s):Inv (Qlt X pins R) [] σ H s :=
 ⟨⟨I.ok.mod,I.ok.kind,I.ok.glob,I.ok.blt,I.ok.above,I.ok.inj,I.ok.has,I.ok.cab,I.ok.hd,I.ok.frames,I.ok.stk,I.ok.exf,I.ok.bs,I.ok.bsz,I.ok.noex,I.ok.exfs,I.ok.funs,I.ok.frf⟩,
  I.os,I.bare,I.base,I.loc,I.cell,I.free,I.freeC,fun p hp=>I.pin p (by rw [List.append_nil] at hp;exact hp),I.hok,I.len⟩
theorem Inv.ofTry (I:Inv (Qlt X pins R) p2 σ H s):Inv X pins σ H s :=
 ⟨⟨I.ok.mod,I.ok.kind,I.ok.glob,I.ok.blt,I.ok.above,I.ok.inj,I.ok.has,I.ok.cab,I.ok.hd,I.ok.frames,I.ok.stk,I.ok.exf,I.ok.bs,I.ok.bsz,I.ok.noex,I.ok.exfs,I.ok.funs,I.ok.frf⟩,
  I.os,I.bare,I.base,I.loc,I.cell,I.free,I.freeC,fun p hp=>I.pin p (List.mem_append_left _ hp),I.hok,I.len⟩
theorem Q3c:Qe5 (Qlt X pins R) R:=by
 intro p2 σ H s e s' I h
 obtain ⟨a,cls,dx,H',rfl,os,bare,un,hok,xo,hR⟩:=h
 have J:=I.thrown os bare un hok
 refine ⟨a,cls,dx,σ,H',H,s,rfl,I.ofTry,J.ofTry,xo,fun b o q=>?_,hR⟩
 obtain ⟨o',q'⟩:=un.there b o q (by simp)
 exact Heap.lt_size q'
noncomputable def Qlu (X:Cx) (pins:List (Addr×Obj)) (e:Addr):Cx:={ X with A:=X.A.mark (some (.ref e)),calm:=false,pn:=X.pn++pins,xe:=fun _ _=>False }
theorem Inv.toHan {e:Addr} (I:Inv X pins σ H s):Inv (Qlu X pins e) [] σ H s :=
 ⟨⟨I.ok.mod,I.ok.kind,I.ok.glob,I.ok.blt,I.ok.above,I.ok.inj,I.ok.has,I.ok.cab,fun z=>(Bool.false_ne_true z).elim,I.ok.frames,I.ok.stk,I.ok.exf,I.ok.bs,I.ok.bsz,I.ok.noex,I.ok.exfs,I.ok.funs,I.ok.frf⟩,
  I.os,I.bare,I.base,I.loc,I.cell,I.free,I.freeC,fun p hp=>I.pin p (by rw [List.append_nil] at hp;exact hp),I.hok,I.len⟩
theorem Inv.ofHan {e:Addr} (I:Inv (Qlu X pins e) p2 σ H s) (ok:X.Ok):Inv X pins σ H s :=
 ⟨ok,I.os,I.bare,I.base,I.loc,I.cell,I.free,I.freeC,fun p hp=>I.pin p (List.mem_append_left _ hp),I.hok,I.len⟩
end
section
variable {X:Cx} {pins:List (Addr×Obj)} {σ:St} {H:Hp} {s:Shared} {M:Model} {A:Around} {E:Value→Shared→Prop} {Q:Unit→Shared→Prop} {i:Nat} {x:Str} {v:V}
theorem Qwq (I:Inv X pins σ H s) (hN:X.N.Nodup) (hi:X.N[i]?=some x) (hl:X.env.scope.names.lookup x=some .local) (hv:σ[i]?=some (some v)) (h:∀ s',Inv X pins (σ.set i none) H s'→Q () s'):wpAny M A (unbindName X.env x) Q E s:=by
 obtain ⟨m,hn,hm⟩:=id I.loc
 have hcls:(X.env.scope.kind==.class||(X.env.scope.kind==.module&&X.env.locals != X.env.globals))=false:=by rw [I.ok.kind];rfl
 obtain ⟨u,_,lk⟩:=hm i x v hi hv (.inl hl)
 have mv:m x=some u:=by
  rcases lk with ⟨_,e⟩ | ⟨k,_⟩
  ·exact e
  ·rcases k with k | k
   ·have k:X.env.scope.names.lookup x=some .cell:=k
    rw [hl] at k;cases k
   ·have k:X.env.scope.names.lookup x=some .free:=k
    rw [hl] at k;cases k
 obtain ⟨oL,_,_,hoL,_⟩:=id hn
 refine wpAny_unbindName_local hl hn mv hcls fun h' u' hn' hs=>h _ ?_
 have oth:∀ b o,X.s₀.heap.get? b=some o→h'.get? b=s.heap.get? b:=fun b o e=>hs.2 b (Nat.ne_of_lt (Nat.lt_of_lt_of_le (Heap.lt_size e) I.ok.above))
 have tracked:HOk X.prog X.w H h':=fun b ob e=>by
  refine (I.hok b ob e).stay (fun c w' hc q=>(hs.2 c ?_).trans q) (fun _ q=>q) fun _ _ q=>q
  rintro rfl
  rcases hc with rfl | hc
  ·rw [I.free] at e;cases e
  ·rw [I.free] at hc;cases hc
 refine ⟨I.ok,I.os,I.bare,⟨fun b o e n hb hx=>(oth b o e).trans (I.base.keep b o e n hb hx),fun b o e n hb hx=>?_,I.base.free,fun b o e hx=>?_,I.base.tups,I.base.frzs,I.base.tbls⟩,⟨_,hn',fun j y v' e1 e2 e3=>?_⟩,fun y c e=>?_,I.free,I.freeC,fun p hp=>?_,tracked,by simpa using I.len⟩
 ·obtain ⟨sl,e1⟩:=I.base.slot b o e n hb hx
  exact ⟨sl,(oth b o e).trans e1⟩
 ·obtain ⟨o',e1⟩:=I.base.there b o e hx
  exact ⟨o',(oth b o e).trans e1⟩
 ·have hj:j≠i:=fun z=>by
   have hlt:i<σ.length:=(List.getElem?_eq_some_iff.mp hv).1
   rw [z,List.getElem?_set_self hlt] at e2
   cases e2
  rw [List.getElem?_set_ne (Ne.symm hj)] at e2
  obtain ⟨u2,r2,q⟩:=hm j y v' e1 e2 e3
  refine ⟨u2,r2,?_⟩
  rcases q with ⟨k,e⟩ | ⟨k,c,e,z⟩
  ·refine .inl ⟨k,?_⟩
   have:y≠x:=fun e=>hj (Qll hN e1 (e ▸ hi))
   simp [this,e]
  ·exact .inr ⟨k,c,e,z.sameBut hs (I.cne y c e)⟩
 ·obtain ⟨w',z⟩:=I.cell y c e
  exact ⟨w',z.sameBut hs (I.cne y c e)⟩
 ·obtain ⟨e,n,ne,nf,d⟩:=I.pin p hp
  exact ⟨(hs.2 p.1 ne).trans e,n,ne,nf,d⟩
end
theorem Qs9 {K:PySem.W.Frag} {M:Model} {A:Around} {E:Value→Shared→Prop} {h:Heap} {g:Array GenState} {d:Drawn} {t:Nat} {os:OsState} {e C0 C1:Addr} {oe:Obj} {bmB:List Value} {newId:String} {Q:Bool→Shared→Prop} (X:K.In h)
  (q0:PySem.W.excIn K C0 bmB newId=true) (hb:bmB.contains (.type "BaseException")=true) (q1:PySem.W.mroIn K C1 (.ref C0)=some true) (he:h.get? e=some oe) (hcls:oe.cls=.ref C1) (hq:Q true ⟨h,g,d,t,os⟩) :
  wpAny M A (excMatches (.ref e) (.ref C0)) Q E ⟨h,g,d,t,os⟩:=by
 obtain ⟨bm,N,nm,qn,bs,hdct,sn,sub,ab,col,dd,k0,k1,k2,k3,k5,mN,oC,oN,ni,TL⟩:=Qzi X q0
 have cB:(Value.ref C0::bm).contains (.type "BaseException")=true:=by rw [List.contains_cons,TL.hasType hb,Bool.or_true]
 have L1:=PySem.W.looks_mroIn (M:=M) X q1
 have f:=tc_notTuple
 unfold excMatches
 repeat (first | (with_reducible refine wpAny_loadPart_at he ?_;rw [hcls]) | with_reducible refine wpAny_loadPart_at oC ?_ | with_reducible refine L1.at ?_ | (with_reducible refine wpAny_isSubtype_exc oC ?_;rw [cB]) | wp_step)
 exact hq
noncomputable def tTry (i:Nat) (K:PySem.W.Frag) (C0:Addr) (tb:XR→TS) (th:TS):TS:=fun D σ H=>∃ R:XR,tb R D σ H∧∀ cls dx σ' H' a,R cls dx σ' H'→H' a=none→σ'.length=σ.length →
 (∃ C1,cls=.ref C1∧PySem.W.mroIn K C1 (.ref C0)=some true)∧th { nx:=fun σ2 H2=>D.nx (σ2.set i none) H2,rt:=D.rt,bk:=fun σ2 H2=>D.bk (σ2.set i none) H2,ct:=fun σ2 H2=>D.ct (σ2.set i none) H2 } (σ'.set i (some (.ref a))) (upd H' a (Qo4 a cls dx))
section
variable {X:Cx} {body suite:List Stmt} {b0:Stmt} {x n:Str} {np hpos pos:Pos} {tb:XR→TS} {th:TS} {i:Nat} {C0:Addr} {bmB:List Value} {newId:String}
theorem Qadd (hb:∀ (pins:List (Addr×Obj)) (R:XR),Qe5 (Qlt X pins R) R→QB (Qlt X pins R) body (tb R)) (hs:∀ (pins:List (Addr×Obj)) (e:Addr),QB (Qlu X pins e) (b0::suite) th)
  (hN:X.N.Nodup) (hC:PySem.W.excIn X.K C0 bmB newId=true) (hB:bmB.contains (.type "BaseException")=true) (hm:X.mg x=some (.ref C0)) (hi:X.N[i]?=some n:=by rfl) (hl:X.env.scope.names.lookup n=some .local:=by rfl) (hg:Gl X x:=by rfl)
  (hst:∃ env outer L,X.stack=env::outer∧X.env=env∧env.frame=some L:=by exact ⟨_,_,_,rfl,rfl,rfl⟩)
  (hdb:(x==("__debug__" : Str))=false:=by decide):QS X (.Try body [.ExceptHandler (some (.Name x np)) (some n) (b0::suite) hpos] [] [] pos) (tTry i X.K C0 tb th):=by
 refine ⟨fun pins s σ H D I hw=>?_⟩
 obtain ⟨R,hwb,hwh⟩:=hw
 obtain ⟨env0,outer,L,est,eenv,efr⟩:=hst
 have body_ok:=(hb pins R Q3c).h [] s σ H D I.toTry hwb
 refine wpAny_Try_except (wpAny_mono body_ok (fun f s1 q=>?_) fun ev s1 q=>?_)
 ·have q':SP X pins D f s1:=by
   cases f with
   | next=>obtain ⟨σ',H',J,z⟩:=q;exact ⟨σ',H',J.ofTry,z⟩
   | brk=>obtain ⟨σ',H',J,z⟩:=q;exact ⟨σ',H',J.ofTry,z⟩
   | cont=>obtain ⟨σ',H',J,z⟩:=q;exact ⟨σ',H',J.ofTry,z⟩
   | ret u=>obtain ⟨v,σ',H',J,r,z⟩:=q;exact ⟨v,σ',H',J.ofTry,r,z⟩
  cases f with
  | next=>exact wpAny_execs_nil q'
  | brk=>exact q'
  | cont=>exact q'
  | ret u=>exact q'
 ·obtain ⟨a,cls,dx,σ',H',H1,s2,rfl,I0,J,xo,hlt,hR⟩:=q
  have frJ:X.A.frames=some (env0::outer):=by rw [J.ok.frames,est]
  have stJ:s1.heap.FunFrames X.base (env0::outer):=by rw [←est];exact J.stack
  rw [←est] at stJ
  rw [eenv]
  refine Qql (base:=X.base) (outer:=outer) frJ (by rw [←est];exact stJ) efr (fun b hb=>J.hok.fresh hb) hlt xo fun h3 x3 r3=>?_
  rw [←est] at r3
  have J3:=J.raw I0 r3
  refine Qij (s:={ s1 with heap:=h3 }) (fs:=frs X.stack) x3 fun h4 x4 r4=>?_
  have J4:=J3.raw I0 r4
  obtain ⟨⟨C1,rfl,hmro⟩,hsuite⟩:=hwh cls dx σ' H' a hR x4.2.1 (J.len.trans I.len.symm)
  obtain ⟨hn,hH,oe,vs,he,hc,hdx,hd,_⟩:=id x4
  rw [←eenv]
  have ld:∀ (E':Value→Shared→Prop) (Q':Value→Shared→Prop),Q' (.ref C0) { s1 with heap:=h4 }→wpAny (model X.prog X.w) (X.A.mark (some (.ref a))) (eval (.Name x np) X.env) Q' E' { s1 with heap:=h4 }:=fun E' Q' hq=>Qf4 (X:=Qlu X pins a) (J4.toHan) hg hm hq hdb
  refine wpAny_handleBy_cons (codeAny_handlers_test (ld _ _ (Qs9 (h:=h4) J4.kIn hC hB hmro he hc ?_))) (by intro z;cases z)
  refine codeAny_handlers_suite_as ?_
  refine Qij (s:={ s1 with heap:=h4 }) (fs:=frs X.stack) x4 fun h5 x5 r5=>?_
  have J5:=J4.raw I0 r5
  have J6:=J5.track I0 x5
  refine Qiv (X:=Qlu X pins a) J6.toHan hN hi (.inl hl) (v:=.ref a) rfl (fun s6 I6=>?_) (.inr hl)
  refine wpAny_mono ((hs pins a).h [] s6 _ _ _ I6 hsuite) (fun f s7 q7=>?_) fun _ _ z=>False.elim z
  have fin:∀ {σ7:St} {H7:Hp} {P:Prop},Inv (Qlu X pins a) [] σ7 H7 s7→(∀ s9,Inv X pins (σ7.set i none) H7 s9→SP X pins D f s9) →
    wpAny (model X.prog X.w) X.A (do bindName X.env n .none;unbindBehindTheSuite X.env n hpos) (fun _ s9=>SP X pins D f s9) X.xe s7:=fun {σ7 H7 P} I7 k=>by
   have K7:=I7.ofHan I.ok
   have hlen:i<σ7.length:=by
    rw [K7.len]
    exact (List.getElem?_eq_some_iff.mp hi).1
   refine wpAny_bind (wpAny_bindName (Qiv K7 hN hi (.inl hl) (v:=.non) rfl (fun s8 I8=>?_) (.inr hl)))
   unfold unbindBehindTheSuite
   refine wpAny_onRaise (Qwq I8 hN hi hl (v:=.non) (List.getElem?_set_self hlen) fun s9 I9=>k s9 ?_)
   rw [List.set_set] at I9
   exact I9
  cases f with
  | next =>
   obtain ⟨σ7,H7,I7,z⟩:=q7
   exact fin (P:=True) I7 fun s9 I9=>⟨_,_,I9,z⟩
  | brk =>
   obtain ⟨σ7,H7,I7,z⟩:=q7
   exact fin (P:=True) I7 fun s9 I9=>⟨_,_,I9,z⟩
  | cont =>
   obtain ⟨σ7,H7,I7,z⟩:=q7
   exact fin (P:=True) I7 fun s9 I9=>⟨_,_,I9,z⟩
  | ret u =>
   obtain ⟨v,σ7,H7,I7,r,z⟩:=q7
   exact fin (P:=True) I7 fun s9 I9=>⟨v,_,_,I9,r,z⟩
end
end L2
namespace PySem.SeqAt
open PySem PySem.Spec PyProof PyProof.Rows
theorem sub_tuple_dict:isSubtype (.type "tuple") (.type "dict")=pure false:=by rw [isSubtype_type];kernel_rfl
theorem sub_dict_tuple:isSubtype (.type "dict") (.type "tuple")=pure false:=by rw [isSubtype_type];kernel_rfl
theorem sub_dict_dict:isSubtype (.type "dict") (.type "dict")=pure true:=by rw [isSubtype_type];kernel_rfl
theorem dict_ne_declines_tuple (l b:Addr) (da:Data) (items2:Array Value) (n2:Nat) (dd dd2:Option Addr) (sl sl2:Array (Option Value)) :
  Meets (Builtin.«dict.__ne__» ⟨[.ref l,.ref b],[]⟩) (fun _ R s=>s.heap.get? l=some { cls:=.type "dict",dict:=dd,data:=da,slots:=sl }∧s.heap.get? b=some { cls:=.type "tuple",dict:=dd2,data:=.seq items2 n2,slots:=sl2 }∧R (.ok (.ret .notImplemented)) s) :=
 .of_wp fun prog w A R s h=>by obtain ⟨hp,g,d,tk,os⟩:=s;obtain ⟨hl,hb,h⟩:=h;have f1:=sub_tuple_dict;have f2:=sub_dict_dict;wp_walk using wpAny_loadPart' hl,wpAny_loadPart' hb;exact ⟨_,rfl,h⟩
theorem tuple_ne_declines_dict (l b:Addr) (da:Data) (items:Array Value) (n:Nat) (dd dd2:Option Addr) (sl sl2:Array (Option Value)) :
  Meets (Builtin.«tuple.__ne__» ⟨[.ref l,.ref b],[]⟩) (fun _ R s=>s.heap.get? l=some { cls:=.type "tuple",dict:=dd,data:=.seq items n,slots:=sl }∧s.heap.get? b=some { cls:=.type "dict",dict:=dd2,data:=da,slots:=sl2 }∧R (.ok (.ret .notImplemented)) s) :=
 .of_wp fun prog w A R s h=>by obtain ⟨hp,g,d,tk,os⟩:=s;obtain ⟨hl,hb,h⟩:=h;have f1:=sub_dict_tuple;wp_walk using wpAny_loadPart' hl,wpAny_loadPart' hb;exact ⟨_,rfl,h⟩
theorem dict_eq_declines_tuple (l b:Addr) (da:Data) (items2:Array Value) (n2:Nat) (dd dd2:Option Addr) (sl sl2:Array (Option Value)) :
  Meets (Builtin.«dict.__eq__» ⟨[.ref l,.ref b],[]⟩) (fun _ R s=>s.heap.get? l=some { cls:=.type "dict",dict:=dd,data:=da,slots:=sl }∧s.heap.get? b=some { cls:=.type "tuple",dict:=dd2,data:=.seq items2 n2,slots:=sl2 }∧R (.ok (.ret .notImplemented)) s) :=
 .of_wp fun prog w A R s h=>by obtain ⟨hp,g,d,tk,os⟩:=s;obtain ⟨hl,hb,h⟩:=h;have f1:=sub_tuple_dict;have f2:=sub_dict_dict;wp_walk using wpAny_loadPart' hl,wpAny_loadPart' hb;exact ⟨_,rfl,h⟩
theorem tuple_eq_declines_dict (l b:Addr) (da:Data) (items:Array Value) (n:Nat) (dd dd2:Option Addr) (sl sl2:Array (Option Value)) :
  Meets (Builtin.«tuple.__eq__» ⟨[.ref l,.ref b],[]⟩) (fun _ R s=>s.heap.get? l=some { cls:=.type "tuple",dict:=dd,data:=.seq items n,slots:=sl }∧s.heap.get? b=some { cls:=.type "dict",dict:=dd2,data:=da,slots:=sl2 }∧R (.ok (.ret .notImplemented)) s) :=
 .of_wp fun prog w A R s h=>by obtain ⟨hp,g,d,tk,os⟩:=s;obtain ⟨hl,hb,h⟩:=h;have f1:=sub_dict_tuple;wp_walk using wpAny_loadPart' hl,wpAny_loadPart' hb;exact ⟨_,rfl,h⟩
section
variable {A:Around} {s:Shared}
theorem RcNeAt.dict_tuple {l b:Addr} {o:Obj} {items2:Array Value} (ho:s.heap.get? l=some o) (hc:o.cls=.type "dict") (hb:s.heap.IsTuple b items2) (hu:A.units<cLine):RcNeAt A s (.ref l) (.ref b) true:=fun prog w E Q h=>by
 obtain ⟨⟨cls2,dd2,data2,sl2⟩,ho2,hc2,n2,hd2⟩:=id hb
 obtain ⟨cls,dd,data,sl⟩:=o
 simp only at hc hc2 hd2
 subst hc hc2 hd2
 have hne:l≠b:=fun z=>by subst z;rw [ho] at ho2;have e:(Value.type "dict")=.type "tuple" := congrArg (·.cls) (Option.some.inj ho2);exact absurd e (by decide)
 exact (rc_ne_decline_or (k:=false) ⟨_,ho,rfl⟩ ⟨_,ho2,rfl⟩ (by decide) sub_tuple_dict F.slot_dict_ne F.slot_tuple_ne_refl
  (fun _ hq=>call_meets F.slot_dict_ne ⟨_,ho,rfl⟩ F.entry_dict_ne (F.args_dict_ne_2 _ _) (dict_ne_declines_tuple l b data items2 n2 dd dd2 sl sl2) ⟨ho,ho2,hq⟩)
  (fun _ hq=>call_meets F.slot_tuple_ne_refl ⟨_,ho2,rfl⟩ F.entry_tuple_ne (F.args_tuple_ne_2 _ _) (tuple_ne_declines_dict b l data items2 n2 dd2 dd sl2 sl) ⟨ho2,ho,hq⟩)
  (fun _ hq=>wpAny_isSame_ref_other hne ho ho2 (by simp) hq) (.inr hu) h)
theorem RcAt.dict_tuple {l b:Addr} {o:Obj} {items2:Array Value} (ho:s.heap.get? l=some o) (hc:o.cls=.type "dict") (hb:s.heap.IsTuple b items2) (hu:A.units<cLine):RcAt A s (.ref l) (.ref b) false:=fun prog w E Q h=>by
 obtain ⟨⟨cls2,dd2,data2,sl2⟩,ho2,hc2,n2,hd2⟩:=id hb
 obtain ⟨cls,dd,data,sl⟩:=o
 simp only at hc hc2 hd2
 subst hc hc2 hd2
 have hne:l≠b:=fun z=>by subst z;rw [ho] at ho2;have e:(Value.type "dict")=.type "tuple" := congrArg (·.cls) (Option.some.inj ho2);exact absurd e (by decide)
 exact (rc_eq_decline_or (k:=false) ⟨_,ho,rfl⟩ ⟨_,ho2,rfl⟩ (by decide) sub_tuple_dict F.slot_dict_eq F.slot_tuple_eq_refl
  (fun _ hq=>call_meets F.slot_dict_eq ⟨_,ho,rfl⟩ F.entry_dict_eq (F.args_dict_eq_2 _ _) (dict_eq_declines_tuple l b data items2 n2 dd dd2 sl sl2) ⟨ho,ho2,hq⟩)
  (fun _ hq=>call_meets F.slot_tuple_eq_refl ⟨_,ho2,rfl⟩ F.entry_tuple_eq (F.args_tuple_eq_2 _ _) (tuple_eq_declines_dict b l data items2 n2 dd2 dd sl2 sl) ⟨ho2,ho,hq⟩)
  (fun _ hq=>wpAny_isSame_ref_other hne ho ho2 (by simp) hq) (.inr hu) h)
end
end PySem.SeqAt
namespace L2
open PySem PySem.Spec PyProof.Rows
mutual
noncomputable def eqT:T→T→Bool
 | .non,.non=>true
 | .bl a,.bl b=>a==b
 | .int a,.int b=>a==b
 | .bl a,.int b=>(if a then 1 else 0)==b
 | .int a,.bl b=>a==(if b then 1 else 0)
 | .str a,.str b=>a==b
 | .tup a,.tup b=>eqL a b
 | .lst a,.lst b=>eqL a b
 | _,_=>false
noncomputable def eqL:List T→List T→Bool
 | [],[]=>true
 | x::xs,y::ys=>eqT x y&&eqL xs ys
 | _,_=>false
end
noncomputable def Qo:Nat→T→Bool
 | _,.non=>true
 | _,.bl _=>true
 | _,.int _=>true
 | _,.str _=>true
 | n+1,.tup ts=>ts.all (Qo n)
 | n+1,.lst ts=>ts.all (Qo n)
 | _,_=>false
theorem Qi5:eqL [] []=true:=by unfold eqL;rfl
theorem Qfv (x y:T) (xs ys:List T):eqL (x::xs) (y::ys)=(eqT x y&&eqL xs ys):=by rw [eqL]
theorem Qhv:∀ {xs ys:List T},xs.length≠ys.length→eqL xs ys=false
 | [],[],h=>absurd rfl h
 | [],_::_,_=>by unfold eqL;rfl
 | _::_,[],_=>by unfold eqL;rfl
 | x::xs,y::ys,h=>by rw [Qfv,Qhv (xs:=xs) (ys:=ys) (by simpa using h),Bool.and_false]
theorem Qnz:∀ {xs ys:List T} {e:Nat→Bool},(∀ (j:Nat) a b,xs[j]?=some a→ys[j]?=some b→e j=eqT a b)→((List.range (min xs.length ys.length)).all e&&(xs.length==ys.length))=eqL xs ys
 | [],[],e,_=>by rw [Qi5];rfl
 | [],y::ys,e,_=>by rw [Qhv (by simp)];simp
 | x::xs,[],e,_=>by rw [Qhv (by simp)];simp
 | x::xs,y::ys,e,h=>by
  rw [Qfv,←Qnz (xs:=xs) (ys:=ys) (e:=fun j=>e (j+1)) fun j a b p q=>h (j+1) a b p q,List.length_cons,List.length_cons,Nat.succ_min_succ,List.range_succ_eq_map,List.all_cons,List.all_map,←h 0 x y rfl rfl,Bool.and_assoc]
  congr 2
  simp
theorem Q59 {H:Hp}:∀ (n:Nat) {v:V} {t t':T},Is H v t→Is H v t'→Qo n t=true→Qo n t'=true→eqT t t'=true:=by
 intro n
 induction n with
 | zero =>
  intro v t t' i j h h'
  cases t <;> first | (simp [Qo] at h;done) | skip
  all_goals (cases t' <;> first | (simp [Qo] at h';done) | skip)
  all_goals (unfold Is at i j;rw [i] at j;first | (cases j;simp [eqT];done) | cases j)
 | succ n ih =>
  intro v t t' i j h h'
  have go:∀ (ts us:List T) (vs:List V),IsL H vs ts→IsL H vs us→ts.all (Qo n)=true→us.all (Qo n)=true→eqL ts us=true:=by
   intro ts
   induction ts with
   | nil =>
    intro us vs q1 q2 _ _
    rw [q1.nil_inv] at q2
    cases us with
    | nil=>exact Qi5
    | cons y ys=>obtain ⟨_,_,z,_⟩:=q2.cons_inv;cases z
   | cons x xs ihx =>
    intro us vs q1 q2 a1 a2
    obtain ⟨v,r,rfl,c1,c2⟩:=q1.cons_inv
    cases us with
    | nil=>have:=q2.nil_inv;cases this
    | cons y ys =>
     obtain ⟨v',r',z,d1,d2⟩:=q2.cons_inv
     cases z
     rw [List.all_cons,Bool.and_eq_true] at a1 a2
     rw [Qfv,ihx ys r c2 d2 a1.2 a2.2,Bool.and_true]
     exact ih c1 d1 a1.1 a2.1
  cases t with
  | dct _ _=>simp [Qo] at h
  | clo _ _=>simp [Qo] at h
  | dtt _ _=>simp [Qo] at h
  | tup ts =>
   obtain ⟨a,vs,rfl,ha,q⟩:=i.tup_inv
   cases t' with
   | tup us =>
    obtain ⟨a',vs',e,ha',q'⟩:=j.tup_inv
    cases e
    rw [ha] at ha'
    cases ha'
    rw [eqT]
    exact go ts us vs q q' (by simpa only [Qo] using h) (by simpa only [Qo] using h')
   | lst us =>
    obtain ⟨a',vs',e,ha',q'⟩:=j.lst_inv
    cases e
    rw [ha] at ha'
    cases ha'
   | dct _ _=>simp [Qo] at h'
   | clo _ _=>simp [Qo] at h'
   | dtt _ _=>simp [Qo] at h'
   | _=>unfold Is at j;cases j
  | lst ts =>
   obtain ⟨a,vs,rfl,ha,q⟩:=i.lst_inv
   cases t' with
   | lst us =>
    obtain ⟨a',vs',e,ha',q'⟩:=j.lst_inv
    cases e
    rw [ha] at ha'
    cases ha'
    rw [eqT]
    exact go ts us vs q q' (by simpa only [Qo] using h) (by simpa only [Qo] using h')
   | tup us =>
    obtain ⟨a',vs',e,ha',q'⟩:=j.tup_inv
    cases e
    rw [ha] at ha'
    cases ha'
   | dct _ _=>simp [Qo] at h'
   | clo _ _=>simp [Qo] at h'
   | dtt _ _=>simp [Qo] at h'
   | _=>unfold Is at j;cases j
  | _ =>
   cases t' with
   | dct _ _=>simp [Qo] at h'
   | clo _ _=>simp [Qo] at h'
   | dtt _ _=>simp [Qo] at h'
   | tup us =>
    obtain ⟨a',vs',e,ha',q'⟩:=j.tup_inv
    unfold Is at i
    rw [i] at e;cases e
   | lst us =>
    obtain ⟨a',vs',e,ha',q'⟩:=j.lst_inv
    unfold Is at i
    rw [i] at e;cases e
   | _=>unfold Is at i j;rw [i] at j;first | (cases j;simp [eqT];done) | cases j
inductive Shp (P:Program) (w:World) (H:Hp) (h:Heap):T→Value→Prop
 | non:Shp P w H h .non .none
 | bl (b):Shp P w H h (.bl b) (.bool b)
 | int (i t):Shp P w H h (.int i) (.int i t)
 | str (x t):Shp P w H h (.str x) (.str x t)
 | tup {a vs ts its}:Is H (.ref a) (.tup ts)→IsL H vs ts→Vals vs its→h.IsTuple a its.toArray→Shp P w H h (.tup ts) (.ref a)
 | lst {a vs ts its}:Is H (.ref a) (.lst ts)→IsL H vs ts→Vals vs its→h.IsList a its.toArray→Shp P w H h (.lst ts) (.ref a)
 | dct {ks ts u}:Shp P w H h (.dct ks ts) u
 | clo {l ts u}:Shp P w H h (.clo l ts) u
 | dtt {ks ts u}:Shp P w H h (.dtt ks ts) u
theorem Is.shp {P:Program} {w:World} {H:Hp} {h:Heap} {v:V} {u:Value}:∀ {t:T},Is H v t→RelV v u→HOk P w H h→Shp P w H h t u
 | .non,i,r,_=>by unfold Is at i;subst i;cases r;exact .non
 | .bl b,i,r,_=>by unfold Is at i;subst i;cases r;exact .bl b
 | .int n,i,r,_=>by unfold Is at i;subst i;obtain ⟨t,rfl⟩:=r;exact .int n t
 | .str x,i,r,_=>by unfold Is at i;subst i;obtain ⟨t,rfl⟩:=r;exact .str x t
 | .tup ts,i,r,ok=>by
  obtain ⟨a,vs,rfl,ha,q⟩:=i.tup_inv
  cases r
  obtain ⟨_,its,rv,p⟩:=ok a _ ha
  exact .tup i q rv p.tup
 | .lst ts,i,r,ok=>by
  obtain ⟨a,vs,rfl,ha,q⟩:=i.lst_inv
  cases r
  obtain ⟨_,its,n,rv,p⟩:=ok a _ ha
  exact .lst i q rv ⟨_,p,rfl,n,rfl⟩
 | .dct ks ts,_,_,_=>.dct
 | .clo l ts,_,_,_=>.clo
 | .dtt ks ts,_,_,_=>.dtt
section
variable {P:Program} {w:World} {H:Hp}
noncomputable def eAt (ts us:List T) (j:Nat):Bool:=eqT (ts.getD j .non) (us.getD j .non)
theorem Qn0 (ts us:List T):((List.range (min ts.length us.length)).all (eAt ts us)&&(ts.length==us.length))=eqL ts us :=
 Qnz fun j a b p q=>by unfold eAt;rw [List.getD_eq_getElem?_getD,List.getD_eq_getElem?_getD,p,q];rfl
theorem Qqm {s:Shared} {A:Around} {n:Nat} {ts us:List T} {vs ws:List V} {its its2:List Value} (i1:IsL H vs ts) (i2:IsL H ws us) (r1:Vals vs its) (r2:Vals ws its2) (ok:HOk P w H s.heap) (h1:ts.all (Qo n)=true) (h2:us.all (Qo n)=true)
  (ih:∀ (t t':T) (u u':Value),Qo n t=true→Qo n t'=true→Shp P w H s.heap t u→Shp P w H s.heap t' u'→SeqAt.EqAt A s u u' (eqT t t')) :
  ∀ (j:Nat) (g1:j<its.toArray.size) (g2:j<its2.toArray.size),SeqAt.EqAt A s its.toArray[j] its2.toArray[j] (eAt ts us j):=by
 intro j g1 g2
 have g1':j<its.length:=by simpa using g1
 have g2':j<its2.length:=by simpa using g2
 have l1:j<vs.length:=by rw [r1.length];exact g1'
 have l2:j<ws.length:=by rw [r2.length];exact g2'
 obtain ⟨u,hu,ru⟩:=r1.get (List.getElem?_eq_getElem l1)
 obtain ⟨u',hu',ru'⟩:=r2.get (List.getElem?_eq_getElem l2)
 obtain ⟨t,ht,it⟩:=i1.get (List.getElem?_eq_getElem l1)
 obtain ⟨t',ht',it'⟩:=i2.get (List.getElem?_eq_getElem l2)
 have e1:its.toArray[j]=u:=by
  rw [List.getElem?_eq_getElem g1'] at hu
  simpa using hu
 have e2:its2.toArray[j]=u':=by
  rw [List.getElem?_eq_getElem g2'] at hu'
  simpa using hu'
 have e3:eAt ts us j=eqT t t':=by unfold eAt;rw [List.getD_eq_getElem?_getD,List.getD_eq_getElem?_getD,ht,ht'];rfl
 rw [e1,e2,e3]
 exact ih t t' u u' (List.all_eq_true.mp h1 t (List.mem_of_getElem? ht)) (List.all_eq_true.mp h2 t' (List.mem_of_getElem? ht')) (it.shp ru ok) (it'.shp ru' ok)
theorem Qi6 {ts:List T} {vs:List V} {its:List Value} (i:IsL H vs ts) (r:Vals vs its):its.toArray.size=ts.length:=by
 rw [List.size_toArray,←r.length,i.length]
open SeqAt in
theorem Qzj {s:Shared} {A:Around} {n:Nat} {ts us:List T} {a b:Addr} {vs ws:List V} {its its2:List Value} (i1:IsL H vs ts) (i2:IsL H ws us) (r1:Vals vs its) (r2:Vals ws its2) (ok:HOk P w H s.heap) (h1:ts.all (Qo n)=true) (h2:us.all (Qo n)=true)
  (hl:s.heap.IsTuple a its.toArray) (hb:s.heap.IsTuple b its2.toArray) (hu:A.units<cLine) (ih:∀ (t t':T) (u u':Value),Qo n t=true→Qo n t'=true→Shp P w H s.heap t u→Shp P w H s.heap t' u'→EqAt A.in1 s u u' (eqT t t')) :
  RcAt A s (.ref a) (.ref b) (eqL ts us)∧RcNeAt A s (.ref a) (.ref b) (!eqL ts us):=by
 have key:=Qqm i1 i2 r1 r2 ok h1 h2 ih
 have l1:=Qi6 i1 r1
 have l2:=Qi6 i2 r2
 have k1:=RcAt.tuples hl hb hu key
 have k2:=RcNeAt.tuples hl hb hu key
 rw [l1,l2,Qn0] at k1 k2
 exact ⟨k1,k2⟩
open SeqAt in
theorem Qzk {s:Shared} {A:Around} {n:Nat} {ts us:List T} {a b:Addr} {vs ws:List V} {its its2:List Value} (i1:IsL H vs ts) (i2:IsL H ws us) (r1:Vals vs its) (r2:Vals ws its2) (ok:HOk P w H s.heap) (h1:ts.all (Qo n)=true) (h2:us.all (Qo n)=true)
  (hl:s.heap.IsList a its.toArray) (hb:s.heap.IsList b its2.toArray) (hu:A.units<cLine) (ih:∀ (t t':T) (u u':Value),Qo n t=true→Qo n t'=true→Shp P w H s.heap t u→Shp P w H s.heap t' u'→EqAt A.in1 s u u' (eqT t t')) :
  RcAt A s (.ref a) (.ref b) (eqL ts us)∧RcNeAt A s (.ref a) (.ref b) (!eqL ts us):=by
 have key:=Qqm i1 i2 r1 r2 ok h1 h2 ih
 have l1:=Qi6 i1 r1
 have l2:=Qi6 i2 r2
 by_cases hz:ts.length=us.length
 ·have k1:=RcAt.lists hl hb (by rw [l1,l2,hz]) hu key
  have k2:=RcNeAt.lists hl hb (by rw [l1,l2,hz]) hu key
  have e:=Qn0 ts us
  rw [hz,Nat.min_self,beq_self_eq_true,Bool.and_true] at e
  rw [l1,hz,e] at k1 k2
  exact ⟨k1,k2⟩
 ·rw [Qhv hz]
  have hb':(its.toArray.size != its2.toArray.size)=true:=by rw [l1,l2];simpa using hz
  exact ⟨RcAt.lists_lengths hl hb hb' hu,RcNeAt.lists_lengths hl hb hb' hu⟩
open SeqAt in
theorem Qzl:∀ (n:Nat) {s:Shared} {A:Around},HOk P w H s.heap→A.units+n<cLine→∀ (t t':T) (u u':Value),Qo n t=true→Qo n t'=true→Shp P w H s.heap t u→Shp P w H s.heap t' u'→EqAt A s u u' (eqT t t'):=by
 intro n
 induction n with
 | zero =>
  intro s A ok hu t t' u u' h1 h2 s1 s2
  cases s1 with
  | dct=>simp [Qo] at h1
  | clo=>simp [Qo] at h1
  | dtt=>simp [Qo] at h1
  | tup j1 i1 r1 p1=>simp [Qo] at h1
  | lst j1 i1 r1 p1=>simp [Qo] at h1
  | non =>
   cases s2 with
   | dct=>simp [Qo] at h2
   | clo=>simp [Qo] at h2
   | dtt=>simp [Qo] at h2
   | tup j2 i2 r2 p2=>simp [Qo] at h2
   | lst j2 i2 r2 p2=>simp [Qo] at h2
   | non=>simp only [eqT];exact EqAt.same _
   | bl b=>simp only [eqT];exact EqAt.none_bool  b
   | int i t=>simp only [eqT];exact EqAt.none_int  i t
   | str x t=>simp only [eqT];exact EqAt.none_str  x t
  | bl c =>
   cases s2 with
   | dct=>simp [Qo] at h2
   | clo=>simp [Qo] at h2
   | dtt=>simp [Qo] at h2
   | tup j2 i2 r2 p2=>simp [Qo] at h2
   | lst j2 i2 r2 p2=>simp [Qo] at h2
   | non=>simp only [eqT];exact EqAt.bool_none c
   | bl b=>simp only [eqT];exact EqAt.bool_bool c b
   | int i t=>simp only [eqT];exact EqAt.bool_int c i t
   | str x t=>simp only [eqT];exact EqAt.bool_str c x t
  | int c ct =>
   cases s2 with
   | dct=>simp [Qo] at h2
   | clo=>simp [Qo] at h2
   | dtt=>simp [Qo] at h2
   | tup j2 i2 r2 p2=>simp [Qo] at h2
   | lst j2 i2 r2 p2=>simp [Qo] at h2
   | non=>simp only [eqT];exact EqAt.int_none c ct
   | bl b=>simp only [eqT];exact EqAt.int_bool c ct b
   | int i t=>simp only [eqT];exact EqAt.int_int c ct i t
   | str x t=>simp only [eqT];exact EqAt.int_str c ct x t
  | str c ct =>
   cases s2 with
   | dct=>simp [Qo] at h2
   | clo=>simp [Qo] at h2
   | dtt=>simp [Qo] at h2
   | tup j2 i2 r2 p2=>simp [Qo] at h2
   | lst j2 i2 r2 p2=>simp [Qo] at h2
   | non=>simp only [eqT];exact EqAt.str_none c ct
   | bl b=>simp only [eqT];exact EqAt.str_bool c ct b
   | int i t=>simp only [eqT];exact EqAt.str_int c ct i t
   | str x t=>simp only [eqT];exact EqAt.str_str c ct x t
 | succ n ih =>
  intro s A ok hu t t' u u' h1 h2 s1 s2
  have hu0:A.units<cLine:=by omega
  have ih':=ih (s:=s) (A:=A.in1) ok (by show A.units+1+n<cLine;omega)
  cases s1 with
  | dct=>simp [Qo] at h1
  | clo=>simp [Qo] at h1
  | dtt=>simp [Qo] at h1
  | tup j1 i1 r1 p1 =>
   have g1:=h1
   rw [Qo] at g1
   cases s2 with
   | dct=>simp [Qo] at h2
   | clo=>simp [Qo] at h2
   | dtt=>simp [Qo] at h2
   | tup j2 i2 r2 p2 =>
    have g2:=h2
    rw [Qo] at g2
    rename_i a vs ts its b ws us its2
    by_cases hab:a=b
    ·subst hab
     rw [Q59 (n+1) j1 j2 h1 h2]
     exact EqAt.same _
    ·rw [eqT]
     exact EqAt.of_refs hab (Qzj i1 i2 r1 r2 ok g1 g2 p1 p2 hu0 ih').1
   | lst j2 i2 r2 p2=>simp only [eqT];exact EqAt.tuple_list p1 p2 hu0
   | non=>simp only [eqT];exact EqAt.tuple_none p1 hu0
   | bl b=>simp only [eqT];exact EqAt.tuple_bool b p1 hu0
   | int i t=>simp only [eqT];exact EqAt.tuple_int i t p1 hu0
   | str x t=>simp only [eqT];exact EqAt.tuple_str x t p1 hu0
  | lst j1 i1 r1 p1 =>
   have g1:=h1
   rw [Qo] at g1
   cases s2 with
   | dct=>simp [Qo] at h2
   | clo=>simp [Qo] at h2
   | dtt=>simp [Qo] at h2
   | lst j2 i2 r2 p2 =>
    have g2:=h2
    rw [Qo] at g2
    rename_i a vs ts its b ws us its2
    by_cases hab:a=b
    ·subst hab
     rw [Q59 (n+1) j1 j2 h1 h2]
     exact EqAt.same _
    ·rw [eqT]
     exact EqAt.of_refs hab (Qzk i1 i2 r1 r2 ok g1 g2 p1 p2 hu0 ih').1
   | tup j2 i2 r2 p2=>simp only [eqT];exact EqAt.list_tuple p1 p2 hu0
   | non=>simp only [eqT];exact EqAt.list_none p1 hu0
   | bl b=>simp only [eqT];exact EqAt.list_bool b p1 hu0
   | int i t=>simp only [eqT];exact EqAt.list_int i t p1 hu0
   | str x t=>simp only [eqT];exact EqAt.list_str x t p1 hu0
  | non =>
   cases s2 with
   | dct=>simp [Qo] at h2
   | clo=>simp [Qo] at h2
   | dtt=>simp [Qo] at h2
   | tup j2 i2 r2 p2=>simp only [eqT];exact EqAt.none_tuple p2 hu0
   | lst j2 i2 r2 p2=>simp only [eqT];exact EqAt.none_list p2 hu0
   | non=>simp only [eqT];exact EqAt.same _
   | bl b=>simp only [eqT];exact EqAt.none_bool b
   | int i t=>simp only [eqT];exact EqAt.none_int i t
   | str x t=>simp only [eqT];exact EqAt.none_str x t
  | bl c =>
   cases s2 with
   | dct=>simp [Qo] at h2
   | clo=>simp [Qo] at h2
   | dtt=>simp [Qo] at h2
   | tup j2 i2 r2 p2=>simp only [eqT];exact EqAt.bool_tuple c p2 hu0
   | lst j2 i2 r2 p2=>simp only [eqT];exact EqAt.bool_list c p2 hu0
   | non=>simp only [eqT];exact EqAt.bool_none c
   | bl b=>simp only [eqT];exact EqAt.bool_bool c b
   | int i t=>simp only [eqT];exact EqAt.bool_int c i t
   | str x t=>simp only [eqT];exact EqAt.bool_str c x t
  | int c ct =>
   cases s2 with
   | dct=>simp [Qo] at h2
   | clo=>simp [Qo] at h2
   | dtt=>simp [Qo] at h2
   | tup j2 i2 r2 p2=>simp only [eqT];exact EqAt.int_tuple c ct p2 hu0
   | lst j2 i2 r2 p2=>simp only [eqT];exact EqAt.int_list c ct p2 hu0
   | non=>simp only [eqT];exact EqAt.int_none c ct
   | bl b=>simp only [eqT];exact EqAt.int_bool c ct b
   | int i t=>simp only [eqT];exact EqAt.int_int c ct i t
   | str x t=>simp only [eqT];exact EqAt.int_str c ct x t
  | str c ct =>
   cases s2 with
   | dct=>simp [Qo] at h2
   | clo=>simp [Qo] at h2
   | dtt=>simp [Qo] at h2
   | tup j2 i2 r2 p2=>simp only [eqT];exact EqAt.str_tuple c ct p2 hu0
   | lst j2 i2 r2 p2=>simp only [eqT];exact EqAt.str_list c ct p2 hu0
   | non=>simp only [eqT];exact EqAt.str_none c ct
   | bl b=>simp only [eqT];exact EqAt.str_bool c ct b
   | int i t=>simp only [eqT];exact EqAt.str_int c ct i t
   | str x t=>simp only [eqT];exact EqAt.str_str c ct x t
end
section
variable {X:Cx}
noncomputable def Q3d (neg:Bool):R2:=fun x y H Q=>∃ t t',Is H x t∧Is H y t'∧Qo 50 t=true∧Qo 50 t'=true∧((∃ ts us,t=.tup ts∧t'=.tup us)∨∃ ts us,t=.lst ts∧t'=.lst us)∧Q (.bl (if neg then !eqT t t' else eqT t t')) H
theorem Qn1 (hu:X.A.units+64<cLine) {pins:List (Addr×Obj)} {σ:St} {H:Hp} {s:Shared} (I:Inv X pins σ H s) {x y:V} {v u:Value} {t t':T} (rx:RelV x v) (ry:RelV y u) (i:Is H x t) (j:Is H y t') (h1:Qo 50 t=true) (h2:Qo 50 t'=true)
  (hk:(∃ ts us,t=.tup ts∧t'=.tup us)∨∃ ts us,t=.lst ts∧t'=.lst us):SeqAt.RcAt X.A s v u (eqT t t')∧SeqAt.RcNeAt X.A s v u (!eqT t t'):=by
 have ih:=Qzl 49 (A:=X.A.in1) (P:=X.prog) (w:=X.w) I.hok (by show X.A.units+1+49<cLine;omega)
 have s1:=i.shp rx I.hok
 have s2:=j.shp ry I.hok
 rcases hk with ⟨ts,us,rfl,rfl⟩ | ⟨ts,us,rfl,rfl⟩
 ·rw [Qo] at h1 h2
  rw [eqT]
  cases s1 with
  | tup j1 i1 r1 p1 =>
   cases s2 with
   | tup j2 i2 r2 p2=>exact Qzj i1 i2 r1 r2 I.hok h1 h2 p1 p2 (by omega) ih
 ·rw [Qo] at h1 h2
  rw [eqT]
  cases s1 with
  | lst j1 i1 r1 p1 =>
   cases s2 with
   | lst j2 i2 r2 p2=>exact Qzk i1 i2 r1 r2 I.hok h1 h2 p1 p2 (by omega) ih
theorem Qade (hu:X.A.units+64<cLine):QOp X (compareOp .Eq) (Q3d false):=⟨by
 intro pins s σ H x y v u Q I rx ry q
 obtain ⟨t,t',i,j,h1,h2,hk,q⟩:=q
 exact (Qn1 hu I rx ry i j h1 h2 hk).1 _ _ _ _ ⟨.bl _,H,I,rfl,q⟩⟩
theorem Qadf (hu:X.A.units+64<cLine):QOp X (compareOp .NotEq) (Q3d true):=⟨by
 intro pins s σ H x y v u Q I rx ry q
 obtain ⟨t,t',i,j,h1,h2,hk,q⟩:=q
 exact (Qn1 hu I rx ry i j h1 h2 hk).2 _ _ _ _ ⟨.bl _,H,I,rfl,q⟩⟩
noncomputable def okK:T→Bool
 | .tup _=>false
 | .dtt _ _=>false
 | .clo _ _=>false
 | _=>true
noncomputable def okR:T→Bool
 | .non=>true
 | .bl _=>true
 | .int _=>true
 | .str _=>true
 | .lst _=>true
 | _=>false
noncomputable def Q3e:T→Bool
 | .tup _=>true
 | _=>false
noncomputable def Qwr (t u:T):Bool:=match t with
 | .tup _=>okR u
 | t=>okK t&&Q3e u
theorem Qzm {t:T} (h:Q3e t=true):∃ ts,t=.tup ts:=by
 cases t with
 | tup ts=>exact ⟨ts,rfl⟩
 | _=>cases h
noncomputable def Q3f (neg:Bool):R2:=fun x y H Q=>∃ t t',Is H x t∧Is H y t'∧Qwr t t'=true∧Q (.bl neg) H
theorem Qqn (hu:X.A.units+64<cLine) {pins:List (Addr×Obj)} {σ:St} {H:Hp} {s:Shared} (I:Inv X pins σ H s) {x y:V} {v u:Value} {t t':T} (rx:RelV x v) (ry:RelV y u) (i:Is H x t) (j:Is H y t') (hk:Qwr t t'=true):SeqAt.RcAt X.A s v u false∧SeqAt.RcNeAt X.A s v u true:=by
 have s1:=i.shp rx I.hok
 have s2:=j.shp ry I.hok
 have hu:X.A.units<cLine:=by omega
 by_cases ht:Q3e t=true
 ·cases s1 with
  | tup _ _ _ p =>
   cases s2 with
   | non=>exact ⟨SeqAt.RcAt.tuple_none p hu,SeqAt.RcNeAt.tuple_none p hu⟩
   | bl b=>exact ⟨SeqAt.RcAt.tuple_bool b p hu,SeqAt.RcNeAt.tuple_bool b p hu⟩
   | int b c=>exact ⟨SeqAt.RcAt.tuple_int b c p hu,SeqAt.RcNeAt.tuple_int b c p hu⟩
   | str b c=>exact ⟨SeqAt.RcAt.tuple_str b c p hu,SeqAt.RcNeAt.tuple_str b c p hu⟩
   | lst _ _ _ q=>exact ⟨SeqAt.RcAt.tuple_list p q hu,SeqAt.RcNeAt.tuple_list p q hu⟩
   | _=>cases hk
  | _=>cases ht
 ·have hk:okK t=true∧Q3e t'=true:=by
   rw [←Bool.and_eq_true,←hk]
   cases t <;> first | rfl | exact absurd rfl ht
  obtain ⟨h1,h2⟩:=hk
  obtain ⟨us,rfl⟩:=Qzm h2
  cases s2 with
  | tup _ _ _ p =>
   cases s1 with
   | non=>exact ⟨SeqAt.RcAt.none_tuple p hu,SeqAt.RcNeAt.none_tuple p hu⟩
   | bl b=>exact ⟨SeqAt.RcAt.bool_tuple b p hu,SeqAt.RcNeAt.bool_tuple b p hu⟩
   | int b c=>exact ⟨SeqAt.RcAt.int_tuple b c p hu,SeqAt.RcNeAt.int_tuple b c p hu⟩
   | str b c=>exact ⟨SeqAt.RcAt.str_tuple b c p hu,SeqAt.RcNeAt.str_tuple b c p hu⟩
   | lst _ _ _ q=>exact ⟨SeqAt.RcAt.list_tuple q p hu,SeqAt.RcNeAt.list_tuple q p hu⟩
   | dct =>
    unfold Is at i
    obtain ⟨a,vs,rfl,ha,_⟩:=i
    cases rx
    obtain ⟨_,_,ws,_,ob,es,ep,e,c,_⟩:=(show ObjOk X.prog X.w H s.heap a (.dK _) from I.hok a _ ha)
    exact ⟨SeqAt.RcAt.dict_tuple e c.1 p hu,SeqAt.RcNeAt.dict_tuple e c.1 p hu⟩
   | _=>cases h1
theorem Qadg (hu:X.A.units+64<cLine):QOp X (compareOp .Eq) (Q3f false):=⟨by
 intro pins s σ H x y v u Q I rx ry q
 obtain ⟨t,t',i,j,hk,q⟩:=q
 exact (Qqn hu I rx ry i j hk).1 _ _ _ _ ⟨.bl _,H,I,rfl,q⟩⟩
theorem Qadh (hu:X.A.units+64<cLine):QOp X (compareOp .NotEq) (Q3f true):=⟨by
 intro pins s σ H x y v u Q I rx ry q
 obtain ⟨t,t',i,j,hk,q⟩:=q
 exact (Qqn hu I rx ry i j hk).2 _ _ _ _ ⟨.bl _,H,I,rfl,q⟩⟩
end
section
open PySem.W
theorem Qqo {prog:Program} {w:World} {A:Around} {E:Value→Shared→Prop} {s:Shared} {K:Frag} {x D:Addr} {ox:Obj} {od:Option Obj} {name:Str} {fill xp:Bool} {Q:Value→Shared→Prop} {tk:Tok} {r:Value}
  (X:K.In s.heap) (I:InstAt s.heap x ox D od) (hga:findIn K (.ref D) "__getattribute__" = some (some (.builtin "BaseException.__getattribute__"))) (hgt:findIn K (.ref D) "__getattr__" = some none) (hbe:mroIn K D (.type "BaseException")=some true)
  (h:∀ (A:Around) (E:Value→Shared→Prop) (R:Value→Shared→Prop),R r s→wpAny (model prog w) A (Builtin.«object.__getattribute__» ⟨[.ref x,.str name tk],[]⟩) (fun fin s'=>∃ v,fin=.done (.ret v)∧R v s') E s) (hh:handedIn r=true) (hq:Q r s) :
  wpAny (model prog w) A (getAttrBy (.ref x) (.str name tk) fill xp) Q E s:=by
 obtain ⟨hp,g,d,t,os⟩:=s
 have L0:=I.type (M:=model prog w)
 have L1:=looks_findIn (M:=model prog w) X hga
 have L2:=looks_findIn (M:=model prog w) X hgt
 have L3:=looks_mroIn (M:=model prog w) X hbe
 have ne:(onTheHeap (Value.ref D)&&Value.builtin "BaseException.__getattribute__" == Value.builtin "object.__getattribute__")=false:=by
  rw [show (Value.builtin "BaseException.__getattribute__" == Value.builtin "object.__getattribute__")=false from by decide +kernel,Bool.and_false]
 have bnd:=F.excAttr_ValueError.ga.bind (.ref x)
 unfold getAttrBy
 refine wpAny_holding (wpAny_bind (L0.at (wpAny_bind (L1.at ?_))))
 show wpAny _ _ (if (onTheHeap (Value.ref D)&&Value.builtin "BaseException.__getattribute__" == Value.builtin "object.__getattribute__")=true then _ else _) _ _ _
 rw [ne,if_neg Bool.false_ne_true]
 unfold getAttrByItsOwn hookBefore
 rw [show onTheHeap (Value.ref D)=true from rfl,if_pos rfl]
 refine wpAny_bind (L2.at (wpAny_bind (wpAny_attempt (wpAny_holding ?_))))
 unfold callGetattribute
 rw [if_neg (by cases xp <;> decide)]
 unfold boundAndCalled
 refine wpAny_bind (wpAny_of_eq bnd ?_)
 have chk:∀ (A:Around) (E:Value→Shared→Prop) (Q:Unit→Shared→Prop),Q () ⟨hp,g,d,t,os⟩→wpAny (model prog w) A (checkBuiltinCall "BaseException.__getattribute__" ⟨[.ref x,.str name tk],[]⟩) Q E ⟨hp,g,d,t,os⟩:=fun A E Q hq=>by
  have k1:builtinKind "BaseException.__getattribute__" = some .slot:=by decide +kernel
  have k2:splitId "BaseException.__getattribute__" = some ("BaseException","__getattribute__"):=by decide +kernel
  have k3:=F.args_bexc_ga (.ref x) (.str name tk)
  simp only [checkBuiltinCall,k1,k2]
  refine wpAny_bind ?_
  unfold isInstance
  refine wpAny_bind (L0.at (L3.at ?_))
  repeat wp_step
  exact hq
 refine wpAny_call (codeAny_call_builtin F.excAttr_ValueError.ga.plain F.entry_bexc_ga (chk _ _ _ ?_))
 refine wpAny_mono (h _ _ (fun v s'=>v=r∧s'=⟨hp,g,d,t,os⟩) ⟨rfl,rfl⟩) (fun fin s' z=>?_) fun _ _ z=>z
 obtain ⟨v,rfl,rfl,rfl⟩:=z
 exact handed_on hh hq
theorem Qws {prog:Program} {w:World} {A:Around} {E:Value→Shared→Prop} {s:Shared} {K:Frag} {x D:Addr} {ox:Obj} {od:Option Obj} {Q:Fin→Shared→Prop} {tk:Tok}
  (X:K.In s.heap) (I:InstAt s.heap x ox D od) (hf:findObj K D od "__class__" = some (.bind (.builtin "getset_descriptor.__get__") (.builtin "object.__class__"))) (hm:mroIn K D (.type "object")=some true) (hq:Q (.done (.ret (.ref D))) s) :
  wpAny (model prog w) A (Builtin.«object.__getattribute__» ⟨[.ref x,.str "__class__" tk],[]⟩) Q E s:=by
 obtain ⟨hp,g,d,t,os⟩:=s
 have L0:=I.type (M:=model prog w)
 have L1:=looks_find (M:=model prog w) X I hf
 unfold Builtin.«object.__getattribute__»
 repeat (first | with_reducible refine L0.at ?_ | with_reducible refine L1.at ?_ | wp_step)
 exact class_get (ox:=ox) (od:=od) X I hm (wpAny_pure hq)
end
noncomputable def Qqp (K:PySem.W.Frag) (D:Addr):Bool:=PySem.W.findIn K (.ref D) "__getattribute__" == some (some (.builtin "BaseException.__getattribute__"))&&PySem.W.findIn K (.ref D) "__getattr__" == some none&&PySem.W.mroIn K D (.type "BaseException")==some true&&(PySem.W.clsIn K D).isSome&&PySem.W.findIn K (.ref D) "__class__" == some (some (.builtin "object.__class__")) &&
 PySem.W.specialIn K (.builtin "object.__class__") "__get__" == some (some (.builtin "getset_descriptor.__get__"))&&PySem.W.takesIn K (.builtin "object.__class__")==some true&&PySem.W.mroIn K D (.type "object")==some true
theorem Qqq {K:PySem.W.Frag} {h:Heap} {D:Addr} (X:K.In h) (hc:(PySem.W.clsIn K D).isSome=true):∃ c d cd sl,h.get? D=some ⟨c,d,.cls cd,sl⟩:=by
 unfold PySem.W.clsIn at hc
 split at hc
 ·rename_i c d cd sl look
  exact ⟨c,d,cd,sl,X _ _ look⟩
 ·cases hc
theorem Qzn {K:PySem.W.Frag} {x D:Addr} (hk:Qqp K D=true):PySem.W.KitX K (.ref x) (.ref D) (fun h=>∃ ox od,PySem.W.InstAt h x ox D od):=by
 unfold Qqp at hk
 simp only [Bool.and_eq_true,beq_iff_eq] at hk
 obtain ⟨⟨⟨⟨⟨⟨⟨k1,k7⟩,k8⟩,k2⟩,k3⟩,k4⟩,k5⟩,k6⟩:=hk
 refine ⟨fun _ _ _ ⟨ox,od,I⟩=>I.type,fun M h X _=>?_,fun h tp dd its n sl X htp=>?_,fun {prog w A E Q s} X ⟨ox,od,I⟩ k=>?_⟩
 ·obtain ⟨c,d,cd,sl,ho⟩:=Qqq X k2
  intro A' Q' E' s' kp q
  unfold isType loadHead
  exact wpAny_bind (wpAny_loadPart (kp _ _ ho) (wpAny_pure q))
 ·obtain ⟨c,d,cd,sl',ho⟩:=Qqq X k2
  refine Bool.eq_false_iff.mpr fun q=>?_
  have e:D=tp:=Value.ref.inj (beq_iff_eq.mp q)
  subst e
  rw [ho] at htp
  cases htp
 ·have hf:PySem.W.findObj K D od "__class__" = some (.bind (.builtin "getset_descriptor.__get__") (.builtin "object.__class__")):=by
   obtain ⟨cd,hc⟩:=Option.isSome_iff_exists.mp k2
   unfold PySem.W.findObj
   rw [hc,Option.bind_some,k3,Option.bind_some]
   simp [k4,k5]
  unfold getAttr? getAttrBy?
  refine wpAny_bind (wpAny_mkText (wpAny_bind (wpAny_attempt (Qqo (s:={ s with toks:=s.toks+1 }) X I k1 k7 k8 (fun A E R hr=>?_) rfl (wpAny_pure k)))))
  exact Qws (s:={ s with toks:=s.toks+1 }) X I hf k6 ⟨_,rfl,hr⟩
noncomputable def valC:V→Value
 | .ref a=>.ref a
 | .ty n=>.type n
 | _=>.none
noncomputable def Qo5 (K:PySem.W.Frag):List V→Hp→VK→Prop:=fun xs H Q=>∃ a C1 dx c b,xs=[.ref a,c]∧H a=some (Qo4 a (.ref C1) dx)∧(∀ d,dx=some d→∃ fs,H d=some (.xd fs))∧Qqp K C1=true∧((∃ C,c=.ref C)∨∃ n,c=.ty n)∧PySem.W.kitOne K (.ref C1) (valC c)=some b∧Q (.bl b) H
section
variable {X:Cx}
theorem Qta:CallR X (.builtin "isinstance") (Qo5 X.K):=by
 intro pins s σ H xs us Q I r h
 obtain ⟨a,C1,dx,c,b,rfl,ha,hdx,hk,hc,e,q⟩:=h
 obtain ⟨u,w',rfl,rx,ry⟩:=Qum r
 cases rx
 have ew:w'=valC c:=by
  rcases hc with ⟨C,rfl⟩ | ⟨n,rfl⟩
  ·exact ry
  ·exact ry
 subst ew
 obtain ⟨⟨o,vs,ho,h1,h2,h3⟩,_⟩:=(show ObjOk X.prog X.w H s.heap a (Qo4 a (.ref C1) dx) from I.hok a _ ha)
 have hod:∃ od:Option Obj,(dx=none∧od=none)∨∃ d u,dx=some d∧od=some u∧s.heap.get? d=some u:=by
  cases e0:dx with
  | none=>exact ⟨none,.inl ⟨rfl,rfl⟩⟩
  | some d =>
   obtain ⟨fs,hf⟩:=hdx d e0
   obtain ⟨mA,⟨od,_,_,e1,_⟩,_⟩:=(show ObjOk X.prog X.w H s.heap d (.xd fs) from I.hok d _ hf)
   exact ⟨some od,.inr ⟨d,od,rfl,rfl,e1⟩⟩
 obtain ⟨od,hod⟩:=hod
 refine PySem.W.kia_one (Qzn hk) I.kIn ⟨o,od,ho,h1,?_,?_⟩ e (fun z=>nomatch z) fun tk=>⟨.bl b,H,I.tok _,rfl,q⟩
 ·unfold PySem.W.notCls;rw [h3]
 ·rw [h2]
  rcases hod with ⟨rfl,rfl⟩ | ⟨d,u,rfl,rfl,e1⟩
  ·trivial
  ·exact e1
theorem Qdc (K:PySem.W.Frag) (hK:X.K=K):QCl X (.builtin "isinstance") (Qo5 K):=⟨by subst hK;exact Qta⟩
noncomputable def Quu (K:PySem.W.Frag):V→List V→Hp→VK→Prop:=fun x vs H Q=>∃ (l:Addr) (bs:List Bool) (b:Bool),x=.ref l∧vs=[.bl b]∧H l=some (.lst (bs.map V.bl))∧Q (.int (bs.count b:Nat)) H
theorem Qo6:∀ {bs:List Bool} {us:List Value},Vals (bs.map V.bl) us→us=bs.map Value.bool
 | [],_,.nil=>rfl
 | b::bs,_,.cons r t=>by cases r;rw [Qo6 t];rfl
noncomputable def isB (b:Bool) (v:Value):Bool:=match v with
 | .bool c=>c==b
 | _=>false
theorem Qqr (b:Bool):∀ bs:List Bool,(bs.map Value.bool).countP (isB b)=bs.count b
 | []=>rfl
 | c::bs=>by
  rw [List.map_cons,List.countP_cons,Qqr b bs,List.count_cons]
  rfl
theorem Qwt:MtM X "list.count" (Quu X.K):=by
 intro pins s σ H x vs v us Q I rx rv h
 obtain ⟨l,bs,b,rfl,rfl,hH,q⟩:=h
 cases rx
 obtain ⟨u,rfl,ru⟩:=rv.one
 cases ru
 obtain ⟨z,its,n,r,hl,e⟩:=I.lstM hH
 have ei:=Qo6 r
 subst ei
 refine call_meets F.slot_list_count ⟨_,e,rfl⟩ F.entry_list_count (F.args_list_count_2 _ _) (SeqAt.list_countAt l _ n none #[] (.bool b) (isB b)) ⟨e,fun y hy=>?_,?_⟩
 ·have hy:y∈bs.map Value.bool:=by simpa using hy
  obtain ⟨c,_,rfl⟩:=List.mem_map.mp hy
  exact SeqAt.EqAt.bool_bool c b
 ·have ec:List.countP (isB b) (bs.map Value.bool).toArray.toList=bs.count b:=by rw [List.toList_toArray];exact Qqr b bs
  rw [ec]
  exact ⟨.int _,H,I.tok _,⟨_,rfl⟩,q⟩
noncomputable def Quv (K:PySem.W.Frag):V→List V→Hp→VK→Prop:=fun x vs H Q=>∃ (l:Addr) (bs:List Bool) (b:Bool) (j:Nat),x=.ref l∧vs=[.bl b]∧H l=some (.lst (bs.map V.bl))∧bs.length≤1000∧bs[j]?=some b∧(∀ m,m<j→bs[m]?≠some b)∧Q (.int (j:Nat)) H
theorem Qwu:MtM X "list.index" (Quv X.K):=by
 intro pins s σ H x vs v us Q I rx rv h
 obtain ⟨l,bs,b,j,rfl,rfl,hH,hz,hj,hno,q⟩:=h
 cases rx
 obtain ⟨u,rfl,ru⟩:=rv.one
 cases ru
 obtain ⟨z,its,n,r,hl,e⟩:=I.lstM hH
 have ei:=Qo6 r
 subst ei
 have hjl:j<bs.length:=(List.getElem?_eq_some_iff.mp hj).1
 refine call_meets F.slot_list_index ⟨_,e,rfl⟩ F.entry_list_index (F.args_list_index_2 _ _) (SeqAt.list_indexAt l _ n none #[] (.bool b) (isB b) j (by simpa using hjl) (by omega) ?_ ?_) ⟨e,fun y hy=>?_,⟨.int _,H,I.tok _,⟨_,rfl⟩,q⟩⟩
 ·have e1:bs[j]=b:=by rw [List.getElem?_eq_getElem hjl] at hj;exact Option.some.inj hj
  simp [isB,e1]
 ·intro m hm hmj
  have hml:m<bs.length:=by simpa using hm
  have e1:bs[m]≠b:=fun z=>hno m hmj (by rw [List.getElem?_eq_getElem hml,z])
  simp [isB,e1]
 ·have hy:y∈bs.map Value.bool:=by simpa using hy
  obtain ⟨c,_,rfl⟩:=List.mem_map.mp hy
  exact SeqAt.EqAt.bool_bool c b
theorem Qzo (K:PySem.W.Frag) (hK:X.K=K):QMt X "list.count" (Quu K):=⟨by subst hK;exact Qwt⟩
theorem Qzp (K:PySem.W.Frag) (hK:X.K=K):QMt X "list.index" (Quv K):=⟨by subst hK;exact Qwu⟩
end
noncomputable def Q3g (P:Program) (w:World) (K:PySem.W.Frag) (mg:Str→Option Value) (base:Heap) (x:Str) (ps:List Str) (k:Nat) (sp:Sp):Prop :=
 ∃ f fd,PySem.W.keepIn K (.ref f)=true∧mg x=some (.ref f)∧Binds K fd ps []∧FnOkH P w K mg base CX0 k f fd ps sp
section
variable {P:Program} {w:World} {K:PySem.W.Frag} {mg:Str→Option Value} {base:Heap}
theorem Qzq {x:Str} {st:Stmt} {N ps:List Str} {k:Nat} {sp:Sp} (d:Dfn K mg x st) (S:FnScope N ps (Qf st)) (bd:Qag x st ps) (len:∀ vs H Q E,sp vs H Q E→vs.length=ps.length)
  (hbody:∀ (f:Addr) (cdv:Value) (A:Around) (outer:List Env) (s:Shared) (H:Hp) (vs:List V) (Q:VK) (E:XK),RoomH k (A.deeper (envOfC x (Qf st) s.heap.objs.size f cdv))→sp vs H Q E →
   ∃ t,QB (Qny CX0 P w K mg base N x (Qf st) f cdv A outer s H E).nox (Qaa st) t∧t { nx:=fun _ H'=>Q .non H',rt:=Q } (Qbs N vs) H):Q3g P w K mg base x ps (k+1) sp:=by
 obtain ⟨f,fd,F,m⟩:=d.ex
 refine ⟨f,fd,F.kp,m,F.binds bd,?_⟩
 obtain ⟨oc,od,kV,doc,pm,an,cdv,ct,osl,rfl,lk,hcd⟩:=F.ex
 refine Q83 lk hcd S len fun A outer s H vs Q E hr hsp=>?_
 obtain ⟨t,h,q⟩:=hbody f cdv A outer s H vs Q E hr hsp
 exact ⟨t,h.h.nox,q⟩
end
section
variable {X:Cx} {x:Str} {ps:List Str} {k:Nat} {sp:Sp} {e:Expr} {es:List Expr} {t:TA} {p pos:Pos}
theorem Qzr (h:Q3g X.prog X.w X.K X.mg X.base x ps k sp) (hr:RoomH k X.A) (ha:QA X (e::es) t) (hg:Gl X x:=by rfl)
  (hdb:(x==("__debug__" : Str))=false:=by decide) (he:starEach (e::es) X.env=(false,eval e X.env)::starEach es X.env:=by rfl) (hpl:(backTo pos (starEach es X.env)).any (·.1)=false:=by rfl) :
  QE X (.Call (.Name x p) (e::es) [] pos) (Qko sp [] E0 t):=by
 obtain ⟨f,fd,kp,m,b,F⟩:=h
 refine ⟨fun pins s σ H Q I hq=>?_⟩
 refine wpAny_Call_Name_kw (Qf4 I hg m ?_ hdb)
 refine PySem.W.callWith_K (h₀:=X.base) I.ok.mod.kin kp (thn (ha.h pos pins s σ H _ I hq) fun us s1 ⟨vs,H1,I1,r,q⟩=>⟨I1.kIn,?_⟩) he hpl
 have q2:sp vs H1 Q E0:=by
  have q:sp (vs++[]) H1 Q E0:=q
  rw [List.append_nil] at q
  exact q
 have hl:(us++[]).length=ps.length:=by rw [List.append_nil,←r.length];exact F.len _ _ _ _ q2
 have r2:Vals vs (us++[]):=by rw [List.append_nil];exact r
 refine wpAny_call (codeAny_mono (F.run X.A X.stack s1 H1 ⟨us,[]⟩ (us++[]) vs Q _ hr I1.env0 (b s1 us I1.kIn hl) r2 q2) fun rr s' hq'=>?_)
 cases rr with
 | error ev=>exact False.elim hq'
 | ok fl =>
  cases fl with
  | ret u=>exact I1.after hq'
  | next=>exact False.elim hq'
  | brk=>exact False.elim hq'
  | cont=>exact False.elim hq'
end
noncomputable def cad (mg:Str→Option Value) (x:Str):Addr:=match mg x with
 | some (.ref a)=>a
 | _=>0
noncomputable def bmV:List Value:=[.type "ValueError",.type "Exception",.type "BaseException",.type "object"]
noncomputable def Qbk:List Str:=["NoTable","NoWay","NoSet","NoRest","NoLine","NoRow","NoTables","Below","NoText","TooGreat"]
noncomputable def Qzs (K:PySem.W.Frag) (c0:Addr) (cs:List Addr):Bool :=
 PySem.W.excIn K c0 bmV "ValueError.__new__" && (cs.take 6).all (fun c=>PySem.W.excIn K c bmV "ValueError.__new__")&&cs.all (fun c=>Qqp K c&&PySem.W.mroIn K c (.ref c0)==some true&&PySem.W.kitOne K (.ref c) (.type "ValueError")==some true) &&
  cs.zipIdx.all (fun p=>cs.zipIdx.all fun q=>PySem.W.kitOne K (.ref p.1) (.ref q.1)==some (p.2==q.2))
structure Exs (K:PySem.W.Frag) (mg:Str→Option Value):Prop where
 m0:mg "NoughtError" = some (.ref (cad mg "NoughtError"))
 m:∀ (i:Nat) (x:Str),Qbk[i]?=some x→mg x=some (.ref (cad mg x))
 ok:Qzs K (cad mg "NoughtError") (Qbk.map (cad mg))=true
theorem Qbm {mg:Str→Option Value} {x:Str} {a:Addr} (h:mg x=some (.ref a)):cad mg x=a:=by unfold cad;rw [h]
theorem Q84 {K:PySem.W.Frag} {mg:Str→Option Value} {h:Heap} {c0 c1 c2 c3 c4 c5 c6 c7 c8 c9 c10:Addr} (X:K.In h) (G:h.Ns mainGlobals mg) (e0:PySem.W.nsIn K mainGlobals "NoughtError" = some (some (.ref c0)))
  (e1:PySem.W.nsIn K mainGlobals "NoTable" = some (some (.ref c1))) (e2:PySem.W.nsIn K mainGlobals "NoWay" = some (some (.ref c2))) (e3:PySem.W.nsIn K mainGlobals "NoSet" = some (some (.ref c3))) (e4:PySem.W.nsIn K mainGlobals "NoRest" = some (some (.ref c4)))
  (e5:PySem.W.nsIn K mainGlobals "NoLine" = some (some (.ref c5))) (e6:PySem.W.nsIn K mainGlobals "NoRow" = some (some (.ref c6))) (e7:PySem.W.nsIn K mainGlobals "NoTables" = some (some (.ref c7))) (e8:PySem.W.nsIn K mainGlobals "Below" = some (some (.ref c8)))
  (e9:PySem.W.nsIn K mainGlobals "NoText" = some (some (.ref c9))) (e10:PySem.W.nsIn K mainGlobals "TooGreat" = some (some (.ref c10))) (ok:Qzs K c0 [c1,c2,c3,c4,c5,c6,c7,c8,c9,c10]=true):Exs K mg:=by
 have g0:=PySem.W.mg_of X G e0
 have g1:=PySem.W.mg_of X G e1
 have g2:=PySem.W.mg_of X G e2
 have g3:=PySem.W.mg_of X G e3
 have g4:=PySem.W.mg_of X G e4
 have g5:=PySem.W.mg_of X G e5
 have g6:=PySem.W.mg_of X G e6
 have g7:=PySem.W.mg_of X G e7
 have g8:=PySem.W.mg_of X G e8
 have g9:=PySem.W.mg_of X G e9
 have g10:=PySem.W.mg_of X G e10
 have em:Qbk.map (cad mg)=[c1,c2,c3,c4,c5,c6,c7,c8,c9,c10]:=by
  unfold Qbk
  simp only [List.map_cons,List.map_nil]
  rw [Qbm g1,Qbm g2,Qbm g3,Qbm g4,Qbm g5,Qbm g6,Qbm g7,Qbm g8,Qbm g9,Qbm g10]
 refine ⟨by rw [Qbm g0];exact g0,fun i x hx=>?_,by rw [em,Qbm g0];exact ok⟩
 have ms:=List.mem_of_getElem? hx
 unfold Qbk at ms
 simp only [List.mem_cons,List.not_mem_nil,or_false] at ms
 rcases ms with rfl | rfl | rfl | rfl | rfl | rfl | rfl | rfl | rfl | rfl
 ·rw [Qbm g1];exact g1
 ·rw [Qbm g2];exact g2
 ·rw [Qbm g3];exact g3
 ·rw [Qbm g4];exact g4
 ·rw [Qbm g5];exact g5
 ·rw [Qbm g6];exact g6
 ·rw [Qbm g7];exact g7
 ·rw [Qbm g8];exact g8
 ·rw [Qbm g9];exact g9
 ·rw [Qbm g10];exact g10
section
variable {K:PySem.W.Frag} {mg:Str→Option Value}
theorem Exs.parts (ex:Exs K mg):PySem.W.excIn K (cad mg "NoughtError") bmV "ValueError.__new__" = true∧(∀ c∈(Qbk.map (cad mg)).take 6,PySem.W.excIn K c bmV "ValueError.__new__" = true) ∧
  (∀ c∈Qbk.map (cad mg),Qqp K c=true∧PySem.W.mroIn K c (.ref (cad mg "NoughtError"))=some true∧PySem.W.kitOne K (.ref c) (.type "ValueError")=some true) ∧
  ∀ (i j:Nat) (c d:Addr),(Qbk.map (cad mg))[i]?=some c→(Qbk.map (cad mg))[j]?=some d→PySem.W.kitOne K (.ref c) (.ref d)=some (i==j):=by
 have h:=ex.ok
 unfold Qzs at h
 simp only [Bool.and_eq_true,List.all_eq_true,beq_iff_eq] at h
 obtain ⟨⟨⟨h1,h2⟩,h3⟩,h4⟩:=h
 refine ⟨h1,h2,fun c hc=>⟨(h3 c hc).1.1,(h3 c hc).1.2,(h3 c hc).2⟩,fun i j c d hi hj=>?_⟩
 exact h4 (c,i) (List.mk_mem_zipIdx_iff_getElem?.mpr hi) (d,j) (List.mk_mem_zipIdx_iff_getElem?.mpr hj)
theorem Exs.nou (ex:Exs K mg):PySem.W.excIn K (cad mg "NoughtError") bmV "ValueError.__new__" = true:=ex.parts.1
theorem Exs.rz (ex:Exs K mg) (i:Nat) {x:Str} (hi:i<6) (hx:Qbk[i]?=some x):PySem.W.excIn K (cad mg x) bmV "ValueError.__new__" = true:=by
 refine ex.parts.2.1 _ (List.mem_of_getElem? (i:=i) ?_)
 rw [List.getElem?_take_of_lt hi,List.getElem?_map,hx]
 rfl
theorem Exs.at (i:Nat) {x:Str} (hx:Qbk[i]?=some x):(Qbk.map (cad mg))[i]?=some (cad mg x):=by rw [List.getElem?_map,hx];rfl
theorem Exs.xc (ex:Exs K mg) (i:Nat) {x:Str} (hx:Qbk[i]?=some x):Qqp K (cad mg x)=true:=(ex.parts.2.2.1 _ (List.mem_of_getElem? (Exs.at i hx))).1
theorem Exs.sub (ex:Exs K mg) (i:Nat) {x:Str} (hx:Qbk[i]?=some x):PySem.W.mroIn K (cad mg x) (.ref (cad mg "NoughtError"))=some true:=(ex.parts.2.2.1 _ (List.mem_of_getElem? (Exs.at i hx))).2.1
theorem Exs.val (ex:Exs K mg) (i:Nat) {x:Str} (hx:Qbk[i]?=some x):PySem.W.kitOne K (.ref (cad mg x)) (.type "ValueError")=some true:=(ex.parts.2.2.1 _ (List.mem_of_getElem? (Exs.at i hx))).2.2
theorem Exs.kit (ex:Exs K mg) (i j:Nat) {x y:Str} (hx:Qbk[i]?=some x) (hy:Qbk[j]?=some y):PySem.W.kitOne K (.ref (cad mg x)) (.ref (cad mg y))=some (i==j):=ex.parts.2.2.2 i j _ _ (Exs.at i hx) (Exs.at j hy)
end
theorem Qia {X:Cx} {x:Str} {a:Addr} {pos:Pos} (m:X.mg x=some (.ref a)) (hg:Gl X x:=by rfl) (hd:(x==("__debug__" : Str))=false:=by decide):QE X (.Name x pos) (tC (.ref a)):=⟨Quf (v:=.ref a) hg m rfl hd⟩
section
variable {X:Cx} {pins:List (Addr×Obj)} {σ:St} {H:Hp} {s:Shared} {h':Heap}
theorem Inv.turnedL {t':Nat} {fp:List Addr} (I:Inv X pins σ H s) (k:∀ b o,b∉fp→s.heap.get? b=some o→h'.get? b=some o) (hf:∀ b∈fp,Qg5 X pins H b):Inv X pins σ H { s with heap:=h',toks:=t' }:=by
 have nit:∀ b u,H b=some u→b∉fp:=fun b u e z=>by rw [(hf b z).1] at e;cases e
 refine I.step (g':=s.gens) (d':=s.drawn) (ch:=fp) (fun b hb=>?_) (fun b o _ _ hc e _=>k b o hc e) (fun b o _ _ hc e _=>⟨o.slots,k b o hc e⟩) (fun _ _ _ _ n=>n)
  (fun b o hc e=>⟨o,k b o hc e⟩) (fun _ _ e=>e) (fun _ _ _ e=>e) (fun _ _ e=>e) (fun m hm=>?_) (fun b u e=>?_) I.bare
 ·obtain ⟨_,f1,_,f3,f4,f5⟩:=hf b hb
  exact ⟨f3,f1,f4,f5⟩
 ·obtain ⟨o,es,ep,ho,r⟩:=hm
  exact ⟨o,es,ep,k _ o (fun z=>(hf _ z).2.1 rfl) ho,r⟩
 ·refine (I.hok b u e).stay (fun c v hc q=>k c v ?_ q) (fun _ q=>q) fun _ _ q=>q
  rcases hc with z | z
  ·rw [z];exact nit b u e
  ·exact nit c _ z
end
noncomputable def Ite (K:PySem.W.Frag) (a:Addr):It :=
 ⟨fun i H=>∃ xs x,SqL K H a xs∧xs[i]?=some x,fun i H v H'=>∃ p x,v=.ref p∧H p=none∧(∀ xs,SqL K H a xs→xs[i]?=some x)∧H'=upd H p (.tup [.int (i:Nat),x]),fun i H=>∃ xs,SqL K H a xs∧xs.length≤i⟩
theorem Qwv {P:Program} {w:World} {K:PySem.W.Frag} {es:List Expr} {x1} {tp:Pos} (a e it:Addr) (hne:e≠it):Turn P w K (.Tuple es x1 tp) (Ite K a) [e,it] e (fun i h=>(∃ old,IsEnum h e it ((i:Nat):Int) old)∧h.IsListIter it a i) where
 mem:=by simp
 obj:=fun i h st b hb=>by
  obtain ⟨⟨old,he⟩,o,ho,c,d⟩:=st
  have hb:b=e∨b=it:=by simpa using hb
  rcases hb with rfl | rfl
  ·exact ⟨_,he,fun v z=>by
    have z':Data.fields _=Data.cell v:=z
    cases z'⟩
  ·exact ⟨o,ho,fun v z=>by rw [d] at z;cases z⟩
 keep:=fun i h h' st k=>⟨let ⟨old,he⟩:=st.1;⟨old,k e (by simp) _ he⟩,st.2.at fun o q=>k it (by simp) o q⟩
 item:=by
  intro X hP hw hK hc i pins s σ H E I hf st hg
  subst hP hw hK
  obtain ⟨xs,x,hq,hx⟩:=hg
  obtain ⟨its,rv,p,hz⟩:=I.list hq
  obtain ⟨u,hu,ru⟩:=rv.get hx
  obtain ⟨⟨old,he⟩,hit⟩:=st
  have hel:e<s.heap.objs.size:=Heap.lt_size he
  refine wpAny_pyNext_enum_item he hit p.isList (x:=u) (by simpa using hu) hne fun h1 ho hit1 hT hsz hk=>⟨_,rfl,?_⟩
  refine wpAny_letOwnedTupleGo_enum (s:={ s with heap:=h1,toks:=s.toks+1 }) ho fun h2 he2 hs2=>?_
  have hs2:Heap.SameBut e h1 h2:=hs2
  have hf0:H s.heap.objs.size=none:=I.hok.fresh (Nat.le_refl _)
  have I1:Inv X pins σ (upd H s.heap.objs.size (.tup [.int (i:Nat),x])) { s with heap:=s.heap.push { cls:=.type "tuple",data:=.seq #[.int (i:Nat) s.toks,u] },toks:=s.toks } :=
   I.laid (fun b o q=>Heap.get?_push_of_some _ q) (Nat.le_refl _) ⟨by show 2≤sizeLine;decide,[.int (i:Nat) s.toks,u],.cons ⟨_,rfl⟩ (.cons ru .nil),⟨_,Heap.get?_push_size _ rfl,rfl,_,rfl,rfl⟩⟩
  have ne:∀ b∈[e,it],b≠s.heap.objs.size:=fun b hb=>by
   have hb:b=e∨b=it:=by simpa using hb
   obtain ⟨_,ho',_⟩:=hit
   rcases hb with rfl | rfl
   ·exact Nat.ne_of_lt hel
   ·exact Nat.ne_of_lt (Heap.lt_size ho')
  have hf1:∀ b∈[e,it],Qg5 X pins (upd H s.heap.objs.size (.tup [.int (i:Nat),x])) b:=fun b hb=>⟨by rw [Q2 (ne b hb)];exact (hf b hb).1,(hf b hb).2⟩
  have I2:=I1.turnedL (h':=h2) (t':=s.toks+1) (fp:=[e,it]) (fun b o hb q=>by
   have hbe:b≠e:=fun z=>hb (by simp [z])
   have hbi:b≠it:=fun z=>hb (by simp [z])
   rw [hs2.2 b hbe]
   rcases Heap.get?_push_cases q with ⟨rfl,rfl⟩ | q
   ·exact hT
   ·exact hk b o hbe hbi q) hf1
  refine ⟨.ref s.heap.objs.size,_,I2,rfl,⟨_,x,rfl,hf0,fun ys hy=>by rw [I.list_inj hy hq];exact hx,rfl⟩,⟨⟨u,?_⟩,hit1.at fun o q=>(hs2.2 it hne.symm).trans q⟩,fun b hb=>(hf1 b hb).1⟩
  have:((i+1:Nat):Int)=(i:Int)+1:=by push_cast;rfl
  rw [this]
  exact he2
 done:=by
  intro X hP hw hK hc i pins s σ H E I hf st hg
  subst hP hw hK
  obtain ⟨xs,hq,hx⟩:=hg
  obtain ⟨its,rv,p,hz⟩:=I.list hq
  obtain ⟨⟨old,he⟩,hit⟩:=st
  have hl:=rv.length
  refine wpAny_pyNext_enum_end (I.ok.hd hc) he hit p.isList (by simp;omega) fun h1 eb=>⟨rfl,I.turnedL (t':=s.toks) (fp:=[e,it]) (fun b o hb q=>eb b o (fun z=>hb (by simp [z])) q) hf⟩
 self:=fun _ _ _ _ _ st h=>let ⟨_,he⟩:=st.1;wpAny_pyIter_enum he h
section
variable {X:Cx}
end
section
variable {P:Program} {w:World} {A:Around} {E:Value→Shared→Prop} {s:Shared}
theorem Qtb {j t:Addr} {n:Nat} {vs:Array Value} {v:Value} {Q:Value→Shared→Prop} (hj:s.heap.IsTupleIter j t n) (ht:s.heap.IsTuple t vs) (hv:vs[n]?=some v)
  (q:∀ g,g.IsTupleIter j t (n+1)→Heap.SameBut j s.heap g→Q v { s with heap:=g }):wpAny (model P w) A (Builtin.SmallTypes.nextOf (.ref j)) Q E s:=by
 obtain ⟨oj,ej,cj,dj⟩:=id hj
 obtain ⟨ot,et,_,m,dt⟩:=ht
 unfold Builtin.SmallTypes.nextOf
 refine wpAny_bind (wpAny_callSpecial?_slot (name:=Str.ofString "__next__") hj.typeIs F.slot_tuple_iterator_next (wpAny_call_entry F.slot_tuple_iterator_next hj.typeIs F.entry_tuple_iterator_next ?_ (F.args_tuple_iterator_next_1 _)))
 show wpAny _ _ (field (.ref j) 0 >>= _) _ _ s
 refine wpAny_bind (wpAny_field ej dj (x:=.ref t) rfl ?_)
 show wpAny _ _ (if (Value.ref t==Value.none)=true then _ else _) _ _ s;rw [if_neg (show ¬ ((Value.ref t==Value.none)=true) from Bool.false_ne_true)]
 show wpAny _ _ (field (.ref j) 1 >>= _) _ _ s
 refine wpAny_bind (wpAny_field ej dj (x:=.int n 0) rfl ?_)
 show wpAny _ _ (seqItems? (.ref t) >>= _) _ _ s;refine wpAny_bind (wpAny_seqItems et dt ?_)
 simp only [Int.toNat_natCast,hv]
 refine wpAny_bind (wpAny_setField ej dj (by simp) (wpAny_pure ⟨v,rfl,wpAny_pure (q _ ?_ (Heap.SameBut.update ..))⟩))
 exact ⟨_,Heap.get?_update_self _ ej (Obj.isFreed_of_fields (Obj.data_mapFields dj _)),(Obj.cls_mapFields ..).trans cj,by rw [Obj.data_mapFields dj];simp [rawInt]⟩
theorem Qn2 {j t:Addr} {n:Nat} {vs:Array Value} {Q:Value→Shared→Prop} (hh:A.handled=none) (hj:s.heap.IsTupleIter j t n) (ht:s.heap.IsTuple t vs) (hv:vs[n]?=none)
  (q:∀ g e,Heap.ExtBut j s.heap g→(∃ o,g.get? e=some o∧o.cls=.type "StopIteration")→E (.ref e) { s with heap:=g }):wpAny (model P w) A (Builtin.SmallTypes.nextOf (.ref j)) Q E s:=by
 obtain ⟨oj,ej,cj,dj⟩:=id hj
 obtain ⟨ot,et,_,m,dt⟩:=ht
 unfold Builtin.SmallTypes.nextOf
 refine wpAny_bind (wpAny_callSpecial?_slot (name:=Str.ofString "__next__") hj.typeIs F.slot_tuple_iterator_next (wpAny_call_entry F.slot_tuple_iterator_next hj.typeIs F.entry_tuple_iterator_next ?_ (F.args_tuple_iterator_next_1 _)))
 show wpAny _ _ (field (.ref j) 0 >>= _) _ _ s
 refine wpAny_bind (wpAny_field ej dj (x:=.ref t) rfl ?_)
 show wpAny _ _ (if (Value.ref t==Value.none)=true then _ else _) _ _ s;rw [if_neg (show ¬ ((Value.ref t==Value.none)=true) from Bool.false_ne_true)]
 show wpAny _ _ (field (.ref j) 1 >>= _) _ _ s
 refine wpAny_bind (wpAny_field ej dj (x:=.int n 0) rfl ?_)
 show wpAny _ _ (seqItems? (.ref t) >>= _) _ _ s;refine wpAny_bind (wpAny_seqItems et dt ?_)
 simp only [Int.toNat_natCast,hv]
 refine wpAny_bind (wpAny_rule (wpAny_bind (wpAny_setField ej dj (by simp) ?_)))
 show wpAny _ _ (newExc (.type "StopIteration") [] >>= _) _ _ _;refine wpAny_bind ?_
 simp only [newExc,newTuple]
 refine wpAny_bind (wpAny_newObj_type ?_ (by size_fits));refine wpAny_bind (m:=firstArgMember _ _) (wpAny_of_eq (a:=Value.none) (by first | rfl | (simp only [firstArgMember];rfl)) ?_)
 refine wpAny_newObj_type ?_ (by size_fits);simp only [raiseNew]
 refine wpAny_bind (wpAny_handled ?_);first | rw [show A.in1.handled=none from hh] | rw [hh]
 exact wpAny_bind (wpAny_pure (wpAny_throw (q _ _ (((Heap.SameBut.update ..).extBut.push _).push _) ⟨_,Heap.get?_push_size _ rfl,rfl⟩)))
noncomputable def IsIt:Bool→Heap→Addr→Addr→Nat→Prop
 | true,h,i,l,n=>h.IsListIter i l n
 | false,h,i,l,n=>h.IsTupleIter i l n
noncomputable def IsSq:Bool→Heap→Addr→Array Value→Prop
 | true,h,l,xs=>h.IsList l xs
 | false,h,l,xs=>h.IsTuple l xs
structure ZT (lb lc:Bool) (h:Heap) (z ti to i1 i2 l1 l2:Addr) (n:Nat) (xs ys:Array Value):Prop where
 z:IsZip h z ti to .none
 ti:IsPair h ti (.ref i1) (.ref i2)
 to:∃ a b,IsPair h to a b
 i1:IsIt lb h i1 l1 n
 i2:IsIt lc h i2 l2 n
 l1:IsSq lb h l1 xs
 l2:IsSq lc h l2 ys
end
section
variable {P:Program} {w:World} {A:Around} {E:Value→Shared→Prop} {s:Shared}
end
section
variable {X:Cx}
end
theorem Q85 {prog:Program} {w:World} {A:Around} (hh:A.handled=none) (it l:Addr) (hne:l≠it) (items:Array Value) :
  Draws prog w A it [it,l] items.size (fun i v=>items[i]?=some v) (fun i h=>h.IsTupleIter it l i∧h.IsTuple l items) where
 live:=fun _ _ st=>let ⟨o,ho,_⟩:=st.1;⟨o,ho⟩
 frame:=fun _ _ _ st hk=>⟨let ⟨o,e,r⟩:=st.1;⟨o,hk it (by simp) o e,r⟩,let ⟨o,e,r⟩:=st.2;⟨o,hk l (by simp) o e,r⟩⟩
 item:=fun i s Q E hi st hQ=>by
  refine Qtb st.1 st.2 (v:=items[i]) (by simp [hi]) fun h' hit' hs'=>?_
  exact hQ _ h' s.toks (by simp [hi]) ⟨hit',let ⟨o,e,r⟩:=st.2;⟨o,hs'.extBut _ _ hne e,r⟩⟩ hs'
 done:=fun s Q E st hE=>Qn2 hh st.1 st.2 (by simp) hE
set_option maxHeartbeats 1000000 in
theorem Qqs (l:Addr) (items:Array Value) (n:Nat) (dct:Option Addr) (sl:Array (Option Value)) :
  Meets (Builtin.«enumerate.__new__» ⟨[.type "enumerate",.ref l],[]⟩) (fun _ R s=>s.heap.get? l=some { cls:=.type "tuple",dict:=dct,data:=.seq items n,slots:=sl } ∧
   R (.ok (.ret (.ref (s.heap.push { cls:=.type "tuple_iterator",data:=.fields #[.ref l,.int 0 0] }).objs.size)))
    { s with heap:=(s.heap.push { cls:=.type "tuple_iterator",data:=.fields #[.ref l,.int 0 0] }).push { cls:=.type "enumerate",data:=.fields #[.none,.bool false,.ref s.heap.objs.size,rawInt 0,.none,.none] } }) :=
 .of_wp fun prog w A R s h=>by
  obtain ⟨hp,g,d,tk,os⟩:=s;obtain ⟨hl,h⟩:=h
  have hsub:=sub_enumerate
  have hL:Heap.IsTuple (Shared.heap ⟨hp,g,d,tk,os⟩) l items:=⟨_,hl,rfl,n,rfl⟩
  wp_walk using PySem.AutoSeq1.wpAny_loadPart' hl
  refine wpAny_stack_any fun st=>wpAny_pure ?_
  split
  ·rename_i c _ _ _ _ _
   cases (c==Value.type "enumerate")
   ·wp_walk using PySem.AutoSeq1.wpAny_loadPart' hl,wpAny_pyIter_tuple hL
    exact ⟨_,rfl,h⟩
   ·wp_walk using PySem.AutoSeq1.wpAny_loadPart' hl,wpAny_pyIter_tuple hL
    exact ⟨_,rfl,h⟩
  ·wp_walk using PySem.AutoSeq1.wpAny_loadPart' hl,wpAny_pyIter_tuple hL
   exact ⟨_,rfl,h⟩
section
variable {prog:Program} {w:World} {A:Around} {E:Value→Shared→Prop} {s:Shared}
theorem Qtc {l:Addr} {items:Array Value} {Q:Value→Shared→Prop} (hL:s.heap.IsTuple l items)
  (h:∀ h',IsEnum h' (s.heap.objs.size+1) s.heap.objs.size 0 .none→h'.IsTupleIter s.heap.objs.size l 0→h'.objs.size=s.heap.objs.size+2 →
   (∀ b o,s.heap.get? b=some o→h'.get? b=some o)→Q (.ref (s.heap.objs.size+1)) { s with heap:=h' }) :
  wpAny (model prog w) A (call (.type "enumerate") [.ref l]) Q E s:=by
 obtain ⟨⟨c,dct,dt,sl⟩,hl,hc,n,hd⟩:=hL
 replace hc:c=.type "tuple" := hc
 replace hd:dt=.seq items n:=hd
 subst hc hd
 refine callType_new F.called_enumerate (by decide) (F.typeCall_enumerate_1 _) (F.newCall_enumerate_1 _) (fun obj=>F.args_object_init_2 obj _) F.entry_enumerate_new
  (Qqs l items n dct sl) ⟨hl,?_⟩
 have hz:(s.heap.push { cls:=.type "tuple_iterator",data:=.fields #[.ref l,.int 0 0] }).objs.size=s.heap.objs.size+1:=Heap.size_push ..
 show _∧_
 rw [hz]
 have he:IsEnum ((s.heap.push { cls:=.type "tuple_iterator",data:=.fields #[.ref l,.int 0 0] }).push
   { cls:=.type "enumerate",data:=.fields #[.none,.bool false,.ref s.heap.objs.size,rawInt 0,.none,.none] }) (s.heap.objs.size+1) s.heap.objs.size 0 .none:=by
  have:=Heap.get?_push_size (s.heap.push { cls:=.type "tuple_iterator",data:=.fields #[.ref l,.int 0 0] })
   (o:={ cls:=.type "enumerate",data:=.fields #[.none,.bool false,.ref s.heap.objs.size,rawInt 0,.none,.none] }) rfl
  rw [hz] at this;exact this
 refine ⟨⟨_,he,rfl⟩,h _ he ⟨_,Heap.get?_push_of_some _ (Heap.get?_push_size _ rfl),rfl,rfl⟩ (by rw [Heap.size_push,hz]) fun b o x=>Heap.get?_push_of_some _ (Heap.get?_push_of_some _ x)⟩
theorem Qww {e it l:Addr} {i:Nat} {items:Array Value} {old:Value} {Q:Option Value→Shared→Prop} (hh:A.handled=none)
  (he:IsEnum s.heap e it i old) (hit:s.heap.IsTupleIter it l i) (hl:s.heap.IsTuple l items) (hx:items[i]?=none)
  (hQ:∀ h',Heap.ExtBut it s.heap h'→Q none { s with heap:=h' }):wpAny (model prog w) A (pyNext (.ref e)) Q E s:=by
 have hT:s.TypeIs (.ref e) "enumerate" := ⟨_,he,rfl⟩
 unfold pyNext
 refine wpAny_bind (wpAny_attempt (wpAny_callSpecial?_slot (name:=Str.ofString "__next__") hT F.slot_enumerate_next
  (wpAny_call_entry F.slot_enumerate_next hT F.entry_enumerate_next ?_ (F.args_enumerate_next_1 _))))
 show wpAny _ _ (field (.ref e) 2 >>= _) _ _ _
 refine wpAny_bind (wpAny_field he rfl (x:=.ref it) rfl ?_)
 refine wpAny_bind (Qn2 hh hit hl hx fun h' x he' hx'=>?_)
 obtain ⟨o,ho,hc⟩:=hx'
 refine wpAny_bind (wpAny_isInstance (T := "StopIteration") (b:=true) ⟨o,ho,hc⟩ isSubtype_stop ?_)
 exact wpAny_pure (hQ _ he')
end
noncomputable def Q86 (K:PySem.W.Frag) (a:Addr):It :=
 ⟨fun i H=>∃ xs x,SqT K H a xs∧xs[i]?=some x,fun i H v H'=>∃ p x,v=.ref p∧H p=none∧(∀ xs,SqT K H a xs→xs[i]?=some x)∧H'=upd H p (.tup [.int (i:Nat),x]),fun i H=>∃ xs,SqT K H a xs∧xs.length≤i⟩
theorem Qtd {P:Program} {w:World} {K:PySem.W.Frag} {es:List Expr} {x1} {tp:Pos} (a e it:Addr) (hne:e≠it) (hea:e≠a) (hai:a≠it):Turn P w K (.Tuple es x1 tp) (Q86 K a) [e,it] e (fun i h=>(∃ old,IsEnum h e it ((i:Nat):Int) old)∧h.IsTupleIter it a i) where
 mem:=by simp
 obj:=fun i h st b hb=>by
  obtain ⟨⟨old,he⟩,o,ho,c,d⟩:=st
  have hb:b=e∨b=it:=by simpa using hb
  rcases hb with rfl | rfl
  ·exact ⟨_,he,fun v z=>by
    have z':Data.fields _=Data.cell v:=z
    cases z'⟩
  ·exact ⟨o,ho,fun v z=>by rw [d] at z;cases z⟩
 keep:=fun i h h' st k=>⟨let ⟨old,he⟩:=st.1;⟨old,k e (by simp) _ he⟩,let ⟨o,ho,r⟩:=st.2;⟨o,k it (by simp) o ho,r⟩⟩
 item:=by
  intro X hP hw hK hc i pins s σ H E I hf st hg
  subst hP hw hK
  obtain ⟨xs,x,hq,hx⟩:=hg
  obtain ⟨its,rv,p,hz⟩:=I.tuple hq
  obtain ⟨u,hu,ru⟩:=rv.get hx
  obtain ⟨⟨old,he⟩,hit⟩:=st
  have hel:e<s.heap.objs.size:=Heap.lt_size he
  have hh:=I.ok.hd hc
  have hlt:i<its.toArray.size:=by
   have:=(List.getElem?_eq_some_iff.mp hu).1
   simpa using this
  refine wpAny_pyNext_enum_itemD (Q85 (A:=X.A.in1) hh it a hai its.toArray) he ⟨hit,p⟩ hlt hne (by simp [hne,hea]) fun y h1 tk hy ho hit1 hT hsz hk=>⟨_,rfl,?_⟩
  have ey:y=u:=by
   have:its.toArray[i]?=some u:=by simpa using hu
   rw [this] at hy
   exact (Option.some.inj hy).symm
  subst ey
  refine wpAny_letOwnedTupleGo_enum (s:={ s with heap:=h1,toks:=tk+1 }) ho fun h2 he2 hs2=>?_
  have hs2:Heap.SameBut e h1 h2:=hs2
  have hf0:H s.heap.objs.size=none:=I.hok.fresh (Nat.le_refl _)
  have I1:Inv X pins σ (upd H s.heap.objs.size (.tup [.int (i:Nat),x])) { s with heap:=s.heap.push { cls:=.type "tuple",data:=.seq #[.int (i:Nat) tk,y] },toks:=s.toks } :=
   I.laid (fun b o q=>Heap.get?_push_of_some _ q) (Nat.le_refl _) ⟨by show 2≤sizeLine;decide,[.int (i:Nat) tk,y],.cons ⟨_,rfl⟩ (.cons ru .nil),⟨_,Heap.get?_push_size _ rfl,rfl,_,rfl,rfl⟩⟩
  have ne:∀ b∈[e,it],b≠s.heap.objs.size:=fun b hb=>by
   have hb:b=e∨b=it:=by simpa using hb
   obtain ⟨_,ho',_⟩:=hit
   rcases hb with rfl | rfl
   ·exact Nat.ne_of_lt hel
   ·exact Nat.ne_of_lt (Heap.lt_size ho')
  have hf1:∀ b∈[e,it],Qg5 X pins (upd H s.heap.objs.size (.tup [.int (i:Nat),x])) b:=fun b hb=>⟨by rw [Q2 (ne b hb)];exact (hf b hb).1,(hf b hb).2⟩
  have I2:=I1.turnedL (h':=h2) (t':=tk+1) (fp:=[e,it]) (fun b o hb q=>by
   have hbe:b≠e:=fun z=>hb (by simp [z])
   have hbi:b≠it:=fun z=>hb (by simp [z])
   rw [hs2.2 b hbe]
   rcases Heap.get?_push_cases q with ⟨rfl,rfl⟩ | q
   ·exact hT
   ·exact hk b o hbe hbi q) hf1
  refine ⟨.ref s.heap.objs.size,_,I2,rfl,⟨_,x,rfl,hf0,fun ys hy=>by rw [I.tuple_inj hy hq];exact hx,rfl⟩,⟨⟨y,?_⟩,let ⟨o,ho',r⟩:=hit1.1;⟨o,(hs2.2 it hne.symm).trans ho',r⟩⟩,fun b hb=>(hf1 b hb).1⟩
  have:((i+1:Nat):Int)=(i:Int)+1:=by push_cast;rfl
  rw [this]
  exact he2
 done:=by
  intro X hP hw hK hc i pins s σ H E I hf st hg
  subst hP hw hK
  obtain ⟨xs,hq,hx⟩:=hg
  obtain ⟨its,rv,p,hz⟩:=I.tuple hq
  obtain ⟨⟨old,he⟩,hit⟩:=st
  have hl:=rv.length
  refine Qww (I.ok.hd hc) he hit p (by simp;omega) fun h1 eb=>⟨rfl,I.turnedL (t':=s.toks) (fp:=[e,it]) (fun b o hb q=>eb b o (fun z=>hb (by simp [z])) q) hf⟩
 self:=fun _ _ _ _ _ st h=>let ⟨_,he⟩:=st.1;wpAny_pyIter_enum he h
section
variable {X:Cx}
noncomputable def Qzt (K:PySem.W.Frag) (ta:TA):TI:=fun σ H R=>ta σ H fun vs H1=>∃ a xs,vs=[.ref a]∧((SqL K H1 a xs∧R (Ite K a) H1)∨(SqT K H1 a xs∧R (Q86 K a) H1))
theorem Qzu {a:Expr} {ta:TA} {es:List Expr} {x1} {tp p pos:Pos} (K:PySem.W.Frag) (hK:X.K=K) (hg:Gl X "enumerate") (hm:X.mg "enumerate" = none) (hb:PySem.bootBuiltins "enumerate" = some (.type "enumerate")) (ha:PA X [a] ta) (hs:starEach [a] X.env=[(false,eval a X.env)]:=by rfl) :
  PI X (.Tuple es x1 tp) (.Call (.Name "enumerate" p) [a] [] pos) (Qzt K ta):=by
 subst hK
 intro pins s σ H R I h
 refine Call_ (Qlm I hg hm hb (PyProof.Rows.callWith_type1 (thn (ha pos pins s σ H _ I h) fun us s1 ⟨vs,H1,I1,r1,q1⟩=>?_) hs rfl))
 obtain ⟨b,xs,e,q⟩:=q1
 subst e
 cases r1 with
 | cons r rr =>
  cases rr
  cases r
  have fp:∀ c∈[s1.heap.objs.size+1,s1.heap.objs.size],Qg5 X pins H1 c:=fun c hc=>by
   have hc:c=s1.heap.objs.size+1∨c=s1.heap.objs.size:=by simpa using hc
   rcases hc with rfl | rfl
   ·exact I1.fpOk (Nat.le_succ _) (I1.hok.fresh (Nat.le_succ _))
   ·exact I1.fpOk (Nat.le_refl _) (I1.hok.fresh (Nat.le_refl _))
  rcases q with ⟨hq,q⟩ | ⟨hq,q⟩
  ·obtain ⟨its,rv,pl,hz⟩:=I1.list hq
   refine call_enumerate_list pl.isList fun h1 he hit hsz hk=>wpAny_pyIter_enum he ?_
   exact ⟨s1.heap.objs.size+1,[s1.heap.objs.size+1,s1.heap.objs.size],_,_,H1,rfl,I1.kept (t':=s1.toks) hk,Qwv b _ _ (Nat.succ_ne_self _),⟨⟨_,he⟩,hit⟩,fp,q⟩
  ·obtain ⟨its,rv,pl,hz⟩:=I1.tuple hq
   have hlt:b<s1.heap.objs.size:=let ⟨o,e,_⟩:=pl;Heap.lt_size e
   refine Qtc pl fun h1 he hit hsz hk=>wpAny_pyIter_enum he ?_
   exact ⟨s1.heap.objs.size+1,[s1.heap.objs.size+1,s1.heap.objs.size],_,_,H1,rfl,I1.kept (t':=s1.toks) hk,Qtd b _ _ (Nat.succ_ne_self _) (Nat.ne_of_gt (Nat.lt_succ_of_lt hlt)) (Nat.ne_of_lt hlt),⟨⟨_,he⟩,hit⟩,fp,q⟩
theorem Q3h {a:Expr} {ta:TA} {es:List Expr} {x1} {tp p pos:Pos} (K:PySem.W.Frag) (hK:X.K=K) (hm:X.mg "enumerate" = none) (hb:PySem.bootBuiltins "enumerate" = some (.type "enumerate")) (ha:QA X [a] ta) (hg:Gl X "enumerate" := by rfl) (hs:Q5 a=true:=by rfl) :
  QI X (.Tuple es x1 tp) (.Call (.Name "enumerate" p) [a] [] pos) (Qzt K ta):=⟨Qzu K hK hg hm hb ha.h (Qb2 hs)⟩
end
noncomputable def Qwx (K:PySem.W.Frag) (c0 C:Addr) (bmB:List Value) (newId:String) (f:Addr):Bool:=match K.lookup C with
 | some ⟨.type "type",_,.cls cl,ks⟩=>(match cl.mro,ks.toList with
  | .ref C1::.ref b0::tl,[_,_,_,_,some (.builtin n1),_]=>C1==C&&n1==newId&&b0==c0&&tl==bmB && !cl.hasDel&&cl.hasDict&&PySem.W.tailIn K bmB (.ref b0::tl)
  | _,_=>false)
 | _=>false
noncomputable def Qlv (K:PySem.W.Frag) (c0 C f:Addr):Bool:=Qwx K c0 C bmV "ValueError.__new__" f&&PySem.W.findIn K (.ref C) "__init__" == some (some (.ref f))&&PySem.W.findIn K (.ref C) "__setattr__" == some (some (.builtin "object.__setattr__"))&&PySem.W.findIn K (.ref C) "at" == some none&&PySem.W.mroIn K C (.type "object")==some true
theorem Quw {K:PySem.W.Frag} {h:Heap} {c0 C f:Addr} {bmB:List Value} {newId:String} (X:K.In h) (q:Qwx K c0 C bmB newId f=true) :
  ∃ N nm qn bs sn sub ab col dd k0 k1 k2 k3 k5,h.get? C=some (excClassObj nm qn C N bs (.ref c0::bmB) true sn sub ab col dd k0 k1 k2 k3 k5 newId)∧OwnTail h bmB (.ref c0::bmB):=by
 unfold Qwx at q
 split at q
 ·rename_i d0 cl ks look
  split at q
  ·rename_i C1 b0 tl a0 a1 a2 a3 n1 a5 eqm eqs
   simp only [Bool.and_eq_true,beq_iff_eq,Bool.not_eq_true'] at q
   obtain ⟨⟨⟨⟨⟨⟨rfl,rfl⟩,rfl⟩,rfl⟩,q1⟩,q2⟩,q3⟩:=q
   obtain ⟨nm,bs,mro,ns,qn,hd,sn,sub,ab,col,del⟩:=cl
   dsimp only at eqm q1 q2
   subst eqm q1 q2
   obtain ⟨kl⟩:=ks
   simp only at eqs
   subst eqs
   exact ⟨ns,nm,qn,bs,sn,sub,ab,col,d0,a0,a1,a2,a3,a5,X _ _ look,PySem.W.tail_of_in X q3⟩
  ·cases q
 ·cases q
section
variable {prog:Program} {w:World} {A:Around} {E:Value→Shared→Prop} {h:Heap} {g:Array GenState} {d:Drawn} {t:Nat} {os:OsState}
variable {nm q:Str} {C N c0:Addr} {bs bm bmB:List Value} {hd:Bool} {sn:List Str} {sub:List Value} {ab:Bool} {col:Option Bool} {dd:Option Addr} {k0 k1 k2 k3 k5:Option Value} {B nid iid:String}
noncomputable abbrev exH (h:Heap) (C:Addr) (us:List Value):Heap:=(h.push { cls:=.type "tuple",data:=.seq us.toArray }).push { cls:=.ref C,data:=.fields #[.ref h.objs.size,.none,.none,.none,.bool false,.none] }
theorem Qqt (h:Heap) (C:Addr) (us:List Value) (b:Addr) (o:Obj) (e:h.get? b=some o):(exH h C us).get? b=some o:=Heap.get?_push_of_some _ (Heap.get?_push_of_some _ e)
theorem Qux (h:Heap) (C:Addr) (us:List Value):(exH h C us).get? (h.objs.size+1)=some { cls:=.ref C,data:=.fields #[.ref h.objs.size,.none,.none,.none,.bool false,.none] }:=by heap_get
theorem Qwy (F:ExcBaseFacts B nid iid bmB) (T:OwnTail h bmB bm) {K:PySem.W.Frag} (X:K.In h) {us:List Value} {f:Addr} {of:Obj} {Q:Fin→Shared→Prop}
  (cC:h.get? C=some (excClassObj nm q C N bs bm hd sn sub ab col dd k0 k1 k2 k3 k5 nid)) (ini:PySem.W.findIn K (.ref C) "__init__" = some (some (.ref f))) (cf:h.get? f=some of) (tf:of.cls=.type "function")
  (run:wpAny (model prog w) A (call (.ref f) (.ref (h.objs.size+1)::us)) (fun r s'=>r=.none∧Q (.done (.ret (.ref (h.objs.size+1)))) s') E ⟨exH h C us,g,d,t,os⟩) (hz:us.length≤sizeLine) :
  wpAny (model prog w) A (Builtin.«type.__call__» ⟨.ref C::us,[]⟩) Q E ⟨h,g,d,t,os⟩:=by
 repeat (first | with_reducible refine wpAny_loadPart_at cC ?_ | with_reducible refine wpAny_madeBy_exc cC ?_ | wp_step)
 refine codeAny_call_builtin_code (Code.quiet_builtin _ F.quiet) (wpAny_check_new_subT F T cC ?_)
 refine codeAny_exc_new_subT F T cC ?_ hz
 show wpAny _ _ _ _ _ _
 have kp:=Qqt h C us
 have c1:=kp _ _ cC
 have X1:K.In (exH h C us):=X.keeps kp
 have f1:=kp _ _ cf
 have e1:=Qux h C us
 have hcC:(Value.ref C::bm).contains (.ref C)=true:=by simp
 unfold isInstance
 repeat (first | with_reducible refine wpAny_loadPart_at e1 ?_ | (with_reducible refine wpAny_isSubtype_exc c1 ?_;rw [hcC]) | wp_step)
 show wpAny _ _ (typeLookup (.ref C) _) _ _ _
 refine PySem.W.looks_findIn X1 ini _ _ _ _ (fun _ _ z=>z) ?_
 refine wpAny_holding (wpAny_bind ?_)
 unfold bindSpecial
 refine wpAny_bind (wpAny_typeOf (T := "function") ⟨_,f1,tf⟩ ?_)
 rw [if_pos (by decide)]
 refine wpAny_pure (wpAny_bind (wpAny_mono run (fun r s' hr=>?_) fun _ _ x=>x))
 obtain ⟨rfl,hQ⟩:=hr
 wp_walk
 exact hQ
theorem Qwz (F:ExcBaseFacts B nid iid bmB) (T:OwnTail h bmB bm) {K:PySem.W.Frag} (X:K.In h) {us:List Value} {f:Addr} {of:Obj} {Q:Value→Shared→Prop}
  (cC:h.get? C=some (excClassObj nm q C N bs bm hd sn sub ab col dd k0 k1 k2 k3 k5 nid)) (ini:PySem.W.findIn K (.ref C) "__init__" = some (some (.ref f))) (cf:h.get? f=some of) (tf:of.cls=.type "function")
  (run:wpAny (model prog w) (A.under (.builtin "type.__call__" ⟨.ref C::us,[]⟩)) (call (.ref f) (.ref (h.objs.size+1)::us)) (fun r s'=>r=.none∧Q (.ref (h.objs.size+1)) s') E ⟨exH h C us,g,d,t,os⟩) (hz:us.length≤sizeLine) :
  wpAny (model prog w) A (call (.ref C) us) Q E ⟨h,g,d,t,os⟩:=by
 have f1:=tc_lookup
 have f2:=tc_bind (.ref C)
 have hT:(⟨h,g,d,t,os⟩:Shared).TypeIs (.ref C) "type" := ⟨_,cC,rfl⟩
 refine wpAny_call (codeAny_of_tree ?_)
 show wpAny _ _ (callAny (.ref C) _) _ _ _
 repeat (any_goals (first | assumption | with_reducible refine wpAny_loadPart_at cC ?_ | wp_step))
 refine ⟨rfl,?_⟩
 exact codeAny_call_builtin_at (Code.quiet_builtin _ (by decide +kernel)) entry_typeCall (wpAny_check_type_call_sub cC (Qwy F T X cC ini cf tf run hz))
noncomputable def Q87 (h:Heap) (x:Addr):Heap:=(h.push { cls:=.type "dict",data:=.dict #[] }).update x fun o=>{ cls:=o.cls,dict:=some h.objs.size,data:=o.data,slots:=o.slots }
theorem Qqu {K:PySem.W.Frag} (X:K.In h) {x:Addr} {ox:Obj} {name:Str} {v:Value} {tk:Tok} {vs:Array Value} {Q:Fin→Shared→Prop}
  (cC:h.get? C=some (excClassObj nm q C N bs (.ref c0::bmV) true sn sub ab col dd k0 k1 k2 k3 k5 nid)) (hx:h.get? x=some ox) (hc:ox.cls=.ref C) (hdn:ox.dict=none) (hdt:ox.data=.fields vs) (fnd:PySem.W.findIn K (.ref C) name=some none)
  (hq:∀ h' tk',h'.get? x=some { cls:=ox.cls,dict:=some h.objs.size,data:=ox.data,slots:=ox.slots }→h'.Ns1 h.objs.size (fun y=>if y=name then some v else none)→(∀ b o,b≠x→h.get? b=some o→h'.get? b=some o)→Q (.done (.ret .none)) ⟨h',g,d,tk',os⟩) :
  wpAny (model prog w) A (Builtin.«object.__setattr__» ⟨[.ref x,.str name tk,v],[]⟩) Q E ⟨h,g,d,t,os⟩:=by
 have ok:refuseLoop (.ref x) "__setattr__" bmV=pure ():=F.store_ValueError.passes (.ref x)
 have L:=PySem.W.looks_findIn (M:=model prog w) X fnd
 unfold Builtin.«object.__setattr__»
 repeat (first | rw [refuse_eq] | (rw [refuseLoop_ref,refuseLoop_ref,ok]) | (with_reducible refine wpAny_loadPart_at hx ?_;rw [hc]) | with_reducible refine wpAny_mroOf_exc cC ?_ | with_reducible refine L.at ?_ | wp_step)
 rw [hdn,if_neg (by simp [typeHasDict])]
 split
 ·rename_i z
  cases z
 split
 ·rename_i c z
  rw [hdt] at z
  cases z
 have xs:x≠h.objs.size:=Nat.ne_of_lt (Heap.lt_size hx)
 have x1:(h.push { cls:=.type "dict",data:=.dict #[] }).get? x=some ox:=Heap.get?_push_of_some _ hx
 refine wpAny_bind (wpAny_alloc' (wpAny_bind (wpAny_update' x1 (wpAny_pure ?_))))
 have gd:(Q87 h x).get? h.objs.size=some { cls:=.type "dict",data:=.dict #[] }:=(Heap.get?_update_ne _ _ _ _ xs.symm).trans (Heap.get?_push_at rfl rfl)
 have gx:(Q87 h x).get? x=some { cls:=ox.cls,dict:=some h.objs.size,data:=ox.data,slots:=ox.slots }:=Heap.get?_update_self _ x1 (by
  obtain ⟨oc,od,odt,osl⟩:=ox
  dsimp only at hdt
  subst hdt
  rfl)
 show wpAny _ _ (Builtin.ObjectAttr.storeInDict h.objs.size (.str name tk) name v) _ _ ⟨Q87 h x,g,d,_,os⟩
 unfold Builtin.ObjectAttr.storeInDict Builtin.ObjectAttr.newKeyGuard
 refine wpAny_bind (wpAny_pure (wpAny_bind (wpAny_nsSet1 (Heap.Ns1.of_empty ⟨_,#[],_,gd,rfl,fun e he=>absurd he (by simp),fun _=>rfl⟩) fun h' hn' hs=>?_)))
 obtain ⟨oD,esD,epD,hoD,hdD,hcD⟩:=hn'.count (Within.cons name v Within.nil)
 refine wpAny_bind (wpAny_lookBehind hoD (by rw [hdD];exact pastItsLine_dict (Nat.le_trans hcD (by rw [List.length_cons,List.length_nil,sizeLine_eq];omega))) ?_)
 wp_walk
 exact hq h' _ ((hs.2 x xs).trans gx) hn' fun b o hb e=>(hs.2 b (Nat.ne_of_lt (Heap.lt_size e))).trans ((Heap.get?_update_ne _ _ _ _ hb).trans (Heap.get?_push_of_some _ e))
theorem Qw0 {K:PySem.W.Frag} (X:K.In h) {x:Addr} {ox:Obj} {name:Str} {v:Value} {vs:Array Value} {Q:Unit→Shared→Prop}
  (cC:h.get? C=some (excClassObj nm q C N bs (.ref c0::bmV) true sn sub ab col dd k0 k1 k2 k3 k5 nid)) (hx:h.get? x=some ox) (hc:ox.cls=.ref C) (hdn:ox.dict=none) (hdt:ox.data=.fields vs) (fnd:PySem.W.findIn K (.ref C) name=some none)
  (fsa:PySem.W.findIn K (.ref C) "__setattr__" = some (some (.builtin "object.__setattr__"))) (fmo:PySem.W.mroIn K C (.type "object")=some true)
  (hq:∀ h' tk',h'.get? x=some { cls:=ox.cls,dict:=some h.objs.size,data:=ox.data,slots:=ox.slots }→h'.Ns1 h.objs.size (fun y=>if y=name then some v else none)→(∀ b o,b≠x→h.get? b=some o→h'.get? b=some o)→Q () ⟨h',g,d,tk',os⟩) :
  wpAny (model prog w) A (setAttr (.ref x) name v) Q E ⟨h,g,d,t,os⟩:=by
 have f3:=F.store_ValueError.slot.bind (.ref x)
 have L1:=PySem.W.looks_findIn (M:=model prog w) X fsa
 have L2:=PySem.W.looks_mroIn (M:=model prog w) X fmo
 unfold setAttr callSpecial? specialOf
 repeat (any_goals (first | assumption | (with_reducible refine wpAny_loadPart_at hx ?_;rw [hc]) | with_reducible refine L1.at ?_ | wp_step))
 refine codeAny_call_builtin F.store_ValueError.slot.plain F.store_ValueError.entry ?_
 have chk:∀ (A:Around) (E:Value→Shared→Prop) (nv:Value) (t':Nat) (Q:Unit→Shared→Prop),Q () ⟨h,g,d,t',os⟩→wpAny (model prog w) A (checkBuiltinCall "object.__setattr__" ⟨[.ref x,nv,v],[]⟩) Q E ⟨h,g,d,t',os⟩:=fun A E nv t' Q hq=>by
  have ha:=F.store_ValueError.args (.ref x) nv v
  have k1:builtinKind "object.__setattr__" = some .slot:=F.store_ValueError.kind
  have k2:splitId "object.__setattr__" = some ("object","__setattr__"):=F.store_ValueError.split
  simp only [checkBuiltinCall,k1,k2]
  refine wpAny_bind ?_
  unfold isInstance
  repeat (first | (with_reducible refine wpAny_loadPart_at hx ?_;rw [hc]) | with_reducible refine L2.at ?_ | wp_step)
  exact hq
 refine chk _ _ _ _ _ (Qqu X cC hx hc hdn hdt fnd fun h' tk' a b c=>?_)
 repeat (any_goals (first | assumption | wp_step))
 exact hq h' tk' a b c
structure Ini (K:PySem.W.Frag) (c0 C:Addr):Prop where
 ex:∃ (f:Addr) (fd:FuncData) (qn:Str) (st:Stmt) (p1 p2 p3 p4:Pos),Qlv K c0 C f=true∧Fun K "__init__" qn st f fd∧(∃ od osl,K.lookup f=some ⟨.type "function",od,.func fd,osl⟩)∧FnScope ["self","at"] ["self","at"] (Qf st) ∧
  (Qf st).names.lookup ("self" : Str)=some .local∧(Qf st).names.lookup ("at" : Str)=some .local∧Binds K fd ["self","at"] []∧Qaa st=[.Assign [.Attribute (.Name "self" p1) "at" p2] (.Name "at" p3) p4]
end
section
variable {X:Cx} {pins:List (Addr×Obj)} {σ:St} {H:Hp} {s:Shared}
theorem Qzv {c0 C:Addr} (I:Inv X pins σ H s) (D:Ini X.K c0 C) {u:Value} {A:Around} {E:Value→Shared→Prop} {Q:Value→Shared→Prop} (hd:A.depth+5<recursionLimit)
  (hq:∀ (h':Heap) (tk:Nat) (e d:Addr),(∀ b o,s.heap.get? b=some o→h'.get? b=some o)→s.heap.objs.size≤e→s.heap.objs.size≤d→e≠d →
   h'.get? e=some { cls:=.ref C,dict:=some d,data:=.fields #[.ref s.heap.objs.size,.none,.none,.none,.bool false,.none] }→h'.Ns1 d (fun y=>if y = "at" then some u else none)→Q (.ref e) { s with heap:=h',toks:=tk }) :
  wpAny (model X.prog X.w) A (call (.ref C) [u]) Q E s:=by
 have KX:=I.kIn
 have lim0:=I.nolimit
 obtain ⟨hp,g,d,t,os⟩:=s
 obtain ⟨f,fd,qn,st,p1,p2,p3,p4,ok,Fu,⟨od',osl',lk'⟩,S,n1,n2,B,hb⟩:=D.ex
 unfold Qlv at ok
 simp only [Bool.and_eq_true,beq_iff_eq] at ok
 obtain ⟨⟨⟨⟨k1,k2⟩,k3⟩,k4⟩,k5⟩:=ok
 obtain ⟨N,nm,qn',bs,sn,sub,ab,col,dd,a0,a1,a2,a3,a5,cC,T⟩:=Quw KX k1
 obtain ⟨oc,od,kV,doc,pm,an,cdv,ct,osl,rfl,lk,hcd⟩:=Fu.ex
 refine Qwz F.excBase_ValueError T KX cC k2 (KX _ _ lk') rfl ?_ (by show 1≤sizeLine;decide)
 have kp:=Qqt hp C [u]
 have e1:=Qux hp C [u]
 have K1:X.K.In (exH hp C [u]):=KX.keeps kp
 have sz:(exH hp C [u]).objs.size=hp.objs.size+2:=by show ((hp.push _).push _).objs.size=_;rw [Heap.size_push,Heap.size_push]
 refine wpAny_call (codeAny_call_function ?_ (K1 _ _ lk') rfl S.co S.gen rfl (PySem.W.codeRec_of K1 hcd) (B ⟨exH hp C [u],g,d,t,os⟩ [.ref (hp.objs.size+1),u] K1 rfl _ _ _ _ ?_))
 ·show A.depth+1<_
  omega
 refine wpAny_newFunctionEnv_cells S.kind (fun y hy=>?_) fun env he s1 x=>?_
 ·rcases List.mem_cons.mp hy with rfl | hy
  ·exact .inl n1
  ·rcases List.mem_cons.mp hy with rfl | hy
   ·exact .inl n2
   ·cases hy
 subst he
 refine ⟨(lim0.keeps kp).keeps x.toInCall.keep,codeAny_func ?_⟩
 rw [show (PySem.W.fnOf "__init__" qn (Qbe st) (Qaa st) (Qf st) .none kV doc pm an cdv ct).scope=Qf st from rfl] at x ⊢
 obtain ⟨h1,tk1,rfl⟩:=x.toInCall.same
 have ns:=x.toInCall.ns
 have kp1:=x.toInCall.keep
 have ga:bindL (newEnv (Qf st) (exH hp C [u]).objs.size (PySem.W.fnOf "__init__" qn (Qbe st) (Qaa st) (Qf st) .none kV doc pm an cdv ct).globals (cellsFrom ((exH hp C [u]).objs.size+1) (Qf st).names []) ((PySem.W.fnOf "__init__" qn (Qbe st) (Qaa st) (Qf st) .none kV doc pm an cdv ct).qualname ++ ".<locals>.") (some f) (PySem.W.fnOf "__init__" qn (Qbe st) (Qaa st) (Qf st) .none kV doc pm an cdv ct).code none (PySem.W.fnOf "__init__" qn (Qbe st) (Qaa st) (Qf st) .none kV doc pm an cdv ct).builtins).kindOf ((["self","at"]:List Str).zip [.ref (hp.objs.size+1),u]) (fun _=>none) "at" = some u:=Qft (i:=1) S.nd rfl rfl n2
 have gs:bindL (newEnv (Qf st) (exH hp C [u]).objs.size (PySem.W.fnOf "__init__" qn (Qbe st) (Qaa st) (Qf st) .none kV doc pm an cdv ct).globals (cellsFrom ((exH hp C [u]).objs.size+1) (Qf st).names []) ((PySem.W.fnOf "__init__" qn (Qbe st) (Qaa st) (Qf st) .none kV doc pm an cdv ct).qualname ++ ".<locals>.") (some f) (PySem.W.fnOf "__init__" qn (Qbe st) (Qaa st) (Qf st) .none kV doc pm an cdv ct).code none (PySem.W.fnOf "__init__" qn (Qbe st) (Qaa st) (Qf st) .none kV doc pm an cdv ct).builtins).kindOf ((["self","at"]:List Str).zip [.ref (hp.objs.size+1),u]) (fun _=>none) "self" = some (.ref (hp.objs.size+1)):=Qft (i:=0) S.nd rfl rfl n1
 have sz1:hp.objs.size+2≤h1.objs.size:=by
  have z:=ns.lt
  have y:(exH hp C [u]).objs.size<h1.objs.size:=z
  omega
 rw [hb]
 refine wpAny_execs_cons (plainObj_wpAny_Assign_Attribute (wpAny_Name (wpAny_loadName_local (v:=u) S.kind n2 ns ga (wpAny_Name (wpAny_loadName_local (v:=.ref (hp.objs.size+1)) S.kind n1 ns gs ?_) rfl)) rfl))
 refine Qw0 (K1.keeps kp1) (kp1 _ _ (kp _ _ cC)) (kp1 _ _ e1) rfl rfl rfl k4 k3 k5 fun h2 tk2 gx nd kk=>wpAny_execs_nil ⟨rfl,?_⟩
 refine hq h2 tk2 (hp.objs.size+1) h1.objs.size (fun b o q=>kk b o (Nat.ne_of_lt (Nat.lt_succ_of_lt (Heap.lt_size q))) (kp1 _ _ (kp _ _ q))) (Nat.le_succ _) (by show hp.objs.size≤h1.objs.size;omega) (Nat.ne_of_lt (show hp.objs.size+1<h1.objs.size by omega)) gx nd
end
section
variable {M:Model} {A:Around} {E:Value→Shared→Prop} {env:Env} {nm q:Str} {C N:Addr} {bs bm:List Value} {hd:Bool} {sn:List Str} {sub:List Value} {ab:Bool} {col:Option Bool} {dd:Option Addr} {k0 k1 k2 k3 k5:Option Value} {nid:String}
theorem Qte {s:Shared} {x:Sem Value} {Q:Flow→Shared→Prop} (hb:bm.contains (.type "BaseException")=true) (hh:A.handled=none)
  (h:wpAny M A x (fun v s1=>∃ e od ta,v=.ref e∧s1.heap.get? C=some (excClassObj nm q C N bs bm hd sn sub ab col dd k0 k1 k2 k3 k5 nid)∧s1.heap.get? e=some { cls:=.ref C,dict:=od,data:=.fields #[.ref ta,.none,.none,.none,.bool false,.none] }∧E (.ref e) s1) E s) :
  wpAny M A (raiseStmt env (some x) none) Q E s:=by
 have hcB:(Value.ref C::bm).contains (.type "BaseException")=true:=by rw [List.contains_cons,hb,Bool.or_true]
 unfold raiseStmt
 refine wpAny_bind (wpAny_mono h (fun v s1 h1=>?_) fun _ _ x=>x)
 obtain ⟨e,od,ta,rfl,cC,he,hE⟩:=h1
 obtain ⟨hp,g,d,tk,os⟩:=s1
 repeat (first | with_reducible refine wpAny_loadPart_at he ?_ | with_reducible refine wpAny_loadPart_at cC ?_ | (with_reducible refine wpAny_isSubtype_exc cC ?_;rw [hcB]) | wp_step)
 exact wpAny_raiseNew_none hh hE
end
section
variable {X:Cx} {x:Str} {e:Expr} {t:TA} {pos cpos np:Pos} {R:XR} {c0 C:Addr} {k:Nat}
theorem Qzw (pz:Qe5 X R) (hc:X.calm=true) (D:Ini X.K c0 C) (hr:Room k X.A) (hm:X.mg x=some (.ref C)) (ha:QA X [e] t) (hg:Gl X x:=by rfl)
  (hdb:(x==("__debug__" : Str))=false:=by decide) (he:starEach [e] X.env=[(false,eval e X.env)]:=by rfl) :
  QS X (.Raise (some (.Call (.Name x np) [e] [] cpos)) none pos) (fun _ σ H=>t σ H fun vs H1=>∃ v,vs=[v]∧∀ d,H1 d=none→R (.ref C) (some d) σ (upd H1 d (.xd [("at",v)]))):=by
 refine ⟨fun pins s σ H D' I hw=>?_⟩
 have D0:=D
 obtain ⟨f,fd,qn,st,p1,p2,p3,p4,ok,Fu,_,S,n1,n2,B,hb⟩:=D.ex
 unfold Qlv at ok
 simp only [Bool.and_eq_true,beq_iff_eq] at ok
 obtain ⟨N,nm,qn',bs,sn,sub,ab,col,dd,a0,a1,a2,a3,a5,cC,T⟩:=Quw I.ok.mod.kin ok.1.1.1.1
 rw [arm_exec_Raise]
 refine wpAny_bind (wpAny_standAt (Qte (C:=C) (nm:=nm) (q:=qn') (N:=N) (bs:=bs) (bm:=.ref c0::bmV) (hd:=true) (sn:=sn) (sub:=sub) (ab:=ab) (col:=col) (dd:=dd) (k0:=a0) (k1:=a1) (k2:=a2) (k3:=a3) (k5:=a5) (nid := "ValueError.__new__") (T.hasType F.excBase_ValueError.hasBase) (I.ok.hd hc) ?_))
 refine wpAny_bind (wpAny_mono (wpAny_Call_ofName (Qf4 I hg hm ?_ hdb)) (fun v s3 h3=>wpAny_bind (wpAny_standAt (wpAny_pure h3))) fun _ _ x=>x)
 unfold callWith
 have h2:=ha.h cpos pins s σ H _ I hw
 rw [he] at h2 ⊢
 refine wpAny_bind (wpAny_holding (Calls.evalArgs_plain (wpAny_mono h2 (fun us s2 h=>wpAny_bind (wpAny_standAt ?_)) fun _ _ y=>y)))
 obtain ⟨vs,H1,I1,r,v,rfl,q⟩:=h
 obtain ⟨u,rfl,ru⟩:=r.one
 have c2:=I1.bk _ _ cC
 have hpl:(backTo cpos [(false,eval e X.env)]).any (·.1)=false:=rfl
 simp only [hpl]
 have dp:=hr.dp
 have s2k:∀ b,s2.heap.objs.size≤b→H1 b=none:=fun b hb=>I1.hok.fresh hb
 have fin:∀ (h':Heap) (tk:Nat) (ea d:Addr),(∀ b o,s2.heap.get? b=some o→h'.get? b=some o)→s2.heap.objs.size≤ea→s2.heap.objs.size≤d→ea≠d →
   h'.get? ea=some { cls:=.ref C,dict:=some d,data:=.fields #[.ref s2.heap.objs.size,.none,.none,.none,.bool false,.none] }→h'.Ns1 d (fun y=>if y = "at" then some u else none)→X.xe (.ref ea) { s2 with heap:=h',toks:=tk }:=fun h' tk ea d kp le ld ne ge nd=>by
  have new:ObjOk X.prog X.w (upd H1 d (.xd [("at",v)])) h' d (.xd [("at",v)]):=⟨_,nd,fun y=>?_⟩
  refine pz pins σ H1 s2 (.ref ea) { s2 with heap:=h',toks:=tk } I1 ⟨ea,.ref C,some d,upd H1 d (.xd [("at",v)]),rfl,rfl,I1.bare,Un.laid kp ld (s2k d ld),I1.hok.laid kp ld new,⟨Heap.get?_none_of_le le,by rw [Q2 ne];exact s2k ea le,_,_,ge,rfl,rfl,rfl,by simp,.inl rfl⟩,q d (s2k d ld)⟩
  by_cases hy:y = "at"
  ·subst hy
   simp only [List.lookup,if_pos]
   exact ru
  ·have:(y==("at" : Str))=false:=by simpa using hy
   simp only [List.lookup,this,if_neg hy]
   trivial
 obtain ⟨hp,g,d,tk,os⟩:=s2
 refine wpAny_bind (wpAny_keeperOf_exc c2 ?_)
 refine wpAny_bind (Qzv I1 D0 (by omega) fun h' tk' ea d' kp le ld ne ge nd=>wpAny_bind (wpAny_holding (wpAny_point (wpAny_pure ?_))))
 exact ⟨ea,some d',_,rfl,kp _ _ c2,ge,fin h' tk' ea d' kp le ld ne ge nd⟩
end
theorem Qzx {h:Heap} {d:Addr} {mA:Str→Option Value} {name:Str} {v:Value} (n:h.Ns1 d mA) (e:mA name=some v):∃ od,h.get? d=some od∧PySem.W.lookIn name od=some (some v):=by
 obtain ⟨o,es,ep,ho,hd,hk,hu,hf⟩:=n
 refine ⟨o,ho,?_⟩
 unfold PySem.W.lookIn
 rw [hd]
 have hf:=hf name
 unfold nsFind findBy at hf
 rw [e,←Array.find?_toList] at hf
 cases z:es.toList.find? (fun x=>x.key.isStr name) with
 | none=>rw [z] at hf;cases hf
 | some x =>
  rw [z] at hf
  have:x.val=v:=Option.some.inj hf
  rw [←this]
  show (match es.toList.find? (fun x=>x.key.isStr name) with
   | some e=>some (some e.val)
   | none=>if es.toList.any (·.refKey) then none else some none)=_
  rw [z]
theorem Qzy {K:PySem.W.Frag} {c0 C f:Addr} {bmB:List Value} {newId:String} (q:Qwx K c0 C bmB newId f=true):∃ cd,PySem.W.clsIn K C=some cd∧cd.hasDict=true:=by
 unfold Qwx at q
 split at q
 ·rename_i d0 cl ks look
  split at q
  ·simp only [Bool.and_eq_true,beq_iff_eq,Bool.not_eq_true'] at q
   exact ⟨cl,by unfold PySem.W.clsIn;rw [look],q.1.2⟩
  ·cases q
 ·cases q
noncomputable def Q6a (K:PySem.W.Frag) (f:Str):V→Hp→VK→Prop:=fun x H Q=>∃ a C d fs v,x=.ref a∧H a=some (Qo4 a (.ref C) (some d))∧H d=some (.xd fs)∧fs.lookup f=some v∧(∃ i,v=.int i)∧(∃ c0,Ini K c0 C)∧Qqp K C=true∧Q v H
section
variable {X:Cx} {e:Expr} {te:TE} {pos:Pos}
noncomputable abbrev Qzz (K:PySem.W.Frag) (f:Str) (te:TE):TE:=fun σ H Q=>te σ H fun x H1=>Q6a K f x H1 Q
theorem Qz0 (K:PySem.W.Frag) (hK:X.K=K) (he:QE X e te) (hb:attributeBase e "at" X.env (eval e X.env)=eval e X.env:=by rfl):QE X (.Attribute e "at" pos) (Qzz K "at" te):=by
 subst hK
 refine ⟨fun pins s σ H Q I hq=>?_⟩
 refine Q2h hb (thn (he.h pins s σ H _ I hq) fun u s1 ⟨x,H1,I1,r1,q1⟩=>?_)
 obtain ⟨a,C,d,fs,v,rfl,ha,hd,hl,⟨iv,rfl⟩,⟨c0,D⟩,hx,q⟩:=q1
 cases r1
 obtain ⟨f,fd,qn,st,p1,p2,p3,p4,ok,_⟩:=D.ex
 unfold Qlv at ok
 simp only [Bool.and_eq_true,beq_iff_eq] at ok
 obtain ⟨⟨⟨⟨k1,_⟩,_⟩,k4⟩,k5⟩:=ok
 obtain ⟨⟨o,vs,ho,h1,h2,h3⟩,_⟩:=(show ObjOk X.prog X.w H1 s1.heap a (Qo4 a (.ref C) (some d)) from I1.hok a _ ha)
 obtain ⟨mA,nA,rel⟩:=(show ObjOk X.prog X.w H1 s1.heap d (.xd fs) from I1.hok d _ hd)
 have rl:=rel "at"
 rw [hl] at rl
 cases em:mA "at" with
 | none=>rw [em] at rl;cases rl
 | some u =>
  rw [em] at rl
  obtain ⟨tu,rfl⟩:=(show RelV (.int iv) u from rl)
  obtain ⟨od,hod,look⟩:=Qzx nA em
  have IA:PySem.W.InstAt s1.heap a o C (some od):=⟨ho,h1,by unfold PySem.W.notCls;rw [h3],by rw [h2];exact hod⟩
  unfold Qqp at hx
  simp only [Bool.and_eq_true,beq_iff_eq] at hx
  obtain ⟨⟨⟨⟨⟨⟨⟨x1,x7⟩,x8⟩,x2⟩,x3⟩,x4⟩,x5⟩,x6⟩:=hx
  obtain ⟨cd,hcd,hdi⟩:=Qzy k1
  have hf:PySem.W.findObj X.K C (some od) "at" = some (.value (.int iv tu)):=by
   unfold PySem.W.findObj
   rw [hcd,Option.bind_some,k4,Option.bind_some]
   simp only [Option.bind_some]
   unfold PySem.W.ownOf
   rw [if_pos hdi]
   simp only [look,Option.bind_some]
  unfold getAttr
  refine wpAny_bind (wpAny_mkText (Qqo (s:={ s1 with toks:=s1.toks+1 }) I1.kIn IA x1 x7 x8 (r:=.int iv tu) (fun A E R hr=>?_) rfl ⟨.int iv,H1,I1.tok _,⟨tu,rfl⟩,q⟩))
  have L0:=IA.type (M:=model X.prog X.w)
  have L1:=PySem.W.looks_find (M:=model X.prog X.w) I1.kIn IA hf
  obtain ⟨hp,g,d',t',os⟩:=s1
  unfold Builtin.«object.__getattribute__»
  repeat (first | with_reducible refine L0.at ?_ | with_reducible refine L1.at ?_ | wp_step)
  exact ⟨_,rfl,hr⟩
end
theorem Q88 {K:PySem.W.Frag} {mg:Str→Option Value} {h:Heap} {x qn:Str} {c0 c1 f:Addr} {oc:Value} {od fod an:Option Addr} {cd:ClassData} {sl osl:Array (Option Value)} {kV doc pm cdv ct:Value} {st:Stmt} {p1 p2 p3 p4:Pos}
  (X:K.In h) (G:h.Ns mainGlobals mg) (e0:PySem.W.nsIn K mainGlobals "NoughtError" = some (some (.ref c0))) (e1:PySem.W.nsIn K mainGlobals x=some (some (.ref c1))) (lc:K.lookup c1=some ⟨oc,od,.cls cd,sl⟩) (fi:PySem.W.nsIn K cd.ns "__init__" = some (some (.ref f)))
  (l:K.lookup f=some ⟨.type "function",fod,.func (PySem.W.fnOf "__init__" qn (Qbe st) (Qaa st) (Qf st) .none kV doc pm an cdv ct),osl⟩) (c:PySem.W.codeIn K cdv qn=true) (k:PySem.W.keepIn K (.ref f)=true)
  (S:FnScope ["self","at"] ["self","at"] (Qf st)) (n1:(Qf st).names.lookup ("self" : Str)=some .local) (n2:(Qf st).names.lookup ("at" : Str)=some .local)
  (b:∀ (kV doc pm:Value) (an:Option Addr) (cdv ct:Value) (us:List Value),us.length=2→bindArgs (PySem.W.fnOf "__init__" qn (Qbe st) (Qaa st) (Qf st) .none kV doc pm an cdv ct) ⟨us,[]⟩=pure ((["self","at"]:List Str).zip us))
  (hb:Qaa st=[.Assign [.Attribute (.Name "self" p1) "at" p2] (.Name "at" p3) p4]) (ok:Qlv K c0 c1 f=true):Ini K (cad mg "NoughtError") (cad mg x):=by
 rw [Qbm (PySem.W.mg_of X G e0),Qbm (PySem.W.mg_of X G e1)]
 have Fu:=Qyq l c k
 exact ⟨⟨f,_,qn,st,p1,p2,p3,p4,ok,Fu,⟨fod,osl,l⟩,S,n1,n2,Fu.binds b,hb⟩⟩
section
variable {prog:Program} {w:World} {A:Around} {E:Value→Shared→Prop} {h:Heap} {g:Array GenState} {d:Drawn} {t:Nat} {os:OsState}
variable {nm q:Str} {C N c0:Addr} {bs bm bmB:List Value} {hd:Bool} {sn:List Str} {sub:List Value} {ab:Bool} {col:Option Bool} {dd:Option Addr} {k0 k1 k2 k3 k5:Option Value} {B nid iid:String}
noncomputable def Q3i (K:PySem.W.Frag) (c0 C f:Addr):Bool:=Qwx K c0 C bmV "ValueError.__new__" f&&PySem.W.findIn K (.ref C) "__init__" == some (some (.ref f))&&PySem.W.findIn K (.ref C) "__setattr__" == some (some (.builtin "object.__setattr__"))&&PySem.W.findIn K (.ref C) "many" == some none&&PySem.W.findIn K (.ref C) "most" == some none&&PySem.W.mroIn K C (.type "object")==some true
structure Ini2 (K:PySem.W.Frag) (c0 C:Addr):Prop where
 ex:∃ (f:Addr) (fd:FuncData) (qn:Str) (st:Stmt) (p1 p2 p3 p4 q1 q2 q3 q4:Pos),Q3i K c0 C f=true∧Fun K "__init__" qn st f fd∧(∃ od osl,K.lookup f=some ⟨.type "function",od,.func fd,osl⟩)∧FnScope ["self","many","most"] ["self","many","most"] (Qf st) ∧
  (Qf st).names.lookup ("self" : Str)=some .local∧(Qf st).names.lookup ("many" : Str)=some .local∧(Qf st).names.lookup ("most" : Str)=some .local∧Binds K fd ["self","many","most"] [] ∧
  Qaa st=[.Assign [.Attribute (.Name "self" p1) "many" p2] (.Name "many" p3) p4,.Assign [.Attribute (.Name "self" q1) "most" q2] (.Name "most" q3) q4]
end
section
variable {X:Cx} {pins:List (Addr×Obj)} {σ:St} {H:Hp} {s:Shared}
end
section
variable {X:Cx} {x:Str} {e e2:Expr} {t:TA} {pos cpos np:Pos} {R:XR} {c0 C:Addr} {k:Nat}
end
section
variable {X:Cx} {e:Expr} {te:TE} {pos:Pos}
end
section
variable {X:Cx}
noncomputable def isI (n:Int) (v:Value):Bool:=match v with
 | .int m _=>m==n
 | _=>false
end
theorem Qtf {X:Cx} {tg elt iter:Expr} {ifs:List Expr} {scope:Scope} {pos ppos:Pos} {N:List Str} {js:List (Option Nat)} {wi:TI} {g:TG} {tc:TT} {te:TE} {use:Option (Value→Sem Unit)} {R:Value→Shared→Prop} (hcalm:X.calm=true)
  (hi:PI X tg iter wi) (hg:∀ s H fp,PG (Q9 X scope N s H fp) tg g) (hc:∀ s H fp,PTs (Q9 X scope N s H fp) ifs tc) (he:∀ s H fp,PE (Q9 X scope N s H fp) elt te)
  (hk:scope.kind=.function) (h1:scOk X scope=true) (h2:Qi2 X scope N js=true) (hs:∀ x,foldedSetIterable iter X.env x=pure x) {pins:List (Addr×Obj)} {s:Shared} {σ:St} {H:Hp} {Q:VK} (I:Inv X pins σ H s) (h:Qqe wi js g tc te σ H Q)
  (fin0:∀ (l C:Addr) (H':Hp) (s':Shared),(∃ m,s'.heap.Ns C m)→(∀ h',Heap.SameBut C s'.heap h'→Inv X pins σ H' { s' with heap:=h' })→Qg5 X pins H' C→Q (.ref l) H'→compPost (model X.prog X.w) X.A X.xe use R (.ref l) C (.ok .next) s') :
  wpAny (model X.prog X.w) X.A (comprehension (.ListComp elt [⟨tg,iter,ifs,0⟩] scope pos) scope X.env ppos (newList []) false (firstIter [⟨tg,iter,ifs,0⟩] X.env) use) R X.xe s:=by
 refine wpAny_comprehension_free (use:=use) rfl hs (Qlo (scOk.cells I h1)) hk (fun x hx hl=>by rw [(scOk.get h1 hx).2,hl]) ?_
 refine thn (hi pins s σ H _ I h) fun v s1 h1'=>thn h1' fun itv s2 h2'=>?_
 obtain ⟨it,fp,tn,J,H2,e,I2,T,st2,f2,q⟩:=h2'
 subst e
 refine wpAny_newObj_type ?_
 have hl:H2 s2.heap.objs.size=none:=I2.hok.fresh (Nat.le_refl _)
 obtain ⟨W,⟨m0,w0⟩,turn⟩:=q _ hl
 have I3:Inv X pins σ (upd H2 s2.heap.objs.size (.lst [])) { s2 with heap:=s2.heap.push { cls:=.type "list",data:=.seq ([]:List Value).toArray } }:=I2.lnew (t':=s2.toks) (ys:=[]) .nil (Nat.zero_le _)
 generalize hs3:({ s2 with heap:=s2.heap.push { cls:=.type "list",data:=.seq ([]:List Value).toArray } }:Shared)=s3 at I3
 generalize hH3:upd H2 s2.heap.objs.size (.lst [])=H3 at I3 w0
 generalize hl':s2.heap.objs.size=l at turn hH3 hl
 have kp3:∀ b o,s2.heap.get? b=some o→s3.heap.get? b=some o:=fun b o e=>by rw [←hs3];exact Heap.get?_push_of_some _ e
 have ob3:∀ b∈fp,∃ o,s3.heap.get? b=some o∧∀ v,o.data≠.cell v:=fun b hb=>by
  obtain ⟨o,e,d⟩:=T.obj _ _ st2 b hb
  exact ⟨o,kp3 b o e,d⟩
 have f3:∀ b∈fp,Qg5 X pins H3 b:=fun b hb=>by
  obtain ⟨o,e,d⟩:=T.obj _ _ st2 b hb
  refine ⟨?_,(f2 b hb).2⟩
  rw [←hH3,Q2 (Nat.ne_of_lt (by rw [←hl'];exact Heap.lt_size e))]
  exact (f2 b hb).1
 refine Qkp ?_
 have I4:=Qqd (N:=N) (js:=js) I3 hk h1 h2 f3 ob3
 have st4:tn 0 (pushCells (s3.heap.push { cls:=.type "dict",data:=.dict #[] }) scope.names):=T.keep _ _ _ st2 fun b hb o e=>pushCells_keeps _ _ _ _ (Heap.get?_push_of_some _ (kp3 b o e))
 have fr4:∀ b∈fp,H3 b=none:=fun b hb=>(f3 b hb).1
 have fpX:∀ {H':Hp},(∀ b∈fp,H' b=none)→∀ b∈fp,Qg5 (Q9 X scope N s3 H3 fp) [] H' b:=fun hn b hb=>by
  have ok:=I4.ok
  refine ⟨hn b hb,(ok.exf b hb).1,ok.exfs b hb,.inl hb,(ok.exf b hb).2,fun p hp=>absurd (show p∈([]:List (Addr×Obj)) from hp) (by simp)⟩
 -- the block's end
 have fin:∀ {σ':St} {H':Hp} {s':Shared},Inv (Q9 X scope N s3 H3 fp) [] σ' H' s'→Q (.ref l) H'→compPost (model X.prog X.w) X.A X.xe use R (.ref l) s3.heap.objs.size (.ok .next) s':=fun {σ' H' s'} I' q'=>by
  obtain ⟨m,hn,_⟩:=id I'.loc
  have hfr:H' s3.heap.objs.size=none:=I'.free
  refine fin0 l _ H' s' ⟨m,hn⟩ (fun h' hsb=>?_) (I3.fpOk (Nat.le_refl _) hfr) q'
  refine I3.call' (s':={ s' with heap:=h' }) (ch:=fp) I'.os ⟨fun b o e n hb hx=>?_,fun b o e n hb hx=>?_,I'.base.free,fun b o e hx=>?_,I'.base.tups,I'.base.frzs,I'.base.tbls⟩ (fun b u e=>?_) I'.bare (fun b hb=>⟨(f3 b hb).2.2.2.1,(f3 b hb).2.1,(f3 b hb).2.2.2.2.1,(f3 b hb).2.2.2.2.2⟩)
  ·exact (hsb.2 b (Nat.ne_of_lt (Heap.lt_size e))).trans (I'.base.keep b o e n hb hx)
  ·obtain ⟨sl,z⟩:=I'.base.slot b o e n hb hx
   exact ⟨sl,(hsb.2 b (Nat.ne_of_lt (Heap.lt_size e))).trans z⟩
  ·obtain ⟨o',z⟩:=I'.base.there b o e hx
   exact ⟨o',(hsb.2 b (Nat.ne_of_lt (Heap.lt_size e))).trans z⟩
  ·refine (I'.hok b u e).stay (fun c w' hc z=>(hsb.2 c ?_).trans z) (fun _ z=>z) fun _ _ z=>z
   rintro rfl
   rcases hc with rfl | hc
   ·rw [hfr] at e;cases e
   ·rw [hfr] at hc;cases hc
 have loop:codeAny (model X.prog X.w) X.A (.compLoop (.ListComp elt [⟨tg,iter,ifs,0⟩] scope pos) 0 (.ref it) (.ref l) (Q9 X scope N s3 H3 fp).env) (compPost (model X.prog X.w) X.A X.xe use R (.ref l) s3.heap.objs.size)
   { s3 with heap:=pushCells (s3.heap.push { cls:=.type "dict",data:=.dict #[] }) scope.names }:=by
  refine Qi1 (fun n s'=>∃ i ys σ' H',Inv (Q9 X scope N s3 H3 fp) [] σ' H' s'∧tn i s'.heap∧(∀ b∈fp,H' b=none)∧W i n ys σ' H') ?_ m0 ⟨0,[],Qfu js σ,H3,I4,st4,fr4,w0⟩
  rintro n s5 ⟨i,ys,σ5,H5,I5,st5,fr5,w5⟩
  rcases turn i n ys σ5 H5 w5 with ⟨stop,qn⟩ | ⟨go,step⟩
  ·refine thn (T.done (Q9 X scope N s3 H3 fp) rfl rfl rfl hcalm i [] s5 σ5 H5 _ I5 (fpX fr5) st5 stop) fun r s6 ⟨hr,I6⟩=>?_
   subst hr
   exact fin I6 qn
  ·refine thn (T.item (Q9 X scope N s3 H3 fp) rfl rfl rfl hcalm i [] s5 σ5 H5 _ I5 (fpX fr5) st5 go) fun r s6 ⟨u,hr,h6⟩=>?_
   subst hr
   refine thn h6 fun _ s7 ⟨x,H7,I7,r7,y7,st7,fr7⟩=>?_
   have I7':=I7.pinned (fpX fr7) (T.obj _ _ st7)
   have again:∀ {σ8:St} {H8:Hp} {s8:Shared} {ys8:List V},Inv (Q9 X scope N s3 H3 fp) ([]++Qjs fp s7.heap) σ8 H8 s8→(∃ m',m'<n∧W (i+1) m' ys8 σ8 H8) →
     ∃ m,m<n∧∃ i ys σ' H',Inv (Q9 X scope N s3 H3 fp) [] σ' H' s8∧tn i s8.heap∧(∀ b∈fp,H' b=none)∧W i m ys σ' H':=fun {σ8 H8 s8 ys8} I8 ⟨m',hm,w8⟩=>by
    refine ⟨m',hm,i+1,ys8,σ8,H8,I8.unpinned,T.keep _ _ _ st7 fun b hb o e=>(I8.pin (b,o) (List.mem_append_right _ (List.mem_append_right _ (Qc1 hb e)))).1,fun b hb=>?_,w8⟩
    obtain ⟨o,e,d⟩:=T.obj _ _ st7 b hb
    exact (I8.pin (b,o) (List.mem_append_right _ (List.mem_append_right _ (Qc1 hb e)))).2.1
   refine thn (hg s3 H3 fp _ s7 σ5 H7 x u _ I7' r7 (step x H7 y7)) fun _ s8 ⟨σ8,H8,I8,q8⟩=>?_
   refine thn (hc s3 H3 fp _ s8 σ8 H8 _ I8 q8) fun ok s9 ⟨H9,I9,q9⟩=>?_
   cases ok with
   | false =>
    rw [if_neg Bool.false_ne_true] at q9 ⊢
    exact again I9 q9
   | true =>
    rw [if_pos rfl] at q9 ⊢
    refine thn (he s3 H3 fp _ s9 σ8 H9 _ I9 q9) fun y s10 ⟨vy,H10,I10,r10,a10,z10,q10⟩=>?_
    refine thn (Qjw (X:=Q9 X scope N s3 H3 fp) _ s10 σ8 H10 (.ref l) [vy] (.ref l) [y] (fun _ H'=>∃ m',m'<n∧W (i+1) m' (ys++[vy]) σ8 H') I10 rfl (.cons r10 .nil) ⟨l,ys,vy,rfl,rfl,a10,z10,q10⟩) fun _ s11 ⟨_,H11,I11,_,q11⟩=>?_
    exact again I11 q11
 first
  | exact codeAny_compStart_list loop (T.self _ 0 _ _ _ st4 loop)
  | (rw [← hs3] at loop st4
     exact codeAny_compStart_list loop (T.self _ 0 _ _ _ st4 loop))
theorem Qtg {X:Cx} {tgE tg elt iter:Expr} {ifs:List Expr} {scope:Scope} {pos cpos:Pos} {N:List Str} {js:List (Option Nat)} {wi:TI} {g g2:TG} {tc:TT} {te:TE} (hcalm:X.calm=true)
  (hi:PI X tg iter wi) (hg:∀ s H fp,PG (Q9 X scope N s H fp) tg g) (hc:∀ s H fp,PTs (Q9 X scope N s H fp) ifs tc) (he:∀ s H fp,PE (Q9 X scope N s H fp) elt te) (h2g:PG X tgE g2)
  (hk:scope.kind=.function) (h1:scOk X scope=true) (h2:Qi2 X scope N js=true) (hs:∀ x,foldedSetIterable iter X.env x=pure x)
  (hsw:swapsWithSole [tgE] (.ListComp elt [⟨tg,iter,ifs,0⟩] scope cpos) pos.line X.env=pure true) (ha:(assignEach [tgE] X.env).map (·.2)=[assign tgE X.env]) :
  PS X (.Assign [tgE] (.ListComp elt [⟨tg,iter,ifs,0⟩] scope cpos) pos) (Qm4 (Qqe wi js g tc te) g2):=by
 intro pins s σ H D I h
 rw [arm_exec_Assign]
 refine wpAny_bind (wpAny_standAt ?_)
 rw [hsw]
 refine wpAny_bind (wpAny_pure ?_)
 rw [if_pos rfl]
 refine wpAny_bind ?_
 rw [arm_evalThenUse_ListComp,ha]
 refine wpAny_bind (Qtf (use:=some fun v=>assignAll v [assign tgE X.env]) hcalm hi hg hc he hk h1 h2 hs I h fun l C H' s' hns hInv fpC q=>?_)
 obtain ⟨m,o,es,ep,ho,hd,r⟩:=hns
 have J0:Inv X pins σ H' s':=hInv s'.heap (Heap.SameBut.refl ..)
 have J1:=J0.pinned (fp:=[C]) (fun b hb=>by rw [List.mem_singleton.mp hb];exact fpC) (fun b hb=>by
  rw [List.mem_singleton.mp hb]
  exact ⟨o,ho,fun v z=>by rw [hd] at z;cases z⟩)
 show wpAny _ _ (assign tgE X.env (.ref l)) _ _ _
 refine thn (h2g _ s' σ H' (.ref l) (.ref l) D.nx J1 rfl q) fun _ s2 ⟨σ2,H2,I2,q2⟩=>?_
 have hp:=I2.pin (C,o) (List.mem_append_right _ (List.mem_append_right _ (Qc1 (List.mem_singleton.mpr rfl) ho)))
 refine ⟨m,⟨o,es,ep,hp.1,hd,r⟩,fun h' hsb=>?_⟩
 have I3:=I2.unpinned.turnedL (h':=h') (t':=s2.toks) (fp:=[C]) (fun b o' hb e=>by
  rw [hsb.2 b (fun z=>hb (by rw [z];exact List.mem_singleton.mpr rfl))]
  exact e) (fun b hb=>by
  rw [List.mem_singleton.mp hb]
  exact ⟨hp.2.1,fpC.2⟩)
 exact wpAny_pure (wpAny_pure ⟨σ2,H2,I3,q2⟩)
noncomputable def keyD:Key→PyData
 | .inl i=>.int i
 | .inr x=>.str x
mutual
noncomputable def pyD:T→PyData
 | .non=>.none
 | .bl b=>.bool b
 | .int i=>.int i
 | .str x=>.str x
 | .tup ts=>.tuple (Qm7 ts)
 | .lst ts=>.list (Qm7 ts)
 | .dct ks ts=>.dict ((ks.map keyD).zip (Qm7 ts))
 | .dtt _ _=>.none
 | .clo _ _=>.none
noncomputable def Qm7:List T→List PyData
 | []=>[]
 | t::ts=>pyD t::Qm7 ts
end
mutual
noncomputable def Qe6:T→Bool
 | .tup ts=>Qlw ts
 | .lst ts=>Qlw ts
 | .dct _ _=>false
 | .clo _ _=>false
 | .dtt _ _=>false
 | _=>true
noncomputable def Qlw:List T→Bool
 | []=>true
 | t::ts=>Qe6 t&&Qlw ts
end
mutual
theorem Qqv:∀ t:T,Qe6 t=true→(pyD t).hasDict=false
 | .non,_=>by simp only [pyD,PyData.hasDict]
 | .bl _,_=>by simp only [pyD,PyData.hasDict]
 | .int _,_=>by simp only [pyD,PyData.hasDict]
 | .str _,_=>by simp only [pyD,PyData.hasDict]
 | .tup ts,h=>by simp only [pyD,PyData.hasDict];exact Qf7 ts (by simpa only [Qe6] using h)
 | .lst ts,h=>by simp only [pyD,PyData.hasDict];exact Qf7 ts (by simpa only [Qe6] using h)
 | .dct _ _,h=>by simp only [Qe6] at h;cases h
 | .clo _ _,h=>by simp only [Qe6] at h;cases h
 | .dtt _ _,h=>by simp only [Qe6] at h;cases h
theorem Qf7:∀ ts:List T,Qlw ts=true→PyData.hasDictAll (Qm7 ts)=false
 | [],_=>by simp only [Qm7,PyData.hasDictAll]
 | t::ts,h=>by
  simp only [Qlw,Bool.and_eq_true] at h
  simp only [Qm7,PyData.hasDictAll,Qqv t h.1,Qf7 ts h.2,Bool.or_false]
end
section
variable {P:Program} {w:World} {H:Hp} {h:Heap}
mutual
theorem Qz1 (ok:HOk P w H h):∀ (t:T) {v:V} {u:Value},Qe6 t=true→Is H v t→RelV v u→∃ as,Reads h u (pyD t) as
 | .non,v,u,_,i,r=>by unfold Is at i;subst i;cases r;exact ⟨_,by unfold pyD;exact .none⟩
 | .bl b,v,u,_,i,r=>by unfold Is at i;subst i;cases r;exact ⟨_,by unfold pyD;exact .bool b⟩
 | .int n,v,u,_,i,r=>by unfold Is at i;subst i;obtain ⟨t,rfl⟩:=r;exact ⟨_,by unfold pyD;exact .int n t⟩
 | .str x,v,u,_,i,r=>by unfold Is at i;subst i;obtain ⟨t,rfl⟩:=r;exact ⟨_,by unfold pyD;exact .str x t⟩
 | .tup ts,v,u,f,i,r=>by
  obtain ⟨a,vs,rfl,ha,q⟩:=i.tup_inv
  cases r
  obtain ⟨_,its,rv,o,e,c,n,d,_⟩:=(show ObjOk P w H h a (.tup vs) from ok a _ ha)
  obtain ⟨as,R⟩:=Qj0 ok ts (by simpa only [Qe6] using f) q rv
  exact ⟨as,by unfold pyD;exact .tuple e c d (by simpa using R)⟩
 | .lst ts,v,u,f,i,r=>by
  obtain ⟨a,vs,rfl,ha,q⟩:=i.lst_inv
  cases r
  obtain ⟨_,its,n,rv,e⟩:=(show ObjOk P w H h a (.lst vs) from ok a _ ha)
  obtain ⟨as,R⟩:=Qj0 ok ts (by simpa only [Qe6] using f) q rv
  exact ⟨a::as,by unfold pyD;exact .list e rfl rfl (by simpa using R)⟩
 | .dct _ _,v,u,f,i,r=>by simp only [Qe6] at f;cases f
 | .clo _ _,v,u,f,i,r=>by simp only [Qe6] at f;cases f
 | .dtt _ _,v,u,f,i,r=>by simp only [Qe6] at f;cases f
theorem Qj0 (ok:HOk P w H h):∀ (ts:List T) {vs:List V} {us:List Value},Qlw ts=true→IsL H vs ts→Vals vs us→∃ as,ReadsAll h us (Qm7 ts) as
 | [],vs,us,_,i,r=>by
  rw [i.nil_inv] at r
  cases r
  exact ⟨_,by unfold Qm7;exact .nil⟩
 | t::ts,vs,us,f,i,r=>by
  obtain ⟨v,w',rfl,iv,iw⟩:=i.cons_inv
  simp only [Qlw,Bool.and_eq_true] at f
  cases r with
  | cons r0 rr =>
   obtain ⟨as,R⟩:=Qz1 ok t f.1 iv r0
   obtain ⟨bs,R2⟩:=Qj0 ok ts f.2 iw rr
   exact ⟨_,by unfold Qm7;exact .cons R R2⟩
end
end
section
variable {X:Cx}
end
structure ShD (c d:Nat) (t:T):Prop where
 b:(pyD t).bulk≤c
 l:(pyD t).leavesShort 32=true
 s:(pyD t).showable=true
 d:(pyD t).depth≤d
 f:Qe6 t=true
namespace Z
section
variable {H:Hp} {S:Addr→Prop} {x y:V} {Q:VK} {K:PySem.W.Frag}
variable {r:Nat}
end
end Z
end L2
namespace PySem
open Sem (wp)
open AutoSeq1 (wpAny_loadPart')
section
variable {prog:Program} {w:World} {A:Around} {E:Value→Shared→Prop} {s:Shared}
end
end PySem
namespace L2
open PySem PySem.Spec PyProof.Rows
section
variable {X:Cx}
end
end L2
namespace L2
open PySem PySem.Spec PyProof.Rows PySem.W PySem.Calls
end L2
namespace L2
open PySem PySem.Spec PyProof.Rows PySem.W PySem.Calls
structure OrdN (lt:Nat→Nat→Bool) (n:Nat):Prop where
 tr:∀ a b c,a<n→b<n→c<n→lt a b=true→lt b c=true→lt a c=true
 tot:∀ a b,a<n→b<n→a≠b→lt a b=true∨lt b a=true
 as:∀ a b,a<n→b<n→lt a b=true→lt b a=false
section
variable {lt:Nat→Nat→Bool} {N:Nat} (o:OrdN lt N)
include o
end
end L2
namespace L2
open PySem PySem.Spec PyProof.Rows PySem.W PySem.Calls
noncomputable def Q6b (k:List Int):Int:=reduceHash (Builtin.Tuple.tupleHashOf (k.map hashInt))
noncomputable def Qqw (ks:List (List Int)) (j:Nat):List Int:=ks.getD j []
noncomputable def Qadl (t:SetTable):Nat→Nat
 | 0=>0
 | i+1=>t.place.getD i 0+1
noncomputable def Q89 (t:SetTable) (n:Nat):Bool:=(List.range (n+1)).all fun i=>SetTable.below t.place (Qadl t i)==i
end L2
namespace L2
open PySem PySem.Spec PyProof.Rows PySem.W PySem.Calls
noncomputable abbrev btx (w:World):Bool:=w.params.followText "set-order"
structure SOk (w:World) (es:Array (Int×Value)) (t:SetTable):Prop where
 fits:t.fits es.size=true
 plain:t.plain=true
 led:btx w=false→t.led=true
 wk:btx w=false→Q89 t es.size=true
section
variable {prog:Program} {w:World} {A:Around} {E:Value→Shared→Prop} {s:Shared} {it d:Addr} {i ep:Nat} {es:Array (Int×Value)} {t:SetTable}
end
end L2
namespace L2
open PySem PySem.Spec PyProof.Rows PySem.W PySem.Calls
noncomputable def Ris (xs:Array Nat):Prop:=∀ i j,i<j→j<xs.size→xs.getD i 0<xs.getD j 0
noncomputable def adv (m:Nat) (p:SetTable.Probe):SetTable.Probe :=
 if p.more>0 then { p with j:=p.j+1,more:=p.more-1 } else
 { p with j:=(SetTable.leap m p.i p.perturb).1,more:=SetTable.runEnd m (SetTable.leap m p.i p.perturb).1-(SetTable.leap m p.i p.perturb).1,i:=(SetTable.leap m p.i p.perturb).1,perturb:=(SetTable.leap m p.i p.perturb).2 }
noncomputable def Q6c (m i q:Nat):SetTable.Probe:={ j:=i,more:=SetTable.runEnd m i-i,i,perturb:=q,dummy:=none }
noncomputable def itr (m:Nat):Nat→SetTable.Probe→SetTable.Probe
 | 0,p=>p
 | k+1,p=>itr m k (adv m p)
noncomputable def hd (m:Nat):Nat→Nat×Nat→Nat×Nat
 | 0,x=>x
 | c+1,x=>hd m c (SetTable.leap m x.1 x.2)
noncomputable def Msk (m:Nat):Prop:=m=7∨m=31∨m=127
noncomputable def Rch (m:Nat) (S:Nat→Prop) (h:Int) (j:Nat):Prop:=∃ k,(itr m k (Q6c m (SetTable.bits h%(m+1)) (SetTable.bits h))).j=j∧∀ i,i<k→S (itr m i (Q6c m (SetTable.bits h%(m+1)) (SetTable.bits h))).j
end L2
namespace L2
open PySem PySem.Spec PyProof.Rows PySem.W PySem.Calls
noncomputable abbrev Own (owner:Array (Option Nat)) (j:Nat):Prop:=∃ x,owner.getD j none=some x
structure Lai (m:Nat) (hs:List Int) (owner:Array (Option Nat)):Prop where
 size:owner.size=m+1
 lt:∀ j x,owner.getD j none=some x→x<hs.length
 at_:∀ x,x<hs.length→∃ j,owner.getD j none=some x∧Rch m (Own owner) (hs.getD x 0) j
 uni:∀ j j' x,owner.getD j none=some x→owner.getD j' none=some x→j=j'
end L2
namespace L2
open PySem PySem.Spec PyProof.Rows PySem.W PySem.Calls
structure Gd (ks:List (List Int)) (led:Bool) (n:Nat) (r:SetTable×Array Nat):Prop where
 msk:Msk r.1.mask
 dum:r.1.dummies = #[]
 pln:r.1.plain=true
 led:r.1.led=led
 ris:Ris r.1.place
 le:∀ j∈r.1.place.toList,j≤r.1.mask
 siz:r.1.place.size=r.2.size
 ful:r.1.place.size*5<r.1.mask*3
 rch:∀ p∈r.1.place.toList.zip r.2.toList,Rch r.1.mask (· ∈ r.1.place.toList) (Q6b (Qqw ks p.2)) p.1
 nod:(r.2.toList.map (Qqw ks)).Nodup
 mem:∀ i,i<n→Qqw ks i∈r.2.toList.map (Qqw ks)
 lt:∀ x∈r.2.toList,x<n
set_option genInjectivity false
set_option genSizeOf false
inductive PV where
 | fz (t:T) | ow (t:T) | sl (i:Nat)
inductive Slot where
 | un | fz (t:T) | ow (t:T) | ml (t:T) | ro (t:T) | pin (a:Addr) | fx (t:T)
noncomputable abbrev En:=List Slot
structure Xn where
 c:Nat
 arg:List Int
inductive Out (α:Type) where
 | ok (a:α) (ρ:En) | xn (x:Xn) (ρ:En) | no
noncomputable def Out.bind {α β:Type} (o:Out α) (k:α→En→Out β):Out β:=match o with
 | .ok a ρ=>k a ρ
 | .xn x ρ=>.xn x ρ
 | .no=>.no
noncomputable def Out.opt {α:Type} (o:Option α) (ρ:En):Out α:=match o with
 | some a=>.ok a ρ
 | none=>.no
noncomputable def Slot.prv:Slot→Option T
 | .ow t=>some t | .ml t=>some t | .ro t=>some t | _=>none
noncomputable def Slot.mut:Slot→Bool
 | .ow (.lst _)=>true | .ml (.lst _)=>true | _=>false
noncomputable def Slot.put (t:T):Slot→Slot
 | .ow _=>.ow t | .ml _=>.ml t | s=>s
noncomputable def Slot.lend:Slot→Slot
 | .ow t=>.ml t | .pin _=>.un | .fx t=>.fz t | s=>s
noncomputable def Qd (ρ:En) (i:Nat):Slot:=match ρ[i]? with
 | some s=>s
 | none=>.un
noncomputable def cont (ρ:En):PV→Option T
 | .fz t=>some t
 | .ow t=>some t
 | .sl i=>(Qd ρ i).prv
noncomputable def frz:PV→Option T
 | .fz t=>some t
 | .ow t=>some t
 | .sl _=>none
noncomputable def Qcl:List PV→Option (List T)
 | []=>some []
 | r::rs=>match frz r,Qcl rs with
  | some t,some ts=>some (t::ts)
  | _,_=>none
inductive BOp where
 | add | sub | mul | fdv | mod | pow | shl | shr | band
inductive COp where
 | eq | ne | lt | le | gt | ge | isn | isnn | inn | nin | ltt
inductive Bi where
 | len | abs | all | any | sum | max | dvm | int | list | tup | dct | strI | intS | sta | spl | joi | ixS | slF | slT | lenT | inS | ninS | catS | repS | chs
inductive Tg where
 | nm (i:Nat) | tp (is:List Nat)
mutual
inductive E where
 | var (i:Nat) | int (i:Int) | bl (b:Bool) | non | str (x:Str)
 | tup (es:Es) | lst (es:Es)
 | bin (o:BOp) (a b:E) | neg (a:E)
 | not (a:E) | and (a b:E) | or (a b:E) | ite (c a b:E)
 | cmp (o:COp) (a b:E)
 | isI (a:E) (n:String)
 | call (f:Nat) (es:Es)
 | bi (b:Bi) (es:Es)
 | cnt (a b:E)
 | ix (a i:E) | slc (a:E) (lo hi:Es) 
 | comp (w:W) (js:List (Option Nat)) (tg:Tg) (cs:Es) (e:E)
 | tupR (l:Bool) (a:E)
 | lit (t:T)   
 | app (i:Nat) (es:Es) | chl (a b c:E)     
 | bad
inductive Es where
 | nil | cons (e:E) (es:Es)
inductive W where
 | seq (e:E) | rng1 (a:E) | rng2 (a b:E) | enm (e:E) | zip (a b:E) 
end
inductive ME where
 | v (j:Nat) | c (n:Int) | rd (j k:Nat) | op (o:BOp) (a b:ME)
inductive MS where
 | put (v:ME) (j k:Nat) | rep (w s:Nat) (v:ME) (j k:Nat)
inductive S where
 | nil | seq (a b:S) | expr (e:E) | set (i:Nat) (e:E) | setF (i:Nat) (e:E) | unp (is:List Nat) (e:E) | par (i j:Nat) (a b:E)
 | app (i:Nat) (e:E) | ext (i:Nat) (e:E) | put (i:Nat) (k e:E)      
 | ret (e:E) | retN | ite (c:E) (a b:S) | whl (c:E) (b:S) | for_ (w:W) (tg:Tg) (b:S) | forX (w:W) (tg:Tg) (b:S)  
 | brk | cnt | frz (i:Nat) | raise (c:Nat) (es:Es) | ins (i:Nat) (k e:E) | rvs (i:Nat) | tryR (i:Nat) (b:S) (h:Nat→List Int→Option T) | bad
inductive Arg where
 | fz (t:T) | ml (t:T) | ro (t:T)
inductive FR where
 | ok (r:PV) (fin:List T) | xn (x:Xn) (fin:List T) | no
inductive SO where
 | nx (ρ:En) | rt (r:PV) (ρ:En) | bk (ρ:En) | ct (ρ:En) | xn (x:Xn) (ρ:En) | no
noncomputable abbrev CF:=Nat→List Arg→FR
noncomputable def Qfw (i j:Int):Bool:=decide (i.natAbs<2^64)||(decide (j.natAbs<2^64)||((decide (i.natAbs<2^250)&&decide (j.natAbs<2^250))||(decide (i.natAbs.log2<9000)&&decide (j.natAbs.log2<9000))))
noncomputable def asI:T→Option Int
 | .int i=>some i
 | _=>none
noncomputable def opN:BOp→Int→Int→Option PV
 | .add,i,j=>some (.fz (.int (i+j)))
 | .sub,i,j=>some (.fz (.int (i-j)))
 | .mul,i,j=>if Qfw i j=true then some (.fz (.int (i*j))) else none
 | .fdv,i,j=>if 0<j∧j.natAbs<2^64 then some (.fz (.int (i / j))) else if j≠0∧j.natAbs.log2<9000 then some (.fz (.int (i.fdiv j))) else none
 | .mod,i,j=>if 0<j then some (.fz (.int (i%j))) else if j<0 then some (.fz (.int (i.fmod j))) else none
 | .pow,i,j=>if 0≤j∧j.natAbs≤1000000∧i.natAbs<2^64 then some (.fz (.int (i^j.toNat))) else none
 | .shl,i,j=>if 0≤j∧j.natAbs≤64∧i.natAbs<2^64 then some (.fz (.int (i*2^j.toNat))) else none
 | .shr,i,j=>if 0≤j∧j.natAbs≤64 then some (.fz (.int (i / 2^j.toNat))) else none
 | .band,i,j=>if j=1 then some (.fz (.int (i%2))) else none
noncomputable def Q9a:T→T→Option PV
 | .tup a,.tup b=>if a.length+b.length≤100000 then some (.fz (.tup (a++b))) else none
 | .lst a,.lst b=>if a.length+b.length≤100000 then some (.ow (.lst (a++b))) else none
 | _,_=>none
noncomputable def Q9b:T→Option Int→Option PV
 | .tup a,some k=>if a.length*k.toNat≤100000∧1≤k∧k.natAbs≤100000∧a≠[] then some (.fz (.tup (List.replicate k.toNat a).flatten)) else none
 | .lst a,some k=>if a.length*k.toNat≤100000∧1≤k∧k.natAbs≤100000 then some (.ow (.lst (List.replicate k.toNat a).flatten)) else none
 | _,_=>none
noncomputable def opX:BOp→T→T→Option PV
 | .add,t,u=>Q9a t u
 | .mul,t,u=>Q9b t (asI u)
 | _,_,_=>none
noncomputable def opB (o:BOp) (t u:T):Option PV:=match asI t,asI u with
 | some i,some j=>opN o i j
 | _,_=>opX o t u
noncomputable def Qem:T→Bool
 | .non=>true | .bl _=>true | .int _=>true | .str _=>true | _=>false
noncomputable def scE:T→T→Option Bool
 | .int i,.int j=>some (decide (i=j))
 | .bl i,.bl j=>some (decide (i=j))
 | .str i,.str j=>some (decide (i=j))
 | .non,.non=>some true
 | .non,.int _=>some false | .int _,.non=>some false | .non,.bl _=>some false | .bl _,.non=>some false | .non,.str _=>some false | .str _,.non=>some false
 | .int _,.str _=>some false | .str _,.int _=>some false | .bl _,.str _=>some false | .str _,.bl _=>some false
 | _,_=>none
noncomputable def eqN (t u:T):Option Bool:=if (Qem t&&Qem u)=true then scE t u else if Qwr t u=true then some false else none
noncomputable def eqO:T→T→Option Bool
 | .tup a,.tup b=>if Qo 50 (.tup a)=true∧Qo 50 (.tup b)=true then some (eqT (.tup a) (.tup b)) else none
 | .lst a,.lst b=>if Qo 50 (.lst a)=true∧Qo 50 (.lst b)=true then some (eqT (.lst a) (.lst b)) else none
 | t,u=>eqN t u
noncomputable def Qg9:T→Bool
 | .non=>true
 | _=>false
noncomputable def Qw1 (f:Int→Int→Bool) (t u:T):Option Bool:=match asI t,asI u with
 | some i,some j=>some (f i j)
 | _,_=>none
noncomputable def Qeb:T→Option (List T)
 | .lst a=>some a
 | .tup a=>some a
 | _=>none
noncomputable def inO (x t:T):Option Bool:=match Qeb t with
 | some ts=>if Qo 49 x=true∧ts.all (Qo 49)=true then some (ts.any fun u=>eqT u x) else none
 | none=>none
noncomputable def Qh4:List T→Option (List Int)
 | []=>some []
 | .int i::ts=>match Qh4 ts with
  | some is=>some (i::is)
  | none=>none
 | _::_=>none
noncomputable def ltO:T→T→Option Bool
 | .int i,.int j=>some (decide (i<j))
 | .tup xs,.tup ys=>match Qh4 xs,Qh4 ys with
  | some ns,some ms=>some (HT.lexLt ns ms)
  | _,_=>none
 | _,_=>none
noncomputable def isBl (a:T):T→Option Bool
 | .bl b=>(match a with | .bl a=>some (a==b) | _=>none)
 | _=>none
noncomputable def opC:COp→T→T→Option Bool
 | .eq,a,b=>eqO a b
 | .ne,a,b=>(eqO a b).map (!·)
 | .lt,a,b=>Qw1 (fun i j=>decide (i<j)) a b
 | .le,a,b=>Qw1 (fun i j=>decide (i≤j)) a b
 | .gt,a,b=>Qw1 (fun i j=>decide (j<i)) a b
 | .ge,a,b=>Qw1 (fun i j=>decide (j≤i)) a b
 | .isn,a,b=>if Qg9 b then some (Qg9 a) else isBl a b
 | .isnn,a,b=>if Qg9 b then some (!Qg9 a) else none
 | .inn,a,b=>inO a b
 | .nin,a,b=>(inO a b).map (!·)
 | .ltt,a,b=>ltO a b
noncomputable def truT:T→Option Bool
 | .bl b=>some b
 | .int i=>some (decide (i≠0))
 | _=>none
noncomputable def Qj1:List T→Option (List Bool)
 | []=>some []
 | t::ts=>match truT t,Qj1 ts with
  | some b,some bs=>some (b::bs)
  | _,_=>none
noncomputable def Qlx:Int→List Int→Int
 | m,[]=>m
 | m,x::xs=>Qlx (if m<x then x else m) xs
noncomputable def Qib:List T→Option (List Str)
 | []=>some []
 | .str x::ts=>match Qib ts with
  | some xs=>some (x::xs)
  | none=>none
 | _::_=>none
noncomputable def Qfx (x:Str):List T:=x.cps.toList.map fun c=>T.str ⟨#[c]⟩
noncomputable def Qb6:Bi→List T→Option PV
 | .len,[.lst a]=>some (.fz (.int a.length))
 | .len,[.tup a]=>some (.fz (.int a.length))
 | .abs,[.int i]=>some (.fz (.int (if i<0 then -i else i)))
 | .all,[.lst a]=>(Qj1 a).map fun bs=>.fz (.bl (bs.all id))
 | .any,[.lst a]=>(Qj1 a).map fun bs=>.fz (.bl (bs.any id))
 | .sum,[.lst a]=>(Qh4 a).map fun is=>.fz (.int is.sum)
 | .max,[.int i,.int j]=>some (.fz (.int (if j>i then j else i)))
 | .max,[.lst a]=>match Qh4 a with
  | some (x::xs)=>some (.fz (.int (Qlx x xs)))
  | _=>none
 | .dvm,[.int i,.int j]=>if 0<j∧j.natAbs<2^64 then some (.fz (.tup [.int (i / j),.int (i%j)])) else none
 | .int,[.int i]=>some (.fz (.int i))
 | .int,[.bl b]=>some (.fz (.int (if b then 1 else 0)))
 | .list,[.lst a]=>some (.ow (.lst a))
 | .list,[.tup a]=>some (.ow (.lst a))
 | .tup,[.lst a]=>some (.fz (.tup a))
 | .tup,[.tup a]=>some (.fz (.tup a))
 | .dct,[.dtt [k] [t]]=>some (.ow (.dtt [k] [t]))
 | .strI,[.int i]=>if i.natAbs.log2<1920 then some (.fz (.str (toString i))) else none
 | .intS,[.str x]=>match PySem.intText? x with
  | some n=>if x.length≤640 then some (.fz (.int n)) else none
  | none=>none
 | .sta,[.str x,.str y]=>some (.fz (.bl (Txt.startswith x y)))
 | .spl,[.str x,.str y]=>if (y.length==0)=false∧x.length≤90000 then some (.ow (.lst ((Txt.split x y).map T.str))) else none
 | .joi,[.str x,.lst a]=>match Qib a with
  | some ss=>if JoinOk x ss=true then some (.fz (.str (Txt.join x ss))) else none
  | none=>none
 | .ixS,[.str x,.int i]=>if x.length≤90000 then (match atI x.cps.toList i with
  | some c=>some (.fz (.str ⟨#[c]⟩))
  | none=>none) else none
 | .slF,[.str x,.int i]=>if x.length≤90000∧i.natAbs≤90000 then some (.fz (.str (Txt.slice x (some i) none))) else none
 | .slT,[.str x,.int i]=>if x.length≤90000∧i.natAbs≤90000 then some (.fz (.str (Txt.slice x none (some i)))) else none
 | .lenT,[.str x]=>if x.length≤90000 then some (.fz (.int (x.length:Nat))) else none
 | .inS,[.str y,.str x]=>some (.fz (.bl (Txt.contains x y)))
 | .ninS,[.str y,.str x]=>some (.fz (.bl (!Txt.contains x y)))
 | .catS,[.str x,.str y]=>if x.length+y.length≤90000 then some (.fz (.str (x++y))) else none
 | .repS,[.str x,.int k]=>if 1≤k∧k≤1000∧x.length=1 then some (.fz (.str ⟨(List.replicate k.toNat (x.cps.getD 0 0)).toArray⟩)) else none
 | .chs,[.str x]=>if x.length≤90000 then some (.fz (.lst (Qfx x))) else none
 | _,_=>none
noncomputable def Qz2:T→T→Option T
 | .lst a,.int i=>atI a i
 | .tup a,.int i=>atI a i
 | _,_=>none
noncomputable def Q3j:T→Option Int→Option Int→Option PV
 | .lst a,lo,hi=>some (.ow (.lst (Qbb a lo hi)))
 | .tup a,lo,hi=>some (.fz (.tup (Qbb a lo hi)))
 | _,_,_=>none
noncomputable def Qj2:List PV→Option (Option Int)
 | []=>some none
 | [.fz (.int i)]=>some (some i)
 | _=>none
noncomputable def Qv (ρ:En):List PV→Option (List T)
 | []=>some []
 | r::rs=>match cont ρ r,Qv ρ rs with
  | some t,some ts=>some (t::ts)
  | _,_=>none
noncomputable def Qic (n:String):Bool:=n == "int" || n == "bool" || n == "tuple" || n == "list" || n == "dict" || n == "str"
noncomputable def Qaf (ρ:En):PV→Option Arg
 | .fz t=>some (.fz t)
 | .ow t=>some (.fz t)
 | .sl i=>match Qd ρ i with
  | .ow t=>some (.ml t)
  | .ml t=>some (.ml t)
  | .ro t=>some (.ro t)
  | _=>none
noncomputable def Qx (ρ:En):List PV→Option (List Arg)
 | []=>some []
 | r::rs=>match Qaf ρ r,Qx ρ rs with
  | some t,some ts=>some (t::ts)
  | _,_=>none
noncomputable def Qu:List PV→Bool
 | []=>true
 | .sl i::rs=>(rs.all fun r=>match r with | .sl j=>i != j | _=>true)&&Qu rs
 | _::rs=>Qu rs
noncomputable def Qi:List PV→Nat→Option Nat
 | [],_=>none
 | .sl j::rs,i=>if j=i then some 0 else (Qi rs i).map (· + 1)
 | .fz _::rs,i=>(Qi rs i).map (· + 1)
 | .ow _::rs,i=>(Qi rs i).map (· + 1)
noncomputable def Qz (rs:List PV) (fin:List T) (i:Nat) (s:Slot):Slot:=match Qi rs i with
 | some k=>match fin[k]? with
  | some t=>s.put t
  | none=>s
 | none=>s
noncomputable def Qj (rs:List PV) (fin:List T):Nat→En→En
 | _,[]=>[]
 | i,s::ρ=>Qz rs fin i s::Qj rs fin (i+1) ρ
noncomputable def Qa1 (ρ:En) (rs:List PV) (fin:List T):En:=Qj rs fin 0 ρ
noncomputable def Qkr (cf:CF) (f:Nat) (rs:List PV) (ρ:En):Out PV :=
 if Qu rs=true then
  match Qx ρ rs with
  | some as=>match cf f as with
   | .ok r fin=>.ok r (Qa1 ρ rs fin)
   | .xn x fin=>.xn x (Qa1 ρ rs fin)
   | .no=>.no
  | none=>.no
 else .no
noncomputable def Qbn (i:Nat) (s:Slot) (ρ:En):Option En:=if i<ρ.length then (match Qd ρ i with
 | .ml _=>none
 | .ro _=>none
 | .pin _=>none
 | .fx _=>none
 | _=>some (ρ.set i s)) else none
noncomputable def Qcx:List Nat→List T→En→Option En
 | [],[],ρ=>some ρ
 | i::is,t::ts,ρ=>match Qbn i (.fz t) ρ with
  | some ρ'=>Qcx is ts ρ'
  | none=>none
 | _,_,_=>none
noncomputable def Qha:Tg→T→En→Option En
 | .nm i,t,ρ=>Qbn i (.fz t) ρ
 | .tp is,.tup ts,ρ=>Qcx is ts ρ
 | .tp _,_,_=>none
noncomputable def Qfl (js:List (Option Nat)) (ρ:En):En:=js.map fun o=>match o with
 | none=>.un
 | some j=>(Qd ρ j).lend
noncomputable def Qid (js:List (Option Nat)) (ρi:En) (j:Nat) (s:Slot):Slot:=match js.idxOf? (some j) with
 | some k=>match Qd ρi k with
  | .ml t=>s.put t
  | _=>s
 | none=>s
noncomputable def Qdo (js:List (Option Nat)) (ρi:En):Nat→En→En
 | _,[]=>[]
 | j,s::ρ=>Qid js ρi j s::Qdo js ρi (j+1) ρ
noncomputable def Qm8 (js:List (Option Nat)) (ρi ρ:En):En:=Qdo js ρi 0 ρ
noncomputable def Qe7 (tg:Tg) (c:En→Out Bool) (e:En→Out PV):List T→List T→En→Out (List T)
 | [],acc,ρ=>.ok acc ρ
 | x::xs,acc,ρ=>match Qha tg x ρ with
  | none=>.no
  | some ρ1=>(c ρ1).bind fun b ρ2=>if b then (e ρ2).bind fun r ρ3=>match frz r with
    | some t=>if acc.length<100000 then Qe7 tg c e xs (acc++[t]) ρ3 else .no
    | none=>.no
   else Qe7 tg c e xs acc ρ2
noncomputable def Qgz:En→En→Bool
 | .ml _::ρ0,s::ρ=>(match s with | .ml _=>true | _=>false)&&Qgz ρ0 ρ
 | _::ρ0,_::ρ=>Qgz ρ0 ρ
 | [],[]=>true
 | _,_=>false
noncomputable def Qdd:List (Option Nat)→Bool
 | []=>true
 | some i::rs=>(rs.all fun r=>match r with | some j=>i != j | none=>true)&&Qdd rs
 | none::rs=>Qdd rs
noncomputable def Qat (o:Out PV):Out Bool:=o.bind fun r ρ=>match r with
 | .fz (.bl b)=>.ok b ρ
 | _=>.no
noncomputable def Qcd (lo:Int) (n:Nat):List T:=(List.range n).map fun i=>T.int (lo+(i:Nat))
noncomputable def Qk5:Nat→List T→List T
 | _,[]=>[]
 | n,t::ts=>.tup [.int n,t]::Qk5 (n+1) ts
noncomputable def Qth:List T→List T→List T
 | x::xs,y::ys=>.tup [x,y]::Qth xs ys
 | _,_=>[]
noncomputable def Qadn (o:Out PV):Out PV:=match o with
 | .ok r ρ=>.ok r ρ
 | _=>.no
noncomputable def Q9c:Slot→Bool
 | .fz (.clo _ _)=>true
 | _=>false
noncomputable def appO (cf:CF) (i:Nat) (rs:List PV) (ρ:En):Out PV:=match Qd ρ i with
 | .fz (.clo k ts)=>Qadn (Qkr cf k (rs++ts.map PV.fz) ρ)
 | _=>.no
noncomputable def Qg3:PV→Option Nat
 | .sl i=>some i
 | _=>none
noncomputable def insT (ts:List T) (n:Nat) (t:T):List T:=ts.take n++t::ts.drop n
mutual
noncomputable def evE (cf:CF):E→En→Out PV
 | .var i,ρ=>match Qd ρ i with
  | .fz t=>.ok (.fz t) ρ
  | .un=>.no
  | .pin _=>.no
  | .fx t=>.ok (.fz t) ρ
  | _=>.ok (.sl i) ρ
 | .int i,ρ=>.ok (.fz (.int i)) ρ
 | .bl b,ρ=>.ok (.fz (.bl b)) ρ
 | .non,ρ=>.ok (.fz .non) ρ
 | .str x,ρ=>.ok (.fz (.str x)) ρ
 | .tup es,ρ=>(evA cf es ρ).bind fun rs ρ1=>match Qcl rs with
  | some ts=>if ts.length≤100000 then .ok (.fz (.tup ts)) ρ1 else .no
  | none=>.no
 | .lst es,ρ=>(evA cf es ρ).bind fun rs ρ1=>match Qcl rs with
  | some ts=>if ts.length≤100000 then .ok (.ow (.lst ts)) ρ1 else .no
  | none=>.no
 | .bin o a b,ρ=>(evE cf a ρ).bind fun ra ρ1=>(evE cf b ρ1).bind fun rb ρ2=>match cont ρ2 ra,cont ρ2 rb with
  | some x,some y=>.opt (opB o x y) ρ2
  | _,_=>.no
 | .neg a,ρ=>(evE cf a ρ).bind fun ra ρ1=>match ra with
  | .fz (.int i)=>.ok (.fz (.int (-i))) ρ1
  | _=>.no
 | .not a,ρ=>(Qat (evE cf a ρ)).bind fun b ρ1=>.ok (.fz (.bl (!b))) ρ1
 | .and a b,ρ=>(Qat (evE cf a ρ)).bind fun c ρ1=>if c then (Qat (evE cf b ρ1)).bind fun d ρ2=>.ok (.fz (.bl d)) ρ2 else .ok (.fz (.bl false)) ρ1
 | .or a b,ρ=>(Qat (evE cf a ρ)).bind fun c ρ1=>if c then .ok (.fz (.bl true)) ρ1 else (Qat (evE cf b ρ1)).bind fun d ρ2=>.ok (.fz (.bl d)) ρ2
 | .ite c a b,ρ=>(Qat (evE cf c ρ)).bind fun k ρ1=>if k then evE cf a ρ1 else evE cf b ρ1
 | .cmp o a b,ρ=>(evE cf a ρ).bind fun ra ρ1=>(evE cf b ρ1).bind fun rb ρ2=>match cont ρ2 ra,cont ρ2 rb with
  | some x,some y=>match opC o x y with
   | some k=>.ok (.fz (.bl k)) ρ2
   | none=>.no
  | _,_=>.no
 | .isI a n,ρ=>(evE cf a ρ).bind fun ra ρ1=>match cont ρ1 ra with
  | some t=>if Qic n && !Qda t then .ok (.fz (.bl (Qe3 (tyT t) n))) ρ1 else .no
  | none=>.no
 | .call f es,ρ=>(evA cf es ρ).bind fun rs ρ1=>Qkr cf f rs ρ1
 | .bi b es,ρ=>(evA cf es ρ).bind fun rs ρ1=>match Qv ρ1 rs with
  | some ts=>.opt (Qb6 b ts) ρ1
  | none=>.no
 | .cnt a b,ρ=>(evE cf a ρ).bind fun ra ρ1=>match ra with
  | .fz (.tup ts)=>(evE cf b ρ1).bind fun rb ρ2=>match rb,Qh4 ts with
   | .fz (.int j),some is=>.ok (.fz (.int (is.count j:Nat))) ρ2
   | _,_=>.no
  | _=>.no
 | .ix a i,ρ=>(evE cf a ρ).bind fun ra ρ1=>(evE cf i ρ1).bind fun rb ρ2=>match cont ρ2 ra,cont ρ2 rb with
  | some x,some y=>match Qz2 x y with
   | some t=>.ok (.fz t) ρ2
   | none=>.no
  | _,_=>.no
 | .slc a lo hi,ρ=>(evE cf a ρ).bind fun ra ρ1=>(evA cf lo ρ1).bind fun rl ρ2=>match Qj2 rl with
  | none=>.no
  | some l=>(evA cf hi ρ2).bind fun rh ρ3=>match Qj2 rh with
   | none=>.no
   | some h=>match cont ρ3 ra with
    | some x=>.opt (Q3j x l h) ρ3
    | none=>.no
 | .comp w js tg cs e,ρ=>(evW cf w ρ).bind fun its ρ1=>match its.2 with
  | some _=>.no
  | none=>match Qe7 tg (evC cf cs) (evE cf e) its.1 [] (Qfl js ρ1) with
   | .ok ts ρi=>if Qgz (Qfl js ρ1) ρi=true∧Qdd js=true then .ok (.ow (.lst ts)) (Qm8 js ρi ρ1) else .no
   | _=>.no
 | .chl a b c,ρ=>(evE cf a ρ).bind fun ra ρ1=>(evE cf b ρ1).bind fun rb ρ2=>match ra,rb with
  | .fz (.int i),.fz (.int j)=>if i≤j then (evE cf c ρ2).bind fun rc ρ3=>match rc with
   | .fz (.int k)=>.ok (.fz (.bl (decide (j≤k)))) ρ3
   | _=>.no
   else .ok (.fz (.bl false)) ρ2
  | _,_=>.no
 | .tupR l a,ρ=>(evE cf a ρ).bind fun r ρ1=>match r with
  | .fz (.int j)=>if j.natAbs≤100000 then .ok (if l then .ow (.lst (Qcd 0 j.toNat)) else .fz (.tup (Qcd 0 j.toNat))) ρ1 else .no
  | _=>.no
 | .lit t,ρ=>.ok (.fz t) ρ
 | .app i es,ρ=>if Q9c (Qd ρ i)=true then (evA cf es ρ).bind fun rs ρ1=>appO cf i rs ρ1 else .no
 | .bad,_=>.no
noncomputable def evA (cf:CF):Es→En→Out (List PV)
 | .nil,ρ=>.ok [] ρ
 | .cons e es,ρ=>(evE cf e ρ).bind fun r ρ1=>(evA cf es ρ1).bind fun rs ρ2=>.ok (r::rs) ρ2
noncomputable def evC (cf:CF):Es→En→Out Bool
 | .nil,ρ=>.ok true ρ
 | .cons e .nil,ρ=>Qat (evE cf e ρ)
 | .cons _ _,_=>.no
noncomputable def evW (cf:CF):W→En→Out (List T×Option Nat)
 | .seq e,ρ=>(evE cf e ρ).bind fun r ρ1=>match cont ρ1 r with
  | some t=>match Qeb t with
   | some ts=>.ok (ts,Qg3 r) ρ1
   | none=>.no
  | none=>.no
 | .rng1 a,ρ=>(evE cf a ρ).bind fun r ρ1=>match r with
  | .fz (.int j)=>if j.natAbs≤100000 then .ok (Qcd 0 j.toNat,none) ρ1 else .no
  | _=>.no
 | .rng2 a b,ρ=>(evE cf a ρ).bind fun r ρ1=>(evE cf b ρ1).bind fun r2 ρ2=>match r,r2 with
  | .fz (.int i),.fz (.int j)=>if i.natAbs≤100000∧j.natAbs≤100000 then .ok (Qcd i (j-i).toNat,none) ρ2 else .no
  | _,_=>.no
 | .enm e,ρ=>(evE cf e ρ).bind fun r ρ1=>match cont ρ1 r with
  | some (.lst ts)=>.ok (Qk5 0 ts,Qg3 r) ρ1
  | some (.tup ts)=>.ok (Qk5 0 ts,Qg3 r) ρ1
  | _=>.no
 | .zip a b,ρ=>(evE cf a ρ).bind fun r ρ1=>(evE cf b ρ1).bind fun r2 ρ2=>match r,r2 with
  | .fz (.tup xs),.fz (.tup ys)=>.ok (Qth xs ys,none) ρ2
  | .fz (.lst xs),.fz (.tup ys)=>.ok (Qth xs ys,none) ρ2
  | .fz (.lst xs),.fz (.lst ys)=>.ok (Qth xs ys,none) ρ2
  | _,_=>.no
end
noncomputable def SO.seq (o:SO) (k:En→SO):SO:=match o with
 | .nx ρ=>k ρ
 | o=>o
noncomputable def ofO {α:Type} (o:Out α) (k:α→En→SO):SO:=match o with
 | .ok a ρ=>k a ρ
 | .xn x ρ=>.xn x ρ
 | .no=>.no
noncomputable def Qad {α:Type} (o:Option α) (k:α→SO):SO:=match o with
 | some a=>k a
 | none=>.no
noncomputable def Qly (c:En→Out Bool) (b:En→SO):Nat→En→SO
 | 0,_=>.no
 | n+1,ρ=>ofO (c ρ) fun k ρ1=>if k then (match b ρ1 with
   | .nx ρ2=>Qly c b n ρ2
   | .ct ρ2=>Qly c b n ρ2
   | .bk ρ2=>.nx ρ2
   | o=>o) else .nx ρ1
noncomputable def Qd4 (tg:Tg) (b:En→SO):List T→En→SO
 | [],ρ=>.nx ρ
 | x::xs,ρ=>match Qha tg x ρ with
  | none=>.no
  | some ρ1=>match b ρ1 with
   | .nx ρ2=>Qd4 tg b xs ρ2
   | .ct ρ2=>Qd4 tg b xs ρ2
   | .bk ρ2=>.nx ρ2
   | o=>o
noncomputable def Qlz (o:SO):SO:=match o with
 | .xn _ _=>.no
 | o=>o
noncomputable def Ql0 (i:Nat) (r:PV) (ρ:En):SO:=match r with
 | .fz t=>Qad (Qbn i (.fz t) ρ) .nx
 | .ow t=>Qad (Qbn i (.ow t) ρ) .nx
 | .sl _=>.no
noncomputable abbrev Q6d (is:List Int):T:=.lst (is.map T.int)
noncomputable abbrev Q6e (M:List (List Int)):T:=.lst (M.map Q6d)
noncomputable def exS (cf:CF):S→En→SO
 | .nil,ρ=>.nx ρ
 | .seq a b,ρ=>(exS cf a ρ).seq (exS cf b)
 | .expr e,ρ=>ofO (evE cf e ρ) fun _ ρ1=>.nx ρ1
 | .set i e,ρ=>ofO (evE cf e ρ) fun r ρ1=>Ql0 i r ρ1
 | .setF i e,ρ=>ofO (evE cf e ρ) fun r ρ1=>match frz r with
  | some t=>Qad (Qbn i (.fz t) ρ1) .nx
  | none=>.no
 | .unp is e,ρ=>ofO (evE cf e ρ) fun r ρ1=>match r with
  | .fz (.tup ts)=>Qad (Qcx is ts ρ1) .nx
  | _=>.no
 | .par i j a b,ρ=>ofO (evE cf a ρ) fun ra ρ1=>ofO (evE cf b ρ1) fun rb ρ2=>match ra,rb with
  | .fz x,.fz y=>Qad (Qcx [i,j] [x,y] ρ2) .nx
  | _,_=>.no
 | .app i e,ρ=>if (Qd ρ i).mut=true then ofO (evE cf e ρ) fun r ρ1=>match frz r with
   | none=>.no
   | some t=>match Qd ρ1 i with
    | .ow (.lst ts)=>if ts.length<100000 then .nx (ρ1.set i (.ow (.lst (ts++[t])))) else .no
    | .ml (.lst ts)=>if ts.length<100000 then .nx (ρ1.set i (.ml (.lst (ts++[t])))) else .no
    | _=>.no
  else .no
 | .ext i e,ρ=>if (Qd ρ i).mut=true then ofO (evE cf e ρ) fun r ρ1=>match r with
   | .fz (.tup us)=>match Qd ρ1 i with
    | .ow (.lst ts)=>if ts.length+us.length≤100000 then .nx (ρ1.set i (.ow (.lst (ts++us)))) else .no
    | .ml (.lst ts)=>if ts.length+us.length≤100000 then .nx (ρ1.set i (.ml (.lst (ts++us)))) else .no
    | _=>.no
   | _=>.no
  else .no
 | .put i k e,ρ=>ofO (evE cf e ρ) fun r ρ1=>match frz r with
  | none=>.no
  | some t=>if (Qd ρ1 i).mut=true then ofO (evE cf k ρ1) fun rk ρ2=>match rk with
    | .fz (.int j)=>match Qd ρ2 i with
     | .ow (.lst ts)=>Qad (ixN ts.length j) fun n=>.nx (ρ2.set i (.ow (.lst (ts.set n t))))
     | .ml (.lst ts)=>Qad (ixN ts.length j) fun n=>.nx (ρ2.set i (.ml (.lst (ts.set n t))))
     | _=>.no
    | _=>.no
   else .no
 | .ret e,ρ=>ofO (evE cf e ρ) fun r ρ1=>.rt r ρ1
 | .retN,ρ=>.rt (.fz .non) ρ
 | .ite c a b,ρ=>ofO (Qat (evE cf c ρ)) fun k ρ1=>if k then exS cf a ρ1 else exS cf b ρ1
 | .whl c b,ρ=>Qlz (Qly (fun ρ=>Qat (evE cf c ρ)) (exS cf b) 1000000 ρ)
 | .for_ w tg b,ρ=>Qlz (ofO (evW cf w ρ) fun its ρ1=>match its.2 with
  | some _=>.no
  | none=>Qd4 tg (exS cf b) its.1 ρ1)
 | .forX w tg b,ρ=>ofO (evW cf w ρ) fun its ρ1=>match its.2 with
  | some _=>.no
  | none=>Qd4 tg (exS cf b) its.1 ρ1
 | .brk,ρ=>.bk ρ
 | .cnt,ρ=>.ct ρ
 | .frz i,ρ=>match Qd ρ i with
  | .ow t=>.nx (ρ.set i (.fz t))
  | .ml _=>.no
  | .ro _=>.no
  | _=>.nx ρ
 | .raise c es,ρ=>ofO (evA cf es ρ) fun rs ρ1=>match rs with
  | [.fz (.int i)]=>if 6≤c∧c<9 then .xn ⟨c,[i]⟩ ρ1 else .no
  | [.fz (.str _)]=>if c<6 then .xn ⟨c,[]⟩ ρ1 else .no
  | [.fz (.int i),.fz (.int j)]=>if c=9 then .xn ⟨c,[i,j]⟩ ρ1 else .no
  | _=>.no
 | .ins i k e,ρ=>if (Qd ρ i).mut=true then ofO (evE cf k ρ) fun rk ρ1=>match rk with
   | .fz (.int j)=>ofO (evE cf e ρ1) fun r ρ2=>match r with
    | .fz t=>match Qd ρ2 i with
     | .ow (.lst ts)=>if ts.length<100000∧0≤j∧j≤ts.length then .nx (ρ2.set i (.ow (.lst (insT ts j.toNat t)))) else .no
     | _=>.no
    | _=>.no
   | _=>.no
  else .no
 | .rvs i,ρ=>match Qd ρ i with
  | .ow (.lst ts)=>.nx (ρ.set i (.ow (.lst ts.reverse)))
  | _=>.no
 | .tryR i b h,ρ=>match exS cf b ρ with
  | .xn x ρ1=>(match h x.c x.arg with
   | some t=>.rt (.fz t) ρ1
   | none=>.no)
  | o=>o
 | .bad,_=>.no
structure Fn where
 ps:Nat
 sz:Nat
 body:S
noncomputable def Qfm (fn:Fn) (as:List Arg):En:=(as.map fun a=>match a with
 | .fz t=>Slot.fz t
 | .ml t=>.ml t
 | .ro t=>.ro t)++List.replicate (fn.sz-fn.ps) .un
noncomputable def Qt:List Arg→En→Option (List T)
 | [],_=>some []
 | .ml _::as,.ml t::ρ=>(Qt as ρ).map (t :: ·)
 | .ml _::_,_=>none
 | .fz _::as,_::ρ=>(Qt as ρ).map (.non :: ·)
 | .ro _::as,_::ρ=>(Qt as ρ).map (.non :: ·)
 | _,[]=>none
noncomputable def Qae (ρ:En):PV→Option PV
 | .fz t=>some (.fz t)
 | .ow t=>some (.ow t)
 | .sl i=>match Qd ρ i with
  | .ow t=>some (.ow t)
  | _=>none
noncomputable def Qbx (cf:CF) (fn:Fn) (as:List Arg):FR :=
 if as.length=fn.ps then match exS cf fn.body (Qfm fn as) with
  | .nx ρ=>match Qt as ρ with
   | some fin=>.ok (.fz .non) fin
   | none=>.no
  | .rt r ρ=>match Qae ρ r,Qt as ρ with
   | some r,some fin=>.ok r fin
   | _,_=>.no
  | .xn x ρ=>match Qt as ρ with
   | some fin=>.xn x fin
   | none=>.no
  | _=>.no
 else .no
noncomputable def evF (tab:Nat→Option Fn):Nat→CF
 | 0,_,_=>.no
 | n+1,f,as=>match tab f with
  | some fn=>Qbx (evF tab n) fn as
  | none=>.no
structure Bs where
 H:Hp
 G:Addr→Prop
 O:Addr→Prop
 M:Addr→Prop
 P:Nat→Addr→Prop
noncomputable def OwnO (D:Hp):T→HO→Prop
 | .lst ts,.lst vs=>ts.length≤100000∧IsL D vs ts
 | .dtt ks ts,.dT kvs=>ks.length≤100000∧∃ vs,kvs=(ks.map kIs).zip vs∧ks.length=vs.length∧IsL D vs ts
 | _,_=>False
theorem OwnO.mono {D D':Hp} {t:T} {o:HO} (h:OwnO D t o) (s:Same D D'):OwnO D' t o:=by
 cases t with
 | lst ts=>cases o <;> first | exact ⟨h.1,h.2.mono s⟩ | exact h.elim
 | dtt ks ts =>
  cases o with
  | dT kvs=>obtain ⟨z,vs,e,l,q⟩:=h;exact ⟨z,vs,e,l,q.mono s⟩
  | _=>exact h.elim
 | _=>cases o <;> exact h.elim
theorem OwnO.pen {D:Hp} {t:T} {o:HO} (h:OwnO D t o):Q8x o=true:=by
 cases t with
 | lst ts=>cases o <;> first | rfl | exact h.elim
 | dtt ks ts=>cases o <;> first | rfl | exact h.elim
 | _=>cases o <;> exact h.elim
theorem OwnO.is {D D':Hp} {t:T} {o:HO} {a:Addr} (h:OwnO D t o) (e:D' a=some o) (s:Same D D'):Is D' (.ref a) t:=by
 cases t with
 | lst ts =>
  cases o with
  | lst vs=>exact .lst e (h.2.mono s) h.1
  | _=>exact h.elim
 | dtt ks ts =>
  cases o with
  | dT kvs =>
   obtain ⟨z,vs,rfl,l,q⟩:=h
   unfold Is
   exact ⟨z,a,vs,rfl,e,l,q.mono s⟩
  | _=>exact h.elim
 | _=>cases o <;> exact h.elim
noncomputable def OwnAt (H:Hp) (G:Addr→Prop) (a:Addr) (t:T):Prop:=∃ o,H a=some o∧OwnO (dls H G) t o
theorem OwnAt.lst_inv {H:Hp} {G:Addr→Prop} {a:Addr} {ts:List T} (h:OwnAt H G a (.lst ts)):∃ vs,ts.length≤100000∧H a=some (.lst vs)∧IsL (dls H G) vs ts:=by
 obtain ⟨o,e,q⟩:=h
 cases o with
 | lst vs=>exact ⟨vs,q.1,e,q.2⟩
 | _=>exact q.elim
theorem OwnAt.no_tup {H:Hp} {G:Addr→Prop} {a:Addr} {ts:List T} (h:OwnAt H G a (.tup ts)):False:=by
 obtain ⟨o,e,q⟩:=h
 cases o <;> exact q
noncomputable def Qqx (H:Hp) (G:Addr→Prop) (σ:St) (i:Nat):Slot→Prop
 | .un=>True
 | .fz t=>∃ v,σ[i]?=some (some v)∧Is (dls H G) v t
 | .ow t=>∃ a,σ[i]?=some (some (.ref a))∧G a∧OwnAt H G a t
 | .ml t=>∃ a,σ[i]?=some (some (.ref a))∧G a∧OwnAt H G a t
 | .ro t=>∃ a,σ[i]?=some (some (.ref a))∧G a∧OwnAt H G a t
 | .pin a=>σ[i]?=some (some (.ref a))
 | .fx t=>∃ a o,σ[i]?=some (some (.ref a))∧dls H G a=some o∧Is (dls H G) (.ref a) t
noncomputable def PrvAt (σ:St) (ρ:En) (i:Nat) (a:Addr):Prop:=(∃ t,(Qd ρ i).prv=some t)∧σ[i]?=some (some (.ref a))
noncomputable def OwA (σ:St) (ρ:En) (a:Addr):Prop:=∃ i t,Qd ρ i=.ow t∧σ[i]?=some (some (.ref a))
noncomputable def MlA (σ:St) (ρ:En) (a:Addr):Prop:=∃ i t,Qd ρ i=.ml t∧σ[i]?=some (some (.ref a))
noncomputable def PnA (σ:St) (ρ:En) (i:Nat) (a:Addr):Prop:=(∃ t,Qd ρ i=.ml t∨Qd ρ i=.ro t∨Qd ρ i=.fx t)∧σ[i]?=some (some (.ref a))
structure FI (B:Bs) (H:Hp) (G:Addr→Prop) (σ:St) (ρ:En):Prop where
 len:σ.length=ρ.length
 slot:∀ i,Qqx H G σ i (Qd ρ i)
 apart:∀ i j a,PrvAt σ ρ i a→PrvAt σ ρ j a→i=j
 prv:Pen H G
 chg:∀ b o,¬ B.O b→¬ B.M b→B.H b=some o→H b=some o
 keep:∀ b o,B.H b=some o→∃ o',H b=some o'
 newO:∀ a,OwA σ ρ a→B.H a=none∨B.O a
 newM:∀ a,MlA σ ρ a→B.M a
 fix:∀ i a,PnA σ ρ i a→B.P i a
 gg:∀ b,B.G b→G b
 gn:∀ b,G b→B.G b∨B.H b=none
 bp:∀ b,B.G b→∃ o,B.H b=some o
noncomputable abbrev Qa2 (H:Hp) (G:Addr→Prop) (σ:St) (ρ:En):Bs:=⟨H,G,OwA σ ρ,MlA σ ρ,PnA σ ρ⟩
section
variable {B:Bs} {H H1 H2:Hp} {G G1:Addr→Prop} {σ σ1:St} {ρ ρ1 ρ2:En}
theorem FI.self (F:FI B H G σ ρ):FI (Qa2 H G σ ρ) H G σ ρ :=
 ⟨F.len,F.slot,F.apart,F.prv,fun _ _ _ _ e=>e,fun _ o e=>⟨o,e⟩,fun _ h=>.inr h,fun _ h=>h,fun _ _ h=>h,fun _ h=>h,fun _ h=>.inl h,fun b h=>let ⟨xs,e,_⟩:=F.prv b h;⟨_,e⟩⟩
theorem FI.ownG (F:FI B H G σ ρ) {a:Addr} (h:OwA σ ρ a):G a:=by
 obtain ⟨i,t,e,s⟩:=h
 have q:=F.slot i
 rw [e] at q
 obtain ⟨b,hb,g,_⟩:=q
 rw [s] at hb
 cases hb
 exact g
theorem FI.mlG (F:FI B H G σ ρ) {a:Addr} (h:MlA σ ρ a):G a:=by
 obtain ⟨i,t,e,s⟩:=h
 have q:=F.slot i
 rw [e] at q
 obtain ⟨b,hb,g,_⟩:=q
 rw [s] at hb
 cases hb
 exact g
theorem FI.same (F0:FI B H G σ ρ) (F:FI (Qa2 H G σ ρ) H1 G1 σ1 ρ1):Same (dls H G) (dls H1 G1):=fun b o e=>by
 obtain ⟨n,e⟩:=Qak e
 have e1:=F.chg b o (fun z=>n (F0.ownG z)) (fun z=>n (F0.mlG z)) e
 rw [Qdb fun z=>?_]
 ·exact e1
 ·rcases F.gn b z with z | z
  ·exact n z
  ·rw [show H b=none from z] at e;cases e
theorem FI.trans (F0:FI B H G σ ρ) (F:FI (Qa2 H G σ ρ) H1 G1 σ1 ρ1):FI B H1 G1 σ1 ρ1 where
 len:=F.len
 slot:=F.slot
 apart:=F.apart
 prv:=F.prv
 chg:=fun b o h1 h2 e=>F.chg b o (fun z=>by
  rcases F0.newO b z with z | z
  ·rw [e] at z;cases z
  ·exact h1 z) (fun z=>h2 (F0.newM b z)) (F0.chg b o h1 h2 e)
 keep:=fun b o e=>by
  obtain ⟨o1,e1⟩:=F0.keep b o e
  exact F.keep b o1 e1
 newO:=fun a h=>by
  rcases F.newO a h with z | z
  ·refine .inl ?_
   cases e:B.H a with
   | none=>rfl
   | some o =>
    obtain ⟨o1,e1⟩:=F0.keep a o e
    rw [show H a=none from z] at e1
    cases e1
  ·exact F0.newO a z
 newM:=fun a h=>F0.newM a (F.newM a h)
 fix:=fun i a h=>F0.fix i a (F.fix i a h)
 gg:=fun b h=>F.gg b (F0.gg b h)
 gn:=fun b h=>by
  rcases F.gn b h with z | z
  ·exact F0.gn b z
  ·refine .inr ?_
   cases e:B.H b with
   | none=>rfl
   | some o =>
    obtain ⟨o1,e1⟩:=F0.keep b o e
    rw [show H b=none from z] at e1
    cases e1
 bp:=F0.bp
theorem FI.free (F:FI B H G σ ρ) {b:Addr} (h:H b=none):B.H b=none:=by
 cases e:B.H b with
 | none=>rfl
 | some o =>
  obtain ⟨o1,e1⟩:=F.keep b o e
  rw [h] at e1
  cases e1
theorem FI.grow (F:FI B H G σ ρ) (s:Same H H1):FI B H1 G σ ρ where
 len:=F.len
 slot:=fun i=>by
  have q:=F.slot i
  cases hs:Qd ρ i with
  | un=>trivial
  | fz t=>rw [hs] at q;obtain ⟨v,a,b⟩:=q;exact ⟨v,a,b.mono (Qbl s)⟩
  | ow t=>rw [hs] at q;obtain ⟨a,h1,h2,o,h5,h6⟩:=q;exact ⟨a,h1,h2,o,s _ _ h5,h6.mono (Qbl s)⟩
  | ml t=>rw [hs] at q;obtain ⟨a,h1,h2,o,h5,h6⟩:=q;exact ⟨a,h1,h2,o,s _ _ h5,h6.mono (Qbl s)⟩
  | ro t=>rw [hs] at q;obtain ⟨a,h1,h2,o,h5,h6⟩:=q;exact ⟨a,h1,h2,o,s _ _ h5,h6.mono (Qbl s)⟩
  | pin a=>rw [hs] at q;exact q
  | fx t=>rw [hs] at q;obtain ⟨v,o,a,e,b⟩:=q;exact ⟨v,o,a,Qbl s _ _ e,b.mono (Qbl s)⟩
 apart:=F.apart
 prv:=F.prv.mono s
 chg:=fun b o h1 h2 e=>s b o (F.chg b o h1 h2 e)
 keep:=fun b o e=>by
  obtain ⟨o1,e1⟩:=F.keep b o e
  exact ⟨o1,s _ _ e1⟩
 newO:=F.newO
 newM:=F.newM
 fix:=F.fix
 gg:=F.gg
 gn:=F.gn
 bp:=F.bp
end
section
variable {B:Bs} {H H1 H2:Hp} {G G1:Addr→Prop} {σ σ1:St} {ρ ρ1 ρ2:En} {t:T}
theorem FI.prvAt (F:FI B H G σ ρ) {i:Nat} (e:(Qd ρ i).prv=some t):∃ a,σ[i]?=some (some (.ref a))∧G a∧OwnAt H G a t:=by
 have q:=F.slot i
 cases hs:Qd ρ i with
 | un=>rw [hs] at e;cases e
 | fz t=>rw [hs] at e;cases e
 | ow t=>rw [hs] at e q;cases e;exact q
 | ml t=>rw [hs] at e q;cases e;exact q
 | ro t=>rw [hs] at e q;cases e;exact q
 | pin a=>rw [hs] at e;cases e
 | fx t=>rw [hs] at e;cases e
theorem Qik {i:Nat} {s:Slot} (h:Qqx H G σ i s) (sm:Same (dls H G) (dls H1 G1)) (hk:∀ a o,(∃ t,s.prv=some t)→σ[i]?=some (some (.ref a))→H a=some o→H1 a=some o∧G1 a):Qqx H1 G1 σ i s:=by
 cases s with
 | un=>trivial
 | fz t=>obtain ⟨v,a,b⟩:=h;exact ⟨v,a,b.mono sm⟩
 | ow t=>obtain ⟨a,h1,h2,o,h5,h6⟩:=h;exact ⟨a,h1,(hk a _ ⟨_,rfl⟩ h1 h5).2,o,(hk a _ ⟨_,rfl⟩ h1 h5).1,h6.mono sm⟩
 | ml t=>obtain ⟨a,h1,h2,o,h5,h6⟩:=h;exact ⟨a,h1,(hk a _ ⟨_,rfl⟩ h1 h5).2,o,(hk a _ ⟨_,rfl⟩ h1 h5).1,h6.mono sm⟩
 | ro t=>obtain ⟨a,h1,h2,o,h5,h6⟩:=h;exact ⟨a,h1,(hk a _ ⟨_,rfl⟩ h1 h5).2,o,(hk a _ ⟨_,rfl⟩ h1 h5).1,h6.mono sm⟩
 | pin a=>exact h
 | fx t=>obtain ⟨v,o,a,e,b⟩:=h;exact ⟨v,o,a,sm _ _ e,b.mono sm⟩
theorem PrvAt.at (F:FI B H G σ ρ) {i:Nat} {a:Addr} (h:PrvAt σ ρ i a):G a∧∃ t,OwnAt H G a t:=by
 obtain ⟨⟨t,e⟩,s⟩:=h
 obtain ⟨b,sb,g,o⟩:=F.prvAt e
 rw [s] at sb
 cases sb
 exact ⟨g,t,o⟩
theorem OwA.prv {a:Addr} (h:OwA σ ρ a):∃ i,PrvAt σ ρ i a:=by
 obtain ⟨i,t,e,s⟩:=h
 exact ⟨i,⟨t,by rw [e];rfl⟩,s⟩
theorem MlA.prv {a:Addr} (h:MlA σ ρ a):∃ i,PrvAt σ ρ i a:=by
 obtain ⟨i,t,e,s⟩:=h
 exact ⟨i,⟨t,by rw [e];rfl⟩,s⟩
theorem Qw2 {i:Nat} {a:Addr} (h:PrvAt σ ρ i a):OwA σ ρ a∨MlA σ ρ a∨PnA σ ρ i a:=by
 obtain ⟨⟨t,e⟩,s⟩:=h
 cases hs:Qd ρ i with
 | un=>rw [hs] at e;cases e
 | fz t=>rw [hs] at e;cases e
 | ow t=>exact .inl ⟨i,t,hs,s⟩
 | ml t=>exact .inr (.inl ⟨i,t,hs,s⟩)
 | ro t=>exact .inr (.inr ⟨⟨t,.inr (.inl hs)⟩,s⟩)
 | pin a=>rw [hs] at e;cases e
 | fx t=>rw [hs] at e;cases e
theorem FI.reG (F:FI B H G σ ρ) (sm:Same (dls H G) (dls H1 G1)) (s:Same H H1) (hk:∀ i a,PrvAt σ ρ i a→G1 a) (hp:Pen H1 G1) (gg:∀ b,B.G b→G1 b) (gn:∀ b,G1 b→B.G b∨B.H b=none):FI B H1 G1 σ ρ where
 len:=F.len
 slot:=fun i=>Qik (F.slot i) sm fun a o h1 h2 e=>⟨s _ _ e,hk i a ⟨h1,h2⟩⟩
 apart:=F.apart
 prv:=hp
 chg:=fun b o h1 h2 e=>s b o (F.chg b o h1 h2 e)
 keep:=fun b o e=>by
  obtain ⟨o1,e1⟩:=F.keep b o e
  exact ⟨o1,s _ _ e1⟩
 newO:=F.newO
 newM:=F.newM
 fix:=F.fix
 gg:=gg
 gn:=gn
 bp:=F.bp
theorem FI.lessG (F:FI B H G σ ρ) (Z:Addr→Prop) (hz:∀ b,Z b→B.H b=none∧∀ i,¬ PrvAt σ ρ i b):FI B H (fun b=>G b∧¬ Z b) σ ρ:=by
 refine F.reG (Qed fun b h=>h.1) (Same.refl H) (fun i a h=>⟨(PrvAt.at F h).1,fun z=>(hz a z).2 i h⟩) (fun b h=>F.prv b h.1) (fun b h=>⟨F.gg b h,fun z=>?_⟩) fun b h=>F.gn b h.1
 obtain ⟨o,e⟩:=F.bp b h
 rw [(hz b z).1] at e
 cases e
theorem FI.addG (F:FI B H G σ ρ) {l:Addr} {vs:HO} (hl:H l=none) (s:Same H H1) (e:H1 l=some vs) (hpn:Q8x vs=true):FI B H1 (fun b=>G b∨b=l) σ ρ:=by
 refine F.reG (fun b o eb=>?_) s (fun i a h=>.inl (PrvAt.at F h).1) (fun b hb=>?_) (fun b h=>.inl (F.gg b h)) (fun b h=>?_)
 ·obtain ⟨nb,eb⟩:=Qak eb
  rw [Qdb fun z=>?_]
  ·exact s b o eb
  ·rcases z with z | z
   ·exact nb z
   ·rw [z,hl] at eb;cases eb
 ·rcases hb with hb | hb
  ·exact F.prv.mono s b hb
  ·exact ⟨vs,hb ▸ e,hpn⟩
 ·rcases h with h | h
  ·exact F.gn b h
  ·exact .inr (h ▸ F.free hl)
end
noncomputable def TmpR (H0:Hp) (H:Hp) (G:Addr→Prop) (σ:St) (ρ:En) (v:V) (t:T):Prop:=∃ a,v=.ref a∧H0 a=none∧G a∧(∀ i,¬ PrvAt σ ρ i a)∧OwnAt H G a t
noncomputable def PVR (H0:Hp) (H:Hp) (G:Addr→Prop) (σ:St) (ρ:En) (v:V):PV→Prop
 | .fz t=>Is (dls H G) v t
 | .ow t=>TmpR H0 H G σ ρ v t
 | .sl i=>σ[i]?=some (some v)
section
variable {H0 H:Hp} {G:Addr→Prop} {σ:St} {ρ:En}
theorem PVR.is {v:V} {t:T} (h:PVR H0 H G σ ρ v (.fz t)):Is (dls H G) v t:=h
theorem pvI {i:Int}:PVR H0 H G σ ρ (.int i) (.fz (.int i)):=show Is (dls H G) (.int i) (.int i) from Is.int
theorem pvB {i:Bool}:PVR H0 H G σ ρ (.bl i) (.fz (.bl i)):=show Is (dls H G) (.bl i) (.bl i) from Is.bl
theorem pvN:PVR H0 H G σ ρ .non (.fz .non):=show Is (dls H G) .non .non from Is.non
theorem pvS {i:Str}:PVR H0 H G σ ρ (.str i) (.fz (.str i)):=show Is (dls H G) (.str i) (.str i) from Is.str
end
noncomputable def Rdb (H:Hp) (G:Addr→Prop) (v:V) (t:T):Prop:=Is (dls H G) v t∨∃ a,v=.ref a∧OwnAt H G a t
theorem Rdb.is {H:Hp} {G:Addr→Prop} {v:V} {t:T} (h:Rdb H G v t):Is H v t:=by
 rcases h with h | ⟨a,rfl,o,e,q⟩
 ·exact h.mono (Qzd _ _)
 ·exact q.is e (Qzd _ _)
theorem Rdb.lst {H:Hp} {G:Addr→Prop} {v:V} {ts:List T} (h:Rdb H G v (.lst ts)):∃ a vs,v=.ref a∧ts.length≤100000∧H a=some (.lst vs)∧IsL (dls H G) vs ts:=by
 rcases h with h | ⟨a,rfl,q⟩
 ·obtain ⟨a,vs,rfl,e,r⟩:=h.lst_inv
  exact ⟨a,vs,rfl,h.lst_len,(Qak e).2,r⟩
 ·obtain ⟨vs,z,h,r⟩:=q.lst_inv
  exact ⟨a,vs,rfl,z,h,r⟩
theorem Rdb.tup {H:Hp} {G:Addr→Prop} {v:V} {ts:List T} (h:Rdb H G v (.tup ts)):Is (dls H G) v (.tup ts):=by
 rcases h with h | ⟨a,_,q⟩
 ·exact h
 ·exact q.no_tup.elim
theorem Rdb.int {H:Hp} {G:Addr→Prop} {v:V} {i:Int} (h:Rdb H G v (.int i)):v=.int i:=h.is.int_inv
theorem Rdb.bl {H:Hp} {G:Addr→Prop} {v:V} {b:Bool} (h:Rdb H G v (.bl b)):v=.bl b:=by
 have q:=h.is
 unfold Is at q
 exact q
theorem Rdb.str {H:Hp} {G:Addr→Prop} {v:V} {b:Str} (h:Rdb H G v (.str b)):v=.str b:=by
 have q:=h.is
 unfold Is at q
 exact q
theorem Rdb.non {H:Hp} {G:Addr→Prop} {v:V} (h:Rdb H G v .non):v=.non:=by
 have q:=h.is
 unfold Is at q
 exact q
section
variable {B:Bs} {H H0 H1 H2:Hp} {G G1 G2:Addr→Prop} {σ σ1:St} {ρ ρ1 ρ2:En} {v:V} {r:PV} {t:T}
theorem PVR.rdb (h:PVR H0 H G σ ρ1 v r) (F:FI B H G σ ρ) (e:cont ρ r=some t):Rdb H G v t:=by
 cases r with
 | fz t=>cases e;exact .inl h
 | ow t =>
  cases e
  obtain ⟨a,rfl,_,_,_,q⟩:=h
  exact .inr ⟨a,rfl,q⟩
 | sl i =>
  obtain ⟨a,s,g,q⟩:=F.prvAt e
  have h:σ[i]?=some (some v):=h
  rw [s] at h
  cases h
  exact .inr ⟨a,rfl,q⟩
theorem OwnAt.mono {a:Addr} (h:OwnAt H G a t) (s:Same (dls H G) (dls H1 G1)) (e:∀ o,H a=some o→H1 a=some o):OwnAt H1 G1 a t:=by
 obtain ⟨o,h3,h4⟩:=h
 exact ⟨o,e _ h3,h4.mono s⟩
theorem FI.nobody (F0:FI B H G σ ρ) (F:FI (Qa2 H G σ ρ) H1 G1 σ ρ1) {a:Addr} {o:HO} (e:H a=some o) (n:∀ i,¬ PrvAt σ ρ i a):∀ i,¬ PrvAt σ ρ1 i a:=fun i h=>by
 have h0:=h
 rcases Qw2 h with h | h | h
 ·rcases F.newO a h with z | z
  ·rw [show H a=none from z] at e;cases e
  ·obtain ⟨j,z⟩:=OwA.prv z;exact n j z
 ·obtain ⟨j,z⟩:=MlA.prv (F.newM a h);exact n j z
 ·obtain ⟨⟨t,z⟩,s⟩:=F.fix i a h
  have g1:=(PrvAt.at F h0).1
  rcases z with z | z | z
  ·exact n i ⟨⟨t,by rw [z];rfl⟩,s⟩
  ·exact n i ⟨⟨t,by rw [z];rfl⟩,s⟩
  ·have q:=F0.slot i
   rw [z] at q
   obtain ⟨b,o',sb,eb,_⟩:=q
   rw [s] at sb
   cases sb
   obtain ⟨ng,hb⟩:=Qak eb
   rcases F.gn a g1 with z | z
   ·exact ng z
   ·rw [show H a=none from z] at hb;cases hb
theorem PVR.step (h:PVR H0 H G σ ρ v r) (F0:FI B H G σ ρ) (F:FI (Qa2 H G σ ρ) H1 G1 σ ρ1):PVR H0 H1 G1 σ ρ1 v r:=by
 cases r with
 | fz t=>exact Is.mono (F0.same F) h
 | sl i=>exact h
 | ow t =>
  obtain ⟨a,rfl,n,g,np,q⟩:=h
  have q':=q
  obtain ⟨ob,ea,_⟩:=q
  refine ⟨a,rfl,n,F.gg a g,F0.nobody F ea np,q'.mono (F0.same F) fun o e=>F.chg a o (fun z=>?_) (fun z=>?_) e⟩
  ·obtain ⟨j,z⟩:=OwA.prv z;exact np j z
  ·obtain ⟨j,z⟩:=MlA.prv z;exact np j z
theorem PVR.early (h:PVR H1 H2 G2 σ ρ2 v r) (F:FI (Qa2 H G σ ρ) H1 G1 σ ρ1):PVR H H2 G2 σ ρ2 v r:=by
 cases r with
 | fz t=>exact h
 | sl i=>exact h
 | ow t =>
  obtain ⟨a,rfl,n,g⟩:=h
  exact ⟨a,rfl,F.free n,g⟩
end
noncomputable def argR (H:Hp) (dx:Option Addr):List Int→Prop
 | []=>dx=none
 | [i]=>∃ d,dx=some d∧H d=some (.xd [("at",.int i)])
 | [i,j]=>∃ d,dx=some d∧H d=some (.xd [("many",.int i),("most",.int j)])
 | _=>False
noncomputable def Q3k (mg:Str→Option Value) (H:Hp) (x:Xn) (cls:Value) (dx:Option Addr):Prop:=∃ nm,Qbk[x.c]?=some nm∧cls=.ref (cad mg nm)∧argR H dx x.arg
structure Pr where
 cf:CF
 R:XR
 mg:Str→Option Value
noncomputable def Fin (p:Pr) (B:Bs) (σ:St) {α:Type} (o:Out α) (K:α→En→Prop):Prop:=match o with
 | .ok a ρ1=>K a ρ1
 | .xn x ρ1=>∀ cls dx H1 G1,FI B H1 G1 σ ρ1→Q3k p.mg H1 x cls dx→p.R cls dx σ H1
 | .no=>False
noncomputable def tE (p:Pr) (e:E):TE:=fun σ H Q=>∃ G ρ,FI (Qa2 H G σ ρ) H G σ ρ∧Fin p (Qa2 H G σ ρ) σ (evE p.cf e ρ) fun r ρ1=>∀ v H1 G1,FI (Qa2 H G σ ρ) H1 G1 σ ρ1→PVR H H1 G1 σ ρ1 v r→Q v H1
inductive PVRs (H0:Hp) (H:Hp) (G:Addr→Prop) (σ:St) (ρ:En):List V→List PV→Prop where
 | nil:PVRs H0 H G σ ρ [] []
 | cons {v r vs rs}:PVR H0 H G σ ρ v r→PVRs H0 H G σ ρ vs rs→PVRs H0 H G σ ρ (v::vs) (r::rs)
noncomputable def tA (p:Pr) (es:Es):TA:=fun σ H Q=>∃ G ρ,FI (Qa2 H G σ ρ) H G σ ρ∧Fin p (Qa2 H G σ ρ) σ (evA p.cf es ρ) fun rs ρ1=>∀ vs H1 G1,FI (Qa2 H G σ ρ) H1 G1 σ ρ1→PVRs H H1 G1 σ ρ1 vs rs→Q vs H1
noncomputable def tT (p:Pr) (e:E):TT:=fun σ H Q=>∃ G ρ,FI (Qa2 H G σ ρ) H G σ ρ∧Fin p (Qa2 H G σ ρ) σ (Qat (evE p.cf e ρ)) fun b ρ1=>∀ H1 G1,FI (Qa2 H G σ ρ) H1 G1 σ ρ1→Q b H1
section
variable {p:Pr} {B:Bs} {H H0 H1 H2:Hp} {G G1:Addr→Prop} {σ:St} {ρ ρ1 ρ2:En} {α β:Type}
theorem Fin.bind {o:Out α} {k:α→En→Out β} {K:β→En→Prop} (h:Fin p B σ (o.bind k) K):Fin p B σ o fun a ρ1=>Fin p B σ (k a ρ1) K:=by
 cases o with
 | ok a ρ1=>exact h
 | xn x ρ1=>exact h
 | no=>exact h
theorem Fin.imp {o:Out α} {K K':α→En→Prop} (h:Fin p B σ o K) (q:∀ a ρ1,K a ρ1→K' a ρ1):Fin p B σ o K':=by
 cases o with
 | ok a ρ1=>exact q _ _ h
 | xn x ρ1=>exact h
 | no=>exact h
theorem Fin.rebase {o:Out α} {K K':α→En→Prop} (F:FI B H1 G σ ρ1) (h:Fin p B σ o K) (q:∀ a ρ2,K a ρ2→K' a ρ2):Fin p (Qa2 H1 G σ ρ1) σ o K':=by
 cases o with
 | ok a ρ1=>exact q _ _ h
 | xn x ρ1=>exact fun cls dx H2 G2 F2=>h cls dx H2 G2 (F.trans F2)
 | no=>exact h
theorem Ql1 {e:E} {Q:VK} {K:PV→En→Prop} (F:FI B H1 G σ ρ1) (h:Fin p B σ (evE p.cf e ρ1) K) (q:∀ r ρ2 v H2 G2,K r ρ2→FI B H2 G2 σ ρ2→FI (Qa2 H1 G σ ρ1) H2 G2 σ ρ2→PVR H1 H2 G2 σ ρ2 v r→Q v H2):tE p e σ H1 Q :=
 ⟨G,ρ1,F.self,h.rebase F fun r ρ2 k v H2 G2 F2 pv=>q r ρ2 v H2 G2 k (F.trans F2) F2 pv⟩
theorem Quy {es:Es} {Q:List V→Hp→Prop} {K:List PV→En→Prop} (F:FI B H1 G σ ρ1) (h:Fin p B σ (evA p.cf es ρ1) K) (q:∀ r ρ2 v H2 G2,K r ρ2→FI B H2 G2 σ ρ2→FI (Qa2 H1 G σ ρ1) H2 G2 σ ρ2→PVRs H1 H2 G2 σ ρ2 v r→Q v H2):tA p es σ H1 Q :=
 ⟨G,ρ1,F.self,h.rebase F fun r ρ2 k v H2 G2 F2 pv=>q r ρ2 v H2 G2 k (F.trans F2) F2 pv⟩
theorem Qz3 {e:E} {Q:Bool→Hp→Prop} {K:Bool→En→Prop} (F:FI B H1 G σ ρ1) (h:Fin p B σ (Qat (evE p.cf e ρ1)) K) (q:∀ b ρ2 H2 G2,K b ρ2→FI B H2 G2 σ ρ2→FI (Qa2 H1 G σ ρ1) H2 G2 σ ρ2→Q b H2):tT p e σ H1 Q :=
 ⟨G,ρ1,F.self,h.rebase F fun r ρ2 k H2 G2 F2=>q r ρ2 H2 G2 k (F.trans F2) F2⟩
theorem tE2 {a b:E} {f:PV→PV→En→Out β} {K:β→En→Prop} {Z:V→V→Hp→Prop} (F:FI (Qa2 H G σ ρ) H G σ ρ) (h:Fin p (Qa2 H G σ ρ) σ ((evE p.cf a ρ).bind fun ra ρ1=>(evE p.cf b ρ1).bind fun rb ρ2=>f ra rb ρ2) K)
  (q:∀ ra rb ρ2 x y H2 G2,FI (Qa2 H G σ ρ) H2 G2 σ ρ2→PVR H H2 G2 σ ρ2 x ra→PVR H H2 G2 σ ρ2 y rb→Fin p (Qa2 H G σ ρ) σ (f ra rb ρ2) K→Z x y H2):tE p a σ H fun x H1=>tE p b σ H1 fun y H2=>Z x y H2:=by
 refine ⟨G,ρ,F,h.bind.imp fun ra ρ1 h1 x H1 G1 F1 r1=>?_⟩
 refine Ql1 F1 h1.bind fun rb ρ2 y H2 G2 h2 F2 F2' r2=>?_
 exact q ra rb ρ2 x y H2 G2 F2 (r1.step F1 F2') (r2.early F1) h2
theorem Qhb {o:Out PV} {K:Bool→En→Prop} (h:Fin p B σ (Qat o) K):Fin p B σ o fun r ρ1=>∃ b,r=.fz (.bl b)∧K b ρ1:=by
 cases o with
 | ok r ρ1 =>
  cases r with
  | fz t=>cases t <;> first | exact ⟨_,rfl,h⟩ | exact False.elim h
  | ow t=>exact False.elim h
  | sl i=>exact False.elim h
 | xn x ρ1=>exact h
 | no=>exact h
end
theorem QE.weak {X:Cx} {e:Expr} {t t':TE} (h:QE X e t) (q:∀ σ H Q,t' σ H Q→t σ H Q):QE X e t':=⟨h.h.weak q⟩
theorem QA.weak {X:Cx} {e:List Expr} {t t':TA} (h:QA X e t) (q:∀ σ H Q,t' σ H Q→t σ H Q):QA X e t':=⟨h.h.weak q⟩
theorem QT.weak {X:Cx} {e:Expr} {t t':TT} (h:QT X e t) (q:∀ σ H Q,t' σ H Q→t σ H Q):QT X e t':=⟨fun pins s σ H Q I z=>h.h pins s σ H Q I (q _ _ _ z)⟩
theorem QW.weak {X:Cx} {e:Expr} {t t':TT} (h:QW X e t) (q:∀ σ H Q,t' σ H Q→t σ H Q):QW X e t':=⟨fun wh pins s σ H Q I z=>h.h wh pins s σ H Q I (q _ _ _ z)⟩
section
variable {X:Cx} {p:Pr} {e a b:Expr} {es:List Expr} {e' a' b' c':E} {es':Es} {pos p1 p2 p3:Pos} {x:Str}
theorem Qadp {i:Nat} (hN:X.N[i]?=some x) (hv:Vis X.env.scope x) (hd:(x==("__debug__" : Str))=false) (hcd:(x==("__classdict__" : Str))=false):QE X (.Name x pos) (tE p (.var i)) :=
 (Qb5 i hN hv hd hcd).weak fun σ H Q zz1=>by
  obtain ⟨G,ρ,F,h⟩:=zz1
  have q:=F.slot i
  unfold evE at h
  cases hs:Qd ρ i with
  | un=>rw [hs] at h;exact False.elim h
  | pin _=>rw [hs] at h;exact False.elim h
  | fx t=>rw [hs] at h q;obtain ⟨v,o,e,_,r⟩:=q;exact ⟨_,e,h _ H G F r⟩
  | fz t=>rw [hs] at h q;obtain ⟨v,e,r⟩:=q;exact ⟨v,e,h v H G F r⟩
  | ow t=>rw [hs] at h q;obtain ⟨a,e,_⟩:=q;exact ⟨_,e,h _ H G F e⟩
  | ml t=>rw [hs] at h q;obtain ⟨a,e,_⟩:=q;exact ⟨_,e,h _ H G F e⟩
  | ro t=>rw [hs] at h q;obtain ⟨a,e,_⟩:=q;exact ⟨_,e,h _ H G F e⟩
theorem Qn {i j}:QE X (.Constant (.int i) j pos) (tE p (.int i)):=Qnw.weak fun σ H Q zz1=>by obtain ⟨G,ρ,F,h⟩:=zz1;unfold evE at h;exact h _ H G F pvI
theorem Qj3 {i j}:QE X (.Constant (.bool i) j pos) (tE p (.bl i)):=Q26.weak fun σ H Q zz1=>by obtain ⟨G,ρ,F,h⟩:=zz1;unfold evE at h;exact h _ H G F pvB
theorem Qi7 {j}:QE X (.Constant .none j pos) (tE p .non):=Qacr.weak fun σ H Q zz1=>by obtain ⟨G,ρ,F,h⟩:=zz1;unfold evE at h;exact h _ H G F pvN
theorem Qa0 {i j}:QE X (.Constant (.str i) j pos) (tE p (.str i)):=Qlq.weak fun σ H Q zz1=>by obtain ⟨G,ρ,F,h⟩:=zz1;unfold evE at h;exact h _ H G F pvS
theorem Q9d {i:Int} (h:∃ u,X.mg x=some u∧RelV (.int i) u) (hg:Gl X x) (hd:(x==("__debug__" : Str))=false):QE X (.Name x pos) (tE p (.int i)) :=
 (Qy4 h hg hd).weak fun σ H Q zz1=>by obtain ⟨G,ρ,F,h⟩:=zz1;unfold evE at h;exact h _ H G F pvI
theorem Qh:QA X [] (tA p .nil):=Qa7.weak fun σ H Q zz1=>by obtain ⟨G,ρ,F,h⟩:=zz1;unfold evA at h;exact h [] H G F .nil
theorem PVRs.early {H H1 H2:Hp} {G G1 G2:Addr→Prop} {σ:St} {ρ ρ1 ρ2:En} {vs:List V} {rs:List PV} (h:PVRs H1 H2 G2 σ ρ2 vs rs) (F:FI (Qa2 H G σ ρ) H1 G1 σ ρ1):PVRs H H2 G2 σ ρ2 vs rs:=by
 induction h with
 | nil=>exact .nil
 | cons a _ ih=>exact .cons (a.early F) ih
theorem Q9e (ha:QE X e (tE p e')) (hr:QA X es (tA p es')) (hs:Q5 e=true):QA X (e::es) (tA p (.cons e' es')) :=
 (Qs ha hr hs).weak fun σ H Q zz1=>by
  obtain ⟨G,ρ,F,h⟩:=zz1
  unfold evA at h
  refine ⟨G,ρ,F,h.bind.imp fun r ρ1 h1 v H1 G1 F1 r1=>?_⟩
  refine Quy F1 h1.bind fun rs ρ2 vs H2 G2 h2 F2 F2' r2=>?_
  exact h2 (v::vs) H2 G2 F2 (.cons (r1.step F1 F2') (r2.early F1))
noncomputable def Ql2:List V→List PV→Addr→Prop
 | v::vs,.ow _::rs,b=>v=.ref b∨Ql2 vs rs b
 | _::vs,_::rs,b=>Ql2 vs rs b
 | _,_,_=>False
theorem PVRs.tmp {H0 H:Hp} {G:Addr→Prop} {σ:St} {ρ:En} {vs:List V} {rs:List PV} (h:PVRs H0 H G σ ρ vs rs) {b:Addr} (z:Ql2 vs rs b):H0 b=none∧∀ i,¬ PrvAt σ ρ i b:=by
 induction h with
 | nil=>exact False.elim z
 | cons a _ ih =>
  rename_i v r vs rs _
  cases r with
  | fz t=>exact ih z
  | sl i=>exact ih z
  | ow t =>
   rcases z with z | z
   ·obtain ⟨c,e,n,_,np,_⟩:=a
    rw [z] at e
    cases e
    exact ⟨n,np⟩
   ·exact ih z
theorem PVRs.frz {H0 H:Hp} {G G':Addr→Prop} {σ:St} {ρ:En} {vs:List V} {rs:List PV} (h:PVRs H0 H G σ ρ vs rs) (s:∀ b,G' b→G b) (n:∀ b,Ql2 vs rs b→¬ G' b):∀ {ts:List T},Qcl rs=some ts→IsL (dls H G') vs ts:=by
 induction h with
 | nil=>intro ts e;cases e;exact .nil
 | cons a _ ih =>
  intro ts e
  rename_i v r vs rs _
  unfold Qcl at e
  cases h1:L2.frz r with
  | none=>rw [h1] at e;cases e
  | some t =>
   cases h2:Qcl rs with
   | none=>rw [h1,h2] at e;cases e
   | some us =>
    rw [h1,h2] at e
    cases e
    cases r with
    | sl i=>cases h1
    | fz t' =>
     cases h1
     exact .cons (Is.mono (Qed s) a) (ih (fun b z=>n b z) h2)
    | ow t' =>
     cases h1
     obtain ⟨c,rfl,_,_,_,ob,ec,q⟩:=a
     exact .cons (q.is (by rw [Qdb (n c (.inl rfl))];exact ec) (Qed s)) (ih (fun b z=>n b (.inr z)) h2)
theorem PVRs.lay {B:Bs} {H:Hp} {G:Addr→Prop} {σ:St} {ρ:En} {vs:List V} {rs:List PV} {ts:List T} (h:PVRs B.H H G σ ρ vs rs) (F:FI B H G σ ρ) (e:Qcl rs=some ts):∃ G',FI B H G' σ ρ∧IsL (dls H G') vs ts∧∀ b,G' b→G b :=
 ⟨_,F.lessG (Ql2 vs rs) fun b z=>h.tmp z,h.frz (fun b z=>z.1) (fun b z y=>y.2 z) e,fun b z=>z.1⟩
theorem PVR.lay {B:Bs} {H:Hp} {G:Addr→Prop} {σ:St} {ρ:En} {v:V} {r:PV} {t:T} (h:PVR B.H H G σ ρ v r) (F:FI B H G σ ρ) (e:L2.frz r=some t):∃ G',FI B H G' σ ρ∧Is (dls H G') v t∧∀ b,G' b→G b:=by
 obtain ⟨G',F',i,s⟩:=PVRs.lay (.cons h .nil) F (ts:=[t]) (by unfold Qcl;rw [e];rfl)
 obtain ⟨v',w,e,a,_⟩:=i.cons_inv
 cases e
 exact ⟨G',F',a,s⟩
theorem Qfy {x1} (h:QA X es (tA p es')):QE X (.Tuple es x1 pos) (tE p (.tup es')) :=
 (Qacs h).weak fun σ H Q zz1=>by
  obtain ⟨G,ρ,F,h⟩:=zz1
  unfold evE at h
  refine ⟨G,ρ,F,h.bind.imp fun rs ρ1 h1 vs H1 G1 F1 r1=>?_⟩
  cases e:Qcl rs with
  | none=>rw [e] at h1;exact False.elim h1
  | some ts =>
   rw [e] at h1
   by_cases z:ts.length≤100000
   ·simp only [if_pos z] at h1
    obtain ⟨G',F',r,_⟩:=PVRs.lay (B:=Qa2 H G σ ρ) r1 F1 e
    refine Q8z F'.prv r z fun y H2 s2 i2=>h1 y H2 G' (F'.grow s2) i2
   ·simp only [if_neg z] at h1
    exact False.elim h1
theorem Qz4 {B:Bs} {H H1:Hp} {G:Addr→Prop} {σ:St} {ρ:En} {l:Addr} {ob:HO} {t:T} (F:FI B H G σ ρ) (hl:H l=none) (s:Same H H1) (e:H1 l=some ob) (r:OwnO (dls H G) t ob) :
  FI B H1 (fun b=>G b∨b=l) σ ρ∧PVR B.H H1 (fun b=>G b∨b=l) σ ρ (.ref l) (.ow t):=by
 refine ⟨F.addG hl s e r.pen,l,rfl,F.free hl,.inr rfl,fun i h=>?_,ob,e,r.mono fun b o eb=>?_⟩
 ·obtain ⟨_,t,o,ea,_⟩:=PrvAt.at F h
  rw [hl] at ea
  cases ea
 ·obtain ⟨nb,eb⟩:=Qak eb
  rw [Qdb fun z=>?_]
  ·exact s b o eb
  ·rcases z with z | z
   ·exact nb z
   ·rw [z,hl] at eb;cases eb
theorem Qf8 {B:Bs} {H H1:Hp} {G:Addr→Prop} {σ:St} {ρ:En} {l:Addr} {vs:List V} {ts:List T} (F:FI B H G σ ρ) (hl:H l=none) (s:Same H H1) (e:H1 l=some (.lst vs)) (r:IsL (dls H G) vs ts) (z:ts.length≤100000) :
  FI B H1 (fun b=>G b∨b=l) σ ρ∧PVR B.H H1 (fun b=>G b∨b=l) σ ρ (.ref l) (.ow (.lst ts)):=Qz4 F hl s e ⟨z,r⟩
theorem Qce (h:QA X es (tA p es')):QE X (.List es pos) (tE p (.lst es')) :=
 (Qqk h).weak fun σ H Q zz1=>by
  obtain ⟨G,ρ,F,h⟩:=zz1
  unfold evE at h
  refine ⟨G,ρ,F,h.bind.imp fun rs ρ1 h1 vs H1 G1 F1 r1=>?_⟩
  cases e:Qcl rs with
  | none=>rw [e] at h1;exact False.elim h1
  | some ts =>
   rw [e] at h1
   by_cases z:ts.length≤100000
   ·simp only [if_pos z] at h1
    obtain ⟨G',F',r,_⟩:=PVRs.lay (B:=Qa2 H G σ ρ) r1 F1 e
    refine Q80 F'.prv r z fun l H2 s2 n2 e2 i2=>?_
    obtain ⟨F2,r2⟩:=Qf8 F' n2 s2 e2 r z
    exact h1 _ H2 _ F2 r2
   ·simp only [if_neg z] at h1
    exact False.elim h1
theorem Qlh {B:Bs} {σ:St} {ρ:En} {α:Type} {o:Option α} {K:α→En→Prop} (h:Fin p B σ (.opt o ρ) K):∃ a,o=some a∧K a ρ:=by
 cases o with
 | none=>exact False.elim h
 | some a=>exact ⟨a,rfl,h⟩
theorem Qz5 {B:Bs} {σ:St} {ρ:En} {α:Type} {ra rb:PV} {f:T→T→Out α} {K:α→En→Prop} (h:Fin p B σ (match cont ρ ra,cont ρ rb with | some x,some y=>f x y | _,_=>.no) K):∃ x y,cont ρ ra=some x∧cont ρ rb=some y∧Fin p B σ (f x y) K:=by
 cases h1:cont ρ ra with
 | none=>rw [h1] at h;exact False.elim h
 | some x =>
  cases h2:cont ρ rb with
  | none=>rw [h1,h2] at h;exact False.elim h
  | some y=>rw [h1,h2] at h;exact ⟨x,y,rfl,rfl,h⟩
noncomputable def Op2 (r:R2) (f:T→T→Option PV):Prop:=∀ (B:Bs) (H:Hp) (G:Addr→Prop) (σ:St) (ρ:En) (x y:V) (t u:T) (w:PV) (Q:VK),FI B H G σ ρ→Rdb H G x t→Rdb H G y u→f t u=some w→(∀ v H1 G1,FI B H1 G1 σ ρ→PVR B.H H1 G1 σ ρ v w→Q v H1)→r x y H Q
theorem Qn3 {op:Operator} {r:R2} {o:BOp} (ho:QOp X (binaryOp op) r) (hs:Op2 r (opB o)) (ha:QE X a (tE p a')) (hb:QE X b (tE p b')):QE X (.BinOp a op b pos) (tE p (.bin o a' b')) :=
 (Qwm ho ha hb).weak fun σ H Q zz1=>by
  obtain ⟨G,ρ,F,h⟩:=zz1
  unfold evE at h
  refine tE2 F h fun ra rb ρ2 x y H2 G2 F2 r1 r2 h2=>?_
  obtain ⟨t,u,c1,c2,h3⟩:=Qz5 h2
  obtain ⟨w,e,k⟩:=Qlh h3
  exact hs _ H2 G2 σ ρ2 x y t u w Q F2 (r1.rdb F2 c1) (r2.rdb F2 c2) e fun v H3 G3 F3 pv=>k v H3 G3 F3 pv
theorem Qe8 {t:T} {i:Int} (e:asI t=some i):t=.int i:=by
 cases t <;> first | (cases e;done) | skip
 cases e
 rfl
theorem Qli {o:BOp} {t u:T} {w:PV} (e:opB o t u=some w) (hx:∀ t u,opX o t u=none):∃ i j,t=.int i∧u=.int j∧opN o i j=some w:=by
 unfold opB at e
 cases h1:asI t with
 | none=>rw [h1] at e;exact absurd e (by simp [hx])
 | some i =>
  cases h2:asI u with
  | none=>rw [h1,h2] at e;exact absurd e (by simp [hx])
  | some j=>rw [h1,h2] at e;exact ⟨i,j,Qe8 h1,Qe8 h2,e⟩
theorem Quz {o:BOp} {t u:T} {w:PV} (e:opB o t u=some w):(∃ i j,t=.int i∧u=.int j∧opN o i j=some w)∨opX o t u=some w:=by
 unfold opB at e
 cases h1:asI t with
 | none=>rw [h1] at e;exact .inr e
 | some i =>
  cases h2:asI u with
  | none=>rw [h1,h2] at e;exact .inr e
  | some j=>rw [h1,h2] at e;exact .inl ⟨i,j,Qe8 h1,Qe8 h2,e⟩
theorem Q3l (K:PySem.W.Frag):Op2 (Qnu K) (opB .add):=by
 intro B H G σ ρ x y t u w Q F hx hy e q
 rcases Quz e with ⟨i,j,rfl,rfl,e⟩ | e1
 ·obtain rfl:=hx.int
  obtain rfl:=hy.int
  cases e
  exact .inl ⟨_,_,rfl,rfl,q _ H G F pvI⟩
 replace e:Q9a t u=some w:=e1
 clear e1
 unfold Q9a at e
 split at e
 ·rename_i ts us
  by_cases z:ts.length+us.length≤100000
  ·rw [if_pos z] at e;cases e
   exact Q8y F.prv hx.tup hy.tup z fun v H1 s1 i1=>q v H1 G (F.grow s1) i1
  ·rw [if_neg z] at e;cases e
 ·rename_i ts us
  by_cases z:ts.length+us.length≤100000
  ·rw [if_pos z] at e;cases e
   obtain ⟨a,vs,rfl,z1,ea,r1⟩:=hx.lst
   obtain ⟨b,ws,rfl,z2,eb,r2⟩:=hy.lst
   refine .inr (.inl ⟨a,b,vs,ws,rfl,rfl,ea,eb,Qc2 (by rw [r1.length,r2.length];exact z),fun l hl=>?_⟩)
   obtain ⟨F2,r3⟩:=Qf8 F hl (Same.upd hl) Qp (r1.append r2) (by rw [List.length_append];exact z)
   exact q _ _ _ F2 r3
  ·rw [if_neg z] at e;cases e
 ·cases e
theorem Q3m:Op2 (rI0 fun i j=>.int (i-j)) (opB .sub):=by
 intro B H G σ ρ x y t u w Q F hx hy e q
 obtain ⟨i,j,rfl,rfl,e⟩:=Qli e fun _ _=>rfl
 obtain rfl:=hx.int
 obtain rfl:=hy.int
 cases e
 exact ⟨_,_,rfl,rfl,q _ H G F pvI⟩
theorem Qqy {i:Int} (h:i.natAbs<2^250):Builtin.Int.intBits i≤2^20:=by
 have h1:Builtin.Int.intBits i≤250:=by
  unfold Builtin.Int.intBits
  split
  ·exact Nat.zero_le _
  ·rename_i hn
   have h0:i.natAbs≠0:=by
    intro z
    exact hn (by simpa using z)
   have h2:i.natAbs.log2<250:=(Nat.log2_lt h0).mpr h
   omega
 exact Nat.le_trans h1 (by decide)
theorem Qqz {i:Int} (h:i.natAbs.log2<9000):Builtin.Int.intBits i≤2^20:=by
 have h1:Builtin.Int.intBits i≤9000:=by
  unfold Builtin.Int.intBits
  split
  ·exact Nat.zero_le _
  ·omega
 exact Nat.le_trans h1 (by decide)
theorem Q3n {i j:Int} (h:Qfw i j=true):IntMulOk i j:=by
 unfold Qfw at h
 simp only [Bool.or_eq_true,Bool.and_eq_true,decide_eq_true_eq] at h
 rcases h with h | h | ⟨h1,h2⟩ | ⟨h1,h2⟩
 ·exact CMul.ok (.inl ⟨by omega,by omega⟩)
 ·exact CMul.ok (.inr ⟨by omega,by omega⟩)
 ·exact .of_bits (Qqy h1) (Qqy h2)
 ·exact .of_bits (Qqz h1) (Qqz h2)
noncomputable def Q6f:R2:=fun x y H Q=>(rI (fun i j=>IntMulOk i j) fun i j=>.int (i*j)) x y H Q∨Q5x x y H Q
theorem Q9f:QOp X (binaryOp .Mult) Q6f:=⟨(opI fun _ _ _ _ _ _ _ hc q=>mul_int q hc).or uMul⟩
theorem Q3o:Op2 Q6f (opB .mul):=by
 intro B H G σ ρ x y t u w Q F hx hy e q
 rcases Quz e with ⟨i,j,rfl,rfl,e⟩ | e1
 ·obtain rfl:=hx.int
  obtain rfl:=hy.int
  have e':(if Qfw i j=true then some (PV.fz (.int (i*j))) else none)=some w:=e
  by_cases z:Qfw i j=true
  ·rw [if_pos z] at e';cases e'
   exact .inl ⟨_,_,rfl,rfl,Q3n z,q _ H G F pvI⟩
  ·rw [if_neg z] at e';cases e'
 replace e:Q9b t (asI u)=some w:=e1
 clear e1
 unfold Q9b at e
 split at e
 ·rename_i ts k hk
  obtain rfl:=Qe8 hk
  obtain rfl:=hy.int
  by_cases z:ts.length*k.toNat≤100000∧1≤k∧k.natAbs≤100000∧ts≠[]
  ·rw [if_pos z] at e;cases e
   obtain ⟨a,vs,rfl,ha,r⟩:=hx.tup.tup_inv
   obtain ⟨z1,z2,z3,z4⟩:=z
   have hl:=r.length
   refine .inr (.inr (.inr ⟨a,k,vs,rfl,rfl,(Qak ha).2,fun e=>?_,z2,by omega,Qc2 (by rw [hl];exact z1),fun l H1 s1 e1 _=>q _ H1 G (F.grow s1) (Qe4 (F.prv.mono s1) e1 ((r.flat k.toNat).mono (Qbl s1)) ?_)⟩))
   ·rw [e] at hl
    exact z4 (List.length_eq_zero_iff.mp hl.symm)
   ·rw [Qiy,Nat.mul_comm];exact z1
  ·rw [if_neg z] at e;cases e
 ·rename_i ts k hk
  obtain rfl:=Qe8 hk
  obtain rfl:=hy.int
  by_cases z:ts.length*k.toNat≤100000∧1≤k∧k.natAbs≤100000
  ·rw [if_pos z] at e;cases e
   obtain ⟨a,vs,rfl,z1,ea,r1⟩:=hx.lst
   obtain ⟨z2,z3,z4⟩:=z
   refine .inr (.inr (.inl ⟨a,k,vs,rfl,rfl,ea,by omega,by omega,Qc2 (by rw [r1.length];exact z2),fun l hl=>?_⟩))
   obtain ⟨F2,r3⟩:=Qf8 F hl (Same.upd hl) Qp (r1.flat k.toNat) (by rw [Qiy,Nat.mul_comm];exact z2)
   exact q _ _ _ F2 r3
  ·rw [if_neg z] at e;cases e
 ·cases e
noncomputable def CDvF (i j:Int):Prop:=j≠0∧j.natAbs.log2<9000
theorem Q9g:QOp X (binaryOp .FloorDiv) (rI CDvF fun i j=>.int (i.fdiv j)):=⟨opI fun i j _ _ _ _ _ hc q=>floordiv_int hc.1 q (.inl (PyProof.noPylong_of_log2 hc.2))⟩
theorem Q9h:QOp X (binaryOp .Mod) (rI (fun _ j=>j≠0) fun i j=>.int (i.fmod j)):=⟨Q2c⟩
theorem Q3p:Op2 (rI CDvF fun i j=>.int (i.fdiv j)) (opB .fdv):=by
 intro B H G σ ρ x y t u w Q F hx hy e q
 obtain ⟨i,j,rfl,rfl,e⟩:=Qli e fun _ _=>rfl
 obtain rfl:=hx.int
 obtain rfl:=hy.int
 have e':(if 0<j∧j.natAbs<2^64 then some (PV.fz (.int (i / j))) else if j≠0∧j.natAbs.log2<9000 then some (.fz (.int (i.fdiv j))) else none)=some w:=e
 by_cases z:0<j∧j.natAbs<2^64
 ·rw [if_pos z] at e';cases e'
  refine ⟨_,_,rfl,rfl,⟨by omega,Nat.lt_trans ((Nat.log2_lt (show j.natAbs≠0 by omega)).mpr z.2) (by decide)⟩,?_⟩
  show Q (.int (i.fdiv j)) H
  rw [Int.fdiv_eq_ediv_of_nonneg i (by omega)]
  exact q _ H G F pvI
 ·rw [if_neg z] at e'
  by_cases z2:j≠0∧j.natAbs.log2<9000
  ·rw [if_pos z2] at e';cases e'
   exact ⟨_,_,rfl,rfl,z2,q _ H G F pvI⟩
  ·rw [if_neg z2] at e';cases e'
theorem Q3q:Op2 (rI (fun _ j=>j≠0) fun i j=>.int (i.fmod j)) (opB .mod):=by
 intro B H G σ ρ x y t u w Q F hx hy e q
 obtain ⟨i,j,rfl,rfl,e⟩:=Qli e fun _ _=>rfl
 obtain rfl:=hx.int
 obtain rfl:=hy.int
 have e':(if 0<j then some (PV.fz (.int (i%j))) else if j<0 then some (.fz (.int (i.fmod j))) else none)=some w:=e
 by_cases z:0<j
 ·rw [if_pos z] at e';cases e'
  refine ⟨_,_,rfl,rfl,by omega,?_⟩
  show Q (.int (i.fmod j)) H
  rw [Int.fmod_eq_emod_of_nonneg i (by omega)]
  exact q _ H G F pvI
 ·rw [if_neg z] at e'
  by_cases z2:j<0
  ·rw [if_pos z2] at e';cases e'
   exact ⟨_,_,rfl,rfl,by omega,q _ H G F pvI⟩
  ·rw [if_neg z2] at e';cases e'
theorem Q3r:Op2 (rI Q7w fun i j=>.int (i^j.toNat)) (opB .pow):=by
 intro B H G σ ρ x y t u w Q F hx hy e q
 obtain ⟨i,j,rfl,rfl,e⟩:=Qli e fun _ _=>rfl
 obtain rfl:=hx.int
 obtain rfl:=hy.int
 have e':(if 0≤j∧j.natAbs≤1000000∧i.natAbs<2^64 then some (PV.fz (.int (i^j.toNat))) else none)=some w:=e
 by_cases z:0≤j∧j.natAbs≤1000000∧i.natAbs<2^64
 ·rw [if_pos z] at e';cases e'
  exact ⟨_,_,rfl,rfl,⟨z.1,by omega,z.2.2⟩,q _ H G F pvI⟩
 ·rw [if_neg z] at e';cases e'
theorem Q6g (ha:QE X a (tE p a')):QE X (.UnaryOp .USub a pos) (tE p (.neg a')) :=
 (q_un Qacz ha).weak fun σ H Q zz1=>by
  obtain ⟨G,ρ,F,h⟩:=zz1
  unfold evE at h
  refine ⟨G,ρ,F,h.bind.imp fun r ρ1 h1 v H1 G1 F1 r1=>?_⟩
  cases r with
  | fz t =>
   cases t <;> first | exact False.elim h1 | skip
   obtain rfl:=r1.is.int_inv
   exact ⟨_,rfl,h1 _ H1 G1 F1 pvI⟩
  | ow t=>exact False.elim h1
  | sl i=>exact False.elim h1
theorem PVR.bl {H0 H:Hp} {G:Addr→Prop} {σ:St} {ρ:En} {v:V} {b:Bool} (h:PVR H0 H G σ ρ v (.fz (.bl b))):v=.bl b:=by
 have q:=h.is
 unfold Is at q
 exact q
theorem Qq0 {Q:Bool→Hp→Prop} {σ:St} {H:Hp} (h:tT p e' σ H Q):tE p e' σ H fun x H1=>∃ c,x=.bl c∧Q c H1:=by
 obtain ⟨G,ρ,F,h⟩:=h
 refine ⟨G,ρ,F,(Qhb h).imp ?_⟩
 rintro r ρ1 ⟨b,rfl,k⟩ v H1 G1 F1 r1
 exact ⟨b,r1.bl,k H1 G1 F1⟩
theorem Q6h (ha:QE X a (tE p a')):QE X (.UnaryOp .Not a pos) (tE p (.not a')) :=
 (Q50 ha).weak fun σ H Q zz1=>by
  obtain ⟨G,ρ,F,h⟩:=zz1
  unfold evE at h
  exact Qq0 (Q:=fun c H1=>Q (.bl (!c)) H1) ⟨G,ρ,F,h.bind.imp fun b ρ1 k H1 G1 F1=>k _ H1 G1 F1 pvB⟩
theorem Qu0 {rest:List Expr} (ha:QE X a (tE p a')) (hb:QE X (.BoolOp .And (b::rest) pos) (tE p b')):QE X (.BoolOp .And (a::b::rest) pos) (tE p (.and a' b')) :=
 (Q52 ha hb).weak fun σ H Q zz1=>by
  obtain ⟨G,ρ,F,h⟩:=zz1
  unfold evE at h
  refine Qq0 (Q:=fun c H1=>if c=true then tE p b' σ H1 Q else Q (.bl false) H1) ⟨G,ρ,F,h.bind.imp fun c ρ1 k H1 G1 F1=>?_⟩
  cases c with
  | false=>exact k _ H1 G1 F1 pvB
  | true =>
   show tE p b' σ H1 Q
   refine Ql1 F1 (Qhb k.bind) ?_
   rintro r ρ2 v H2 G2 ⟨d,rfl,k2⟩ F2 F2' r2
   exact k2 v H2 G2 F2 r2
theorem s_or {rest:List Expr} (ha:QE X a (tE p a')) (hb:QE X (.BoolOp .Or (b::rest) pos) (tE p b')):QE X (.BoolOp .Or (a::b::rest) pos) (tE p (.or a' b')) :=
 (q_or ha hb).weak fun σ H Q zz1=>by
  obtain ⟨G,ρ,F,h⟩:=zz1
  unfold evE at h
  refine Qq0 (Q:=fun c H1=>if c=true then Q (.bl true) H1 else tE p b' σ H1 Q) ⟨G,ρ,F,h.bind.imp fun c ρ1 k H1 G1 F1=>?_⟩
  cases c with
  | true=>exact k _ H1 G1 F1 pvB
  | false =>
   show tE p b' σ H1 Q
   refine Ql1 F1 (Qhb k.bind) ?_
   rintro r ρ2 v H2 G2 ⟨d,rfl,k2⟩ F2 F2' r2
   exact k2 v H2 G2 F2 r2
theorem Qq1 {op} (ha:QE X a (tE p a')):QE X (.BoolOp op [a] pos) (tE p a'):=Q51 ha
theorem Qu1 {c:Expr} (hc:QT X c (tT p c')) (ha:QE X a (tE p a')) (hb:QE X b (tE p b')):QE X (.IfExp c a b pos) (tE p (.ite c' a' b')) :=
 (q_if hc ha hb).weak fun σ H Q zz1=>by
  obtain ⟨G,ρ,F,h⟩:=zz1
  unfold evE at h
  refine ⟨G,ρ,F,h.bind.imp fun k ρ1 h1 H1 G1 F1=>?_⟩
  cases k with
  | true=>exact Ql1 F1 h1 fun r ρ2 v H2 G2 k2 F2 F2' r2=>k2 v H2 G2 F2 (r2.early F1)
  | false=>exact Ql1 F1 h1 fun r ρ2 v H2 G2 k2 F2 F2' r2=>k2 v H2 G2 F2 (r2.early F1)
theorem Qadr (ha:QE X e (tE p e')) (he:∀ whole,isTrue e X.env whole=(do let v ← whole;standAt e.pos;holding [v] (truthy v))):QT X e (tT p e'):=(Qs5 ha he).weak fun σ H Q h=>Qq0 h
theorem Qfz (ha:QT X a (tT p a')):QT X (.UnaryOp .Not a pos) (tT p (.not a')) :=
 (Qy6 ha).weak fun σ H Q zz1=>by
  obtain ⟨G,ρ,F,h⟩:=zz1
  unfold evE at h
  refine ⟨G,ρ,F,?_⟩
  cases e:Qat (evE p.cf a' ρ) with
  | ok b ρ1=>rw [e] at h;exact h
  | xn x ρ1=>rw [e] at h;exact h
  | no=>rw [e] at h;exact h
theorem Qads {rest:List Expr} (ha:QT X a (tT p a')) (hb:QW X (.BoolOp .And (b::rest) pos) (tT p b')):QW X (.BoolOp .And (a::b::rest) pos) (tT p (.and a' b')) :=
 (Qy8 ha hb).weak fun σ H Q zz1=>by
  obtain ⟨G,ρ,F,h⟩:=zz1
  unfold evE at h
  have h2:Fin p (Qa2 H G σ ρ) σ (Qat (evE p.cf a' ρ)) fun c ρ1=>Fin p (Qa2 H G σ ρ) σ (if c then Qat (evE p.cf b' ρ1) else .ok false ρ1) fun b ρ1=>∀ H1 G1,FI (Qa2 H G σ ρ) H1 G1 σ ρ1→Q b H1:=by
   cases e:Qat (evE p.cf a' ρ) with
   | ok b ρ1 =>
    rw [e] at h
    cases b with
    | false=>exact h
    | true =>
     show Fin _ _ _ (Qat (evE p.cf b' ρ1)) _
     cases e2:Qat (evE p.cf b' ρ1) with
     | ok b ρ2=>simp only [Out.bind,if_true,e2] at h;exact h
     | xn x ρ2=>simp only [Out.bind,if_true,e2] at h;exact h
     | no=>simp only [Out.bind,if_true,e2] at h;exact h
   | xn x ρ1=>rw [e] at h;exact h
   | no=>rw [e] at h;exact h
  refine ⟨G,ρ,F,h2.imp fun c ρ1 k H1 G1 F1=>?_⟩
  cases c with
  | false=>exact k H1 G1 F1
  | true=>exact Qz3 F1 k fun b ρ2 H2 G2 k2 F2 _=>k2 H2 G2 F2
theorem Qj4 {rest:List Expr} (ha:QT X a (tT p a')) (hb:QW X (.BoolOp .Or (b::rest) pos) (tT p b')):QW X (.BoolOp .Or (a::b::rest) pos) (tT p (.or a' b')) :=
 (Q53 ha hb).weak fun σ H Q zz1=>by
  obtain ⟨G,ρ,F,h⟩:=zz1
  unfold evE at h
  have h2:Fin p (Qa2 H G σ ρ) σ (Qat (evE p.cf a' ρ)) fun c ρ1=>Fin p (Qa2 H G σ ρ) σ (if c then .ok true ρ1 else Qat (evE p.cf b' ρ1)) fun b ρ1=>∀ H1 G1,FI (Qa2 H G σ ρ) H1 G1 σ ρ1→Q b H1:=by
   cases e:Qat (evE p.cf a' ρ) with
   | ok b ρ1 =>
    rw [e] at h
    cases b with
    | true=>exact h
    | false =>
     show Fin _ _ _ (Qat (evE p.cf b' ρ1)) _
     cases e2:Qat (evE p.cf b' ρ1) with
     | ok b ρ2=>simp only [Out.bind,e2] at h;exact h
     | xn x ρ2=>simp only [Out.bind,e2] at h;exact h
     | no=>simp only [Out.bind,e2] at h;exact h
   | xn x ρ1=>rw [e] at h;exact h
   | no=>rw [e] at h;exact h
  refine ⟨G,ρ,F,h2.imp fun c ρ1 k H1 G1 F1=>?_⟩
  cases c with
  | true=>exact k H1 G1 F1
  | false=>exact Qz3 F1 k fun b ρ2 H2 G2 k2 F2 _=>k2 H2 G2 F2
theorem Qie {op} (ha:QT X a (tT p a')):QW X (.BoolOp op [a] pos) (tT p a'):=by
 cases op with
 | And=>exact Qur ha
 | Or=>exact Qy7 ha
theorem t_w (h:QW X e (tT p e')):QT X e (tT p e'):=Q8m h
end
section
variable {X:Cx} {p:Pr} {e a b:Expr} {es:List Expr} {e' a' b' c':E} {es':Es} {pos p1 p2 p3:Pos} {x:Str}
noncomputable def Oc2 (r:R2) (f:T→T→Option Bool):Prop:=∀ (H:Hp) (G:Addr→Prop) (x y:V) (t u:T) (k:Bool) (Q:VK),Rdb H G x t→Rdb H G y u→f t u=some k→Q (.bl k) H→r x y H Q
theorem Qz6 {r:R2} {o:COp} (hs:Oc2 r (opC o)) {σ:St} {H:Hp} {Q:VK} (h:tE p (.cmp o a' b') σ H Q):tOp r (tE p a') (tE p b') σ H Q:=by
 obtain ⟨G,ρ,F,h⟩:=h
 unfold evE at h
 refine tE2 F h fun ra rb ρ2 x y H2 G2 F2 r1 r2 h2=>?_
 obtain ⟨t,u,c1,c2,h3⟩:=Qz5 h2
 cases e:opC o t u with
 | none=>rw [e] at h3;exact False.elim h3
 | some k =>
  rw [e] at h3
  exact hs H2 G2 x y t u k Q (r1.rdb F2 c1) (r2.rdb F2 c2) e (h3 _ H2 G2 F2 pvB)
theorem Qz7 {op:CmpOp} {r:R2} {o:COp} (ho:QOp X (compareOp op) r) (hs:Oc2 r (opC o)) (ha:QE X a (tE p a')) (hb:QE X b (tE p b')) (hm:behindInMarks op b=false):QE X (.Compare a [op] [b] pos) (tE p (.cmp o a' b')) :=
 (Qy5 ho ha hb hm).weak fun σ H Q h=>Qz6 hs h
theorem Ql3 {op:CmpOp} {r:R2} {o:COp} (ho:QOp X (compareOp op) r) (hs:Oc2 r (opC o)) (ha:QE X a (tE p a')) (hb:QE X b (tE p b')) (hm:behindInMarks op b=false):QT X (.Compare a [op] [b] pos) (tT p (.cmp o a' b')) :=
 (Qlr ho ha hb hm).weak fun σ H Q h=>Qz6 hs (Qq0 h)
noncomputable def vOf:T→V
 | .non=>.non | .bl b=>.bl b | .int i=>.int i | .str x=>.str x | _=>.non
theorem Rdb.vOf {H:Hp} {G:Addr→Prop} {v:V} {t:T} (h:Rdb H G v t) (e:Qem t=true):v=vOf t:=by
 cases t with
 | non=>exact h.non
 | bl b=>exact h.bl
 | int i=>exact h.int
 | str x=>exact h.str
 | tup ts=>cases e
 | lst ts=>cases e
 | dct ks ts=>cases e
 | clo ks ts=>cases e
 | dtt ks ts=>cases e
theorem Qq2 {t u:T} {k:Bool} (e:eqO t u=some k) (h1:Qem t=true) (h2:Qem u=true):Q72 (vOf t) (vOf u)=true∧decide (vOf t=vOf u)=k:=by
 cases t <;> first | (cases h1;done) | skip
 all_goals (cases u <;> first | (cases h2;done) | skip)
 all_goals (first | (cases e;done) | skip)
 all_goals (have e':=Option.some.inj e;subst e';refine ⟨rfl,?_⟩;simp [vOf])
theorem Qq3 {t u:T} {k:Bool} (e:eqO t u=some k):(Qem t=true∧Qem u=true)∨(Qo 50 t=true∧Qo 50 u=true∧((∃ ts us,t=.tup ts∧u=.tup us)∨∃ ts us,t=.lst ts∧u=.lst us)∧k=eqT t u)∨(Qwr t u=true∧k=false):=by
 have nn:∀ {t u:T},eqN t u=some k→(Qem t=true∧Qem u=true)∨(Qwr t u=true∧k=false):=fun {t u} e=>by
  unfold eqN at e
  by_cases z:(Qem t&&Qem u)=true
  ·exact .inl ((Bool.and_eq_true _ _).mp z)
  ·rw [if_neg z] at e
   by_cases y:Qwr t u=true
   ·rw [if_pos y] at e
    exact .inr ⟨y,(Option.some.inj e).symm⟩
   ·rw [if_neg y] at e;cases e
 cases t with
 | tup ts =>
  cases u with
  | tup us =>
   have e:(if Qo 50 (.tup ts)=true∧Qo 50 (.tup us)=true then some (eqT (.tup ts) (.tup us)) else none)=some k:=e
   by_cases z:Qo 50 (.tup ts)=true∧Qo 50 (.tup us)=true
   ·rw [if_pos z] at e
    exact .inr (.inl ⟨z.1,z.2,.inl ⟨_,_,rfl,rfl⟩,(Option.some.inj e).symm⟩)
   ·rw [if_neg z] at e;cases e
  | _=>exact (nn e).imp id .inr
 | lst ts =>
  cases u with
  | lst us =>
   have e:(if Qo 50 (.lst ts)=true∧Qo 50 (.lst us)=true then some (eqT (.lst ts) (.lst us)) else none)=some k:=e
   by_cases z:Qo 50 (.lst ts)=true∧Qo 50 (.lst us)=true
   ·rw [if_pos z] at e
    exact .inr (.inl ⟨z.1,z.2,.inr ⟨_,_,rfl,rfl⟩,(Option.some.inj e).symm⟩)
   ·rw [if_neg z] at e;cases e
  | _=>exact (nn e).imp id .inr
 | _=>exact (nn e).imp id .inr
noncomputable def rEqU:R2:=fun x y H Q=>rEq x y H Q∨(Q3d false x y H Q∨Q3f false x y H Q)
noncomputable def rNeU:R2:=fun x y H Q=>rNe x y H Q∨(Q3d true x y H Q∨Q3f true x y H Q)
theorem Q6i (hu:X.A.units+64<cLine):QOp X (compareOp .Eq) rEqU:=⟨Q8q.h.or ((Qade hu).h.or (Qadg hu).h)⟩
theorem Q6j (hu:X.A.units+64<cLine):QOp X (compareOp .NotEq) rNeU:=⟨o_ne.h.or ((Qadf hu).h.or (Qadh hu).h)⟩
theorem Qz8:Oc2 rEqU (opC .eq):=by
 intro H G x y t u k Q hx hy e q
 have e:eqO t u=some k:=e
 rcases Qq3 e with ⟨h1,h2⟩ | ⟨h1,h2,h3,rfl⟩ | ⟨h1,rfl⟩
 ·obtain ⟨z1,z2⟩:=Qq2 e h1 h2
  rw [hx.vOf h1,hy.vOf h2]
  exact .inl ⟨z1,by rw [z2];exact q⟩
 ·exact .inr (.inl ⟨t,u,hx.is,hy.is,h1,h2,h3,q⟩)
 ·exact .inr (.inr ⟨t,u,hx.is,hy.is,h1,q⟩)
theorem Qz9:Oc2 rNeU (opC .ne):=by
 intro H G x y t u k Q hx hy e q
 have e:(eqO t u).map (!·)=some k:=e
 cases e0:eqO t u with
 | none=>rw [e0] at e;cases e
 | some k0 =>
  rw [e0] at e
  cases e
  rcases Qq3 e0 with ⟨h1,h2⟩ | ⟨h1,h2,h3,rfl⟩ | ⟨h1,rfl⟩
  ·obtain ⟨z1,z2⟩:=Qq2 e0 h1 h2
   rw [hx.vOf h1,hy.vOf h2]
   exact .inl ⟨z1,by rw [z2];exact q⟩
  ·exact .inr (.inl ⟨t,u,hx.is,hy.is,h1,h2,h3,q⟩)
  ·exact .inr (.inr ⟨t,u,hx.is,hy.is,h1,q⟩)
theorem Ql4 {f:Int→Int→Bool} {t u:T} {k:Bool} (e:Qw1 f t u=some k):∃ i j,t=.int i∧u=.int j∧f i j=k:=by
 unfold Qw1 at e
 cases h1:asI t with
 | none=>rw [h1] at e;cases e
 | some i =>
  cases h2:asI u with
  | none=>rw [h1,h2] at e;cases e
  | some j=>rw [h1,h2] at e;exact ⟨i,j,Qe8 h1,Qe8 h2,Option.some.inj e⟩
theorem Q9i:Oc2 (rI0 fun i j=>.bl (decide (i<j))) (opC .lt):=by
 intro H G x y t u k Q hx hy e q
 obtain ⟨i,j,rfl,rfl,rfl⟩:=Ql4 e
 obtain rfl:=hx.int
 obtain rfl:=hy.int
 exact ⟨_,_,rfl,rfl,q⟩
theorem Q9j:Oc2 (rI0 fun i j=>.bl (decide (j<i))) (opC .gt):=by
 intro H G x y t u k Q hx hy e q
 obtain ⟨i,j,rfl,rfl,rfl⟩:=Ql4 e
 obtain rfl:=hx.int
 obtain rfl:=hy.int
 exact ⟨_,_,rfl,rfl,q⟩
theorem Q0a:Oc2 (rI0 fun i j=>.bl (decide (j≤i))) (opC .ge):=by
 intro H G x y t u k Q hx hy e q
 obtain ⟨i,j,rfl,rfl,rfl⟩:=Ql4 e
 obtain rfl:=hx.int
 obtain rfl:=hy.int
 exact ⟨_,_,rfl,rfl,q⟩
theorem Q3s {H:Hp} {v:V} {t:T} (h:Is H v t):decide (v=.non)=Qg9 t:=by
 cases t with
 | non=>unfold Is at h;subst h;rfl
 | bl b=>unfold Is at h;subst h;rfl
 | int i=>unfold Is at h;subst h;rfl
 | str x=>unfold Is at h;subst h;rfl
 | tup ts=>obtain ⟨a,vs,rfl,_⟩:=h.tup_inv;rfl
 | lst ts=>obtain ⟨a,vs,rfl,_⟩:=h.lst_inv;rfl
 | dct ks ts=>unfold Is at h;obtain ⟨a,vs,rfl,_⟩:=h;rfl
 | clo ks ts=>unfold Is at h;obtain ⟨a,vs,l,rfl,_⟩:=h;rfl
 | dtt ks ts=>unfold Is at h;obtain ⟨_,a,vs,rfl,_⟩:=h;rfl
theorem Q0b:Oc2 Q56 (opC .isnn):=by
 intro H G x y t u k Q hx hy e q
 cases u <;> first | (cases e;done) | skip
 have e:some (!Qg9 t)=some k:=e
 cases e
 exact ⟨hy.non,by rw [Q3s hx.is];exact q⟩
theorem Q0c {n:String} (h:Qic n=true):n∈["int","bool","tuple","list","dict","str"]:=by
 unfold Qic at h
 simp only [Bool.or_eq_true,beq_iff_eq] at h
 simp only [List.mem_cons,List.not_mem_nil,or_false]
 rcases h with ((((h | h) | h) | h) | h) | h <;> subst h <;> simp
theorem Qadv {n:String} {tn:Expr} (hm:X.mg "isinstance" = none) (hv:bootBuiltins "isinstance" = some (.builtin "isinstance")) (ha:QE X a (tE p a')) (ht:QE X tn (tC (.ty n))) (hg:Gl X "isinstance") (h1:Q5 a=true) (h2:Q5 tn=true):QE X (.Call (.Name "isinstance" p1) [a,tn] [] pos) (tE p (.isI a' n)) :=
 (Qh3 Qs6 hm hv (Qs ha (Qs ht Qa7 h2) h1) hg (by decide) (by decide) h1 (by rw [Qb2 h2];rfl)).weak fun σ H Q zz1=>by
  obtain ⟨G,ρ,F,h⟩:=zz1
  unfold evE at h
  refine ⟨G,ρ,F,h.bind.imp fun r ρ1 h1 v H1 G1 F1 r1=>?_⟩
  cases e:cont ρ1 r with
  | none=>rw [e] at h1;exact False.elim h1
  | some t =>
   rw [e] at h1
   by_cases z:(Qic n && !Qda t)=true
   ·simp only [if_pos z] at h1
    rw [Bool.and_eq_true,Bool.not_eq_true'] at z
    exact ⟨v,n,t,rfl,(r1.rdb F1 e).is,z.2,Q0c z.1,h1 _ H1 G1 F1 pvB⟩
   ·simp only [if_neg z] at h1
    exact False.elim h1
inductive Rdbs (H:Hp) (G:Addr→Prop):List V→List T→Prop where
 | nil:Rdbs H G [] []
 | cons {v t vs ts}:Rdb H G v t→Rdbs H G vs ts→Rdbs H G (v::vs) (t::ts)
theorem PVRs.rdbs {B:Bs} {H0 H:Hp} {G:Addr→Prop} {σ:St} {ρ:En} {vs:List V} {rs:List PV} (h:PVRs H0 H G σ ρ vs rs) (F:FI B H G σ ρ):∀ {ts:List T},Qv ρ rs=some ts→Rdbs H G vs ts:=by
 induction h with
 | nil=>intro ts e;cases e;exact .nil
 | cons a _ ih =>
  intro ts e
  rename_i v r vs rs _
  unfold Qv at e
  cases h1:cont ρ r with
  | none=>rw [h1] at e;cases e
  | some t =>
   cases h2:Qv ρ rs with
   | none=>rw [h1,h2] at e;cases e
   | some us =>
    rw [h1,h2] at e
    cases e
    exact .cons (a.rdb F h1) (ih h2)
noncomputable def Ob (r:List V→Hp→VK→Prop) (b:Bi):Prop:=∀ (B:Bs) (H:Hp) (G:Addr→Prop) (σ:St) (ρ:En) (vs:List V) (ts:List T) (w:PV) (Q:VK),FI B H G σ ρ→Rdbs H G vs ts→Qb6 b ts=some w→(∀ v H1 G1,FI B H1 G1 σ ρ→PVR B.H H1 G1 σ ρ v w→Q v H1)→r vs H Q
theorem Q0d {r:List V→Hp→VK→Prop} {b:Bi} (hs:Ob r b) {σ:St} {H:Hp} {Q:VK} (h:tE p (.bi b es') σ H Q):tCB r (tA p es') σ H Q:=by
 obtain ⟨G,ρ,F,h⟩:=h
 unfold evE at h
 refine ⟨G,ρ,F,h.bind.imp fun rs ρ1 h1 vs H1 G1 F1 r1=>?_⟩
 cases e:Qv ρ1 rs with
 | none=>rw [e] at h1;exact False.elim h1
 | some ts =>
  rw [e] at h1
  obtain ⟨w,ew,k⟩:=Qlh h1
  exact hs _ H1 G1 σ ρ1 vs ts w Q F1 (r1.rdbs F1 e) ew fun v H2 G2 F2 r2=>k v H2 G2 F2 r2
theorem Rdbs.one {H:Hp} {G:Addr→Prop} {vs:List V} {t:T} (h:Rdbs H G vs [t]):∃ v,vs=[v]∧Rdb H G v t:=by
 cases h with
 | cons a b=>cases b;exact ⟨_,rfl,a⟩
theorem Rdbs.two {H:Hp} {G:Addr→Prop} {vs:List V} {t u:T} (h:Rdbs H G vs [t,u]):∃ v w,vs=[v,w]∧Rdb H G v t∧Rdb H G w u:=by
 cases h with
 | cons a b =>
  cases b with
  | cons c d=>cases d;exact ⟨_,_,rfl,a,c⟩
theorem Qq4:∀ {ts:List T} {is:List Int},Qh4 ts=some is→ts=is.map T.int
 | [],is,e=>by cases e;rfl
 | .int i::ts,is,e=>by
  unfold Qh4 at e
  cases h:Qh4 ts with
  | none=>rw [h] at e;cases e
  | some js=>rw [h] at e;cases e;rw [Qq4 h];rfl
 | .non::_,_,e=>by cases e
 | .bl _::_,_,e=>by cases e
 | .str _::_,_,e=>by cases e
 | .tup _::_,_,e=>by cases e
 | .lst _::_,_,e=>by cases e
 | .dct _ _::_,_,e=>by cases e
 | .clo _ _::_,_,e=>by cases e
 | .dtt _ _::_,_,e=>by cases e
theorem Qq5 {D:Hp}:∀ {ts:List T} {bs:List Bool} {vs:List V},Qj1 ts=some bs→IsL D vs ts→vs.all Qqh=true∧vs.all Qqg=bs.all id∧vs.any Qqg=bs.any id
 | [],bs,vs,e,r=>by cases e;rw [r.nil_inv];exact ⟨rfl,rfl,rfl⟩
 | t::ts,bs,vs,e,r=>by
  obtain ⟨v,w,rfl,a,q⟩:=r.cons_inv
  unfold Qj1 at e
  cases h1:truT t with
  | none=>rw [h1] at e;cases e
  | some b =>
   cases h2:Qj1 ts with
   | none=>rw [h1,h2] at e;cases e
   | some cs =>
    rw [h1,h2] at e
    cases e
    obtain ⟨q1,q2,q3⟩:=Qq5 h2 q
    have hv:Qqh v=true∧Qqg v=b:=by
     cases t <;> first | (cases h1;done) | skip
     ·unfold Is at a;subst a;cases h1;exact ⟨rfl,rfl⟩
     ·obtain rfl:=a.int_inv;cases h1
      refine ⟨rfl,?_⟩
      rename_i i
      show (i != 0)=decide (i≠0)
      by_cases z:i=0 <;> simp [z]
    rw [List.all_cons,List.all_cons,List.any_cons,List.all_cons,List.any_cons,q1,q2,q3,hv.1,hv.2]
    exact ⟨rfl,rfl,rfl⟩
theorem Qen (K:PySem.W.Frag):Ob (Q8j K) .len:=by
 intro B H G σ ρ vs ts w Q F r e q
 match ts,e,r with
 | [.lst a],e,r =>
  cases e
  obtain ⟨v,rfl,h⟩:=r.one
  obtain ⟨l,ws,rfl,z,el,rl⟩:=h.lst
  exact ⟨l,ws,rfl,.inl (SqL.of el),by rw [rl.length];exact q _ H G F pvI⟩
 | [.tup a],e,r =>
  cases e
  obtain ⟨v,rfl,h⟩:=r.one
  obtain ⟨l,ws,rfl,el,rl⟩:=h.tup.tup_inv
  exact ⟨l,ws,rfl,.inr (SqT.of (Qak el).2),by rw [rl.length];exact q _ H G F pvI⟩
theorem Q9k:Ob rAbs .abs:=by
 intro B H G σ ρ vs ts w Q F r e q
 match ts,e,r with
 | [.int i],e,r =>
  cases e
  obtain ⟨v,rfl,h⟩:=r.one
  obtain rfl:=h.int
  exact ⟨i,rfl,q _ H G F pvI⟩
theorem Qhc (K:PySem.W.Frag):Ob (Q8k K) .all:=by
 intro B H G σ ρ vs ts w Q F r e q
 match ts,e,r with
 | [.lst a],e,r =>
  obtain ⟨v,rfl,h⟩:=r.one
  obtain ⟨l,ws,rfl,z,el,rl⟩:=h.lst
  have e:(Qj1 a).map (fun bs=>PV.fz (.bl (bs.all id)))=some w:=e
  cases h1:Qj1 a with
  | none=>rw [h1] at e;cases e
  | some bs =>
   rw [h1] at e
   cases e
   obtain ⟨q1,q2,q3⟩:=Qq5 h1 rl
   exact ⟨l,ws,rfl,SqL.of el,q1,by rw [q2];exact q _ H G F pvB⟩
theorem Qu2:∀ (xs:List Int) (m:Int),m≤Qlx m xs∧(∀ a∈xs,a≤Qlx m xs)∧(Qlx m xs=m∨Qlx m xs∈xs)
 | [],m=>⟨Int.le_refl _,fun _ h=>(nomatch h),.inl rfl⟩
 | x::xs,m=>by
  unfold Qlx
  obtain ⟨h1,h2,h3⟩:=Qu2 xs (if m<x then x else m)
  have k1:m≤(if m<x then x else m):=by split <;> omega
  have k2:x≤(if m<x then x else m):=by split <;> omega
  refine ⟨by omega,fun a ha=>?_,?_⟩
  ·rcases List.mem_cons.mp ha with rfl | ha
   ·omega
   ·exact h2 a ha
  ·rcases h3 with h3 | h3
   ·rw [h3]
    split
    ·exact .inr List.mem_cons_self
    ·exact .inl rfl
   ·exact .inr (List.mem_cons_of_mem _ h3)
noncomputable def Q6k (K:PySem.W.Frag):List V→Hp→VK→Prop:=fun xs H Q=>Q57 xs H Q∨Qy3 K xs H Q
theorem Q9l (K:PySem.W.Frag) (hK:X.K=K) (hc:X.calm=true):QCl X (.builtin "max") (Q6k K):=⟨(Q8u hc).h.or (Q8t K hK hc).h⟩
theorem Q9m (K:PySem.W.Frag):Ob (Q6k K) .max:=by
 intro B H G σ ρ vs ts w Q F r e q
 match ts,e,r with
 | [.int i,.int j],e,r =>
  cases e
  obtain ⟨v,u,rfl,h1,h2⟩:=r.two
  obtain rfl:=h1.int
  obtain rfl:=h2.int
  exact .inl ⟨i,j,rfl,q _ H G F pvI⟩
 | [.lst a],e,r =>
  obtain ⟨v,rfl,h⟩:=r.one
  obtain ⟨l,ws,rfl,z,el,rl⟩:=h.lst
  have e:(match Qh4 a with | some (x::xs)=>some (PV.fz (.int (Qlx x xs))) | _=>none)=some w:=e
  cases h1:Qh4 a with
  | none=>rw [h1] at e;cases e
  | some is =>
   rw [h1] at e
   cases is with
   | nil=>cases e
   | cons i is =>
    cases e
    rw [Qq4 h1] at rl
    rw [rl.ints_inv] at el
    obtain ⟨k1,k2,k3⟩:=Qu2 is i
    refine .inr ⟨l,i::is,rfl,SqL.of el,by simp,fun M hM hle=>?_⟩
    have e:M=Qlx i is:=by
     have a1:=hle (Qlx i is) (k3.elim (fun k3=>by rw [k3];exact List.mem_cons_self) fun k3=>List.mem_cons_of_mem _ k3)
     have a2:M≤Qlx i is:=by
      rcases List.mem_cons.mp hM with rfl | hM
      ·exact k1
      ·exact k2 M hM
     omega
    rw [e]
    exact q _ H G F pvI
theorem Q9n:Ob rDvm .dvm:=by
 intro B H G σ ρ vs ts w Q F r e q
 match ts,e,r with
 | [.int i,.int j],e,r =>
  have e:(if 0<j∧j.natAbs<2^64 then some (PV.fz (.tup [.int (i / j),.int (i%j)])) else none)=some w:=e
  by_cases z:0<j∧j.natAbs<2^64
  ·rw [if_pos z] at e;cases e
   obtain ⟨v,u,rfl,h1,h2⟩:=r.two
   obtain rfl:=h1.int
   obtain rfl:=h2.int
   refine ⟨i,j,rfl,⟨z.1,by omega⟩,fun l hl=>q _ _ G (F.grow (Same.upd hl)) ?_⟩
   exact Qe4 (F.prv.mono (Same.upd hl)) Qp (.cons Is.int (.one Is.int)) (by show 2≤100000;decide)
  ·rw [if_neg z] at e;cases e
theorem Q9o:Ob Q58 .int:=by
 intro B H G σ ρ vs ts w Q F r e q
 match ts,e,r with
 | [.int i],e,r =>
  cases e
  obtain ⟨v,rfl,h⟩:=r.one
  obtain rfl:=h.int
  exact .inl ⟨i,rfl,q _ H G F pvI⟩
 | [.bl b],e,r =>
  cases e
  obtain ⟨v,rfl,h⟩:=r.one
  obtain rfl:=h.bl
  exact .inr ⟨b,rfl,q _ H G F pvI⟩
theorem Q3t (K:PySem.W.Frag):Ob (Qo0 K) .list:=by
 intro B H G σ ρ vs ts w Q F r e q
 match ts,e,r with
 | [.lst a],e,r =>
  cases e
  obtain ⟨v,rfl,h⟩:=r.one
  obtain ⟨l,ws,rfl,z,el,rl⟩:=h.lst
  refine ⟨l,ws,rfl,.inl (SqL.of el),fun l2 hl=>?_⟩
  obtain ⟨F2,r2⟩:=Qf8 F hl (Same.upd hl) Qp rl z
  exact q _ _ _ F2 r2
 | [.tup a],e,r =>
  cases e
  obtain ⟨v,rfl,h⟩:=r.one
  have z:=h.tup.tup_len
  obtain ⟨l,ws,rfl,el,rl⟩:=h.tup.tup_inv
  refine ⟨l,ws,rfl,.inr (SqT.of (Qak el).2),fun l2 hl=>?_⟩
  obtain ⟨F2,r2⟩:=Qf8 F hl (Same.upd hl) Qp rl z
  exact q _ _ _ F2 r2
theorem Qj5 (K:PySem.W.Frag):Ob (Qs4 K) .tup:=by
 intro B H G σ ρ vs ts w Q F r e q
 match ts,e,r with
 | [.lst a],e,r =>
  cases e
  obtain ⟨v,rfl,h⟩:=r.one
  obtain ⟨l,ws,rfl,z,el,rl⟩:=h.lst
  exact ⟨l,ws,rfl,.inl ⟨SqL.of el,fun l2 hl=>q _ _ G (F.grow (Same.upd hl)) (Qe4 (F.prv.mono (Same.upd hl)) Qp (rl.mono (Qbl (Same.upd hl))) z)⟩⟩
 | [.tup a],e,r =>
  cases e
  obtain ⟨v,rfl,h⟩:=r.one
  have h0:=h.tup
  obtain ⟨l,ws,rfl,el,rl⟩:=h.tup.tup_inv
  exact ⟨l,ws,rfl,.inr ⟨SqT.of (Qak el).2,q _ H G F h0⟩⟩
theorem Qi8:∀ {es:List Expr} {env:Env} {pos:Pos},es.all Q5=true→(backTo pos (starEach es env)).any (·.1)=false
 | [],_,_,_=>rfl
 | e::es,env,pos,h=>by
  rw [List.all_cons,Bool.and_eq_true] at h
  rw [Qb2 h.1]
  have q:=Qi8 (env:=env) (pos:=pos) h.2
  unfold backTo at q ⊢
  rw [List.map_cons,List.any_cons,q]
  rfl
theorem s_bi {id:String} {r:List V→Hp→VK→Prop} {b:Bi} (hc:QCl X (.builtin id) r) (hs:Ob r b) (hm:X.mg x=none) (hv:bootBuiltins x=some (.builtin id)) (ha:QA X (e::es) (tA p es')) (hg:Gl X x) (hn:x ≠ "__name__") (hdb:(x==("__debug__" : Str))=false) (h1:Q5 e=true) (h2:es.all Q5=true) :
  QE X (.Call (.Name x p1) (e::es) [] pos) (tE p (.bi b es')):=(Qh3 hc hm hv ha hg hn hdb h1 (Qi8 h2)).weak fun σ H Q h=>Q0d hs h
theorem Qadw {T:String} {r:List V→Hp→VK→Prop} {b:Bi} (hc:QCl X (.type T) r) (hs:Ob r b) (hm:X.mg x=none) (hv:bootBuiltins x=some (.type T)) (ha:QA X (e::es) (tA p es')) (hg:Gl X x) (hn:x ≠ "__name__") (hdb:(x==("__debug__" : Str))=false) (h1:Q5 e=true) (h2:es.all Q5=true) :
  QE X (.Call (.Name x p1) (e::es) [] pos) (tE p (.bi b es')):=(Qacw hc hm hv ha hg hn hdb h1 (Qi8 h2)).weak fun σ H Q h=>Q0d hs h
theorem IsL.atI {D:Hp} {vs:List V} {ts:List T} {i:Int} {t:T} (r:IsL D vs ts) (h:atI ts i=some t):∃ v,L2.atI vs i=some v∧Is D v t:=by
 unfold L2.atI at h ⊢
 rw [r.length]
 cases e:ixN ts.length i with
 | none=>rw [e] at h;cases h
 | some j =>
  rw [e] at h
  exact r.getT h
theorem s_ix (K:PySem.W.Frag) (hK:X.K=K) (ha:QE X a (tE p a')) (hb:QE X b (tE p b')) (hs:Qix b):QE X (.Subscript a b pos) (tE p (.ix a' b')) :=
 (Q28 (Q8s K hK) ha hb hs).weak fun σ H Q zz1=>by
  obtain ⟨G,ρ,F,h⟩:=zz1
  unfold evE at h
  refine tE2 F h fun ra rb ρ2 x y H2 G2 F2 r1 r2 h2=>?_
  obtain ⟨t,u,c1,c2,h3⟩:=Qz5 h2
  have hx:=r1.rdb F2 c1
  have hy:=r2.rdb F2 c2
  cases e:Qz2 t u with
  | none=>rw [e] at h3;exact False.elim h3
  | some w =>
   rw [e] at h3
   cases t <;> first | (cases e;done) | skip
   all_goals (cases u <;> first | (cases e;done) | skip)
   ·obtain rfl:=hy.int
    obtain ⟨l,ws,rfl,el,rl⟩:=hx.tup.tup_inv
    obtain ⟨v,ev,iv⟩:=rl.atI e
    exact .inr (.inl ⟨l,ws,_,v,rfl,rfl,SqT.of (Qak el).2,ev,h3 v H2 G2 F2 iv⟩)
   ·obtain rfl:=hy.int
    obtain ⟨l,ws,rfl,z,el,rl⟩:=hx.lst
    obtain ⟨v,ev,iv⟩:=rl.atI e
    exact .inl ⟨l,ws,_,v,rfl,rfl,SqL.of el,ev,h3 v H2 G2 F2 iv⟩
noncomputable def tO (p:Pr) (es:Es):TO:=fun σ H Q=>∃ G ρ,FI (Qa2 H G σ ρ) H G σ ρ∧Fin p (Qa2 H G σ ρ) σ (evA p.cf es ρ) fun rs ρ1=>∃ i,Qj2 rs=some i∧∀ H1 G1,FI (Qa2 H G σ ρ) H1 G1 σ ρ1→Q i H1
theorem QO.weak {X:Cx} {e:Option Expr} {t t':TO} (h:QO X e t) (q:∀ σ H Q,t' σ H Q→t σ H Q):QO X e t':=⟨fun pins s σ H Q I z=>h.h pins s σ H Q I (q _ _ _ z)⟩
theorem Qby:QO X none (tO p .nil):=Q8n.weak fun σ H Q zz1=>by
 obtain ⟨G,ρ,F,h⟩:=zz1
 unfold evA at h
 obtain ⟨i,e,k⟩:=h
 cases e
 exact k H G F
theorem Q3u {r:PV} {i:Option Int} (h:Qj2 [r]=some i):∃ j,r=.fz (.int j)∧i=some j:=by
 cases r with
 | fz t=>cases t <;> first | (cases h;done) | exact ⟨_,rfl,(Option.some.inj h).symm⟩
 | ow t=>cases h
 | sl i=>cases h
theorem Qbz (ha:QE X a (tE p a')):QO X (some a) (tO p (.cons a' .nil)):=(Qls ha).weak fun σ H Q zz1=>by
 obtain ⟨G,ρ,F,h⟩:=zz1
 unfold evA at h
 refine ⟨G,ρ,F,h.bind.imp fun r ρ1 h1 v H1 G1 F1 r1=>?_⟩
 have h1:=h1.bind
 unfold evA at h1
 obtain ⟨i,e,k⟩:=h1
 obtain ⟨j,rfl,rfl⟩:=Q3u e
 obtain rfl:=r1.is.int_inv
 exact ⟨j,rfl,k H1 G1 F1⟩
theorem Qadx (K:PySem.W.Frag) (hK:X.K=K) {lo hi:Option Expr} {lo' hi':Es} (ha:QE X a (tE p a')) (hl:QO X lo (tO p lo')) (hh:QO X hi (tO p hi')):QE X (.Subscript a (.Slice lo hi none p2) pos) (tE p (.slc a' lo' hi')) :=
 (Q29 (o_sl K hK) ha hl hh).weak fun σ H Q zz1=>by
  obtain ⟨G,ρ,F,h⟩:=zz1
  unfold evE at h
  refine ⟨G,ρ,F,h.bind.imp fun ra ρ1 h1 v H1 G1 F1 r1=>?_⟩
  refine ⟨G1,ρ1,F1.self,h1.bind.rebase F1 fun rl ρ2 h2=>?_⟩
  cases el:Qj2 rl with
  | none=>rw [el] at h2;exact False.elim h2
  | some l =>
   rw [el] at h2
   refine ⟨l,rfl,fun H2 G2 F2=>⟨G2,ρ2,F2.self,h2.bind.rebase (F1.trans F2) fun rh ρ3 h3=>?_⟩⟩
   cases eh:Qj2 rh with
   | none=>rw [eh] at h3;exact False.elim h3
   | some u =>
    rw [eh] at h3
    refine ⟨u,rfl,fun H3 G3 F3=>?_⟩
    have F12:=F1.trans F2
    have F4:=F12.trans F3
    cases ec:cont ρ3 ra with
    | none=>rw [ec] at h3;exact False.elim h3
    | some t =>
     rw [ec] at h3
     obtain ⟨w,ew,k⟩:=Qlh h3
     have hx:=((r1.step F1 F2).step F12 F3).rdb F4 ec
     cases t <;> first | (cases ew;done) | skip
     ·cases ew
      exact Qzf F4.prv hx.tup fun y H5 s5 i5=>k y H5 G3 (F4.grow s5) i5
     ·cases ew
      rename_i ts
      obtain ⟨c,ws,rfl,z,ec,rl⟩:=hx.lst
      refine .inl ⟨c,ws,rfl,SqL.of ec,fun q hq=>?_⟩
      obtain ⟨F5,r5⟩:=Qf8 F4 hq (Same.upd hq) Qp (rl.cut l u) (by have:=Qb3 ts l u;omega)
      exact k _ _ _ F5 r5
end
theorem Qf9 (i:Nat):Qd [] i=.un:=rfl
theorem Qa (s:Slot) (ρ:En):Qd (s::ρ) 0=s:=rfl
theorem Qb (s:Slot) (ρ:En) (i:Nat):Qd (s::ρ) (i+1)=Qd ρ i:=by unfold Qd;rw [List.getElem?_cons_succ]
theorem Qil {ρ:En} {i j:Nat} {s:Slot}:Qd (ρ.set j s) i=if i=j∧j<ρ.length then s else Qd ρ i:=by
 unfold Qd
 by_cases h:i=j∧j<ρ.length
 ·rw [if_pos h]
  obtain ⟨rfl,hj⟩:=h
  rw [List.getElem?_set_self hj]
 ·rw [if_neg h]
  by_cases e:i=j
  ·subst e
   have hl:ρ.length≤i:=by
    rcases Nat.lt_or_ge i ρ.length with z | z
    ·exact absurd ⟨rfl,z⟩ h
    ·exact z
   rw [List.set_eq_of_length_le hl]
  ·rw [List.getElem?_set_ne (fun z=>e z.symm)]
theorem Qw3 {ρ:En} {i:Nat} (h:Qd ρ i≠.un):i<ρ.length:=by
 rcases Nat.lt_or_ge i ρ.length with z | z
 ·exact z
 ·exact absurd (by unfold Qd;rw [List.getElem?_eq_none_iff.mpr z]) h
theorem Qb7 (rs:List PV) (fin:List T) (i:Nat) (s:Slot):Qz rs fin i s=s∨∃ k t,Qi rs i=some k∧fin[k]?=some t∧Qz rs fin i s=s.put t:=by
 unfold Qz
 cases h1:Qi rs i with
 | none=>exact .inl rfl
 | some k =>
  cases h2:fin[k]? with
  | none=>exact .inl (by simp only [h2])
  | some t=>exact .inr ⟨k,t,rfl,h2,by simp only [h2]⟩
theorem Qg0 (rs:List PV) (fin:List T):∀ (ρ:En) (n i:Nat),Qd (Qj rs fin n ρ) i=Qz rs fin (n+i) (Qd ρ i)
 | [],n,i=>by
  unfold Qj
  rw [Qf9]
  rcases Qb7 rs fin (n+i) .un with h | ⟨k,t,_,_,h⟩
  ·exact h.symm
  ·rw [h];rfl
 | s::ρ,n,0=>by unfold Qj;rfl
 | s::ρ,n,i+1=>by
  unfold Qj
  rw [Qb,Qb,Qg0 rs fin ρ (n+1) i,show n+1+i=n+(i+1) by omega]
theorem Qc4 (ρ:En) (rs:List PV) (fin:List T) (i:Nat):Qd (Qa1 ρ rs fin) i=Qz rs fin i (Qd ρ i):=by
 unfold Qa1
 rw [Qg0,Nat.zero_add]
theorem Qi9 (rs:List PV) (fin:List T):∀ (ρ:En) (n:Nat),(Qj rs fin n ρ).length=ρ.length
 | [],_=>rfl
 | s::ρ,n=>by unfold Qj;rw [List.length_cons,List.length_cons,Qi9 rs fin ρ (n+1)]
theorem Qja (ρ:En) (i:Nat):Qaf ρ (.sl i)=match Qd ρ i with
 | .ow t=>some (.ml t)
 | .ml t=>some (.ml t)
 | .ro t=>some (.ro t)
 | _=>none:=rfl
theorem PVRs.len {H0 H:Hp} {G:Addr→Prop} {σ:St} {ρ:En} {vs:List V} {rs:List PV} (h:PVRs H0 H G σ ρ vs rs):vs.length=rs.length:=by
 induction h with
 | nil=>rfl
 | cons _ _ ih=>rw [List.length_cons,List.length_cons,ih]
theorem PVRs.get {H0 H:Hp} {G:Addr→Prop} {σ:St} {ρ:En} {vs:List V} {rs:List PV} (h:PVRs H0 H G σ ρ vs rs):∀ {i:Nat} {v:V} {r:PV},vs[i]?=some v→rs[i]?=some r→PVR H0 H G σ ρ v r:=by
 induction h with
 | nil=>intro i v r e;simp at e
 | cons a _ ih =>
  intro i v r e1 e2
  cases i with
  | zero=>simp at e1 e2;subst e1;subst e2;exact a
  | succ i=>rw [List.getElem?_cons_succ] at e1 e2;exact ih e1 e2
theorem Qga {ρ:En}:∀ {rs:List PV} {as:List Arg},Qx ρ rs=some as→as.length=rs.length∧∀ (i:Nat) (a:Arg),as[i]?=some a→∃ r,rs[i]?=some r∧Qaf ρ r=some a
 | [],as,e=>by cases e;exact ⟨rfl,fun i a h=>by simp at h⟩
 | r::rs,as,e=>by
  unfold Qx at e
  cases h1:Qaf ρ r with
  | none=>rw [h1] at e;cases e
  | some a0 =>
   cases h2:Qx ρ rs with
   | none=>rw [h1,h2] at e;cases e
   | some as0 =>
    rw [h1,h2] at e
    cases e
    obtain ⟨q1,q2⟩:=Qga h2
    refine ⟨by rw [List.length_cons,List.length_cons,q1],fun i a h=>?_⟩
    cases i with
    | zero=>simp at h;subst h;exact ⟨r,rfl,h1⟩
    | succ i=>rw [List.getElem?_cons_succ] at h ⊢;exact q2 i a h
theorem Ql5:∀ {rs:List PV},Qu rs=true→∀ (i j k:Nat),rs[i]?=some (.sl k)→rs[j]?=some (.sl k)→i=j
 | [],_,i,j,k,e,_=>by simp at e
 | r::rs,h,i,j,k,e1,e2=>by
  have tl:Qu rs=true:=by
   cases r with
   | sl p=>unfold Qu at h;rw [Bool.and_eq_true] at h;exact h.2
   | fz t=>exact h
   | ow t=>exact h
  have hd:∀ (m:Nat),r=PV.sl k→rs[m]?=some (PV.sl k)→False:=fun m er em=>by
   subst er
   unfold Qu at h
   rw [Bool.and_eq_true] at h
   have q:=List.all_eq_true.mp h.1 _ (List.mem_of_getElem? em)
   simp at q
  cases i with
  | zero =>
   cases j with
   | zero=>rfl
   | succ j=>simp at e1;rw [List.getElem?_cons_succ] at e2;exact (hd j e1 e2).elim
  | succ i =>
   cases j with
   | zero=>simp at e2;rw [List.getElem?_cons_succ] at e1;exact (hd i e2 e1).elim
   | succ j =>
    rw [List.getElem?_cons_succ] at e1 e2
    rw [Ql5 tl i j k e1 e2]
theorem Qee:∀ {rs:List PV} {i k:Nat},Qi rs i=some k→rs[k]?=some (.sl i)
 | [],i,k,e=>by cases e
 | .sl j::rs,i,k,e=>by
  unfold Qi at e
  by_cases h:j=i
  ·rw [if_pos h] at e;cases e;rw [h];rfl
  ·rw [if_neg h] at e
   cases h2:Qi rs i with
   | none=>rw [h2] at e;cases e
   | some m=>rw [h2] at e;cases e;rw [List.getElem?_cons_succ];exact Qee h2
 | .fz t::rs,i,k,e=>by
  unfold Qi at e
  cases h2:Qi rs i with
  | none=>rw [h2] at e;cases e
  | some m=>rw [h2] at e;cases e;rw [List.getElem?_cons_succ];exact Qee h2
 | .ow t::rs,i,k,e=>by
  unfold Qi at e
  cases h2:Qi rs i with
  | none=>rw [h2] at e;cases e
  | some m=>rw [h2] at e;cases e;rw [List.getElem?_cons_succ];exact Qee h2
theorem Qjb:∀ {rs:List PV} {i k:Nat},Qi rs i=none→rs[k]?≠some (.sl i)
 | [],i,k,_,e=>by simp at e
 | r::rs,i,k,h,e=>by
  have tl:Qi rs i=none:=by
   cases r with
   | sl j =>
    unfold Qi at h
    by_cases z:j=i
    ·rw [if_pos z] at h;cases h
    ·rw [if_neg z] at h;simpa using h
   | fz t=>unfold Qi at h;simpa using h
   | ow t=>unfold Qi at h;simpa using h
  cases k with
  | zero =>
   simp at e
   subst e
   unfold Qi at h
   rw [if_pos rfl] at h
   cases h
  | succ k=>rw [List.getElem?_cons_succ] at e;exact Qjb tl e
theorem Qn4:∀ {vs:List V} {rs:List PV} {i:Nat} {t:T} {b:Addr},vs[i]?=some (.ref b)→rs[i]?=some (.ow t)→Ql2 vs rs b
 | [],_,_,_,_,e,_=>by simp at e
 | _::_,[],_,_,_,_,e=>by simp at e
 | v::vs,r::rs,0,t,b,e1,e2=>by
  simp at e1 e2
  subst e1;subst e2
  exact .inl rfl
 | v::vs,r::rs,i+1,t,b,e1,e2=>by
  rw [List.getElem?_cons_succ] at e1 e2
  have q:=Qn4 e1 e2
  cases r with
  | fz t=>exact q
  | sl j=>exact q
  | ow t=>exact .inr q
noncomputable def ArgR (H:Hp) (G:Addr→Prop) (v:V):Arg→Prop
 | .fz t=>Is (dls H G) v t
 | .ml t=>∃ a,v=.ref a∧G a∧OwnAt H G a t
 | .ro t=>∃ a,v=.ref a∧G a∧OwnAt H G a t
noncomputable def Arg.prv:Arg→Bool
 | .fz _=>false
 | _=>true
structure ArgsR (H:Hp) (G:Addr→Prop) (vs:List V) (as:List Arg):Prop where
 len:vs.length=as.length
 get:∀ (i:Nat) (v:V) (a:Arg),vs[i]?=some v→as[i]?=some a→ArgR H G v a
 apart:∀ (i j:Nat) (b:Addr) (x y:Arg),as[i]?=some x→as[j]?=some y→x.prv=true→y.prv=true→vs[i]?=some (.ref b)→vs[j]?=some (.ref b)→i=j
noncomputable def Qu3 (vs:List V) (as:List Arg) (b:Addr):Prop:=∃ (i:Nat) (t:T),as[i]?=some (.ml t)∧vs[i]?=some (.ref b)
structure CallP (H:Hp) (G:Addr→Prop) (vs:List V) (as:List Arg) (H':Hp) (G':Addr→Prop) (fin:List T):Prop where
 prv:Pen H' G'
 chg:∀ b o,¬ Qu3 vs as b→H b=some o→H' b=some o
 keep:∀ b o,H b=some o→∃ o',H' b=some o'
 gg:∀ b,G b→G' b
 gn:∀ b,G' b→G b∨H b=none
 fin:∀ (i:Nat) (t:T) (a:Addr),as[i]?=some (.ml t)→vs[i]?=some (.ref a)→∃ t',fin[i]?=some t'∧OwnAt H' G' a t'
noncomputable def RetR (H H':Hp) (G':Addr→Prop) (v:V):PV→Prop
 | .fz t=>Is (dls H' G') v t
 | .ow t=>∃ a,v=.ref a∧H a=none∧G' a∧OwnAt H' G' a t
 | .sl _=>False
noncomputable def FROk (mg:Str→Option Value) (H:Hp) (G:Addr→Prop) (vs:List V) (as:List Arg) (o:FR) (Q:VK) (E:XK):Prop:=match o with
 | .ok r fin=>∀ v H' G',CallP H G vs as H' G' fin→RetR H H' G' v r→Q v H'
 | .xn x fin=>∀ cls dx H' G',CallP H G vs as H' G' fin→Q3k mg H' x cls dx→E cls dx H'
 | .no=>False
noncomputable def spF (cf:CF) (mg:Str→Option Value) (f:Nat):Sp:=fun vs H Q E=>∃ G as,ArgsR H G vs as∧Pen H G∧FROk mg H G vs as (cf f as) Q E
section
variable {p:Pr} {B:Bs} {H H1 H2:Hp} {G G1 G2:Addr→Prop} {σ:St} {ρ:En} {vs:List V} {rs:List PV} {as:List Arg} {fin:List T}
theorem Qn5 {r:PV} {a:Arg} (e:Qaf ρ r=some a) (h:a.prv=true):∃ i t,r=.sl i∧(Qd ρ i).prv=some t:=by
 cases r with
 | fz t=>cases e;cases h
 | ow t=>cases e;cases h
 | sl i =>
  rw [Qja] at e
  cases hs:Qd ρ i with
  | un=>rw [hs] at e;cases e
  | pin _=>rw [hs] at e;cases e
  | fx _=>rw [hs] at e;cases e
  | fz t=>rw [hs] at e;cases e
  | ow t=>exact ⟨i,t,rfl,by rw [hs];rfl⟩
  | ml t=>exact ⟨i,t,rfl,by rw [hs];rfl⟩
  | ro t=>exact ⟨i,t,rfl,by rw [hs];rfl⟩
theorem Q0e {r:PV} {t:T} (e:Qaf ρ r=some (.ml t)):∃ i,r=.sl i∧(Qd ρ i=.ow t∨Qd ρ i=.ml t):=by
 cases r with
 | fz t=>cases e
 | ow t=>cases e
 | sl i =>
  rw [Qja] at e
  cases hs:Qd ρ i with
  | un=>rw [hs] at e;cases e
  | pin _=>rw [hs] at e;cases e
  | fx _=>rw [hs] at e;cases e
  | fz t=>rw [hs] at e;cases e
  | ow t=>rw [hs] at e;cases e;exact ⟨i,rfl,.inl hs⟩
  | ml t=>rw [hs] at e;cases e;exact ⟨i,rfl,.inr hs⟩
  | ro t=>rw [hs] at e;cases e
theorem Q3v (F:FI B H G σ ρ) (r:PVRs B.H H G σ ρ vs rs) (ea:Qx ρ rs=some as) (hb:Qu rs=true):∃ G',FI B H G' σ ρ∧ArgsR H G' vs as:=by
 have F':=F.lessG (Ql2 vs rs) fun b z=>r.tmp z
 obtain ⟨l1,g1⟩:=Qga ea
 refine ⟨_,F',by rw [l1];exact r.len,fun i v a ev e=>?_,fun i j b x y ex ey px py vx vy=>?_⟩
 ·obtain ⟨q,eq,ar⟩:=g1 i a e
  have pv:=r.get ev eq
  cases q with
  | fz t=>cases ar;exact Is.mono (Qed fun b h=>h.1) pv.is
  | ow t =>
   cases ar
   obtain ⟨c,rfl,_,_,_,ob,ec,ql⟩:=pv
   exact ql.is (by rw [Qdb fun z=>z.2 (Qn4 ev eq)];exact ec) (Qed fun b h=>h.1)
  | sl k =>
   have pv:σ[k]?=some (some v):=pv
   rw [Qja] at ar
   have sk:=F'.slot k
   cases hs:Qd ρ k with
   | un=>rw [hs] at ar;cases ar
   | pin _=>rw [hs] at ar;cases ar
   | fx _=>rw [hs] at ar;cases ar
   | fz t=>rw [hs] at ar;cases ar
   | ow t=>rw [hs] at ar sk;cases ar;obtain ⟨c,h1,h2,h3⟩:=sk;rw [pv] at h1;cases h1;exact ⟨c,rfl,h2,h3⟩
   | ml t=>rw [hs] at ar sk;cases ar;obtain ⟨c,h1,h2,h3⟩:=sk;rw [pv] at h1;cases h1;exact ⟨c,rfl,h2,h3⟩
   | ro t=>rw [hs] at ar sk;cases ar;obtain ⟨c,h1,h2,h3⟩:=sk;rw [pv] at h1;cases h1;exact ⟨c,rfl,h2,h3⟩
 ·obtain ⟨q1,e1,a1⟩:=g1 i x ex
  obtain ⟨q2,e2,a2⟩:=g1 j y ey
  obtain ⟨k1,t1,rfl,s1⟩:=Qn5 a1 px
  obtain ⟨k2,t2,rfl,s2⟩:=Qn5 a2 py
  have p1:σ[k1]?=some (some (.ref b)):=r.get vx e1
  have p2:σ[k2]?=some (some (.ref b)):=r.get vy e2
  have ek:=F.apart k1 k2 b ⟨⟨t1,s1⟩,p1⟩ ⟨⟨t2,s2⟩,p2⟩
  subst ek
  exact Ql5 hb i j k1 e1 e2
theorem Qo7 {s:Slot} {t u:T} (h:(s.put t).prv=some u):∃ w,s.prv=some w:=by
 cases s <;> first | exact ⟨_,rfl⟩ | cases h
theorem Ql6 {i:Nat} {u:T} (h:(Qd (Qa1 ρ rs fin) i).prv=some u):∃ w,(Qd ρ i).prv=some w:=by
 rw [Qc4] at h
 rcases Qb7 rs fin i (Qd ρ i) with e | ⟨k,t,_,_,e⟩
 ·rw [e] at h;exact ⟨u,h⟩
 ·rw [e] at h;exact Qo7 h
theorem Q3w {i:Nat} {u:T} (h:Qd (Qa1 ρ rs fin) i=.ow u):∃ w,Qd ρ i=.ow w:=by
 rw [Qc4] at h
 rcases Qb7 rs fin i (Qd ρ i) with e | ⟨k,t,_,_,e⟩
 ·rw [e] at h;exact ⟨u,h⟩
 ·rw [e] at h
  cases hs:Qd ρ i <;> rw [hs] at h <;> first | exact ⟨_,rfl⟩ | cases h
theorem Qu4 {i:Nat} {u:T} (h:Qd (Qa1 ρ rs fin) i=.ml u):∃ w,Qd ρ i=.ml w:=by
 rw [Qc4] at h
 rcases Qb7 rs fin i (Qd ρ i) with e | ⟨k,t,_,_,e⟩
 ·rw [e] at h;exact ⟨u,h⟩
 ·rw [e] at h
  cases hs:Qd ρ i <;> rw [hs] at h <;> first | exact ⟨_,rfl⟩ | cases h
theorem Q3x {i:Nat} {u:T} (h:Qd (Qa1 ρ rs fin) i=.ro u):∃ w,Qd ρ i=.ro w:=by
 rw [Qc4] at h
 rcases Qb7 rs fin i (Qd ρ i) with e | ⟨k,t,_,_,e⟩
 ·rw [e] at h;exact ⟨u,h⟩
 ·rw [e] at h
  cases hs:Qd ρ i <;> rw [hs] at h <;> first | exact ⟨_,rfl⟩ | cases h
theorem Q3y {i:Nat} {u:T} (h:Qd (Qa1 ρ rs fin) i=.fx u):∃ w,Qd ρ i=.fx w:=by
 rw [Qc4] at h
 rcases Qb7 rs fin i (Qd ρ i) with e | ⟨k,t,_,_,e⟩
 ·rw [e] at h;exact ⟨u,h⟩
 ·rw [e] at h
  cases hs:Qd ρ i <;> rw [hs] at h <;> first | exact ⟨_,rfl⟩ | cases h
theorem FI.called (F:FI B H G σ ρ) (A:ArgsR H G vs as) (hv:∀ (k i:Nat) (v:V),rs[k]?=some (.sl i)→vs[k]?=some v→σ[i]?=some (some v)) (hl:vs.length=rs.length) (ea:Qx ρ rs=some as) (hb:Qu rs=true) (C:CallP H G vs as H1 G1 fin):FI B H1 G1 σ (Qa1 ρ rs fin):=by
 have ml:∀ b,Qu3 vs as b→∃ (k i:Nat) (t:T),rs[k]?=some (.sl i)∧as[k]?=some (.ml t)∧vs[k]?=some (.ref b)∧(Qd ρ i=.ow t∨Qd ρ i=.ml t)∧σ[i]?=some (some (.ref b)):=fun b h=>by
  obtain ⟨k,t,e1,e2⟩:=h
  obtain ⟨q,eq,ar⟩:=(Qga ea).2 k _ e1
  obtain ⟨i,rfl,hs⟩:=Q0e ar
  exact ⟨k,i,t,eq,e1,e2,hs,hv k i _ eq e2⟩
 have mp:∀ b,Qu3 vs as b→OwA σ ρ b∨MlA σ ρ b:=fun b h=>by
  obtain ⟨k,i,t,_,_,_,hs | hs,e⟩:=ml b h
  ·exact .inl ⟨i,t,hs,e⟩
  ·exact .inr ⟨i,t,hs,e⟩
 have sm:Same (dls H G) (dls H1 G1):=fun b o e=>by
  obtain ⟨n,e⟩:=Qak e
  have e1:=C.chg b o (fun z=>n ((mp b z).elim F.ownG F.mlG)) e
  rw [Qdb fun z=>?_]
  ·exact e1
  ·rcases C.gn b z with z | z
   ·exact n z
   ·rw [z] at e;cases e
 -- a slot's list that is not lent
 have stay:∀ i a t,(Qd ρ i).prv=some t→σ[i]?=some (some (.ref a))→OwnAt H G a t→((∀ t,Qd ρ i≠.ow t)∧(∀ t,Qd ρ i≠.ml t)∨Qi rs i=none)→OwnAt H1 G1 a t:=fun i a t e s o h=>by
  refine o.mono sm fun u eu=>C.chg a u (fun z=>?_) eu
  obtain ⟨k,j,t',e1,_,_,hs,e2⟩:=ml a z
  have ej:j=i:=F.apart j i a ⟨⟨t',by rcases hs with hs | hs <;> rw [hs] <;> rfl⟩,e2⟩ ⟨⟨t,e⟩,s⟩
  subst ej
  rcases h with ⟨h1,h2⟩ | h
  ·rcases hs with hs | hs
   ·exact h1 _ hs
   ·exact h2 _ hs
  ·exact Qjb h e1
 -- one that is lent
 have lent:∀ i a t k,(Qd ρ i=.ow t∨Qd ρ i=.ml t)→σ[i]?=some (some (.ref a))→Qi rs i=some k→∃ t',fin[k]?=some t'∧OwnAt H1 G1 a t':=fun i a t k hs s hk=>by
  have e1:=Qee hk
  have hk':k<vs.length:=by rw [hl];exact (List.getElem?_eq_some_iff.mp e1).1
  have e2:=hv k i _ e1 (List.getElem?_eq_getElem hk')
  rw [s] at e2
  have e3:vs[k]?=some (.ref a):=by rw [List.getElem?_eq_getElem hk'];rw [←Option.some.inj (Option.some.inj e2)]
  have hk2:k<as.length:=by rw [←A.len];exact hk'
  obtain ⟨q,eq,ar⟩:=(Qga ea).2 k _ (List.getElem?_eq_getElem hk2)
  rw [e1] at eq
  cases eq
  have e4:as[k]?=some (.ml t):=by
   rw [List.getElem?_eq_getElem hk2,←ar]
   rw [Qja]
   rcases hs with hs | hs <;> rw [hs]
  exact C.fin k t a e4 e3
 exact {
  len:=by unfold Qa1;rw [Qi9];exact F.len
  slot:=fun i=>by
   have q:=F.slot i
   have bc:=Qb7 rs fin i (Qd ρ i)
   rw [Qc4]
   cases hs:Qd ρ i with
   | un =>
    rw [hs] at bc
    rcases bc with e | ⟨k,t,_,_,e⟩ <;> rw [e] <;> trivial
   | pin a =>
    rw [hs] at q bc
    rcases bc with e | ⟨k,t,_,_,e⟩ <;> rw [e] <;> exact q
   | fz t =>
    rw [hs] at q bc
    obtain ⟨v,e1,e2⟩:=q
    rcases bc with e | ⟨k,t,_,_,e⟩ <;> rw [e] <;> exact ⟨v,e1,e2.mono sm⟩
   | fx t =>
    rw [hs] at q bc
    obtain ⟨v,o,e1,e3,e2⟩:=q
    rcases bc with e | ⟨k,t,_,_,e⟩ <;> rw [e] <;> exact ⟨v,o,e1,sm _ _ e3,e2.mono sm⟩
   | ro t =>
    rw [hs] at q bc
    obtain ⟨a,e1,g,o⟩:=q
    have o':=stay i a t (by rw [hs];rfl) e1 o (.inl ⟨fun t z=>(by rw [hs] at z;cases z),fun t z=>(by rw [hs] at z;cases z)⟩)
    rcases bc with e | ⟨k,t,_,_,e⟩ <;> rw [e] <;> exact ⟨a,e1,C.gg a g,o'⟩
   | ow t =>
    rw [hs] at q bc
    obtain ⟨a,e1,g,o⟩:=q
    cases hp:Qi rs i with
    | none =>
     have o':=stay i a t (by rw [hs];rfl) e1 o (.inr hp)
     rcases bc with e | ⟨k,t',h,_,e⟩
     ·rw [e];exact ⟨a,e1,C.gg a g,o'⟩
     ·rw [hp] at h;cases h
    | some k =>
     obtain ⟨t',ef,o'⟩:=lent i a t k (.inl hs) e1 hp
     have e:Qz rs fin i (.ow t)=.ow t':=by unfold Qz;rw [hp];simp only [ef];rfl
     rw [e]
     exact ⟨a,e1,C.gg a g,o'⟩
   | ml t =>
    rw [hs] at q bc
    obtain ⟨a,e1,g,o⟩:=q
    cases hp:Qi rs i with
    | none =>
     have o':=stay i a t (by rw [hs];rfl) e1 o (.inr hp)
     rcases bc with e | ⟨k,t',h,_,e⟩
     ·rw [e];exact ⟨a,e1,C.gg a g,o'⟩
     ·rw [hp] at h;cases h
    | some k =>
     obtain ⟨t',ef,o'⟩:=lent i a t k (.inr hs) e1 hp
     have e:Qz rs fin i (.ml t)=.ml t':=by unfold Qz;rw [hp];simp only [ef];rfl
     rw [e]
     exact ⟨a,e1,C.gg a g,o'⟩
  apart:=fun i j a h1 h2=>F.apart i j a ⟨let ⟨u,e⟩:=h1.1;Ql6 e,h1.2⟩ ⟨let ⟨u,e⟩:=h2.1;Ql6 e,h2.2⟩
  prv:=C.prv
  chg:=fun b o h1 h2 e=>C.chg b o (fun z=>by
   rcases mp b z with z | z
   ·rcases F.newO b z with z | z
    ·rw [e] at z;cases z
    ·exact h1 z
   ·exact h2 (F.newM b z)) (F.chg b o h1 h2 e)
  keep:=fun b o e=>by
   obtain ⟨o1,e1⟩:=F.keep b o e
   exact C.keep b o1 e1
  newO:=fun a h=>by
   obtain ⟨i,t,e,s⟩:=h
   obtain ⟨w,e⟩:=Q3w e
   exact F.newO a ⟨i,w,e,s⟩
  newM:=fun a h=>by
   obtain ⟨i,t,e,s⟩:=h
   obtain ⟨w,e⟩:=Qu4 e
   exact F.newM a ⟨i,w,e,s⟩
  fix:=fun i a h=>by
   obtain ⟨⟨t,e⟩,s⟩:=h
   refine F.fix i a ⟨?_,s⟩
   rcases e with e | e | e
   ·obtain ⟨w,e⟩:=Qu4 e;exact ⟨w,.inl e⟩
   ·obtain ⟨w,e⟩:=Q3x e;exact ⟨w,.inr (.inl e)⟩
   ·obtain ⟨w,e⟩:=Q3y e;exact ⟨w,.inr (.inr e)⟩
  gg:=fun b h=>C.gg b (F.gg b h)
  gn:=fun b h=>by
   rcases C.gn b h with z | z
   ·exact F.gn b z
   ·exact .inr (F.free z)
  bp:=F.bp }
end
section
variable {X:Cx} {p:Pr} {x:Str} {e:Expr} {es:List Expr} {es':Es} {f k:Nat} {ps:List Str} {pos p1:Pos}
theorem Q3z {σ:St} {H:Hp} {Q:VK} (h:tE p (.call f es') σ H Q):Qzh (spF p.cf p.mg f) p.R (tA p es') σ H Q:=by
 obtain ⟨G,ρ,F,h⟩:=h
 unfold evE at h
 refine ⟨G,ρ,F,h.bind.imp fun rs ρ1 h1 vs H1 G1 F1 r1=>?_⟩
 unfold Qkr at h1
 by_cases hb:Qu rs=true
 ·rw [if_pos hb] at h1
  cases ea:Qx ρ1 rs with
  | none=>rw [ea] at h1;exact False.elim h1
  | some as =>
   rw [ea] at h1
   replace h1:Fin p (Qa2 H G σ ρ) σ (match p.cf f as with | .ok r fin=>.ok r (Qa1 ρ1 rs fin) | .xn x fin=>.xn x (Qa1 ρ1 rs fin) | .no=>.no) _:=h1
   obtain ⟨G',F',A⟩:=Q3v (B:=Qa2 H G σ ρ) F1 r1 ea hb
   have hv:∀ (k i:Nat) (v:V),rs[k]?=some (.sl i)→vs[k]?=some v→σ[i]?=some (some v):=fun k i v e1 e2=>r1.get e2 e1
   refine ⟨G',as,A,F'.prv,?_⟩
   cases ec:p.cf f as with
   | no=>rw [ec] at h1;exact False.elim h1
   | xn z fin =>
    rw [ec] at h1
    exact fun cls dx H' G2 C xr=>h1 cls dx H' G2 (F'.called A hv r1.len ea hb C) xr
   | ok r fin =>
    rw [ec] at h1
    refine fun v H' G2 C rr=>h1 v H' G2 (F'.called A hv r1.len ea hb C) ?_
    cases r with
    | sl i=>exact False.elim rr
    | fz t=>exact rr
    | ow t =>
     obtain ⟨a,rfl,n,g,o⟩:=rr
     refine ⟨a,rfl,F'.free n,g,fun i hp=>?_,o⟩
     obtain ⟨w,e⟩:=Ql6 hp.1.choose_spec
     obtain ⟨_,t,ob,ea,_⟩:=PrvAt.at F' ⟨⟨w,e⟩,hp.2⟩
     rw [n] at ea
     cases ea
 ·rw [if_neg hb] at h1
  exact False.elim h1
theorem Q9p (h:HasE X.prog X.w X.K X.mg X.base x ps k (spF p.cf p.mg f)) (pz:Qe5 X p.R) (hr:Room k X.A) (ha:QA X (e::es) (tA p es')) (hg:Gl X x) (hdb:(x==("__debug__" : Str))=false) (h1:Q5 e=true) (h2:es.all Q5=true) :
  QE X (.Call (.Name x p1) (e::es) [] pos) (tE p (.call f es')):=(Qada h pz hr ha hg hdb (Qb2 h1) (Qi8 h2)).weak fun σ H Q h=>Q3z h
end
section
variable {B:Bs} {H H1:Hp} {G G1:Addr→Prop} {σ:St} {ρ ρ':En} {i:Nat} {v:V} {t:T}
theorem Ql7 {w:Option V} (h:i<σ.length):(σ.set i w)[i]?=some w:=by rw [List.getElem?_set_self h]
theorem Qhd {j:Nat} {w:Option V} (h:j≠i):(σ.set i w)[j]?=σ[j]?:=by rw [List.getElem?_set_ne (fun z=>h z.symm)]
theorem FI.lay (F:FI B H G σ ρ) (hi:i<ρ.length) {s:Slot} {w:Option V} (hs:Qqx H G (σ.set i w) i s) (hp:∀ a,(∃ t,s.prv=some t)→w=some (.ref a)→∀ j,j≠i→¬ PrvAt σ ρ j a)
  (ho:∀ t a,s=.ow t→w=some (.ref a)→B.H a=none∨B.O a) (hm:∀ t,s≠.ml t) (hr:∀ t,s≠.ro t) (hx:∀ t,s≠.fx t:=by intro _ z;cases z):FI B H G (σ.set i w) (ρ.set i s):=by
 have hl:i<σ.length:=by rw [F.len];exact hi
 have sa:∀ j,Qd (ρ.set i s) j=if j=i then s else Qd ρ j:=fun j=>by
  rw [Qil]
  by_cases e:j=i
  ·rw [if_pos ⟨e,hi⟩,if_pos e]
  ·rw [if_neg (fun z=>e z.1),if_neg e]
 have old:∀ j a,PrvAt (σ.set i w) (ρ.set i s) j a→j≠i→PrvAt σ ρ j a:=fun j a h n=>by
  obtain ⟨⟨u,e⟩,q⟩:=h
  rw [sa,if_neg n] at e
  rw [Qhd n] at q
  exact ⟨⟨u,e⟩,q⟩
 have here:∀ a,PrvAt (σ.set i w) (ρ.set i s) i a→(∃ t,s.prv=some t)∧w=some (.ref a):=fun a h=>by
  obtain ⟨⟨u,e⟩,q⟩:=h
  rw [sa,if_pos rfl] at e
  rw [Ql7 hl] at q
  exact ⟨⟨u,e⟩,Option.some.inj q⟩
 exact {
  len:=by rw [List.length_set,List.length_set];exact F.len
  slot:=fun j=>by
   rw [sa]
   by_cases e:j=i
   ·rw [if_pos e,e];exact hs
   ·rw [if_neg e]
    have q:=F.slot j
    cases hh:Qd ρ j with
    | un=>trivial
    | pin a=>rw [hh] at q;show (σ.set i _)[j]?=_;rw [Qhd e];exact q
    | fz t=>rw [hh] at q;obtain ⟨v,a,b⟩:=q;exact ⟨v,by rw [Qhd e];exact a,b⟩
    | fx t=>rw [hh] at q;obtain ⟨v,o,a,b⟩:=q;exact ⟨v,o,by rw [Qhd e];exact a,b⟩
    | ow t=>rw [hh] at q;obtain ⟨v,a,b⟩:=q;exact ⟨v,by rw [Qhd e];exact a,b⟩
    | ml t=>rw [hh] at q;obtain ⟨v,a,b⟩:=q;exact ⟨v,by rw [Qhd e];exact a,b⟩
    | ro t=>rw [hh] at q;obtain ⟨v,a,b⟩:=q;exact ⟨v,by rw [Qhd e];exact a,b⟩
  apart:=fun j k a h1 h2=>by
   by_cases e1:j=i
   ·by_cases e2:k=i
    ·rw [e1,e2]
    ·rw [e1] at h1
     exact (hp a (here a h1).1 (here a h1).2 k e2 (old k a h2 e2)).elim
   ·by_cases e2:k=i
    ·rw [e2] at h2
     exact (hp a (here a h2).1 (here a h2).2 j e1 (old j a h1 e1)).elim
    ·exact F.apart j k a (old j a h1 e1) (old k a h2 e2)
  prv:=F.prv
  chg:=F.chg
  keep:=F.keep
  newO:=fun a h=>by
   obtain ⟨j,u,e,q⟩:=h
   rw [sa] at e
   by_cases z:j=i
   ·rw [if_pos z] at e
    rw [z,Ql7 hl] at q
    exact ho u a e (Option.some.inj q)
   ·rw [if_neg z] at e
    rw [Qhd z] at q
    exact F.newO a ⟨j,u,e,q⟩
  newM:=fun a h=>by
   obtain ⟨j,u,e,q⟩:=h
   rw [sa] at e
   by_cases z:j=i
   ·rw [if_pos z] at e;exact (hm u e).elim
   ·rw [if_neg z] at e
    rw [Qhd z] at q
    exact F.newM a ⟨j,u,e,q⟩
  fix:=fun j a h=>by
   obtain ⟨⟨u,e⟩,q⟩:=h
   rw [sa] at e
   by_cases z:j=i
   ·rw [if_pos z] at e
    rcases e with e | e | e
    ·exact (hm u e).elim
    ·exact (hr u e).elim
    ·exact (hx u e).elim
   ·rw [if_neg z] at e
    rw [Qhd z] at q
    exact F.fix j a ⟨⟨u,e⟩,q⟩
  gg:=F.gg
  gn:=F.gn
  bp:=F.bp }
theorem FI.setFz (F:FI B H G σ ρ) (hi:i<ρ.length) (hv:Is (dls H G) v t):FI B H G (σ.set i (some v)) (ρ.set i (.fz t)) :=
 F.lay hi ⟨v,Ql7 (by rw [F.len];exact hi),hv⟩ (fun a h=>by obtain ⟨u,e⟩:=h;cases e) (fun _ _ e=>by cases e) (fun _ e=>by cases e) (fun _ e=>by cases e)
theorem Qj6 {s:Slot} (h:Qbn i s ρ=some ρ'):i<ρ.length∧ρ'=ρ.set i s:=by
 unfold Qbn at h
 by_cases z:i<ρ.length
 ·rw [if_pos z] at h
  cases hs:Qd ρ i <;> rw [hs] at h <;> first | (cases h;done) | exact ⟨z,(Option.some.inj h).symm⟩
 ·rw [if_neg z] at h;cases h
theorem FI.setS (F:FI B H G σ ρ) (h:L2.Qbn i (.fz t) ρ=some ρ') (hv:Is (dls H G) v t):FI B H G (σ.set i (some v)) ρ':=by
 obtain ⟨h1,rfl⟩:=Qj6 h
 exact F.setFz h1 hv
theorem FI.setOw {H0:Hp} (F:FI B H G σ ρ) (hb:B.H=H0) (h:L2.Qbn i (.ow t) ρ=some ρ') (hv:TmpR H0 H G σ ρ v t):FI B H G (σ.set i (some v)) ρ':=by
 obtain ⟨h1,rfl⟩:=Qj6 h
 obtain ⟨a,rfl,n,g,np,o⟩:=hv
 refine F.lay h1 ⟨a,Ql7 (by rw [F.len];exact h1),g,o⟩ (fun b _ e j _=>?_) (fun _ b _ e=>?_) (fun _ e=>by cases e) (fun _ e=>by cases e)
 ·cases e;exact np j
 ·cases e;exact .inl (by rw [hb];exact n)
theorem FI.changeO (F:FI B H G σ ρ) {t0 u0:T} {ob:HO} {s':Slot} (hs:(Qd ρ i=.ow t0∧s'=.ow u0)∨(Qd ρ i=.ml t0∧s'=.ml u0)) {a:Addr} (e:σ[i]?=some (some (.ref a))) (il:OwnO (dls H G) u0 ob) :
  FI B (upd H a ob) G σ (ρ.set i s')∧Same (dls H G) (dls (upd H a ob) G):=by
 have hpv:(Qd ρ i).prv=some t0:=by rcases hs with ⟨h,_⟩ | ⟨h,_⟩ <;> rw [h] <;> rfl
 have hi:i<ρ.length:=Qw3 (by rcases hs with ⟨h,_⟩ | ⟨h,_⟩ <;> rw [h] <;> intro z <;> cases z)
 obtain ⟨a',e',g,o',ea,_⟩:=F.prvAt hpv
 rw [e] at e'
 cases e'
 have sa:∀ j,Qd (ρ.set i s') j=if j=i then s' else Qd ρ j:=fun j=>by
  rw [Qil]
  by_cases e:j=i
  ·rw [if_pos ⟨e,hi⟩,if_pos e]
  ·rw [if_neg (fun z=>e z.1),if_neg e]
 have sm:Same (dls H G) (dls (upd H a ob) G):=fun b o eb=>by
  obtain ⟨n,eb⟩:=Qak eb
  rw [Qdb n,Q2 (fun (z:b=a)=>n (by rw [z];exact g))]
  exact eb
 have pv':∀ j b,PrvAt σ (ρ.set i s') j b→PrvAt σ ρ j b:=fun j b h=>by
  obtain ⟨⟨u,e1⟩,q⟩:=h
  rw [sa] at e1
  by_cases hj:j=i
  ·rw [hj] at q ⊢;exact ⟨⟨_,hpv⟩,q⟩
  ·rw [if_neg hj] at e1;exact ⟨⟨u,e1⟩,q⟩
 have own:OwnAt (upd H a ob) G a u0:=⟨ob,Qp,il.mono sm⟩
 refine ⟨{
  len:=by rw [List.length_set];exact F.len
  slot:=fun j=>by
   rw [sa]
   by_cases hj:j=i
   ·rw [if_pos hj,hj]
    rcases hs with ⟨_,h⟩ | ⟨_,h⟩ <;> rw [h] <;> exact ⟨a,e,g,own⟩
   ·rw [if_neg hj]
    refine Qik (F.slot j) sm fun b o hb1 hb2 eb=>?_
    have nb:b≠a:=fun z=>hj (F.apart j i a ⟨hb1,z ▸ hb2⟩ ⟨⟨_,hpv⟩,e⟩)
    exact ⟨by rw [Q2 nb];exact eb,(PrvAt.at F ⟨hb1,hb2⟩).1⟩
  apart:=fun j k b h1 h2=>F.apart j k b (pv' j b h1) (pv' k b h2)
  prv:=fun b hb=>by
   by_cases h:b=a
   ·exact ⟨ob,by rw [h,Qp],il.pen⟩
   ·rw [Q2 h];exact F.prv b hb
  chg:=fun b o h1 h2 eb=>by
   have nb:b≠a:=fun z=>by
    rcases hs with ⟨h,_⟩ | ⟨h,_⟩
    ·rcases F.newO a ⟨i,_,h,e⟩ with y | y
     ·rw [z,y] at eb;cases eb
     ·exact h1 (z ▸ y)
    ·exact h2 (z ▸ F.newM a ⟨i,_,h,e⟩)
   rw [Q2 nb]
   exact F.chg b o h1 h2 eb
  keep:=fun b o eb=>by
   by_cases h:b=a
   ·exact ⟨_,by rw [h,Qp]⟩
   ·rw [Q2 h];exact F.keep b o eb
  newO:=fun b h=>by
   obtain ⟨j,u,e1,q⟩:=h
   rw [sa] at e1
   by_cases hj:j=i
   ·rw [if_pos hj] at e1
    rcases hs with ⟨h,h2⟩ | ⟨h,h2⟩
    ·exact F.newO b ⟨i,_,h,hj ▸ q⟩
    ·rw [h2] at e1;cases e1
   ·rw [if_neg hj] at e1;exact F.newO b ⟨j,u,e1,q⟩
  newM:=fun b h=>by
   obtain ⟨j,u,e1,q⟩:=h
   rw [sa] at e1
   by_cases hj:j=i
   ·rw [if_pos hj] at e1
    rcases hs with ⟨h,h2⟩ | ⟨h,h2⟩
    ·rw [h2] at e1;cases e1
    ·exact F.newM b ⟨i,_,h,hj ▸ q⟩
   ·rw [if_neg hj] at e1;exact F.newM b ⟨j,u,e1,q⟩
  fix:=fun j b h=>by
   obtain ⟨⟨u,e1⟩,q⟩:=h
   rw [sa] at e1
   by_cases hj:j=i
   ·rw [if_pos hj] at e1
    rcases hs with ⟨h,h2⟩ | ⟨h,h2⟩
    ·rw [h2] at e1;rcases e1 with e1 | e1 | e1 <;> cases e1
    ·exact F.fix j b ⟨⟨_,.inl (by rw [hj];exact h)⟩,q⟩
   ·rw [if_neg hj] at e1;exact F.fix j b ⟨⟨u,e1⟩,q⟩
  gg:=F.gg
  gn:=F.gn
  bp:=F.bp },sm⟩
theorem FI.change (F:FI B H G σ ρ) {ts us:List T} {ws:List V} {s':Slot} (hs:(Qd ρ i=.ow (.lst ts)∧s'=.ow (.lst us))∨(Qd ρ i=.ml (.lst ts)∧s'=.ml (.lst us))) {a:Addr} (e:σ[i]?=some (some (.ref a))) (il:IsL (dls H G) ws us) (z:us.length≤100000) :
  FI B (upd H a (.lst ws)) G σ (ρ.set i s')∧Same (dls H G) (dls (upd H a (.lst ws)) G):=F.changeO hs e ⟨z,il⟩
end
theorem QG.weak {X:Cx} {e:Expr} {t t':TG} (h:QG X e t) (q:∀ v σ H Q,t' v σ H Q→t v σ H Q):QG X e t':=⟨fun pins s σ H v u Q I r z=>h.h pins s σ H v u Q I r (q _ _ _ _ z)⟩
theorem QI.weak {X:Cx} {tg e:Expr} {t t':TI} (h:QI X tg e t) (q:∀ σ H R,t' σ H R→t σ H R):QI X tg e t':=⟨fun pins s σ H R I z=>h.h pins s σ H R I (q _ _ _ z)⟩
theorem QC.weak {X:Cx} {e:List Expr} {t t':TT} (h:QC X e t) (q:∀ σ H Q,t' σ H Q→t σ H Q):QC X e t':=⟨fun pins s σ H Q I z=>h.h pins s σ H Q I (q _ _ _ z)⟩
noncomputable def tG (tg:Tg):TG:=fun v σ H Q=>∃ B G ρ t ρ',FI B H G σ ρ∧Is (dls H G) v t∧Qha tg t ρ=some ρ'∧∀ σ',FI B H G σ' ρ'→(∀ k a,PrvAt σ' ρ' k a→PrvAt σ ρ k a)→Q σ' H
theorem Qq6 {i:Nat} {t:T} {σ:St} {ρ ρ':En} {v:V} (h:Qbn i (.fz t) ρ=some ρ'):∀ k a,PrvAt (σ.set i (some v)) ρ' k a→PrvAt σ ρ k a:=fun k a hk=>by
 obtain ⟨h1,rfl⟩:=Qj6 h
 obtain ⟨⟨u,e⟩,q⟩:=hk
 rw [Qil] at e
 by_cases z:k=i∧i<ρ.length
 ·rw [if_pos z] at e;cases e
 ·rw [if_neg z] at e
  have hk:k≠i:=fun y=>z ⟨y,h1⟩
  rw [Qhd hk] at q
  exact ⟨⟨u,e⟩,q⟩
noncomputable def Q0f:List Nat→TGs
 | []=>Q7o
 | i::is=>Qx5 (Qgx i) (Q0f is)
section
variable {X:Cx} {e:Expr} {es:List Expr} {pos:Pos}
theorem Qa5 {i:Nat} (h:QG X e (Qgx i)):QG X e (tG (.nm i)):=h.weak fun v σ H Q ⟨B,G,ρ,t,ρ',F,hv,hs,q⟩=>q _ (F.setS hs hv) (Qq6 hs)
theorem Qu5 {B:Bs} {H:Hp} {G:Addr→Prop} {Q:St→Hp→Prop}:∀ {is:List Nat} {ts:List T} {xs:List V} {σ:St} {ρ ρ':En},FI B H G σ ρ→IsL (dls H G) xs ts→Qcx is ts ρ=some ρ'→(∀ σ',FI B H G σ' ρ'→(∀ k a,PrvAt σ' ρ' k a→PrvAt σ ρ k a)→Q σ' H)→Q0f is xs σ H Q
 | [],[],xs,σ,ρ,ρ',F,r,e,q=>by
  cases e
  exact ⟨r.nil_inv,q σ F fun _ _ h=>h⟩
 | i::is,t::ts,xs,σ,ρ,ρ',F,r,e,q=>by
  obtain ⟨v,w,rfl,a,r⟩:=r.cons_inv
  unfold Qcx at e
  cases h:Qbn i (.fz t) ρ with
  | none=>rw [h] at e;cases e
  | some ρ1 =>
   rw [h] at e
   exact ⟨v,w,rfl,Qu5 (F.setS h a) r e fun σ' F' o=>q σ' F' fun k b hk=>Qq6 h k b (o k b hk)⟩
 | [],_::_,_,_,_,_,_,_,e,_=>by cases e
 | _::_,[],_,_,_,_,_,_,e,_=>by cases e
theorem Qks:∀ {is:List Nat} {ts:List T} {ρ ρ':En},Qcx is ts ρ=some ρ'→ts.length=is.length
 | [],[],_,_,_=>rfl
 | i::is,t::ts,ρ,ρ',e=>by
  unfold Qcx at e
  cases h:Qbn i (.fz t) ρ with
  | none=>rw [h] at e;cases e
  | some ρ1=>rw [h] at e;rw [List.length_cons,List.length_cons,Qks e]
 | [],_::_,_,_,e=>by cases e
 | _::_,[],_,_,e=>by cases e
theorem Q0g {K:PySem.W.Frag} {n:Nat} {is:List Nat} (h:QG X e (Q2a K n (Q0f is))) (hn:is.length=n):QG X e (tG (.tp is)):=h.weak fun v σ H Q zz1=>by
 obtain ⟨B,G,ρ,t,ρ',F,hv,hs,q⟩:=zz1
 cases t <;> first | (cases hs;done) | skip
 have hs:Qcx is _ ρ=some ρ':=hs
 obtain ⟨a,vs,rfl,ea,r⟩:=hv.tup_inv
 exact ⟨a,vs,rfl,SqT.of (Qak ea).2,by rw [r.length,Qks hs,hn],Qu5 F r hs q⟩
end
structure WkR (J:It) (H0:Hp) (G0:Addr→Prop) (Ok:Hp→Prop) (ts:List T):Prop where
 go:∀ i H,i<ts.length→Ok H→J.go i H
 stop:∀ i H,ts.length≤i→Ok H→J.stop i H
 yld:∀ i H x H',i<ts.length→Ok H→J.yld i H x H'→Same H H'∧∃ t,ts[i]?=some t∧∀ G,Pen H G→Same (dls H0 G0) (dls H G)→Is (dls H' G) x t
noncomputable def tW (p:Pr) (w:W):TI:=fun σ H R=>∃ G ρ,FI (Qa2 H G σ ρ) H G σ ρ∧Fin p (Qa2 H G σ ρ) σ (evW p.cf w ρ) fun its ρ1=>its.2=none∧∀ J H1 G1 Ok,FI (Qa2 H G σ ρ) H1 G1 σ ρ1→WkR J H1 G1 Ok its.1→(∀ H' G',Same (dls H1 G1) (dls H' G')→Ok H')→R J H1
section
variable {X:Cx} {p:Pr} {e a b tg:Expr} {a' b' e':E} {pos p1:Pos} {K:PySem.W.Frag}
theorem wk_l {H:Hp} {G:Addr→Prop} {l:Addr} {vs:List V} {ts:List T} (r:IsL (dls H G) vs ts):WkR (Itl K l) H G (fun H'=>SqL K H' l vs) ts where
 go:=fun i H' hi ok=>⟨vs,_,ok,List.getElem?_eq_getElem (by rw [r.length];exact hi)⟩
 stop:=fun i H' hi ok=>⟨vs,ok,by rw [r.length];exact hi⟩
 yld:=fun i H' x H2 hi ok y=>by
  obtain ⟨rfl,hx⟩:=y
  obtain ⟨t,et,it⟩:=r.get (hx vs ok)
  exact ⟨Same.refl _,t,et,fun G' _ s=>it.mono s⟩
theorem wk_t {H:Hp} {G:Addr→Prop} {l:Addr} {vs:List V} {ts:List T} (r:IsL (dls H G) vs ts):WkR (Itt K l) H G (fun H'=>SqT K H' l vs) ts where
 go:=fun i H' hi ok=>⟨vs,_,ok,List.getElem?_eq_getElem (by rw [r.length];exact hi)⟩
 stop:=fun i H' hi ok=>⟨vs,ok,by rw [r.length];exact hi⟩
 yld:=fun i H' x H2 hi ok y=>by
  obtain ⟨rfl,hx⟩:=y
  obtain ⟨t,et,it⟩:=r.get (hx vs ok)
  exact ⟨Same.refl _,t,et,fun G' _ s=>it.mono s⟩
theorem Qbp (lo:Int) (n:Nat):(Qcd lo n).length=n:=by unfold Qcd;rw [List.length_map,List.length_range]
theorem Qj7 {lo:Int} {n i:Nat} (hi:i<n):(Qcd lo n)[i]?=some (.int (lo+i)):=by
 unfold Qcd
 rw [List.getElem?_map,List.getElem?_range hi]
 rfl
theorem wk_r {H:Hp} {G:Addr→Prop} {lo:Int} {n:Nat}:WkR (Itr lo n) H G (fun _=>True) (Qcd lo n) where
 go:=fun i H' hi _=>by rw [Qbp] at hi;exact hi
 stop:=fun i H' hi _=>by rw [Qbp] at hi;exact hi
 yld:=fun i H' x H2 hi _ y=>by
  rw [Qbp] at hi
  obtain ⟨rfl,rfl⟩:=y
  exact ⟨Same.refl _,_,Qj7 hi,fun _ _ _=>Is.int⟩
theorem Qeo:∀ (ts:List T) (n:Nat),(Qk5 n ts).length=ts.length
 | [],_=>rfl
 | t::ts,n=>by unfold Qk5;rw [List.length_cons,List.length_cons,Qeo ts]
theorem Qjc:∀ (ts:List T) (n i:Nat) (t:T),ts[i]?=some t→(Qk5 n ts)[i]?=some (.tup [.int ((n+i:Nat):Int),t])
 | [],_,_,_,e=>by simp at e
 | t::ts,n,0,u,e=>by
  simp at e
  subst e
  rfl
 | t::ts,n,i+1,u,e=>by
  rw [List.getElem?_cons_succ] at e
  unfold Qk5
  rw [List.getElem?_cons_succ,Qjc ts (n+1) i u e,show n+1+i=n+(i+1) by omega]
theorem wk_e {H:Hp} {G:Addr→Prop} {l:Addr} {vs:List V} {ts:List T} (r:IsL (dls H G) vs ts):WkR (Ite K l) H G (fun H'=>SqL K H' l vs) (Qk5 0 ts) where
 go:=fun i H' hi ok=>⟨vs,_,ok,List.getElem?_eq_getElem (by rw [Qeo] at hi;rw [r.length];exact hi)⟩
 stop:=fun i H' hi ok=>⟨vs,ok,by rw [Qeo] at hi;rw [r.length];exact hi⟩
 yld:=fun i H' x H2 hi ok y=>by
  obtain ⟨q,x,rfl,hq,hx,rfl⟩:=y
  obtain ⟨t,et,it⟩:=r.get (hx vs ok)
  refine ⟨Same.upd hq,_,Qjc ts 0 i t et,fun G' pn s=>?_⟩
  rw [Nat.zero_add]
  exact Qe4 (pn.mono (Same.upd hq)) Qp (.cons Is.int (.one (it.mono (s.trans (Qbl (Same.upd hq)))))) (by show 2≤100000;decide)
theorem Qad0 {H:Hp} {G:Addr→Prop} {l:Addr} {vs:List V} {ts:List T} (r:IsL (dls H G) vs ts):WkR (Q86 K l) H G (fun H'=>SqT K H' l vs) (Qk5 0 ts) where
 go:=fun i H' hi ok=>⟨vs,_,ok,List.getElem?_eq_getElem (by rw [Qeo] at hi;rw [r.length];exact hi)⟩
 stop:=fun i H' hi ok=>⟨vs,ok,by rw [Qeo] at hi;rw [r.length];exact hi⟩
 yld:=fun i H' x H2 hi ok y=>by
  obtain ⟨q,x,rfl,hq,hx,rfl⟩:=y
  obtain ⟨t,et,it⟩:=r.get (hx vs ok)
  refine ⟨Same.upd hq,_,Qjc ts 0 i t et,fun G' pn s=>?_⟩
  rw [Nat.zero_add]
  exact Qe4 (pn.mono (Same.upd hq)) Qp (.cons Is.int (.one (it.mono (s.trans (Qbl (Same.upd hq)))))) (by show 2≤100000;decide)
theorem Ql8 {r:PV} {ρ:En} {t:T} (h:Qg3 r=none) (e:cont ρ r=some t):frz r=some t:=by
 cases r with
 | fz t=>exact e
 | ow t=>exact e
 | sl i=>cases h
theorem Qcn (hK:X.K=K) (ha:QE X e (tE p e')):QI X tg e (tW p (.seq e')):=(Q54 K hK ha).weak fun σ H R zz1=>by
 obtain ⟨G,ρ,F,h⟩:=zz1
 unfold evW at h
 refine ⟨G,ρ,F,h.bind.imp fun r ρ1 h1 v H1 G1 F1 r1=>?_⟩
 cases ec:cont ρ1 r with
 | none=>rw [ec] at h1;exact False.elim h1
 | some t =>
  rw [ec] at h1
  cases es:Qeb t with
  | none =>
   replace h1:Fin p (Qa2 H G σ ρ) σ (match Qeb t with | some ts=>.ok (ts,Qg3 r) ρ1 | none=>.no) _:=h1
   rw [es] at h1
   exact False.elim h1
  | some ts =>
   replace h1:Fin p (Qa2 H G σ ρ) σ (match Qeb t with | some ts=>.ok (ts,Qg3 r) ρ1 | none=>.no) _:=h1
   rw [es] at h1
   obtain ⟨hn,k⟩:=h1
   obtain ⟨G',F',hv,_⟩:=PVR.lay (B:=Qa2 H G σ ρ) r1 F1 (Ql8 hn ec)
   cases t <;> first | (cases es;done) | skip
   ·cases es
    obtain ⟨l,vs,rfl,el,rl⟩:=hv.tup_inv
    exact ⟨l,rfl,.inr ⟨⟨vs,SqT.of (Qak el).2⟩,k _ H1 G' _ F' (wk_t rl) fun H' G2 s=>SqT.of (Qak (s _ _ el)).2⟩⟩
   ·cases es
    obtain ⟨l,vs,rfl,el,rl⟩:=hv.lst_inv
    exact ⟨l,rfl,.inl ⟨⟨vs,SqL.of (Qak el).2⟩,k _ H1 G' _ F' (wk_l rl) fun H' G2 s=>SqL.of (Qak (s _ _ el)).2⟩⟩
theorem Q30 (hm:X.mg "range" = none) (ha:QE X a (tE p a')) (hg:Gl X "range") (hs:Q5 a=true):QI X tg (.Call (.Name "range" p1) [a] [] pos) (tW p (.rng1 a')):=(Q8o hm (Qs ha Qa7 hs) hg hs).weak fun σ H R zz1=>by
 obtain ⟨G,ρ,F,h⟩:=zz1
 unfold evW at h
 refine ⟨G,ρ,F,h.bind.imp fun r ρ1 h1 v H1 G1 F1 r1=>?_⟩
 cases r with
 | ow t=>exact False.elim h1
 | sl i=>exact False.elim h1
 | fz t =>
  cases t <;> first | exact False.elim h1 | skip
  rename_i j
  replace h1:Fin p (Qa2 H G σ ρ) σ (if j.natAbs≤100000 then .ok (Qcd 0 j.toNat,none) ρ1 else .no) _:=h1
  by_cases z:j.natAbs≤100000
  ·rw [if_pos z] at h1
   obtain rfl:=r1.is.int_inv
   exact ⟨j,rfl,by omega,by omega,h1.2 _ H1 G1 _ F1 wk_r fun _ _ _=>trivial⟩
  ·rw [if_neg z] at h1;exact False.elim h1
theorem Q9q {es:List Expr} {x1} {tp:Pos} (hK:X.K=K) (hm:X.mg "enumerate" = none) (hb:PySem.bootBuiltins "enumerate" = some (.type "enumerate")) (ha:QE X a (tE p a')) (hg:Gl X "enumerate") (hs:Q5 a=true):QI X (.Tuple es x1 tp) (.Call (.Name "enumerate" p1) [a] [] pos) (tW p (.enm a')):=(Q3h K hK hm hb (Qs ha Qa7 hs) hg hs).weak fun σ H R zz1=>by
 obtain ⟨G,ρ,F,h⟩:=zz1
 unfold evW at h
 refine ⟨G,ρ,F,h.bind.imp fun r ρ1 h1 v H1 G1 F1 r1=>?_⟩
 cases ec:cont ρ1 r with
 | none=>rw [ec] at h1;exact False.elim h1
 | some t =>
  rw [ec] at h1
  cases t <;> first | exact False.elim h1 | skip
  ·obtain ⟨hn,k⟩:=h1
   obtain ⟨G',F',hv,_⟩:=PVR.lay (B:=Qa2 H G σ ρ) r1 F1 (Ql8 hn ec)
   obtain ⟨l,vs,rfl,el,rl⟩:=hv.tup_inv
   exact ⟨l,vs,rfl,.inr ⟨SqT.of (Qak el).2,k _ H1 G' _ F' (Qad0 rl) fun H' G2 s=>SqT.of (Qak (s _ _ el)).2⟩⟩
  ·obtain ⟨hn,k⟩:=h1
   obtain ⟨G',F',hv,_⟩:=PVR.lay (B:=Qa2 H G σ ρ) r1 F1 (Ql8 hn ec)
   obtain ⟨l,vs,rfl,el,rl⟩:=hv.lst_inv
   exact ⟨l,vs,rfl,.inl ⟨SqL.of (Qak el).2,k _ H1 G' _ F' (wk_e rl) fun H' G2 s=>SqL.of (Qak (s _ _ el)).2⟩⟩
end
theorem Qds (js:List (Option Nat)) (ρ:En) (k:Nat):Qd (Qfl js ρ) k=match js[k]? with
  | some (some j)=>(Qd ρ j).lend
  | _=>.un:=by
 show (match (js.map fun o=>match o with | none=>Slot.un | some j=>(Qd ρ j).lend)[k]? with | some s=>s | none=>Slot.un)=_
 rw [List.getElem?_map]
 cases js[k]? with
 | none=>rfl
 | some o=>cases o <;> rfl
theorem Qjd (js:List (Option Nat)) (σ:St) (k:Nat):(Qfu js σ)[k]?=match js[k]? with
  | some (some j)=>some ((σ[j]?).join)
  | some none=>some none
  | none=>none:=by
 unfold Qfu
 rw [List.getElem?_map]
 cases js[k]? with
 | none=>rfl
 | some o=>cases o <;> rfl
theorem Qhe (js:List (Option Nat)) (ρi:En):∀ (ρ:En) (n j:Nat),Qd (Qdo js ρi n ρ) j=if j<ρ.length then Qid js ρi (n+j) (Qd ρ j) else .un
 | [],n,j=>by
  unfold Qdo
  rw [if_neg (by simp),Qf9]
 | s::ρ,n,0=>by unfold Qdo;rw [if_pos (by simp)];rfl
 | s::ρ,n,j+1=>by
  unfold Qdo
  rw [Qb,Qb,Qhe js ρi ρ (n+1) j,show n+1+j=n+(j+1) by omega]
  by_cases h:j<ρ.length
  ·rw [if_pos h,if_pos (by rw [List.length_cons];omega)]
  ·rw [if_neg h,if_neg (by rw [List.length_cons];omega)]
theorem Qkt (js:List (Option Nat)) (ρi:En):∀ (ρ:En) (n:Nat),(Qdo js ρi n ρ).length=ρ.length
 | [],_=>rfl
 | s::ρ,n=>by unfold Qdo;rw [List.length_cons,List.length_cons,Qkt js ρi ρ (n+1)]
theorem Qdt (js:List (Option Nat)) (ρi:En) (j:Nat) (s:Slot):Qid js ρi j s=s∨∃ k t,js.idxOf? (some j)=some k∧Qd ρi k=.ml t∧Qid js ρi j s=s.put t:=by
 unfold Qid
 cases h1:js.idxOf? (some j) with
 | none=>exact .inl rfl
 | some k =>
  cases h2:Qd ρi k with
  | ml t=>exact .inr ⟨k,t,rfl,h2,by simp only [h2]⟩
  | un=>exact .inl (by simp only [h2])
  | pin _=>exact .inl (by simp only [h2])
  | fx _=>exact .inl (by simp only [h2])
  | fz t=>exact .inl (by simp only [h2])
  | ow t=>exact .inl (by simp only [h2])
  | ro t=>exact .inl (by simp only [h2])
theorem Qhf (js:List (Option Nat)) (ρi ρ:En) (j:Nat):Qd (Qm8 js ρi ρ) j=Qid js ρi j (Qd ρ j):=by
 unfold Qm8
 rw [Qhe,Nat.zero_add]
 by_cases h:j<ρ.length
 ·rw [if_pos h]
 ·rw [if_neg h]
  have e:Qd ρ j=.un:=by
   unfold Qd
   rw [List.getElem?_eq_none_iff.mpr (by omega)]
  rw [e]
  rcases Qdt js ρi j .un with z | ⟨k,t,_,_,z⟩ <;> rw [z] <;> rfl
theorem Q31:∀ {js:List (Option Nat)} {j k:Nat},js.idxOf? (some j)=some k→js[k]?=some (some j):=by
 intro js j k h
 have:=List.idxOf?_eq_some_iff.mp h
 obtain ⟨h1,h2,_⟩:=this
 rw [List.getElem?_eq_getElem h1,h2]
theorem Q0h {js:List (Option Nat)} {j k:Nat} (h:js.idxOf? (some j)=none):js[k]?≠some (some j):=fun e=>by
 have:=List.idxOf?_eq_none_iff.mp h
 exact this (List.mem_of_getElem? e)
theorem Ql9:∀ {js:List (Option Nat)},Qdd js=true→∀ (i k j:Nat),js[i]?=some (some j)→js[k]?=some (some j)→i=k
 | [],_,i,k,j,e,_=>by simp at e
 | r::js,h,i,k,j,e1,e2=>by
  have tl:Qdd js=true:=by
   cases r with
   | some q=>unfold Qdd at h;rw [Bool.and_eq_true] at h;exact h.2
   | none=>exact h
  have hd:∀ (m:Nat),r=some j→js[m]?=some (some j)→False:=fun m er em=>by
   subst er
   unfold Qdd at h
   rw [Bool.and_eq_true] at h
   have q:=List.all_eq_true.mp h.1 _ (List.mem_of_getElem? em)
   simp at q
  cases i with
  | zero =>
   cases k with
   | zero=>rfl
   | succ k=>simp at e1;rw [List.getElem?_cons_succ] at e2;exact (hd k e1 e2).elim
  | succ i =>
   cases k with
   | zero=>simp at e2;rw [List.getElem?_cons_succ] at e1;exact (hd i e2 e1).elim
   | succ k =>
    rw [List.getElem?_cons_succ] at e1 e2
    rw [Ql9 tl i k j e1 e2]
theorem Qn6:∀ {ρ0 ρ:En},Qgz ρ0 ρ=true→∀ (i:Nat) (t:T),Qd ρ0 i=.ml t→∃ t',Qd ρ i=.ml t'
 | [],[],_,i,t,e=>by rw [Qf9] at e;cases e
 | [],_::_,h,_,_,_=>by cases h
 | s0::ρ0,[],h,_,_,_=>by cases s0 <;> cases h
 | s0::ρ0,s::ρ,h,i,t,e=>by
  have tl:Qgz ρ0 ρ=true:=by
   cases s0 <;> first | exact h | skip
   unfold Qgz at h
   rw [Bool.and_eq_true] at h
   exact h.2
  cases i with
  | zero =>
   rw [Qa] at e
   subst e
   unfold Qgz at h
   rw [Bool.and_eq_true] at h
   cases s <;> first | (simp at h;done) | exact ⟨_,rfl⟩
  | succ i =>
   rw [Qb] at e ⊢
   exact Qn6 tl i t e
section
variable {B:Bs} {H H1 H2:Hp} {G G1 G2:Addr→Prop} {σ σ2:St} {ρ ρi:En} {js:List (Option Nat)}
theorem Q0i {s:Slot} {t:T} (h:s.lend.prv=some t):s.prv=some t:=by cases s <;> exact h
theorem FI.cap (F:FI B H G σ ρ) (hj:Qdd js=true):FI (Qa2 H G (Qfu js σ) (Qfl js ρ)) H G (Qfu js σ) (Qfl js ρ):=by
 have pv:∀ k a,PrvAt (Qfu js σ) (Qfl js ρ) k a→∃ j,js[k]?=some (some j)∧PrvAt σ ρ j a:=fun k a h=>by
  obtain ⟨⟨t,e⟩,q⟩:=h
  rw [Qds] at e
  rw [Qjd] at q
  cases hk:js[k]? with
  | none=>rw [hk] at e;cases e
  | some o =>
   cases o with
   | none=>rw [hk] at e;cases e
   | some j =>
    rw [hk] at e q
    refine ⟨j,rfl,⟨t,Q0i e⟩,?_⟩
    replace q:some (σ[j]?.join)=some (some (.ref a)):=q
    cases hs:σ[j]? with
    | none=>rw [hs] at q;cases q
    | some w=>rw [hs] at q;exact q
 refine ⟨by unfold Qfu Qfl;rw [List.length_map,List.length_map],fun k=>?_,fun i k a h1 h2=>?_,F.prv,fun _ _ _ _ e=>e,fun _ o e=>⟨o,e⟩,fun _ h=>.inr h,fun _ h=>h,fun _ _ h=>h,fun _ h=>h,fun _ h=>.inl h,fun b h=>let ⟨xs,e,_⟩:=F.prv b h;⟨_,e⟩⟩
 ·rw [Qds]
  cases hk:js[k]? with
  | none=>trivial
  | some o =>
   cases o with
   | none=>trivial
   | some j =>
    have q:=F.slot j
    have gt:∀ v,σ[j]?=some (some v)→(Qfu js σ)[k]?=some (some v):=fun v e=>by
     rw [Qjd,hk]
     show some (σ[j]?.join)=_
     rw [e]
     rfl
    show Qqx H G (Qfu js σ) k (Qd ρ j).lend
    cases hs:Qd ρ j with
    | un=>trivial
    | pin a=>trivial
    | fx t=>rw [hs] at q;obtain ⟨v,o,e,_,i⟩:=q;exact ⟨_,gt _ e,i⟩
    | fz t=>rw [hs] at q;obtain ⟨v,e,i⟩:=q;exact ⟨v,gt _ e,i⟩
    | ow t=>rw [hs] at q;obtain ⟨v,e,i⟩:=q;exact ⟨v,gt _ e,i⟩
    | ml t=>rw [hs] at q;obtain ⟨v,e,i⟩:=q;exact ⟨v,gt _ e,i⟩
    | ro t=>rw [hs] at q;obtain ⟨v,e,i⟩:=q;exact ⟨v,gt _ e,i⟩
 ·obtain ⟨j1,e1,p1⟩:=pv i a h1
  obtain ⟨j2,e2,p2⟩:=pv k a h2
  have ej:=F.apart j1 j2 a p1 p2
  subst ej
  exact Ql9 hj i k j1 e1 e2
theorem FI.uncap (F:FI B H G σ ρ) (hj:Qdd js=true) (I:FI (Qa2 H G (Qfu js σ) (Qfl js ρ)) H2 G2 σ2 ρi) (hk:Qgz (Qfl js ρ) ρi=true):FI B H2 G2 σ (Qm8 js ρi ρ):=by
 have Fc:=F.cap hj
 have sm:=Fc.same I
 have noO:∀ a,¬ OwA (Qfu js σ) (Qfl js ρ) a:=fun a h=>by
  obtain ⟨k,t,e,_⟩:=h
  rw [Qds] at e
  cases hk:js[k]? with
  | none=>rw [hk] at e;cases e
  | some o =>
   cases o with
   | none=>rw [hk] at e;cases e
   | some j =>
    rw [hk] at e
    have e:(Qd ρ j).lend=.ow t:=e
    cases hs:Qd ρ j <;> rw [hs] at e <;> cases e
 have isM:∀ a,MlA (Qfu js σ) (Qfl js ρ) a→∃ (k j:Nat) (t:T),js[k]?=some (some j)∧(Qd ρ j=.ow t∨Qd ρ j=.ml t)∧σ[j]?=some (some (.ref a)):=fun a h=>by
  obtain ⟨k,t,e,q⟩:=h
  rw [Qds] at e
  rw [Qjd] at q
  cases hk:js[k]? with
  | none=>rw [hk] at e;cases e
  | some o =>
   cases o with
   | none=>rw [hk] at e;cases e
   | some j =>
    rw [hk] at e q
    have e:(Qd ρ j).lend=.ml t:=e
    refine ⟨k,j,t,hk,?_,?_⟩
    ·cases hs:Qd ρ j <;> rw [hs] at e <;> cases e
     ·exact .inl rfl
     ·exact .inr rfl
    ·replace q:some (σ[j]?.join)=some (some (.ref a)):=q
     cases hs:σ[j]? with
     | none=>rw [hs] at q;cases q
     | some w=>rw [hs] at q;exact q
 -- a list of the frame that the block can't change
 have stay:∀ j a t,(Qd ρ j).prv=some t→σ[j]?=some (some (.ref a))→OwnAt H G a t→((∀ t,Qd ρ j≠.ow t)∧(∀ t,Qd ρ j≠.ml t)∨js.idxOf? (some j)=none)→OwnAt H2 G2 a t:=fun j a t e s o h=>by
  refine o.mono sm fun u eu=>I.chg a u (noO a) (fun z=>?_) eu
  obtain ⟨k,j',t',e1,hs,e2⟩:=isM a z
  have ej:j'=j:=F.apart j' j a ⟨⟨t',by rcases hs with hs | hs <;> rw [hs] <;> rfl⟩,e2⟩ ⟨⟨t,e⟩,s⟩
  subst ej
  rcases h with ⟨h1,h2⟩ | h
  ·rcases hs with hs | hs
   ·exact h1 _ hs
   ·exact h2 _ hs
  ·exact Q0h h e1
 -- one that it may
 have lent:∀ j a t k,(Qd ρ j=.ow t∨Qd ρ j=.ml t)→σ[j]?=some (some (.ref a))→js.idxOf? (some j)=some k→∃ t',Qd ρi k=.ml t'∧OwnAt H2 G2 a t':=fun j a t k hs s hx=>by
  have e1:=Q31 hx
  have e0:Qd (Qfl js ρ) k=.ml t:=by
   rw [Qds,e1]
   show (Qd ρ j).lend=_
   rcases hs with hs | hs <;> rw [hs] <;> rfl
  obtain ⟨t',e2⟩:=Qn6 hk k t e0
  have q:=I.slot k
  rw [e2] at q
  obtain ⟨a',q1,_,q3⟩:=q
  obtain ⟨_,q4⟩:=I.fix k a' ⟨⟨t',.inl e2⟩,q1⟩
  rw [Qjd,e1] at q4
  replace q4:some (σ[j]?.join)=some (some (.ref a')):=q4
  rw [s] at q4
  have q5:a=a':=by
   have:=Option.some.inj q4
   have:=Option.some.inj (show some (V.ref a)=some (V.ref a') from this)
   cases this
   rfl
  subst q5
  exact ⟨t',e2,q3⟩
 have kd:∀ j s',Qd (Qm8 js ρi ρ) j=s'→(s'=Qd ρ j∨∃ t,s'=(Qd ρ j).put t):=fun j s' h=>by
  rw [Qhf] at h
  rcases Qdt js ρi j (Qd ρ j) with z | ⟨k,t,_,_,z⟩
  ·rw [z] at h;exact .inl h.symm
  ·rw [z] at h;exact .inr ⟨t,h.symm⟩
 have pv:∀ j a,PrvAt σ (Qm8 js ρi ρ) j a→PrvAt σ ρ j a:=fun j a h=>by
  obtain ⟨⟨u,e⟩,q⟩:=h
  refine ⟨?_,q⟩
  rcases kd j _ rfl with z | ⟨t,z⟩
  ·rw [z] at e;exact ⟨u,e⟩
  ·rw [z] at e;exact Qo7 e
 exact {
  len:=by unfold Qm8;rw [Qkt];exact F.len
  slot:=fun j=>by
   have q:=F.slot j
   have bc:=Qdt js ρi j (Qd ρ j)
   rw [Qhf]
   cases hs:Qd ρ j with
   | un =>
    rw [hs] at bc
    rcases bc with e | ⟨k,t,_,_,e⟩ <;> rw [e] <;> trivial
   | pin a =>
    rw [hs] at q bc
    rcases bc with e | ⟨k,t,_,_,e⟩ <;> rw [e] <;> exact q
   | fz t =>
    rw [hs] at q bc
    obtain ⟨v,e1,e2⟩:=q
    rcases bc with e | ⟨k,t,_,_,e⟩ <;> rw [e] <;> exact ⟨v,e1,e2.mono sm⟩
   | fx t =>
    rw [hs] at q bc
    obtain ⟨v,o,e1,e3,e2⟩:=q
    rcases bc with e | ⟨k,t,_,_,e⟩ <;> rw [e] <;> exact ⟨v,o,e1,sm _ _ e3,e2.mono sm⟩
   | ro t =>
    rw [hs] at q bc
    obtain ⟨a,e1,g,o⟩:=q
    have o':=stay j a t (by rw [hs];rfl) e1 o (.inl ⟨fun t z=>(by rw [hs] at z;cases z),fun t z=>(by rw [hs] at z;cases z)⟩)
    rcases bc with e | ⟨k,t,_,_,e⟩ <;> rw [e] <;> exact ⟨a,e1,I.gg a g,o'⟩
   | ow t =>
    rw [hs] at q bc
    obtain ⟨a,e1,g,o⟩:=q
    cases hp:js.idxOf? (some j) with
    | none =>
     have o':=stay j a t (by rw [hs];rfl) e1 o (.inr hp)
     rcases bc with e | ⟨k,t',h,_,e⟩
     ·rw [e];exact ⟨a,e1,I.gg a g,o'⟩
     ·rw [hp] at h;cases h
    | some k =>
     obtain ⟨t',ef,o'⟩:=lent j a t k (.inl hs) e1 hp
     have e:Qid js ρi j (.ow t)=.ow t':=by unfold Qid;rw [hp];simp only [ef];rfl
     rw [e]
     exact ⟨a,e1,I.gg a g,o'⟩
   | ml t =>
    rw [hs] at q bc
    obtain ⟨a,e1,g,o⟩:=q
    cases hp:js.idxOf? (some j) with
    | none =>
     have o':=stay j a t (by rw [hs];rfl) e1 o (.inr hp)
     rcases bc with e | ⟨k,t',h,_,e⟩
     ·rw [e];exact ⟨a,e1,I.gg a g,o'⟩
     ·rw [hp] at h;cases h
    | some k =>
     obtain ⟨t',ef,o'⟩:=lent j a t k (.inr hs) e1 hp
     have e:Qid js ρi j (.ml t)=.ml t':=by unfold Qid;rw [hp];simp only [ef];rfl
     rw [e]
     exact ⟨a,e1,I.gg a g,o'⟩
  apart:=fun i j a h1 h2=>F.apart i j a (pv i a h1) (pv j a h2)
  prv:=I.prv
  chg:=fun b o h1 h2 e=>I.chg b o (noO b) (fun z=>by
   obtain ⟨k,j,t,_,hs,q⟩:=isM b z
   rcases hs with hs | hs
   ·rcases F.newO b ⟨j,t,hs,q⟩ with y | y
    ·rw [e] at y;cases y
    ·exact h1 y
   ·exact h2 (F.newM b ⟨j,t,hs,q⟩)) (F.chg b o h1 h2 e)
  keep:=fun b o e=>by
   obtain ⟨o1,e1⟩:=F.keep b o e
   exact I.keep b o1 e1
  newO:=fun a h=>by
   obtain ⟨j,t,e,s⟩:=h
   rcases kd j _ e with z | ⟨u,z⟩
   ·exact F.newO a ⟨j,t,z.symm,s⟩
   ·cases hs:Qd ρ j <;> rw [hs] at z <;> cases z
    exact F.newO a ⟨j,_,hs,s⟩
  newM:=fun a h=>by
   obtain ⟨j,t,e,s⟩:=h
   rcases kd j _ e with z | ⟨u,z⟩
   ·exact F.newM a ⟨j,t,z.symm,s⟩
   ·cases hs:Qd ρ j <;> rw [hs] at z <;> cases z
    exact F.newM a ⟨j,_,hs,s⟩
  fix:=fun j a h=>by
   obtain ⟨⟨t,e⟩,s⟩:=h
   refine F.fix j a ⟨?_,s⟩
   rcases e with e | e | e
   ·rcases kd j _ e with z | ⟨u,z⟩
    ·exact ⟨t,.inl z.symm⟩
    ·cases hs:Qd ρ j <;> rw [hs] at z <;> cases z
     exact ⟨_,.inl rfl⟩
   ·rcases kd j _ e with z | ⟨u,z⟩
    ·exact ⟨t,.inr (.inl z.symm)⟩
    ·cases hs:Qd ρ j <;> rw [hs] at z <;> cases z
     exact ⟨_,.inr (.inl rfl)⟩
   ·rcases kd j _ e with z | ⟨u,z⟩
    ·exact ⟨t,.inr (.inr z.symm)⟩
    ·cases hs:Qd ρ j <;> rw [hs] at z <;> cases z
     exact ⟨_,.inr (.inr rfl)⟩
  gg:=fun b h=>I.gg b (F.gg b h)
  gn:=fun b h=>by
   rcases I.gn b h with z | z
   ·exact F.gn b z
   ·exact .inr (F.free z)
  bp:=F.bp }
end
noncomputable def tCs (p:Pr) (cs:Es):TT:=fun σ H Q=>∃ G ρ,FI (Qa2 H G σ ρ) H G σ ρ∧Fin p (Qa2 H G σ ρ) σ (evC p.cf cs ρ) fun b ρ1=>∀ H1 G1,FI (Qa2 H G σ ρ) H1 G1 σ ρ1→Q b H1
section
variable {X:Cx} {p:Pr} {a:Expr} {a':E}
theorem Qcf:QC X [] (tCs p .nil):=q_c0.weak fun σ H Q zz1=>by obtain ⟨G,ρ,F,h⟩:=zz1;unfold evC at h;exact h H G F
theorem Q9r (ha:QT X a (tT p a')):QC X [a] (tCs p (.cons a' .nil)):=(q_c1 ha).weak fun σ H Q zz1=>by obtain ⟨G,ρ,F,h⟩:=zz1;unfold evC at h;exact ⟨G,ρ,F,h⟩
end
noncomputable abbrev Pr.calm (p:Pr):Pr:={ p with R:=fun _ _ _ _=>False }
theorem Qu6 {α β:Type} {o:Out α} {k:α→En→Out β} {b:β} {ρ:En} (h:o.bind k=.ok b ρ):∃ a ρ1,o=.ok a ρ1∧k a ρ1=.ok b ρ:=by
 cases o with
 | ok a ρ1=>exact ⟨a,ρ1,rfl,h⟩
 | xn x ρ1=>cases h
 | no=>cases h
theorem FI.under {B:Bs} {H:Hp} {G:Addr→Prop} {σ:St} {ρ:En} (F:FI B H G σ ρ) {l:Addr} {ys:List V} (g:G l) (np:∀ k,¬ PrvAt σ ρ k l) (hb:B.H l=none):FI B (upd H l (.lst ys)) G σ ρ∧Same (dls H G) (dls (upd H l (.lst ys)) G):=by
 have sm:Same (dls H G) (dls (upd H l (.lst ys)) G):=fun b o eb=>by
  obtain ⟨n,eb⟩:=Qak eb
  rw [Qdb n,Q2 (fun (z:b=l)=>n (by rw [z];exact g))]
  exact eb
 refine ⟨{ F with
  slot:=fun j=>Qik (F.slot j) sm fun b o hb1 hb2 eb=>?_
  prv:=fun b hb=>?_
  chg:=fun b o h1 h2 eb=>?_
  keep:=fun b o eb=>?_ },sm⟩
 ·have nb:b≠l:=fun z=>np j ⟨hb1,z ▸ hb2⟩
  exact ⟨by rw [Q2 nb];exact eb,(PrvAt.at F ⟨hb1,hb2⟩).1⟩
 ·by_cases h:b=l
  ·exact ⟨.lst ys,by rw [h,Qp],rfl⟩
  ·rw [Q2 h];exact F.prv b hb
 ·have nb:b≠l:=fun z=>by rw [z,hb] at eb;cases eb
  rw [Q2 nb]
  exact F.chg b o h1 h2 eb
 ·by_cases h:b=l
  ·exact ⟨_,by rw [h,Qp]⟩
  ·rw [Q2 h];exact F.keep b o eb
theorem Qu7 {p:Pr} {js:List (Option Nat)} {w:W} {tg:Tg} {cs:Es} {e':E} {σ:St} {H:Hp} {Q:VK} (h:tE p (.comp w js tg cs e') σ H Q):Qqe (tW p w) js (tG tg) (tCs p.calm cs) (tE p.calm e') σ H Q:=by
  obtain ⟨G,ρ,F,h⟩:=h
  unfold evE at h
  refine ⟨G,ρ,F,h.bind.imp fun its ρ1 h1=>?_⟩
  obtain ⟨ts,lk⟩:=its
  cases lk with
  | some _=>exact False.elim h1
  | none =>
   refine ⟨rfl,fun J H1 G1 Ok F1 wk stab l hl=>?_⟩
   replace wk:WkR J H1 G1 Ok ts:=wk
   replace h1:Fin p (Qa2 H G σ ρ) σ (match Qe7 tg (evC p.cf cs) (evE p.cf e') ts [] (Qfl js ρ1) with
    | .ok us ρi=>if Qgz (Qfl js ρ1) ρi=true∧Qdd js=true then Out.ok (PV.ow (.lst us)) (Qm8 js ρi ρ1) else .no
    | _=>.no) _:=h1
   cases ec:Qe7 tg (evC p.cf cs) (evE p.cf e') ts [] (Qfl js ρ1) with
   | no=>rw [ec] at h1;exact False.elim h1
   | xn x ρx=>rw [ec] at h1;exact False.elim h1
   | ok tsF ρF =>
    rw [ec] at h1
    by_cases hz:Qgz (Qfl js ρ1) ρF=true∧Qdd js=true
    ·simp only [if_pos hz] at h1
     obtain ⟨hkept,hap⟩:=hz
     have Fc:=F1.cap hap
     refine ⟨fun i m ys σ2 H2=>i+m=ts.length∧∃ G2 ρi acc,FI (Qa2 H1 G1 (Qfu js σ) (Qfl js ρ1)) H2 G2 σ2 ρi∧G2 l∧(∀ k,¬ PrvAt σ2 ρi k l)∧H2 l=some (.lst ys)∧IsL (dls H2 G2) ys acc∧acc.length≤100000 ∧
      Qe7 tg (evC p.cf cs) (evE p.cf e') (ts.drop i) acc ρi=.ok tsF ρF,⟨ts.length,Nat.zero_add _,_,_,[],Fc.addG hl (Same.upd hl) Qp rfl,.inr rfl,fun k hk=>?_,Qp,.nil,Nat.zero_le _,ec⟩,?_⟩
     ·obtain ⟨_,t,ob,ea,_⟩:=PrvAt.at Fc hk
      rw [hl] at ea
      cases ea
     rintro i m ys σ2 H2 ⟨him,G2,ρi,acc,I2,gl,np,el,il,zl,cl⟩
     have ok2:Ok H2:=stab H2 G2 (Fc.same I2)
     by_cases hlt:i<ts.length
     ·refine .inr ⟨wk.go i H2 hlt ok2,fun x H3 y=>?_⟩
      obtain ⟨s3,t,et,ix⟩:=wk.yld i H2 x H3 hlt ok2 y
      have I3:=I2.grow s3
      have ix3:=ix G2 I2.prv (Fc.same I2)
      rw [List.drop_eq_getElem_cons hlt] at cl
      have et':ts[i]=t:=by rw [List.getElem?_eq_getElem hlt] at et;exact Option.some.inj et
      rw [et'] at cl
      unfold Qe7 at cl
      cases est:Qha tg t ρi with
      | none=>rw [est] at cl;cases cl
      | some ρ4 =>
       rw [est] at cl
       replace cl:(evC p.cf cs ρ4).bind _=.ok tsF ρF:=cl
       obtain ⟨b,ρ5,eb,cl⟩:=Qu6 cl
       refine ⟨_,G2,ρi,t,ρ4,I3,ix3,est,fun σ4 I4 old=>?_⟩
       have np4:∀ k,¬ PrvAt σ4 ρ4 k l:=fun k hk=>np k (old k l hk)
       refine ⟨G2,ρ4,I4.self,?_⟩
       rw [show p.calm.cf=p.cf from rfl,eb]
       intro H5 G5 I5
       have np5:=I4.nobody I5 (s3 _ _ el) np4
       have I5':=I4.trans I5
       have el5:H5 l=some (.lst ys):=I5.chg l _ (fun z=>by obtain ⟨j,z⟩:=OwA.prv z;exact np4 j z) (fun z=>by obtain ⟨j,z⟩:=MlA.prv z;exact np4 j z) (s3 _ _ el)
       have il5:IsL (dls H5 G5) ys acc:=(il.mono (Qbl s3)).mono (I4.same I5)
       cases b with
       | false =>
        simp only [Bool.false_eq_true,if_false] at cl ⊢
        exact ⟨m-1,by omega,by omega,G5,ρ5,acc,I5',I5.gg l gl,np5,el5,il5,zl,cl⟩
       | true =>
        simp only [if_true] at cl ⊢
        obtain ⟨r,ρ6,er,cl⟩:=Qu6 cl
        refine ⟨G5,ρ5,I5'.self,?_⟩
        rw [show p.calm.cf=p.cf from rfl,er]
        intro v H6 G6 I6 r6
        cases ef:frz r with
        | none=>rw [ef] at cl;cases cl
        | some t6 =>
         rw [ef] at cl
         replace cl:(if acc.length<100000 then Qe7 tg (evC p.cf cs) (evE p.cf e') (ts.drop (i+1)) (acc++[t6]) ρ6 else .no)=.ok tsF ρF:=cl
         by_cases za:acc.length<100000
         ·rw [if_pos za] at cl
          have np6:=I5'.nobody I6 el5 np5
          have el6:H6 l=some (.lst ys):=I6.chg l _ (fun z=>by obtain ⟨j,z⟩:=OwA.prv z;exact np5 j z) (fun z=>by obtain ⟨j,z⟩:=MlA.prv z;exact np5 j z) el5
          have il6:IsL (dls H6 G6) ys acc:=il5.mono (I5'.same I6)
          obtain ⟨G7,I7,i7,s7⟩:=PVR.lay (B:=Qa2 H5 G5 σ4 ρ5) r6 I6 ef
          have g7:G7 l:=I7.gg l (I5.gg l gl)
          have I7':=I5'.trans I7
          have hb:(Qa2 H1 G1 (Qfu js σ) (Qfl js ρ1)).H l=none:=hl
          obtain ⟨I8,s8⟩:=I7'.under (ys:=ys++[v]) g7 np6 hb
          have zy:=il6.length
          refine ⟨el6,by rw [zy,sizeLine_eq];omega,m-1,by omega,by omega,G7,ρ6,acc++[t6],I8,g7,np6,Qp,((il6.mono (Qed s7)).append (.one i7)).mono s8,by rw [List.length_append,List.length_singleton];omega,cl⟩
         ·rw [if_neg za] at cl;cases cl
     ·have e0:ts.drop i=[]:=List.drop_of_length_le (by omega)
      rw [e0] at cl
      cases cl
      refine .inl ⟨wk.stop i H2 (by omega) ok2,h1 _ H2 G2 (F1.uncap hap I2 hkept) ?_⟩
      refine ⟨l,rfl,F1.free hl,gl,fun k hk=>?_,.lst ys,el,zl,il⟩
      obtain ⟨⟨u,eu⟩,q⟩:=hk
      rw [Qhf] at eu
      have:∃ u,(Qd ρ1 k).prv=some u:=by
       rcases Qdt js ρF k (Qd ρ1 k) with z | ⟨_,t,_,_,z⟩
       ·rw [z] at eu;exact ⟨u,eu⟩
       ·rw [z] at eu;exact Qo7 eu
      obtain ⟨_,t,ob,ea,_⟩:=PrvAt.at F1 ⟨this,q⟩
      rw [hl] at ea
      cases ea
    ·simp only [if_neg hz] at h1
     exact False.elim h1
theorem Q9s {X:Cx} {p:Pr} {tgE elt iter:Expr} {ifs:List Expr} {scope:Scope} {pos:Pos} {N:List Str} {js:List (Option Nat)} {w:W} {tg:Tg} {cs:Es} {e':E} (hcalm:X.calm=true)
  (hi:QI X tgE iter (tW p w)) (hg:∀ s H fp,QG (Q9 X scope N s H fp) tgE (tG tg)) (hc:∀ s H fp,QC (Q9 X scope N s H fp) ifs (tCs p.calm cs)) (he:∀ s H fp,QE (Q9 X scope N s H fp) elt (tE p.calm e'))
  (hk:scope.kind=.function) (h1:scOk X scope=true) (h2:Qi2 X scope N js=true) (hs:∀ x,foldedSetIterable iter X.env x=pure x):QE X (.ListComp elt [⟨tgE,iter,ifs,0⟩] scope pos) (tE p (.comp w js tg cs e')) :=
 (Q8p N js hcalm hi hg hc he hk h1 h2 hs).weak fun σ H Q h=>Qu7 h
theorem QS.weak {X:Cx} {e:Stmt} {t t':TS} (h:QS X e t) (q:∀ D σ H,t' D σ H→t D σ H):QS X e t':=⟨fun pins s σ H D I z=>h.h pins s σ H D I (q _ _ _ z)⟩
theorem QB.weak {X:Cx} {e:List Stmt} {t t':TS} (h:QB X e t) (q:∀ D σ H,t' D σ H→t D σ H):QB X e t':=⟨fun pins s σ H D I z=>h.h pins s σ H D I (q _ _ _ z)⟩
noncomputable def SFin (p:Pr) (B:Bs) (H:Hp) (G:Addr→Prop) (D:Ends):SO→Prop
 | .nx ρ1=>∀ σ1 H1 G1,FI B H1 G1 σ1 ρ1→Same (dls H G) (dls H1 G1)→D.nx σ1 H1
 | .bk ρ1=>∀ σ1 H1 G1,FI B H1 G1 σ1 ρ1→Same (dls H G) (dls H1 G1)→D.bk σ1 H1
 | .ct ρ1=>∀ σ1 H1 G1,FI B H1 G1 σ1 ρ1→Same (dls H G) (dls H1 G1)→D.ct σ1 H1
 | .rt r ρ1=>∀ v σ1 H1 G1,FI B H1 G1 σ1 ρ1→PVR B.H H1 G1 σ1 ρ1 v r→D.rt v H1
 | .xn x ρ1=>∀ cls dx σ1 H1 G1,FI B H1 G1 σ1 ρ1→Q3k p.mg H1 x cls dx→p.R cls dx σ1 H1
 | .no=>False
noncomputable def tS (p:Pr) (s:S):TS:=fun D σ H=>∃ B G ρ,FI B H G σ ρ∧(∀ a,¬ B.O a)∧SFin p B H G D (exS p.cf s ρ)
section
variable {p:Pr} {B:Bs} {H H1:Hp} {G G1:Addr→Prop} {D:Ends} {σ:St} {ρ ρ1:En} {α:Type}
theorem SFin.late {o:SO} (h:SFin p B H G D o) (s:Same (dls H G) (dls H1 G1)):SFin p B H1 G1 D o:=by
 cases o with
 | nx ρ1=>exact fun σ1 H2 G2 F q=>h σ1 H2 G2 F (s.trans q)
 | bk ρ1=>exact fun σ1 H2 G2 F q=>h σ1 H2 G2 F (s.trans q)
 | ct ρ1=>exact fun σ1 H2 G2 F q=>h σ1 H2 G2 F (s.trans q)
 | rt r ρ1=>exact h
 | xn x ρ1=>exact h
 | no=>exact h
theorem Qhg {o:Out α} {k:α→En→SO} (h:SFin p B H G D (ofO o k)):Fin p B σ o fun a ρ1=>SFin p B H G D (k a ρ1):=by
 cases o with
 | ok a ρ1=>exact h
 | xn x ρ1=>exact fun cls dx H1 G1 F xr=>h cls dx σ H1 G1 F xr
 | no=>exact h
theorem Qhh {o:Option α} {k:α→SO} (h:SFin p B H G D (Qad o k)):∃ a,o=some a∧SFin p B H G D (k a):=by
 cases o with
 | none=>exact False.elim h
 | some a=>exact ⟨a,rfl,h⟩
theorem PVR.base {H2:Hp} {G2:Addr→Prop} {ρ2:En} {v:V} {r:PV} (h:PVR H1 H2 G2 σ ρ2 v r) (F:FI B H1 G1 σ ρ1):PVR B.H H2 G2 σ ρ2 v r:=by
 cases r with
 | fz t=>exact h
 | sl i=>exact h
 | ow t =>
  obtain ⟨a,rfl,n,g⟩:=h
  exact ⟨a,rfl,F.free n,g⟩
theorem Qku {e:E} {Q:VK} {K:PV→En→SO} (F:FI B H G σ ρ) (h:SFin p B H G D (ofO (evE p.cf e ρ) K)) (q:∀ r ρ2 v H2 G2,SFin p B H2 G2 D (K r ρ2)→FI B H2 G2 σ ρ2→FI (Qa2 H G σ ρ) H2 G2 σ ρ2→PVR B.H H2 G2 σ ρ2 v r→Same (dls H G) (dls H2 G2)→Q v H2):tE p e σ H Q :=
 Ql1 F (Qhg h) fun r ρ2 v H2 G2 k F2 F2' r2=>q r ρ2 v H2 G2 (k.late (F.same F2')) F2 F2' (r2.base F) (F.same F2')
theorem Q0j {e:E} {Q:Bool→Hp→Prop} {K:Bool→En→SO} (F:FI B H G σ ρ) (h:SFin p B H G D (ofO (Qat (evE p.cf e ρ)) K)) (q:∀ b ρ2 H2 G2,SFin p B H2 G2 D (K b ρ2)→FI B H2 G2 σ ρ2→Same (dls H G) (dls H2 G2)→Q b H2):tT p e σ H Q :=
 Qz3 F (Qhg h) fun b ρ2 H2 G2 k F2 F2'=>q b ρ2 H2 G2 (k.late (F.same F2')) F2 (F.same F2')
end
section
variable {X:Cx} {p:Pr} {e a b:Expr} {e' a' b' c':E} {st:Stmt} {sts:List Stmt} {s s1 s2:S} {pos p1 p2:Pos} {x:Str}
theorem Qc5:QB X [] (tS p .nil):=Qo2.weak fun D σ H ⟨B,G,ρ,F,hO,h⟩=>h σ H G F (Same.refl _)
theorem Q9t {D:Ends} {σ:St} {H:Hp} (h:tS p (.seq s1 s2) D σ H):Qx2 (tS p s1) (tS p s2) D σ H:=by
 obtain ⟨B,G,ρ,F,hO,h⟩:=h
 refine ⟨B,G,ρ,F,hO,?_⟩
 unfold exS at h
 cases e:exS p.cf s1 ρ with
 | nx ρ1=>rw [e] at h;exact fun σ1 H1 G1 F1 q=>⟨B,G1,ρ1,F1,hO,SFin.late (p:=p) (D:=D) h q⟩
 | bk ρ1=>rw [e] at h;exact h
 | ct ρ1=>rw [e] at h;exact h
 | rt r ρ1=>rw [e] at h;exact h
 | xn x ρ1=>rw [e] at h;exact h
 | no=>rw [e] at h;exact h
theorem Qq (h1:QS X st (tS p s1)) (h2:QB X sts (tS p s2)):QB X (st::sts) (tS p (.seq s1 s2)):=(Qec h1 h2).weak fun D σ H h=>Q9t h
theorem Q8 (h1:QS X st (tS p s1)):QB X [st] (tS p s1):=Qfk h1
theorem Q9u (he:QE X e (tE p e')) (hs:swapsWith e none pos.line X.env=pure false):QS X (.Expr e pos) (tS p (.expr e')):=(Qf6 he hs).weak fun D σ H zz1=>by
 obtain ⟨B,G,ρ,F,hO,h⟩:=zz1
 unfold exS at h
 exact Qku F h fun r ρ2 v H2 G2 k F2 _ _ sm=>k σ H2 G2 F2 (Same.refl _)
theorem Qay (he:QE X e (tE p e')):QS X (.Return (some e) pos) (tS p (.ret e')):=(Qi4 he).weak fun D σ H zz1=>by
 obtain ⟨B,G,ρ,F,hO,h⟩:=zz1
 unfold exS at h
 exact Qku F h fun r ρ2 v H2 G2 k F2 _ pv _=>k v σ H2 G2 F2 pv
theorem Qf0 {c:Expr} {bs cs:List Stmt} (hc:QT X c (tT p c')) (ha:QB X bs (tS p s1)) (hb:QB X cs (tS p s2)):QS X (.If c bs cs pos) (tS p (.ite c' s1 s2)):=(Qus hc ha hb).weak fun D σ H zz1=>by
 obtain ⟨B,G,ρ,F,hO,h⟩:=zz1
 unfold exS at h
 refine Q0j F h fun k ρ2 H2 G2 h2 F2 sm=>?_
 cases k with
 | true=>exact ⟨B,G2,ρ2,F2,hO,h2⟩
 | false=>exact ⟨B,G2,ρ2,F2,hO,h2⟩
theorem Q32 {B:Bs} {H:Hp} {G:Addr→Prop} {D:Ends} {σ:St} {ρ:En} {i:Nat} {r:PV} {v:V} (F:FI B H G σ ρ) (pv:PVR B.H H G σ ρ v r) (h:SFin p B H G D (Ql0 i r ρ)):D.nx (σ.set i (some v)) H:=by
 cases r with
 | sl j=>exact False.elim h
 | fz t =>
  obtain ⟨ρ',e,k⟩:=Qhh h
  exact k _ H G (F.setS e pv.is) (Same.refl _)
 | ow t =>
  obtain ⟨ρ',e,k⟩:=Qhh h
  exact k _ H G (F.setOw rfl e pv) (Same.refl _)
theorem Qn7 {i:Nat} (h:QS X st (Qm4 (tE p e') (Qgx i))):QS X st (tS p (.set i e')):=h.weak fun D σ H zz1=>by
 obtain ⟨B,G,ρ,F,hO,h⟩:=zz1
 unfold exS at h
 exact Qku F h fun r ρ2 v H2 G2 k F2 _ pv _=>Q32 F2 pv k
theorem Qa6 {i:Nat} (h:QS X st (Qm4 (tE p e') (Qgx i))):QS X st (tS p (.setF i e')):=h.weak fun D σ H zz1=>by
 obtain ⟨B,G,ρ,F,hO,h⟩:=zz1
 unfold exS at h
 refine Qku F h fun r ρ2 v H2 G2 k F2 _ pv _=>?_
 cases ef:frz r with
 | none=>rw [ef] at k;exact False.elim k
 | some t =>
  rw [ef] at k
  obtain ⟨ρ',e,k⟩:=Qhh k
  obtain ⟨G3,F3,i3,s3⟩:=PVR.lay pv F2 ef
  exact k _ H2 G3 (F3.setS e i3) (Qed s3)
theorem Qad1 {is:List Nat} (h:QS X st (Qm4 (tE p e') (tG (.tp is)))):QS X st (tS p (.unp is e')):=h.weak fun D σ H zz1=>by
 obtain ⟨B,G,ρ,F,hO,h⟩:=zz1
 unfold exS at h
 refine Qku F h fun r ρ2 v H2 G2 k F2 _ pv _=>?_
 cases r with
 | ow t=>exact False.elim k
 | sl i=>exact False.elim k
 | fz t =>
  cases t <;> first | exact False.elim k | skip
  obtain ⟨ρ',e,k⟩:=Qhh k
  exact ⟨B,G2,ρ2,_,ρ',F2,pv.is,e,fun σ' F' _=>k σ' H2 G2 F' (Same.refl _)⟩
end
section
variable {X:Cx} {p:Pr} {st:Stmt} {es':Es} {i j k:Nat} {x y z:Str} {a b c:Expr} {ta:TA} {px py pz pt pos:Pos} {kt k2 pt2}
end
section
variable {X:Cx} {p:Pr} {e a b:Expr} {e' a' b' c':E} {st:Stmt} {sts:List Stmt} {s s1 s2:S} {pos p1 p2:Pos} {x:Str} {K:PySem.W.Frag}
theorem FI.mutAt {B:Bs} {H:Hp} {G:Addr→Prop} {σ:St} {ρ:En} {i:Nat} (F:FI B H G σ ρ) (h:(Qd ρ i).mut=true):∃ a vs,σ[i]?=some (some (.ref a))∧H a=some (.lst vs):=by
 have:∃ t,(Qd ρ i).prv=some (.lst t):=by
  cases hs:Qd ρ i <;> rw [hs] at h <;> first | (cases h;done) | skip
  all_goals (rename_i t;cases t <;> first | exact ⟨_,rfl⟩ | cases h)
 obtain ⟨t,e⟩:=this
 obtain ⟨a,s,_,o⟩:=F.prvAt e
 obtain ⟨vs,_,ea,_⟩:=o.lst_inv
 exact ⟨a,vs,s,ea⟩
theorem IsL.set {D:Hp} {v:V} {t:T} (hv:Is D v t):∀ {vs:List V} {ts:List T} (n:Nat),IsL D vs ts→IsL D (vs.set n v) (ts.set n t)
 | vs,[],n,r=>by rw [r.nil_inv];exact .nil
 | vs,u::us,0,r=>by
  obtain ⟨w,ws,rfl,a,q⟩:=r.cons_inv
  exact .cons hv q
 | vs,u::us,n+1,r=>by
  obtain ⟨w,ws,rfl,a,q⟩:=r.cons_inv
  exact .cons a (IsL.set hv n q)
theorem Qma {i:Nat} (h:QS X st (Qug (tBM K "list" Qlf (Qk4 i) (Qh7 (tE p e') Qp9)))):QS X st (tS p (.app i e')):=h.weak fun D σ H zz1=>by
 obtain ⟨B,G,ρ,F,hO,h⟩:=zz1
 unfold exS at h
 by_cases hm:(Qd ρ i).mut=true
 ·simp only [if_pos hm] at h
  obtain ⟨a,vs0,sa,ea⟩:=F.mutAt hm
  refine ⟨_,sa,.inl ⟨rfl,_,SqL.of ea⟩,?_⟩
  refine Qku F h fun r ρ2 v H2 G2 k F2 _ pv _=>?_
  cases ef:frz r with
  | none=>rw [ef] at k;exact False.elim k
  | some t =>
   rw [ef] at k
   obtain ⟨G3,F3,i3,s3⟩:=PVR.lay pv F2 ef
   have sl:=F3.slot i
   replace k:SFin p B H2 G2 D (match Qd ρ2 i with
    | .ow (.lst ts)=>if ts.length<100000 then .nx (ρ2.set i (.ow (.lst (ts++[t])))) else .no
    | .ml (.lst ts)=>if ts.length<100000 then .nx (ρ2.set i (.ml (.lst (ts++[t])))) else .no
    | _=>.no):=k
   have fin:∀ ts s',(Qd ρ2 i=.ow (.lst ts)∧s'=Slot.ow (.lst (ts++[t])))∨(Qd ρ2 i=.ml (.lst ts)∧s'=Slot.ml (.lst (ts++[t])))→SFin p B H2 G2 D (if ts.length<100000 then .nx (ρ2.set i s') else .no)→Qlf (.ref a) [v] H2 fun _ H1=>D.nx σ H1:=fun ts s' hs k=>by
    have hp:(Qd ρ2 i).prv=some (.lst ts):=by rcases hs with ⟨h,_⟩ | ⟨h,_⟩ <;> rw [h] <;> rfl
    obtain ⟨a',sa',g,o1⟩:=F3.prvAt hp
    obtain ⟨vs,z,el,il⟩:=o1.lst_inv
    rw [sa] at sa'
    cases sa'
    by_cases zt:ts.length<100000
    ·rw [if_pos zt] at k
     have lz:=il.length
     obtain ⟨F4,s4⟩:=F3.change hs sa (il.append (.one i3)) (by rw [List.length_append,List.length_singleton];omega)
     exact ⟨a,vs,v,rfl,rfl,el,by rw [lz,sizeLine_eq];omega,k σ _ G3 F4 ((Qed s3).trans s4)⟩
    ·rw [if_neg zt] at k;exact False.elim k
   cases hs:Qd ρ2 i with
   | un=>rw [hs] at k;exact False.elim k
   | pin _=>rw [hs] at k;exact False.elim k
   | fx _=>rw [hs] at k;exact False.elim k
   | fz t=>rw [hs] at k;exact False.elim k
   | ro t=>rw [hs] at k;exact False.elim k
   | ow u =>
    rw [hs] at k sl
    cases u <;> first | exact False.elim k | skip
    exact fin _ _ (.inl ⟨hs,rfl⟩) k
   | ml u =>
    rw [hs] at k sl
    cases u <;> first | exact False.elim k | skip
    exact fin _ _ (.inr ⟨hs,rfl⟩) k
 ·simp only [if_neg hm] at h
  exact False.elim h
theorem Q6l {i:Nat} (h:QS X st (Qm4 (tE p e') (Q7q (Qk4 i) (tE p a') Quq))):QS X st (tS p (.put i a' e')):=h.weak fun D σ H zz1=>by
 obtain ⟨B,G,ρ,F,hO,h⟩:=zz1
 unfold exS at h
 refine Qku F h fun r ρ2 v H2 G2 k F2 _ pv _=>?_
 cases ef:frz r with
 | none=>rw [ef] at k;exact False.elim k
 | some t =>
  rw [ef] at k
  obtain ⟨G3,F3,i3,s3⟩:=PVR.lay pv F2 ef
  by_cases hm:(Qd ρ2 i).mut=true
  ·simp only [if_pos hm] at k
   obtain ⟨a,vs0,sa,ea⟩:=F3.mutAt hm
   refine ⟨_,sa,?_⟩
   refine Qku F3 (SFin.late k (Qed s3)) fun rk ρ4 w H4 G4 k4 F4 F4' pk sm=>?_
   have i4:=i3.mono sm
   cases rk with
   | ow t=>exact False.elim k4
   | sl j=>exact False.elim k4
   | fz u =>
    cases u <;> first | exact False.elim k4 | skip
    rename_i j
    obtain rfl:=pk.is.int_inv
    replace k4:SFin p B H4 G4 D (match Qd ρ4 i with
     | .ow (.lst ts)=>Qad (ixN ts.length j) fun n=>.nx (ρ4.set i (.ow (.lst (ts.set n t))))
     | .ml (.lst ts)=>Qad (ixN ts.length j) fun n=>.nx (ρ4.set i (.ml (.lst (ts.set n t))))
     | _=>.no):=k4
    have fin:∀ ts (s':Nat→Slot),(∀ n,(Qd ρ4 i=.ow (.lst ts)∧s' n=Slot.ow (.lst (ts.set n t)))∨(Qd ρ4 i=.ml (.lst ts)∧s' n=Slot.ml (.lst (ts.set n t))))→SFin p B H4 G4 D (Qad (ixN ts.length j) fun n=>.nx (ρ4.set i (s' n)))→Quq (.ref a) (.int j) v H4 fun H1=>D.nx σ H1:=fun ts s' hs k=>by
     have hp:(Qd ρ4 i).prv=some (.lst ts):=by rcases hs 0 with ⟨h,_⟩ | ⟨h,_⟩ <;> rw [h] <;> rfl
     obtain ⟨a',sa',g,o1⟩:=F4.prvAt hp
     obtain ⟨vs,z,el,il⟩:=o1.lst_inv
     rw [sa] at sa'
     cases sa'
     obtain ⟨n,en,k⟩:=Qhh k
     have lz:=il.length
     obtain ⟨F5,s5⟩:=F4.change (hs n) sa (il.set i4 n) (by rw [List.length_set];exact z)
     exact ⟨a,vs,j,n,rfl,rfl,el,by rw [lz];exact en,k σ _ G4 F5 s5⟩
    cases hs:Qd ρ4 i with
    | un=>rw [hs] at k4;exact False.elim k4
    | pin _=>rw [hs] at k4;exact False.elim k4
    | fx _=>rw [hs] at k4;exact False.elim k4
    | fz t=>rw [hs] at k4;exact False.elim k4
    | ro t=>rw [hs] at k4;exact False.elim k4
    | ow u =>
     rw [hs] at k4
     cases u <;> first | exact False.elim k4 | skip
     exact fin _ _ (fun n=>.inl ⟨hs,rfl⟩) k4
    | ml u =>
     rw [hs] at k4
     cases u <;> first | exact False.elim k4 | skip
     exact fin _ _ (fun n=>.inr ⟨hs,rfl⟩) k4
  ·simp only [if_neg hm] at k
   exact False.elim k
theorem Qn8 {p:Pr} {B:Bs} {H:Hp} {G:Addr→Prop} {D:Ends} {o:SO} (h:SFin p B H G D (Qlz o)):SFin p.calm B H G D o:=by
 cases o with
 | xn x ρ1=>exact False.elim h
 | nx ρ1=>exact h
 | bk ρ1=>exact h
 | ct ρ1=>exact h
 | rt r ρ1=>exact h
 | no=>exact h
theorem Qad2 {c:Expr} {body:List Stmt} (hc:QT X.nox c (tT p.calm c')) (hb:QB X.nox body (tS p.calm s)):QS X (.While c body [] pos) (tS p (.whl c' s)) :=
 (q_sx (Q3a PassesOwn.never hc hb)).weak fun D σ H zz1=>by
  obtain ⟨B,G,ρ,F,hO,h⟩:=zz1
  unfold exS at h
  have h:=Qn8 h
  refine ⟨fun m σ2 H2=>∃ G2 ρ2,FI B H2 G2 σ2 ρ2∧SFin p.calm B H2 G2 D (Qly (fun ρ=>Qat (evE p.cf c' ρ)) (exS p.cf s) m ρ2),⟨1000000,G,ρ,F,h⟩,?_⟩
  rintro m σ2 H2 ⟨G2,ρ2,F2,h2⟩
  cases m with
  | zero=>exact False.elim h2
  | succ m =>
   unfold Qly at h2
   refine Q0j (p:=p.calm) F2 h2 fun k ρ3 H3 G3 h3 F3 sm=>?_
   cases k with
   | false=>exact h3 σ2 H3 G3 F3 (Same.refl _)
   | true =>
    refine ⟨fun σ' H'=>∃ G' ρ',FI B H' G' σ' ρ'∧SFin p.calm B H' G' D (Qly (fun ρ=>Qat (evE p.cf c' ρ)) (exS p.cf s) m ρ'),fun σ' H' q=>⟨m,Nat.lt_succ_self m,q⟩,B,G3,ρ3,F3,hO,?_⟩
    replace h3:SFin p.calm B H3 G3 D (match exS p.cf s ρ3 with
     | .nx ρ2=>Qly (fun ρ=>Qat (evE p.cf c' ρ)) (exS p.cf s) m ρ2
     | .ct ρ2=>Qly (fun ρ=>Qat (evE p.cf c' ρ)) (exS p.cf s) m ρ2
     | .bk ρ2=>.nx ρ2
     | o=>o):=h3
    show SFin p.calm B H3 G3 _ (exS p.cf s ρ3)
    cases eb:exS p.cf s ρ3 with
    | nx ρ4=>rw [eb] at h3;exact fun σ4 H4 G4 F4 s4=>⟨G4,ρ4,F4,SFin.late h3 s4⟩
    | ct ρ4=>rw [eb] at h3;exact fun σ4 H4 G4 F4 s4=>⟨G4,ρ4,F4,SFin.late h3 s4⟩
    | bk ρ4=>rw [eb] at h3;exact h3
    | rt r ρ4=>rw [eb] at h3;exact h3
    | xn x ρ4=>rw [eb] at h3;exact h3
    | no=>rw [eb] at h3;exact h3
theorem Q9v {w:W} {tg:Tg} {D:Ends} {σ:St} {H:Hp} {B:Bs} {G:Addr→Prop} {ρ:En} (F:FI B H G σ ρ) (hO:∀ a,¬ B.O a) (h:SFin p B H G D (ofO (evW p.cf w ρ) fun its ρ1=>match its.2 with
  | some _=>.no
  | none=>Qd4 tg (exS p.cf s) its.1 ρ1)):Qya (tW p w) (tG tg) (tS p s) D σ H:=by
 refine ⟨G,ρ,F.self,(Qhg (σ:=σ) h).rebase F fun its ρ1 h1=>?_⟩
 obtain ⟨ts,lk⟩:=its
 cases lk with
 | some _=>exact False.elim h1
 | none =>
  refine ⟨rfl,fun J H1 G1 Ok F1 wk stab=>?_⟩
  replace wk:WkR J H1 G1 Ok ts:=wk
  have F1':=F.trans F1
  have s1:=F.same F1
  refine ⟨fun i m σ2 H2=>i+m=ts.length∧∃ G2 ρ2,FI B H2 G2 σ2 ρ2∧Same (dls H1 G1) (dls H2 G2)∧SFin p B H2 G2 D (Qd4 tg (exS p.cf s) (ts.drop i) ρ2),⟨ts.length,Nat.zero_add _,G1,ρ1,F1',Same.refl _,SFin.late h1 s1⟩,?_⟩
  rintro i m σ2 H2 ⟨him,G2,ρ2,F2,s2,h2⟩
  have ok2:=stab H2 G2 s2
  by_cases hlt:i<ts.length
  ·refine .inr ⟨wk.go i H2 hlt ok2,fun σ' H'=>∃ G' ρ',FI B H' G' σ' ρ'∧Same (dls H1 G1) (dls H' G')∧SFin p B H' G' D (Qd4 tg (exS p.cf s) (ts.drop (i+1)) ρ'),fun σ' H' q=>⟨m-1,by omega,by omega,q⟩,fun x H3 y=>?_⟩
   obtain ⟨s3,t,et,ix⟩:=wk.yld i H2 x H3 hlt ok2 y
   have F3:=F2.grow s3
   have ix3:=ix G2 F2.prv s2
   rw [List.drop_eq_getElem_cons hlt] at h2
   have et':ts[i]=t:=by rw [List.getElem?_eq_getElem hlt] at et;exact Option.some.inj et
   rw [et'] at h2
   unfold Qd4 at h2
   cases est:Qha tg t ρ2 with
   | none=>rw [est] at h2;exact False.elim h2
   | some ρ4 =>
    rw [est] at h2
    refine ⟨B,G2,ρ2,t,ρ4,F3,ix3,est,fun σ4 F4 _=>⟨B,G2,ρ4,F4,hO,?_⟩⟩
    replace h2:SFin p B H2 G2 D (match exS p.cf s ρ4 with
     | .nx ρ2=>Qd4 tg (exS p.cf s) (ts.drop (i+1)) ρ2
     | .ct ρ2=>Qd4 tg (exS p.cf s) (ts.drop (i+1)) ρ2
     | .bk ρ2=>.nx ρ2
     | o=>o):=h2
    have s23:Same (dls H2 G2) (dls H3 G2):=Qbl s3
    have h2:=SFin.late h2 s23
    have s13:=s2.trans s23
    show SFin p B H3 G2 _ (exS p.cf s ρ4)
    cases eb:exS p.cf s ρ4 with
    | nx ρ5=>rw [eb] at h2;exact fun σ5 H5 G5 F5 s5=>⟨G5,ρ5,F5,s13.trans s5,SFin.late h2 s5⟩
    | ct ρ5=>rw [eb] at h2;exact fun σ5 H5 G5 F5 s5=>⟨G5,ρ5,F5,s13.trans s5,SFin.late h2 s5⟩
    | bk ρ5=>rw [eb] at h2;exact h2
    | rt r ρ5=>rw [eb] at h2;exact h2
    | xn x ρ5=>rw [eb] at h2;exact h2
    | no=>rw [eb] at h2;exact h2
  ·have e0:ts.drop i=[]:=List.drop_of_length_le (by omega)
   rw [e0] at h2
   exact .inl ⟨wk.stop i H2 (by omega) ok2,h2 σ2 H2 G2 F2 (Same.refl _)⟩
theorem Qad3 {iter tgE:Expr} {body:List Stmt} {w:W} {tg:Tg} (hc:X.calm=true) (hi:QI X.nox tgE iter (tW p.calm w)) (hg:QG X.nox tgE (tG tg)) (hb:QB X.nox body (tS p.calm s)) (hs:∀ x,foldedSetIterable iter X.env x=pure x):QS X (.For tgE iter body [] pos) (tS p (.for_ w tg s)) :=
 (q_sx (Q55 PassesOwn.never hc hi hg hb hs)).weak fun D σ H zz1=>by
  obtain ⟨B,G,ρ,F,hO,h⟩:=zz1
  unfold exS at h
  exact Q9v (p:=p.calm) F hO (Qn8 h)
end
section
variable {X:Cx} {p:Pr} {s:S} {pos:Pos} {K:PySem.W.Frag}
end
noncomputable def Qti:Arg→Slot
 | .fz t=>.fz t
 | .ml t=>.ml t
 | .ro t=>.ro t
theorem Qn9 (fn:Fn) (as:List Arg):Qfm fn as=as.map Qti++List.replicate (fn.sz-fn.ps) .un:=by
 unfold Qfm
 congr 1
theorem Qde (fn:Fn) (as:List Arg) (i:Nat):Qd (Qfm fn as) i=match as[i]? with
  | some a=>Qti a
  | none=>.un:=by
 rw [Qn9]
 unfold Qd
 rcases Nat.lt_or_ge i as.length with h | h
 ·rw [List.getElem?_append_left (by rw [List.length_map];exact h),List.getElem?_map,List.getElem?_eq_getElem h]
  rfl
 ·rw [List.getElem?_append_right (by rw [List.length_map];exact h),List.getElem?_eq_none_iff.mpr h,List.getElem?_replicate]
  split <;> rename_i e
  ·split at e
   ·cases e;rfl
   ·cases e
  ·rfl
theorem Qoa {N:List Str} {vs:List V} {i:Nat} {v:V} (h:vs[i]?=some v):(Qbs N vs)[i]?=some (some v):=by
 unfold Qbs
 have hi:i<vs.length:=(List.getElem?_eq_some_iff.mp h).1
 rw [List.getElem?_append_left (by rw [List.length_map];exact hi),List.getElem?_map,h]
 rfl
theorem Qob {N:List Str} {vs:List V} {i:Nat} {v:V} (h:(Qbs N vs)[i]?=some (some v)):vs[i]?=some v:=by
 unfold Qbs at h
 rcases Nat.lt_or_ge i vs.length with hi | hi
 ·rw [List.getElem?_append_left (by rw [List.length_map];exact hi),List.getElem?_map] at h
  cases e:vs[i]? with
  | none=>rw [e] at h;cases h
  | some w=>rw [e] at h;cases h;rfl
 ·rw [List.getElem?_append_right (by rw [List.length_map];exact hi),List.getElem?_replicate] at h
  split at h <;> cases h
noncomputable abbrev Q0k (H:Hp) (G:Addr→Prop) (vs:List V) (as:List Arg):Bs:=⟨H,G,fun _=>False,Qu3 vs as,fun i a=>(∃ x,as[i]?=some x∧x.prv=true)∧vs[i]?=some (.ref a)⟩
section
variable {H H1:Hp} {G G1:Addr→Prop} {vs:List V} {as:List Arg} {fn:Fn} {N:List Str} {σ1:St} {ρ1:En} {fin:List T} {mg:Str→Option Value}
theorem Qtj {x:Arg} {t:T} (h:(Qti x).prv=some t):x.prv=true:=by
 cases x <;> first | rfl | cases h
theorem Q0l (A:ArgsR H G vs as) (pn:Pen H G) (h1:vs.length≤N.length) (h2:fn.ps=as.length) (h3:fn.sz=N.length):FI (Q0k H G vs as) H G (Qbs N vs) (Qfm fn as):=by
 have pv:∀ i a,PrvAt (Qbs N vs) (Qfm fn as) i a→(∃ x,as[i]?=some x∧x.prv=true)∧vs[i]?=some (.ref a):=fun i a h=>by
  obtain ⟨⟨t,e⟩,q⟩:=h
  rw [Qde] at e
  cases hx:as[i]? with
  | none=>rw [hx] at e;cases e
  | some x=>rw [hx] at e;exact ⟨⟨x,rfl,Qtj e⟩,Qob q⟩
 refine ⟨?_,fun i=>?_,fun i j a h1 h2=>?_,pn,fun _ _ _ _ e=>e,fun _ o e=>⟨o,e⟩,fun a h=>?_,fun a h=>?_,fun i a h=>?_,fun _ h=>h,fun _ h=>.inl h,fun b h=>let ⟨xs,e,_⟩:=pn b h;⟨_,e⟩⟩
 ·rw [Qn9]
  unfold Qbs
  have:=A.len
  simp only [List.length_append,List.length_map,List.length_replicate]
  omega
 ·rw [Qde]
  cases hx:as[i]? with
  | none=>trivial
  | some x =>
   have hi:i<vs.length:=by rw [A.len];exact (List.getElem?_eq_some_iff.mp hx).1
   have ev:vs[i]?=some vs[i]:=List.getElem?_eq_getElem hi
   have q:=A.get i _ x ev hx
   have s:=Qoa (N:=N) ev
   cases x with
   | fz t=>exact ⟨_,s,q⟩
   | ml t=>obtain ⟨a,e,g,o⟩:=q;rw [e] at s;exact ⟨a,s,g,o⟩
   | ro t=>obtain ⟨a,e,g,o⟩:=q;rw [e] at s;exact ⟨a,s,g,o⟩
 ·obtain ⟨⟨x,ex,px⟩,vx⟩:=pv i a h1
  obtain ⟨⟨y,ey,py⟩,vy⟩:=pv j a h2
  exact A.apart i j a x y ex ey px py vx vy
 ·obtain ⟨i,t,e,q⟩:=h
  rw [Qde] at e
  cases hx:as[i]? with
  | none=>rw [hx] at e;cases e
  | some x=>rw [hx] at e;cases x <;> cases e
 ·obtain ⟨i,t,e,q⟩:=h
  rw [Qde] at e
  cases hx:as[i]? with
  | none=>rw [hx] at e;cases e
  | some x =>
   rw [hx] at e
   cases x <;> cases e
   exact ⟨i,_,hx,Qob q⟩
 ·obtain ⟨⟨t,e⟩,q⟩:=h
  refine pv i a ⟨⟨t,?_⟩,q⟩
  rcases e with e | e | e
  ·rw [e];rfl
  ·rw [e];rfl
  ·rw [Qde] at e
   cases hx:as[i]? with
   | none=>rw [hx] at e;cases e
   | some x=>rw [hx] at e;cases x <;> cases e
theorem Qhw:∀ {as:List Arg} {ρ:En} {fin:List T},Qt as ρ=some fin→∀ (i:Nat) (t:T),as[i]?=some (.ml t)→∃ t',Qd ρ i=.ml t'∧fin[i]?=some t'
 | [],_,_,_,i,t,h=>by simp at h
 | .ml u::as,[],fin,e,_,_,_=>by cases e
 | .fz u::as,[],fin,e,_,_,_=>by cases e
 | .ro u::as,[],fin,e,_,_,_=>by cases e
 | .ml u::as,s::ρ,fin,e,i,t,h=>by
  cases s <;> first | (cases e;done) | skip
  rename_i w
  replace e:(Qt as ρ).map (w :: ·)=some fin:=e
  cases e2:Qt as ρ with
  | none=>rw [e2] at e;cases e
  | some f2 =>
   rw [e2] at e
   cases e
   cases i with
   | zero=>exact ⟨w,rfl,rfl⟩
   | succ i=>rw [List.getElem?_cons_succ] at h ⊢;rw [Qb];exact Qhw e2 i t h
 | .fz u::as,s::ρ,fin,e,i,t,h=>by
  replace e:(Qt as ρ).map (T.non :: ·)=some fin:=e
  cases e2:Qt as ρ with
  | none=>rw [e2] at e;cases e
  | some f2 =>
   rw [e2] at e
   cases e
   cases i with
   | zero=>simp at h
   | succ i=>rw [List.getElem?_cons_succ] at h ⊢;rw [Qb];exact Qhw e2 i t h
 | .ro u::as,s::ρ,fin,e,i,t,h=>by
  replace e:(Qt as ρ).map (T.non :: ·)=some fin:=e
  cases e2:Qt as ρ with
  | none=>rw [e2] at e;cases e
  | some f2 =>
   rw [e2] at e
   cases e
   cases i with
   | zero=>simp at h
   | succ i=>rw [List.getElem?_cons_succ] at h ⊢;rw [Qb];exact Qhw e2 i t h
theorem Qmb (F:FI (Q0k H G vs as) H1 G1 σ1 ρ1) (e:Qt as ρ1=some fin):CallP H G vs as H1 G1 fin where
 prv:=F.prv
 chg:=fun b o h e=>F.chg b o (fun z=>z) h e
 keep:=F.keep
 gg:=F.gg
 gn:=F.gn
 fin:=fun i t a h1 h2=>by
  obtain ⟨t',e1,e2⟩:=Qhw e i t h1
  have q:=F.slot i
  rw [e1] at q
  obtain ⟨a',q1,_,q3⟩:=q
  have q4:=(F.fix i a' ⟨⟨t',.inl e1⟩,q1⟩).2
  rw [h2] at q4
  cases q4
  exact ⟨t',e2,q3⟩
theorem Q33 {v:V} {r r':PV} (F:FI (Q0k H G vs as) H1 G1 σ1 ρ1) (pv:PVR H H1 G1 σ1 ρ1 v r) (e:Qae ρ1 r=some r'):RetR H H1 G1 v r':=by
 cases r with
 | fz t=>cases e;exact pv
 | ow t =>
  cases e
  obtain ⟨a,rfl,n,g,_,o⟩:=pv
  exact ⟨a,rfl,n,g,o⟩
 | sl i =>
  have e:(match Qd ρ1 i with | .ow t=>some (PV.ow t) | _=>none)=some r':=e
  have q:=F.slot i
  cases hs:Qd ρ1 i with
  | un=>rw [hs] at e;cases e
  | pin _=>rw [hs] at e;cases e
  | fx _=>rw [hs] at e;cases e
  | fz t=>rw [hs] at e;cases e
  | ml t=>rw [hs] at e;cases e
  | ro t=>rw [hs] at e;cases e
  | ow t =>
   rw [hs] at e q
   cases e
   obtain ⟨a,q1,g,o⟩:=q
   have pv:σ1[i]?=some (some v):=pv
   rw [q1] at pv
   cases pv
   refine ⟨a,rfl,?_,g,o⟩
   rcases F.newO a ⟨i,t,hs,q1⟩ with z | z
   ·exact z
   ·exact z.elim
theorem Q9w {cf:CF} {Q:VK} {E:XK} (A:ArgsR H G vs as) (pn:Pen H G) (h1:vs.length≤N.length) (h3:fn.sz=N.length) (h:FROk mg H G vs as (Qbx cf fn as) Q E):tS ⟨cf,fun cls dx _ H=>E cls dx H,mg⟩ fn.body { nx:=fun _ H'=>Q .non H',rt:=Q } (Qbs N vs) H:=by
 unfold Qbx at h
 by_cases h2:as.length=fn.ps
 ·rw [if_pos h2] at h
  refine ⟨_,G,_,Q0l A pn h1 h2.symm h3,fun _ z=>z,?_⟩
  show SFin _ _ _ _ _ (exS cf fn.body (Qfm fn as))
  cases e:exS cf fn.body (Qfm fn as) with
  | no=>rw [e] at h;exact False.elim h
  | bk ρ=>rw [e] at h;exact False.elim h
  | ct ρ=>rw [e] at h;exact False.elim h
  | nx ρ =>
   rw [e] at h
   intro σ1 H1 G1 F _
   cases ef:Qt as ρ with
   | none=>simp only [ef] at h;exact False.elim h
   | some fin=>simp only [ef] at h;exact h .non H1 G1 (Qmb F ef) (show Is (dls H1 G1) .non .non from Is.non)
  | rt r ρ =>
   rw [e] at h
   intro v σ1 H1 G1 F pv
   cases er:Qae ρ r with
   | none=>simp only [er] at h;exact False.elim h
   | some r' =>
    cases ef:Qt as ρ with
    | none=>simp only [er,ef] at h;exact False.elim h
    | some fin=>simp only [er,ef] at h;exact h v H1 G1 (Qmb F ef) (Q33 F pv er)
  | xn x ρ =>
   rw [e] at h
   intro cls dx σ1 H1 G1 F xr
   cases ef:Qt as ρ with
   | none=>simp only [ef] at h;exact False.elim h
   | some fin=>simp only [ef] at h;exact h cls dx H1 G1 (Qmb F ef) xr
 ·rw [if_neg h2] at h
  exact False.elim h
end
theorem Qao {X:Cx}:Qe5 X (fun _ _ _ _=>False):=fun pins σ H s e s' I h=>by
 obtain ⟨a,cls,dx,H',_,_,_,_,_,_,z⟩:=h
 exact z.elim
structure Df where
 x:Str
 st:Stmt
 N:List Str
 ps:List Str
 fn:Fn
 fc:Str→Bool:=fun _=>true
 f1:Str→Bool:=fc
noncomputable abbrev Qje (ds:List Df):Nat→Option Fn:=fun f=>match ds[f]? with
 | some d=>some d.fn
 | none=>none
structure DfOk (K:PySem.W.Frag) (mg:Str→Option Value) (d:Df):Prop where
 dfn:Dfn K mg d.x d.st
 sc:FnScope d.N d.ps (Qf d.st)
 bd:Qag d.x d.st d.ps
 ps:d.fn.ps=d.ps.length
 sz:d.fn.sz=d.N.length
noncomputable def Qo8 (P:Program) (w:World) (K:PySem.W.Frag) (mg:Str→Option Value) (base:Heap) (ds:List Df) (cf:CF) (n:Nat):Prop:=∀ (f:Nat) (d:Df),ds[f]?=some d→HasE P w K mg base d.x d.ps n (spF cf mg f)
noncomputable def Qa9 (P:Program) (w:World) (K:PySem.W.Frag) (mg:Str→Option Value) (base:Heap) (ds:List Df) (d:Df):Prop :=
 ∀ (cf:CF) (n:Nat) (R:XR) (f:Addr) (cdv:Value) (A:Around) (outer:List Env) (s:Shared) (H:Hp) (E:XK),Qo8 P w K mg base ds cf n→1≤n∧Qo8 P w K mg base ds cf (n-1)→Qs7 K mg d.x cdv→Qe5 (Qh2 d.fc (CXE P w) P w K mg base d.N d.x (Qf d.st) f cdv A outer s H E) R →
  Room n (A.deeper (envOfC d.x (Qf d.st) s.heap.objs.size f cdv))→QB (Qh2 d.fc (CXE P w) P w K mg base d.N d.x (Qf d.st) f cdv A outer s H E) (Qaa d.st) (tS ⟨cf,R,mg⟩ d.fn.body)
section
variable {P:Program} {w:World} {K:PySem.W.Frag} {mg:Str→Option Value} {base:Heap} {ds:List Df}
theorem Qu8 {cf:CF} {f:Nat} {vs:List V} {H:Hp} {Q:VK} {E:XK} {d:Df} (h:spF (evF (Qje ds) 0) mg f vs H Q E):False:=by
 obtain ⟨G,as,_,_,z⟩:=h
 exact z
theorem Qoc (ok:∀ (f:Nat) (d:Df),ds[f]?=some d→DfOk K mg d∧Qa9 P w K mg base ds d):∀ n,Qo8 P w K mg base ds (evF (Qje ds) n) (2*n+1)
 | 0,f,d,e=>by
  obtain ⟨g,fd,F,m⟩:=(ok f d e).1.dfn.ex
  exact ⟨g,fd,F.kp,m,F.binds (ok f d e).1.bd,⟨fun vs H Q E h=>(Qu8 (d:=d) (cf:=fun _ _=>.no) h).elim,fun A outer s H args us vs Q E _ _ _ _ h=>(Qu8 (d:=d) (cf:=fun _ _=>.no) h).elim⟩⟩
 | n+1,f,d,e=>by
  obtain ⟨o,b⟩:=ok f d e
  have ih:=Qoc ok n
  have hcf:∀ as,evF (Qje ds) (n+1) f as=Qbx (evF (Qje ds) n) d.fn as:=fun as=>by
   show (match Qje ds f with | some fn=>Qbx (evF (Qje ds) n) fn as | none=>.no)=_
   unfold Qje
   rw [e]
  refine Q82 (g:=d.fc) (k:=2*n+2) o.dfn o.sc o.bd (fun vs H Q E h=>?_) (fun X g cdv A outer s H vs Q E _ hcd pz hr h=>?_)
  ·obtain ⟨G,as,a,_,z⟩:=h
   rw [hcf] at z
   unfold Qbx at z
   by_cases h2:as.length=d.fn.ps
   ·rw [a.len,h2,o.ps]
   ·rw [if_neg h2] at z;exact z.elim
  ·obtain ⟨G,as,a,pn,z⟩:=h
   refine ⟨_,b (evF (Qje ds) n) (2*n+2) _ g cdv A outer s H E (fun f d e=>(ih f d e).mono (Nat.le_succ _)) ⟨Nat.le_add_left 1 _,ih⟩ hcd pz hr,?_⟩
   rw [hcf] at z
   have hl:as.length=d.fn.ps:=by
    unfold Qbx at z
    by_cases h2:as.length=d.fn.ps
    ·exact h2
    ·rw [if_neg h2] at z;exact z.elim
   have hN:d.ps.length≤d.N.length:=by
    have:=congrArg List.length o.sc.pre
    rw [List.length_take] at this
    omega
   exact Q9w a pn (by rw [a.len,hl,o.ps];exact hN) o.sz z
end
section
variable {X:Cx} {p:Pr} {e a b c:Expr} {es rest:List Expr} {e' a' b' c':E} {es':Es} {pos p1 p2 p3:Pos} {x:Str} {st:Stmt} {s:S} {K:PySem.W.Frag}
theorem Qad4:QE X e (tE p .bad):=⟨fun pins s σ H Q I zz1=>by obtain ⟨G,ρ,F,h⟩:=zz1;unfold evE at h;exact False.elim h⟩
theorem Qe (i:Nat) (hN:X.N[i]?=some x:=by rfl) (hv:Vis X.env.scope x:=by first | exact Or.inl rfl | exact Or.inr (Or.inl rfl) | exact Or.inr (Or.inr rfl)) (hd:(x==("__debug__" : Str))=false:=by decide)
  (hcd:(x==("__classdict__" : Str))=false:=by decide):QE X (.Name x pos) (tE p (.var i)):=Qadp hN hv hd hcd
theorem Qtk {i:Int} (h:∃ u,X.mg x=some u∧RelV (.int i) u) (hg:Gl X x:=by rfl) (hd:(x==("__debug__" : Str))=false:=by decide):QE X (.Name x pos) (tE p (.int i)):=Q9d h hg hd
theorem Qad5 {t:T} (h:QE X e (tTh t)):QE X e (tE p (.lit t)):=h.weak fun σ H Q zz1=>by
 obtain ⟨G,ρ,F,h⟩:=zz1
 unfold evE at h
 exact fun v H' s i=>h v H' G (F.grow s) (Q81 F.prv i)
theorem Qc (ha:QE X e (tE p e')) (hr:QA X es (tA p es')) (hs:Q5 e=true:=by rfl):QA X (e::es) (tA p (.cons e' es')):=Q9e ha hr hs
theorem Qbt (hK:X.K=K) (ha:QE X a (tE p a')) (hb:QE X b (tE p b')):QE X (.BinOp a .Add b pos) (tE p (.bin .add a' b')):=Qn3 (Qut K hK) (Q3l K) ha hb
theorem Qu9 (ha:QE X a (tE p a')) (hb:QE X b (tE p b')):QE X (.BinOp a .Sub b pos) (tE p (.bin .sub a' b')):=Qn3 Qacx Q3m ha hb
theorem Qva (ha:QE X a (tE p a')) (hb:QE X b (tE p b')):QE X (.BinOp a .Mult b pos) (tE p (.bin .mul a' b')):=Qn3 Q9f Q3o ha hb
theorem Q6m (ha:QE X a (tE p a')) (hb:QE X b (tE p b')):QE X (.BinOp a .FloorDiv b pos) (tE p (.bin .fdv a' b')):=Qn3 Q9g Q3p ha hb
theorem Qod (ha:QE X a (tE p a')) (hb:QE X b (tE p b')):QE X (.BinOp a .Mod b pos) (tE p (.bin .mod a' b')):=Qn3 Q9h Q3q ha hb
theorem Qoe (ha:QE X a (tE p a')) (hb:QE X b (tE p b')):QE X (.BinOp a .Pow b pos) (tE p (.bin .pow a' b')):=Qn3 Qacy Q3r ha hb
theorem Qo9 {op:CmpOp} (h1:op≠.In) (h2:op≠.NotIn):behindInMarks op b=false:=by
 unfold behindInMarks
 cases b <;> try rfl
 cases op <;> simp_all
theorem Q9x (hu:X.A.units+64<cLine) (ha:QE X a (tE p a')) (hb:QE X b (tE p b')):QE X (.Compare a [.Eq] [b] pos) (tE p (.cmp .eq a' b')):=Qz7 (Q6i hu) Qz8 ha hb (Qo9 (by decide) (by decide))
theorem g_ne (hu:X.A.units+64<cLine) (ha:QE X a (tE p a')) (hb:QE X b (tE p b')):QE X (.Compare a [.NotEq] [b] pos) (tE p (.cmp .ne a' b')):=Qz7 (Q6j hu) Qz9 ha hb (Qo9 (by decide) (by decide))
theorem g_ge (ha:QE X a (tE p a')) (hb:QE X b (tE p b')):QE X (.Compare a [.GtE] [b] pos) (tE p (.cmp .ge a' b')):=Qz7 o_ge Q0a ha hb (Qo9 (by decide) (by decide))
theorem Q0m (hu:X.A.units+64<cLine) (ha:QE X a (tE p a')) (hb:QE X b (tE p b')):QT X (.Compare a [.Eq] [b] pos) (tT p (.cmp .eq a' b')):=Ql3 (Q6i hu) Qz8 ha hb (Qo9 (by decide) (by decide))
theorem Q0n (hu:X.A.units+64<cLine) (ha:QE X a (tE p a')) (hb:QE X b (tE p b')):QT X (.Compare a [.NotEq] [b] pos) (tT p (.cmp .ne a' b')):=Ql3 (Q6j hu) Qz9 ha hb (Qo9 (by decide) (by decide))
theorem Qw4 (ha:QE X a (tE p a')) (hb:QE X b (tE p b')):QT X (.Compare a [.Lt] [b] pos) (tT p (.cmp .lt a' b')):=Ql3 o_lt Q9i ha hb (Qo9 (by decide) (by decide))
theorem Q34 (ha:QE X a (tE p a')) (hb:QE X b (tE p b')):QT X (.Compare a [.Gt] [b] pos) (tT p (.cmp .gt a' b')):=Ql3 o_gt Q9j ha hb (Qo9 (by decide) (by decide))
theorem t_ge (ha:QE X a (tE p a')) (hb:QE X b (tE p b')):QT X (.Compare a [.GtE] [b] pos) (tT p (.cmp .ge a' b')):=Ql3 o_ge Q0a ha hb (Qo9 (by decide) (by decide))
theorem Q9y (ha:QE X a (tE p a')) (hb:QE X b (tE p b')):QT X (.Compare a [.IsNot] [b] pos) (tT p (.cmp .isnn a' b')):=Ql3 Q8r Q0b ha hb (Qo9 (by decide) (by decide))
theorem Qc3 (ha:QE X e (tE p e')) (he:∀ whole,isTrue e X.env whole=(do let v ← whole;standAt e.pos;holding [v] (truthy v)):=by intro _;rfl):QT X e (tT p e'):=Qadr ha he
theorem Qg1 {n:String} {tn:Expr} (hm:X.mg "isinstance" = none) (hv:bootBuiltins "isinstance" = some (.builtin "isinstance")) (ha:QE X a (tE p a')) (ht:QE X tn (tC (.ty n))) (hg:Gl X "isinstance" := by rfl) (h1:Q5 a=true:=by rfl) (h2:Q5 tn=true:=by rfl):QE X (.Call (.Name "isinstance" p1) [a,tn] [] pos) (tE p (.isI a' n)):=Qadv hm hv ha ht hg h1 h2
theorem Qdu {id:String} {r:List V→Hp→VK→Prop} {b:Bi} (hc:QCl X (.builtin id) r) (hs:Ob r b) (hm:X.mg x=none) (hv:bootBuiltins x=some (.builtin id)) (ha:QA X (e::es) (tA p es')) (hg:Gl X x:=by rfl) (hn:x ≠ "__name__" := by decide) (hdb:(x==("__debug__" : Str))=false:=by decide) (h1:Q5 e=true:=by rfl) (h2:es.all Q5=true:=by rfl) :
  QE X (.Call (.Name x p1) (e::es) [] pos) (tE p (.bi b es')):=s_bi hc hs hm hv ha hg hn hdb h1 h2
theorem Qg2 {T:String} {r:List V→Hp→VK→Prop} {b:Bi} (hc:QCl X (.type T) r) (hs:Ob r b) (hm:X.mg x=none) (hv:bootBuiltins x=some (.type T)) (ha:QA X (e::es) (tA p es')) (hg:Gl X x:=by rfl) (hn:x ≠ "__name__" := by decide) (hdb:(x==("__debug__" : Str))=false:=by decide) (h1:Q5 e=true:=by rfl) (h2:es.all Q5=true:=by rfl) :
  QE X (.Call (.Name x p1) (e::es) [] pos) (tE p (.bi b es')):=Qadw hc hs hm hv ha hg hn hdb h1 h2
theorem Qk6 (hK:X.K=K) (ha:QE X a (tE p a')) (hb:QE X b (tE p b')) (hs:Qix b:=by exact fun _ _=>rfl):QE X (.Subscript a b pos) (tE p (.ix a' b')):=s_ix K hK ha hb hs
theorem Qdv (hK:X.K=K) {lo hi:Option Expr} {lo' hi':Es} (ha:QE X a (tE p a')) (hl:QO X lo (tO p lo')) (hh:QO X hi (tO p hi')):QE X (.Subscript a (.Slice lo hi none p2) pos) (tE p (.slc a' lo' hi')):=Qadx K hK ha hl hh
theorem Qab {f k:Nat} {ps:List Str} (h:HasE X.prog X.w X.K X.mg X.base x ps k (spF p.cf p.mg f)) (pz:Qe5 X p.R) (hr:Room k X.A) (ha:QA X (e::es) (tA p es')) (hg:Gl X x:=by rfl) (hdb:(x==("__debug__" : Str))=false:=by decide) (h1:Q5 e=true:=by rfl) (h2:es.all Q5=true:=by rfl) :
  QE X (.Call (.Name x p1) (e::es) [] pos) (tE p (.call f es')):=Q9p h pz hr ha hg hdb h1 h2
theorem Qcg {tgE elt iter:Expr} {ifs:List Expr} {scope:Scope} (N:List Str) (js:List (Option Nat)) {w:W} {tg:Tg} {cs:Es} (hcalm:X.calm=true)
  (hi:QI X tgE iter (tW p w)) (hg:∀ s H fp,QG (Q9 X scope N s H fp) tgE (tG tg)) (hc:∀ s H fp,QC (Q9 X scope N s H fp) ifs (tCs p.calm cs)) (he:∀ s H fp,QE (Q9 X scope N s H fp) elt (tE p.calm e'))
  (hk:scope.kind=.function:=by rfl) (h1:scOk X scope=true:=by rfl) (h2:Qi2 X scope N js=true:=by rfl) (hs:∀ x,foldedSetIterable iter X.env x=pure x:=by intro _;rfl):QE X (.ListComp elt [⟨tgE,iter,ifs,0⟩] scope pos) (tE p (.comp w js tg cs e')):=Q9s hcalm hi hg hc he hk h1 h2 hs
theorem Q9z {tgE elt iter:Expr} {ifs:List Expr} {scope:Scope} (N:List Str) (js:List (Option Nat)) {w:W} {tg:Tg} {cs:Es} {i:Nat} (hcalm:X.calm=true)
  (hi:QI X tgE iter (tW p w)) (hg:∀ s H fp,QG (Q9 X scope N s H fp) tgE (tG tg)) (hc:∀ s H fp,QC (Q9 X scope N s H fp) ifs (tCs p.calm cs)) (he:∀ s H fp,QE (Q9 X scope N s H fp) elt (tE p.calm e')) (hn:QG X (.Name x p2) (Qgx i))
  (hk:scope.kind=.function:=by rfl) (h1:scOk X scope=true:=by rfl) (h2:Qi2 X scope N js=true:=by rfl) (hs:∀ x,foldedSetIterable iter X.env x=pure x:=by intro _;rfl)
  (hsw:swapsWithSole [.Name x p2] (.ListComp elt [⟨tgE,iter,ifs,0⟩] scope p1) pos.line X.env=pure true:=by rfl) (ha:(assignEach [.Name x p2] X.env).map (·.2)=[assign (.Name x p2) X.env]:=by rfl) :
  QS X (.Assign [.Name x p2] (.ListComp elt [⟨tgE,iter,ifs,0⟩] scope p1) pos) (Qm4 (tE p (.comp w js tg cs e')) (Qgx i)) :=
 QS.weak ⟨Qtg hcalm hi.h (fun s H fp=>(hg s H fp).h) (fun s H fp=>(hc s H fp).h) (fun s H fp=>(he s H fp).h) hn.h hk h1 h2 hs hsw ha⟩ fun D σ H h=>Qu7 h
variable {tg:Expr}
theorem Qmc (hm:X.mg "range" = none) (ha:QE X a (tE p a')) (hg:Gl X "range" := by rfl) (hs:Q5 a=true:=by rfl):QI X tg (.Call (.Name "range" p1) [a] [] pos) (tW p (.rng1 a')):=Q30 hm ha hg hs
theorem Qad6 {es:List Expr} {x1} {tp:Pos} (hK:X.K=K) (hm:X.mg "enumerate" = none) (hb:PySem.bootBuiltins "enumerate" = some (.type "enumerate")) (ha:QE X a (tE p a')) (hg:Gl X "enumerate" := by rfl) (hs:Q5 a=true:=by rfl):QI X (.Tuple es x1 tp) (.Call (.Name "enumerate" p1) [a] [] pos) (tW p (.enm a')):=Q9q hK hm hb ha hg hs
theorem Qtl (he:QE X e (tE p e')) (hs:swapsWith e none pos.line X.env=pure false:=by rfl):QS X (.Expr e pos) (tS p (.expr e')):=Q9u he hs
theorem Qof {iter tgE:Expr} {body:List Stmt} {w:W} {tg:Tg} (hc:X.calm=true) (hi:QI X.nox tgE iter (tW p.calm w)) (hg:QG X.nox tgE (tG tg)) (hb:QB X.nox body (tS p.calm s)) (hs:∀ x,foldedSetIterable iter X.env x=pure x:=by intro _;rfl):QS X (.For tgE iter body [] pos) (tS p (.for_ w tg s)):=Qad3 hc hi hg hb hs
end
end L2
set_option maxHeartbeats 2000000
namespace L2
open PySem PySem.Spec PyProof.Rows PySem.W PySem.Calls
section
variable {X:Cx} {p:Pr} {a b e:Expr} {a' b' e':E} {es':Es} {pos p1 p2:Pos} {σ:St} {H:Hp} {Q:VK} {K:PySem.W.Frag}
theorem Qgb {Q':VK} (h:tE p e' σ H Q) (q:∀ v H',Q v H'→Q' v H'):tE p e' σ H Q':=by
 obtain ⟨G,ρ,F,h⟩:=h
 exact ⟨G,ρ,F,h.imp fun r ρ1 k v H1 G1 F1 r1=>q _ _ (k v H1 G1 F1 r1)⟩
theorem Qmd {Z:List V→Hp→Prop} (h:tA p (.cons e' es') σ H Z):tE p e' σ H fun x H1=>tA p es' σ H1 fun xs H2=>Z (x::xs) H2:=by
 obtain ⟨G,ρ,F,h⟩:=h
 unfold evA at h
 refine ⟨G,ρ,F,h.bind.imp fun r ρ1 h1 v H1 G1 F1 r1=>?_⟩
 refine Quy F1 h1.bind fun rs ρ2 vs H2 G2 h2 F2 F2' r2=>?_
 exact h2 (v::vs) H2 G2 F2 (.cons (r1.step F1 F2') (r2.early F1))
theorem Qw5 {Z:List V→Hp→Prop} (h:tA p .nil σ H Z):Z [] H:=by
 obtain ⟨G,ρ,F,h⟩:=h
 unfold evA at h
 exact h [] H G F .nil
noncomputable abbrev r2V (r:R2):List V→Hp→VK→Prop:=fun vs H Q=>∃ x y,vs=[x,y]∧r x y H Q
theorem Qhi {r:R2} {c:Bi} (hs:Ob (r2V r) c) (h:tE p (.bi c (.cons a' (.cons b' .nil))) σ H Q):tOp r (tE p a') (tE p b') σ H Q :=
 Qgb (Qmd (Q0d hs h)) fun v H1 k=>Qgb (Qmd k) fun w H2 k2=>by
  obtain ⟨x,y,e,q⟩:=Qw5 k2
  cases e
  exact q
theorem Qhj {H:Hp} {G:Addr→Prop} {vs:List V} {x y:Str} (r:Rdbs H G vs [.str x,.str y]):vs=[.str x,.str y]:=by
 obtain ⟨v,w,rfl,h1,h2⟩:=r.two
 rw [h1.str,h2.str]
theorem Qjf {H:Hp} {G:Addr→Prop} {vs:List V} {x:Str} {i:Int} (r:Rdbs H G vs [.str x,.int i]):vs=[.str x,.int i]:=by
 obtain ⟨v,w,rfl,h1,h2⟩:=r.two
 rw [h1.str,h2.int]
theorem Qvb {H:Hp} {G:Addr→Prop} {vs:List V} {x:Str} (r:Rdbs H G vs [.str x]):vs=[.str x]:=by
 obtain ⟨v,rfl,h1⟩:=r.one
 rw [h1.str]
theorem Qgc {α:Type} {c:Prop} [Decidable c] {a w:α} (e:(if c then some a else none)=some w):c∧a=w:=by
 by_cases h:c
 ·rw [if_pos h] at e;exact ⟨h,Option.some.inj e⟩
 ·rw [if_neg h] at e;cases e
noncomputable def Qad7:R2:=fun x y H Q=>∃ i j,x=.str i∧y=.str j∧i.length+j.length≤sizeLine∧Q (.str (i++j)) H
theorem Q35:Ob (r2V Qad7) .catS:=by
 intro B H G σ ρ vs ts w Q F r e q
 match ts,e,r with
 | [.str x,.str y],e,r =>
  obtain ⟨z,rfl⟩:=Qgc (show (if x.length+y.length≤90000 then some (PV.fz (.str (x++y))) else none)=some w from e)
  exact ⟨_,_,Qhj r,x,y,rfl,rfl,by rw [sizeLine_eq];omega,q _ H G F pvS⟩
noncomputable def rIxX:R2:=Q76
theorem Q90:Ob (r2V rIxX) .ixS:=by
 intro B H G σ ρ vs ts w Q F r e q
 match ts,e,r with
 | [.str x,.int i],e,r =>
  by_cases hz:x.length≤90000
  ·replace e:(if x.length≤90000 then (match atI x.cps.toList i with | some c=>some (PV.fz (.str ⟨#[c]⟩)) | none=>none) else none)=some w:=e
   rw [if_pos hz] at e
   cases ha:atI x.cps.toList i with
   | none=>rw [ha] at e;cases e
   | some c =>
    rw [ha] at e
    cases e
    exact ⟨_,_,Qjf r,x,i,c,rfl,rfl,by rw [sizeLine_eq];omega,ha,q _ H G F pvS⟩
  ·replace e:(if x.length≤90000 then (match atI x.cps.toList i with | some c=>some (PV.fz (.str ⟨#[c]⟩)) | none=>none) else none)=some w:=e
   rw [if_neg hz] at e
   cases e
noncomputable def Q6n:List V→Hp→VK→Prop:=fun xs H Q=>∃ z,xs=[.str z]∧z.length≤sizeLine∧Q (.int z.length) H
theorem Qpa:QCl X (.builtin "len") Q6n:=⟨Qox⟩
theorem Qlj:Ob Q6n .lenT:=by
 intro B H G σ ρ vs ts w Q F r e q
 match ts,e,r with
 | [.str x],e,r =>
  obtain ⟨z,rfl⟩:=Qgc (show (if x.length≤90000 then some (PV.fz (.int (x.length:Nat))) else none)=some w from e)
  exact ⟨x,Qvb r,by rw [sizeLine_eq];omega,q _ H G F pvI⟩
noncomputable def Q6o:List V→Hp→VK→Prop:=fun xs H Q=>∃ i,xs=[.int i]∧i.natAbs.log2<1920∧Q (.str (toString i)) H
theorem Q0o:QCl X (.type "str") Q6o:=⟨Qos⟩
theorem Qvc:Ob Q6o .strI:=by
 intro B H G σ ρ vs ts w Q F r e q
 match ts,e,r with
 | [.int i],e,r =>
  obtain ⟨z,rfl⟩:=Qgc (show (if i.natAbs.log2<1920 then some (PV.fz (.str (toString i))) else none)=some w from e)
  obtain ⟨v,rfl,h⟩:=r.one
  obtain rfl:=h.int
  exact ⟨i,rfl,z,q _ H G F pvS⟩
noncomputable def Q0p:List V→Hp→VK→Prop:=fun xs H Q=>∃ x n,xs=[.str x]∧PySem.intText? x=some n∧x.length≤640∧Q (.int n) H
theorem Qw6:CallR X (.type "int") Q0p:=by
 intro pins s σ H xs us Q I r h
 obtain ⟨x,n,rfl,hn,hz,q⟩:=h
 obtain ⟨u,rfl,t,rfl⟩:=Qfs r
 exact PySem.W.KIN.call_text hn hz ⟨.int n,H,I.tok _,⟨_,rfl⟩,q⟩
theorem Q0q:QCl X (.type "int") Q0p:=⟨Qw6⟩
theorem Qvd:Ob Q0p .intS:=by
 intro B H G σ ρ vs ts w Q F r e q
 match ts,e,r with
 | [.str x],e,r =>
  replace e:(match PySem.intText? x with | some n=>if x.length≤640 then some (PV.fz (.int n)) else none | none=>none)=some w:=e
  cases hn:PySem.intText? x with
  | none=>rw [hn] at e;cases e
  | some n =>
   rw [hn] at e
   obtain ⟨z,rfl⟩:=Qgc (show (if x.length≤640 then some (PV.fz (.int n)) else none)=some w from e)
   exact ⟨x,n,Qvb r,hn,z,q _ H G F pvI⟩
noncomputable def Q36 (b:Bool):R2:=fun x y H Q=>∃ i j,x=.str i∧y=.str j∧Q (.bl (if b then !(!(Builtin.Str.occurrences j i 0 j.length 1).isEmpty) else !(Builtin.Str.occurrences j i 0 j.length 1).isEmpty)) H
theorem Qad8:QOp X (compareOp .In) (Q36 false):=⟨Qwc⟩
theorem Q91:QOp X (compareOp .NotIn) (Q36 true):=⟨Qov⟩
theorem Q92:Ob (r2V (Q36 false)) .inS:=by
 intro B H G σ ρ vs ts w Q F r e q
 match ts,e,r with
 | [.str x,.str y],e,r =>
  cases (show some (PV.fz (.bl (Txt.contains y x)))=some w from e)
  exact ⟨_,_,Qhj r,x,y,rfl,rfl,q _ H G F pvB⟩
theorem Q37:Ob (r2V (Q36 true)) .ninS:=by
 intro B H G σ ρ vs ts w Q F r e q
 match ts,e,r with
 | [.str x,.str y],e,r =>
  cases (show some (PV.fz (.bl (!Txt.contains y x)))=some w from e)
  exact ⟨_,_,Qhj r,x,y,rfl,rfl,q _ H G F pvB⟩
end
section
variable {X:Cx} {p:Pr} {a b e:Expr} {es:List Expr} {a' b' e':E} {es':Es} {pos p1 p2:Pos} {K:PySem.W.Frag}
theorem Q93 (ha:QE X a (tE p a')) (hb:QE X b (tE p b')):QE X (.BinOp a .Add b pos) (tE p (.bi .catS (.cons a' (.cons b' .nil)))):=(Qwm ⟨Qsw⟩ ha hb).weak fun σ H Q h=>Qhi Q35 h
theorem Qad9 (ha:QE X a (tE p a')) (hb:QE X b (tE p b')) (hm:behindInMarks .In b=false:=by rfl):QE X (.Compare a [.In] [b] pos) (tE p (.bi .inS (.cons a' (.cons b' .nil)))):=(Qy5 Qad8 ha hb hm).weak fun σ H Q h=>Qhi Q92 h
theorem tT_E {σ:St} {H:Hp} {Q:Bool→Hp→Prop} (h:tT p e' σ H Q):tE p e' σ H fun v H1=>∃ k,v=.bl k∧Q k H1:=by
 obtain ⟨G,ρ,F,h⟩:=h
 exact ⟨G,ρ,F,(Qhb h).imp fun r ρ1 zz1 v H1 G1 F1 r1=>by
  obtain ⟨k,e,q⟩:=zz1
  subst e
  refine ⟨k,?_,q H1 G1 F1⟩
  have r1:Is (dls H1 G1) v (.bl k):=r1
  unfold Is at r1
  exact r1⟩
theorem Q94 (ha:QE X a (tE p a')) (hb:QE X b (tE p b')) (hm:behindInMarks .NotIn b=false:=by rfl):QT X (.Compare a [.NotIn] [b] pos) (tT p (.bi .ninS (.cons a' (.cons b' .nil)))):=(Qlr Q91 ha hb hm).weak fun σ H Q h=>Qhi Q37 (tT_E h)
theorem Q0r (ha:QE X a (tE p a')) (hb:QE X b (tE p b')) (hs:Qix b:=by exact fun _ _=>rfl):QE X (.Subscript a b pos) (tE p (.bi .ixS (.cons a' (.cons b' .nil)))):=(Q28 ⟨Qyk⟩ ha hb hs).weak fun σ H Q h=>Qhi Q90 h
theorem Q38 {x:Str} {y:Str} (h:∃ u,X.mg x=some u∧RelV (.str y) u) (hg:Gl X x:=by rfl) (hd:(x==("__debug__" : Str))=false:=by decide):QE X (.Name x pos) (tE p (.str y)):=(Qy4 h hg hd).weak fun σ H Q zz1=>by
 obtain ⟨G,ρ,F,h⟩:=zz1
 unfold evE at h
 exact h _ H G F pvS
end
section
variable {X:Cx}
noncomputable def rSlX:V→Option Int→Option Int→Hp→VK→Prop:=fun x lo hi H Q=>∃ z,x=.str z∧z.length≤sizeLine∧Q (.str (Txt.slice z lo hi)) H
theorem Q0s:SlR X rSlX:=by
 intro pins s σ H x v vl vu lo hi sl Q I rx hs pl pu h
 obtain ⟨z,rfl,hz,q⟩:=h
 obtain ⟨t,rfl⟩:=rx
 refine ⟨"str",_,F.slot_str_getitem.lookup,typeIs_str _ _ _,?_⟩
 have fin:∀ l u:Option (Int×Tok),l.map (·.1)=lo→u.map (·.1)=hi→(Txt.slice z (l.map (·.1)) (u.map (·.1))).length≤sizeLine∧∀ t' k,EP X pins σ Q (.str (Txt.slice z (l.map (·.1)) (u.map (·.1))) t') { s with toks:=k }:=fun l u e1 e2=>by
  rw [e1,e2]
  exact ⟨Nat.le_trans (Txt.slice_le z _ _) hz,fun t' k=>⟨.str _,H,I.tok _,⟨_,rfl⟩,q⟩⟩
 cases pl with
 | none =>
  cases pu with
  | none=>exact wpAny_getItem_str_slice (l:=none) (u:=none) (st:=none) hs rfl (post_val_or_str (fin none none rfl rfl))
  | int j uj=>exact wpAny_getItem_str_slice (l:=none) (u:=some (j,uj)) (st:=none) hs rfl (post_val_or_str (fin none (some (j,uj)) rfl rfl))
 | int i ui =>
  cases pu with
  | none=>exact wpAny_getItem_str_slice (l:=some (i,ui)) (u:=none) (st:=none) hs rfl (post_val_or_str (fin (some (i,ui)) none rfl rfl))
  | int j uj=>exact wpAny_getItem_str_slice (l:=some (i,ui)) (u:=some (j,uj)) (st:=none) hs rfl (post_val_or_str (fin (some (i,ui)) (some (j,uj)) rfl rfl))
noncomputable def rFrX:R2:=fun x y H Q=>∃ z i,x=.str z∧y=.int i∧z.length≤sizeLine∧Q (.str (Txt.slice z (some i) none)) H
noncomputable def rToX:R2:=fun x y H Q=>∃ z i,x=.str z∧y=.int i∧z.length≤sizeLine∧Q (.str (Txt.slice z none (some i))) H
theorem Q95:Ob (r2V rFrX) .slF:=by
 intro B H G σ ρ vs ts w Q F r e q
 match ts,e,r with
 | [.str x,.int i],e,r =>
  obtain ⟨z,rfl⟩:=Qgc (show (if x.length≤90000∧i.natAbs≤90000 then some (PV.fz (.str (Txt.slice x (some i) none))) else none)=some w from e)
  exact ⟨_,_,Qjf r,x,i,rfl,rfl,by rw [sizeLine_eq];omega,q _ H G F pvS⟩
theorem Q96:Ob (r2V rToX) .slT:=by
 intro B H G σ ρ vs ts w Q F r e q
 match ts,e,r with
 | [.str x,.int i],e,r =>
  obtain ⟨z,rfl⟩:=Qgc (show (if x.length≤90000∧i.natAbs≤90000 then some (PV.fz (.str (Txt.slice x none (some i)))) else none)=some w from e)
  exact ⟨_,_,Qjf r,x,i,rfl,rfl,by rw [sizeLine_eq];omega,q _ H G F pvS⟩
variable {p:Pr} {a b e:Expr} {a' b' e':E} {pos p1 p2:Pos} {K:PySem.W.Frag}
theorem Q6p (ha:QE X a (tE p a')) (hb:QE X b (tE p b')):QE X (.Subscript a (.Slice (some b) none none p2) pos) (tE p (.bi .slF (.cons a' (.cons b' .nil)))):=(Q29 ⟨Q0s⟩ ha (Qls hb) Q8n).weak fun σ H Q h =>
 Qgb (Qhi Q95 h) fun v H1 k=>Qgb k fun w H2 k2=>by
  obtain ⟨z,i,rfl,rfl,hz,q⟩:=k2
  exact ⟨i,rfl,z,rfl,hz,q⟩
theorem Qaea (ha:QE X a (tE p a')) (hb:QE X b (tE p b')):QE X (.Subscript a (.Slice none (some b) none p2) pos) (tE p (.bi .slT (.cons a' (.cons b' .nil)))):=(Q29 ⟨Q0s⟩ ha Q8n (Qls hb)).weak fun σ H Q h =>
 Qgb (Qhi Q96 h) fun v H1 k=>Qgb k fun w H2 k2=>by
  obtain ⟨z,i,rfl,rfl,hz,q⟩:=k2
  exact ⟨i,rfl,z,rfl,hz,q⟩
end
section
variable {X:Cx} {p:Pr} {a b e:Expr} {es:List Expr} {a' b' e':E} {es':Es} {pos p1 p2:Pos} {σ:St} {H:Hp} {Q:VK} {K:PySem.W.Frag}
noncomputable abbrev tBMS (r:V→List V→Hp→VK→Prop) (to:TE) (t:TA):TE:=fun σ H Q=>to σ H fun x H1=>(∃ z,x=.str z)∧t σ H1 fun xs H2=>r x xs H2 Q
theorem Q0t {o e:Expr} {es:List Expr} {to:TE} {t:TA} {name:Str} {apos cpos:Pos} {id:String} {r:V→List V→Hp→VK→Prop} (slot:PySem.Slot "str" name id) (hty:typeOf (.builtin id)=pure (.type "method_descriptor")) (hm:QMt X id r) (ho:QE X o to) (ha:QA X (e::es) t)
  (hbase:attributeBase o name X.env (eval o X.env)=eval o X.env:=by rfl)
  (hfew:((backTo cpos (starEach (e::es) X.env)).all (fun x=>!x.1)&&(backToKw cpos (keywordEach [] X.env)).all (fun x=>x.1.isSome)
   && decide ((e::es).length+([]:List Keyword).length+(if ([]:List Keyword).isEmpty then 0 else 1)<30))=true:=by rfl)
  (hline:(apos.endLine==cpos.line)=true:=by rfl) (hs:Q5 e=true:=by rfl) (hplain:(backTo cpos (starEach es X.env)).any (·.1)=false:=by rfl) :
  QE X (.Call (.Attribute o name apos) (e::es) [] cpos) (tBMS r to t):=by
 refine ⟨fun pins s σ H Q I h=>?_⟩
 refine wpAny_Call_method_late hbase hfew hline rfl (thn (ho.h pins s σ H _ I h) fun v s1 ⟨x,H1,I1,r1,ty,q1⟩=>?_)
 obtain ⟨z,rfl⟩:=ty
 obtain ⟨tk,rfl⟩:=r1
 refine ⟨"str",id,F.plainAttrs_str,slot,hty,typeIs_str _ _ _,(fun a z=>nomatch z),?_⟩
 have hA:=ha.h cpos pins s1 σ H1 _ I1 q1
 rw [Qb2 hs] at hA ⊢
 refine Calls.callWith_builtin (by show (false||(backTo cpos (starEach es X.env)).any (·.1))=false;rw [hplain] <;> rfl) (Calls.evalArgs_plain ?_)
 exact thn hA fun us s2 ⟨vs,H2,I2,r2,q2⟩=>hm.h pins s2 σ H2 (.str z) vs (.str z tk) us Q I2 ⟨tk,rfl⟩ r2 q2
theorem Qve {r:R2} {c:Bi} {y:Str} (hc:∀ t w,Qb6 c [t,.str y]=some w→∃ x,t=.str x) (hs:Ob (r2V r) c) (h:tE p (.bi c (.cons a' (.cons (.str y) .nil))) σ H Q):tE p a' σ H fun x H1=>(∃ z,x=.str z)∧r x (.str y) H1 Q:=by
 obtain ⟨G,ρ,F,h⟩:=h
 unfold evE evA at h
 refine ⟨G,ρ,F,(h.bind.imp fun rs ρ1 h1=>h1).bind.imp fun ra ρ1 h1 v H1 G1 F1 r1=>?_⟩
 replace h1:Fin p (Qa2 H G σ ρ) σ (match Qv ρ1 [ra,PV.fz (.str y)] with | some ts=>.opt (Qb6 c ts) ρ1 | none=>.no) _:=h1
 cases e:Qv ρ1 [ra,PV.fz (.str y)] with
 | none=>rw [e] at h1;exact False.elim h1
 | some ts =>
  rw [e] at h1
  obtain ⟨w,ew,k⟩:=Qlh h1
  have rs:=PVRs.rdbs (PVRs.cons r1 (PVRs.cons (v:=.str y) (r:=.fz (.str y)) pvS PVRs.nil)) F1 e
  obtain ⟨x',y',e2,q⟩:=hs _ H1 G1 σ ρ1 _ ts w Q F1 rs ew fun v H2 G2 F2 r2=>k v H2 G2 F2 r2
  cases e2
  refine ⟨?_,q⟩
  have e':∃ t,ts=[t,.str y]:=by
   unfold Qv at e
   cases h3:cont ρ1 ra with
   | none=>rw [h3] at e;cases e
   | some t=>rw [h3] at e;cases e;exact ⟨t,rfl⟩
  obtain ⟨t,rfl⟩:=e'
  obtain ⟨x,rfl⟩:=hc t w ew
  obtain ⟨v1,v2,e3,h4,_⟩:=rs.two
  cases e3
  exact ⟨x,h4.str⟩
theorem Q39 {r:R2} {c:Bi} {z:Str} (hs:Ob (r2V r) c) (h:tE p (.bi c (.cons (.str z) (.cons b' .nil))) σ H Q):tE p b' σ H fun y H1=>r (.str z) y H1 Q:=by
 obtain ⟨G,ρ,F,h⟩:=Qhi hs h
 unfold evE at h
 exact h _ H G F pvS
noncomputable def Qaeb:V→List V→Hp→VK→Prop:=fun x vs H Q=>∃ z y,x=.str z∧vs=[.str y]∧Q (.bl (Txt.startswith z y)) H
theorem Q4a:MtR X "str.startswith" Qaeb:=by
 intro pins s σ H x vs v us Q I rx rv h
 obtain ⟨z,y,rfl,rfl,q⟩:=h
 obtain ⟨t,rfl⟩:=rx
 obtain ⟨u,rfl,t',rfl⟩:=Qfs rv
 exact SC.startswith ⟨.bl _,H,I,rfl,q⟩
noncomputable def Qaec:R2:=fun x y H Q=>∃ z w,x=.str z∧y=.str w∧Q (.bl (Txt.startswith z w)) H
theorem Q97:Ob (r2V Qaec) .sta:=by
 intro B H G σ ρ vs ts w Q F r e q
 match ts,e,r with
 | [.str x,.str y],e,r =>
  cases (show some (PV.fz (.bl (Txt.startswith x y)))=some w from e)
  exact ⟨_,_,Qhj r,x,y,rfl,rfl,q _ H G F pvB⟩
theorem Q4b {y:Str} (t:T) (w:PV) (e:Qb6 .sta [t,.str y]=some w):∃ x,t=.str x:=by
 cases t <;> first | (cases e;done) | exact ⟨_,rfl⟩
theorem Qaed {y:Str} {j} {apos:Pos} (ha:QE X a (tE p a')) (hbase:attributeBase a "startswith" X.env (eval a X.env)=eval a X.env:=by rfl)
  (hfew:((backTo pos (starEach [.Constant (.str y) j p2] X.env)).all (fun x=>!x.1)&&(backToKw pos (keywordEach [] X.env)).all (fun x=>x.1.isSome)&&decide ([Expr.Constant (.str y) j p2].length+([]:List Keyword).length+(if ([]:List Keyword).isEmpty then 0 else 1)<30))=true:=by rfl)
  (hline:(apos.endLine==pos.line)=true:=by rfl) (hplain:(backTo pos (starEach [] X.env)).any (·.1)=false:=by rfl) :
  QE X (.Call (.Attribute a "startswith" apos) [.Constant (.str y) j p2] [] pos) (tE p (.bi .sta (.cons a' (.cons (.str y) .nil)))) :=
 (Q0t F.slot_str_startswith F.type_str_startswith ⟨Q4a⟩ ha (Qs Qlq Qa7) hbase hfew hline rfl hplain).weak fun σ H Q h=>Qgb (Qve Q4b Q97 h) fun v H1 ⟨k1,z,w,e1,e2,q⟩=>⟨k1,z,w,e1,by cases e2;rfl,q⟩
end
end L2
namespace L2
open PySem PySem.Spec PyProof.Rows PySem.W PySem.Calls
open Builtin Builtin.Str in
theorem Qtm {prog:Program} {w:World} {A:Around} {E:Value→Shared→Prop} {s:Shared} {x y:Str} {t u:Tok} {Q:Value→Shared→Prop} (hy:(y.length==0)=false)
  (h:∀ l k,l.map (·.1)=Txt.split x y→Q (.ref s.heap.objs.size) { s with toks:=k,heap:=s.heap.push { cls:=.type "list",data:=.seq (strValues l).toArray } }) (hsz:x.length+2≤sizeLine) :
  wpAny (model prog w) A (call (.builtin "str.split") [.str x t,.str y u]) Q E s:=by
 have hn:(partsBetween x (occurrences x y 0 x.length (x.length+1)) y.length).length≤sizeLine:=by
  have e1:=StrLaws.occ_length_le x y 0 x.length (x.length+1)
  rw [length_partsBetween];omega
 cases h1:(decide (x.length<y.length)||decide (strKind x<strKind y))
 ·cases hf:(occurrences x y 0 x.length (x.length+1)).isEmpty
  ·refine call_meets F.slot_str_split (typeIs_str _ _ _) F.entry_str_split (F.args_str_split_2 _ _) (meets_str_split_sep x y t u h1 hy hf (by omega) hn) ?_
   show wants Q E _ { s with toks:=_,heap:=s.heap.push { cls:=.type "list",data:=.seq (strsFrom s.toks (partsBetween x (occurrences x y 0 x.length (x.length+1)) y.length)).toArray } }
   rw [strsFrom_eq]
   exact h (numbered s.toks _) _ ((numbered_texts _ _).trans ((if_neg (ne_true_of_eq_false h1)).trans (if_neg (ne_true_of_eq_false hf))).symm)
  ·exact call_meets F.slot_str_split (typeIs_str _ _ _) F.entry_str_split (F.args_str_split_2 _ _) (meets_str_split_not_found x y t u h1 hy hf)
    (h [(x,t)] s.toks ((if_neg (ne_true_of_eq_false h1)).trans (if_pos hf)).symm)
 ·exact call_meets F.slot_str_split (typeIs_str _ _ _) F.entry_str_split (F.args_str_split_2 _ _) (meets_str_split_cannot_occur x y t u h1)
   (h [(x,t)] s.toks (if_pos h1).symm)
open Builtin Builtin.Str in
theorem Qhx (x y:Str):(Txt.split x y).length≤x.length+2:=by
 have e1:=StrLaws.occ_length_le x y 0 x.length (x.length+1)
 unfold Txt.split
 split
 ·show 1≤_;omega
 ·split
  ·show 1≤_;omega
  ·rw [length_partsBetween];omega
theorem Qog:∀ {ss:List Str} (l:List (Str×Tok)),l.map (·.1)=ss→Vals (ss.map V.str) (strValues l)
 | _,[],e=>by subst e;exact .nil
 | _,(x,t)::l,e=>by subst e;exact .cons ⟨t,rfl⟩ (Qog l rfl)
theorem Qoh:∀ {ss:List Str} {us:List Value},Vals (ss.map V.str) us→∃ l:List (Str×Tok),us=strValues l∧l.map (·.1)=ss
 | [],_,.nil=>⟨[],rfl,rfl⟩
 | x::ss,_,.cons r q=>by
  obtain ⟨t,rfl⟩:=r
  obtain ⟨l,rfl,e⟩:=Qoh q
  exact ⟨(x,t)::l,rfl,by rw [List.map_cons,e]⟩
theorem Qoi:∀ {ts:List T} {ss:List Str},Qib ts=some ss→ts=ss.map T.str
 | [],ss,e=>by cases e;rfl
 | t::ts,ss,e=>by
  cases t <;> first | (cases e;done) | skip
  rename_i x
  replace e:(match Qib ts with | some xs=>some (x::xs) | none=>none)=some ss:=e
  cases h:Qib ts with
  | none=>rw [h] at e;cases e
  | some xs=>rw [h] at e;cases e;rw [Qoi h];rfl
theorem IsL.strs {H:Hp}:∀ (ss:List Str),IsL H (ss.map V.str) (ss.map T.str)
 | []=>.nil
 | x::ss=>.cons (by unfold Is;rfl) (IsL.strs ss)
theorem IsL.strs_inv {H:Hp}:∀ {ss:List Str} {vs:List V},IsL H vs (ss.map T.str)→vs=ss.map V.str
 | [],vs,r=>r.nil_inv
 | x::ss,vs,r=>by
  obtain ⟨v,w,rfl,a,q⟩:=r.cons_inv
  rw [IsL.strs_inv q]
  unfold Is at a
  rw [a]
  rfl
section
variable {X:Cx} {p:Pr} {a b e:Expr} {es:List Expr} {a' b' e':E} {es':Es} {pos p1 p2:Pos} {σ:St} {H:Hp} {Q:VK} {K:PySem.W.Frag}
noncomputable def Qaee:V→List V→Hp→VK→Prop:=fun x vs H Q=>∃ z y,x=.str z∧vs=[.str y]∧(y.length==0)=false∧z.length+2≤sizeLine∧∀ l,H l=none→Q (.ref l) (upd H l (.lst ((Txt.split z y).map V.str)))
theorem Q4c:MtR X "str.split" Qaee:=by
 intro pins s σ H x vs v us Q I rx rv h
 obtain ⟨z,y,rfl,rfl,hy,hz,q⟩:=h
 obtain ⟨t,rfl⟩:=rx
 obtain ⟨u,rfl,t',rfl⟩:=Qfs rv
 refine Qtm hy (fun l k e=>?_) hz
 refine ⟨.ref s.heap.objs.size,_,I.laid (o:=.lst ((Txt.split z y).map V.str)) (t':=k) (fun b ob q=>Heap.get?_push_of_some _ q) (Nat.le_refl _) ?_,rfl,q _ (I.hok.fresh (Nat.le_refl _))⟩
 exact ⟨by rw [List.length_map];exact Nat.le_trans (Qhx z y) hz,_,0,Qog l e,Heap.get?_push_size _ rfl⟩
noncomputable def Qaef:R2:=fun x y H Q=>∃ z w,x=.str z∧y=.str w∧(w.length==0)=false∧z.length+2≤sizeLine∧∀ l,H l=none→Q (.ref l) (upd H l (.lst ((Txt.split z w).map V.str)))
theorem Q98:Ob (r2V Qaef) .spl:=by
 intro B H G σ ρ vs ts w Q F r e q
 match ts,e,r with
 | [.str x,.str y],e,r =>
  obtain ⟨⟨hy,hz⟩,rfl⟩:=Qgc (show (if (y.length==0)=false∧x.length≤90000 then some (PV.ow (.lst ((Txt.split x y).map T.str))) else none)=some w from e)
  refine ⟨_,_,Qhj r,x,y,rfl,rfl,hy,by rw [sizeLine_eq];omega,fun l hl=>?_⟩
  obtain ⟨F2,r3⟩:=Qf8 F hl (Same.upd hl) Qp (IsL.strs (Txt.split x y)) (by rw [List.length_map];have:=Qhx x y;omega)
  exact q _ _ _ F2 r3
theorem Q4d {y:Str} (t:T) (w:PV) (e:Qb6 .spl [t,.str y]=some w):∃ x,t=.str x:=by
 cases t <;> first | (cases e;done) | exact ⟨_,rfl⟩
theorem Qkv {y:Str} {j} {apos:Pos} (ha:QE X a (tE p a')) (hbase:attributeBase a "split" X.env (eval a X.env)=eval a X.env:=by rfl)
  (hfew:((backTo pos (starEach [.Constant (.str y) j p2] X.env)).all (fun x=>!x.1)&&(backToKw pos (keywordEach [] X.env)).all (fun x=>x.1.isSome)&&decide ([Expr.Constant (.str y) j p2].length+([]:List Keyword).length+(if ([]:List Keyword).isEmpty then 0 else 1)<30))=true:=by rfl)
  (hline:(apos.endLine==pos.line)=true:=by rfl) (hplain:(backTo pos (starEach [] X.env)).any (·.1)=false:=by rfl) :
  QE X (.Call (.Attribute a "split" apos) [.Constant (.str y) j p2] [] pos) (tE p (.bi .spl (.cons a' (.cons (.str y) .nil)))) :=
 (Q0t F.slot_str_split F.type_str_split ⟨Q4c⟩ ha (Qs Qlq Qa7) hbase hfew hline rfl hplain).weak fun σ H Q h=>Qgb (Qve Q4d Q98 h) fun v H1 ⟨k1,z,w,e1,e2,q⟩=>⟨k1,z,w,e1,by cases e2;rfl,q⟩
noncomputable def Q6q (K:PySem.W.Frag):V→List V→Hp→VK→Prop:=fun x vs H Q=>∃ z l ss,x=.str z∧vs=[.ref l]∧SqL K H l (ss.map V.str)∧JoinOk z ss=true∧Q (.str (Txt.join z ss)) H
theorem Q4e:MtR X "str.join" (Q6q X.K):=by
 intro pins s σ H x vs v us Q I rx rv h
 obtain ⟨z,l,ss,rfl,rfl,hq,hj,q⟩:=h
 obtain ⟨t,rfl⟩:=rx
 obtain ⟨u,rfl,ru⟩:=rv.one
 cases ru
 obtain ⟨its,r,pl,hz⟩:=I.list hq
 obtain ⟨l',rfl,e⟩:=Qoh r
 exact SC.join pl.isList e hj fun t' k=>⟨.str _,H,I.tok _,⟨_,rfl⟩,q⟩
theorem Q99 (K:PySem.W.Frag) (hK:X.K=K):QMt X "str.join" (Q6q K):=⟨by subst hK;exact Q4e⟩
noncomputable def Qaeg (K:PySem.W.Frag):R2:=fun x y H Q=>∃ z l ss,x=.str z∧y=.ref l∧SqL K H l (ss.map V.str)∧JoinOk z ss=true∧Q (.str (Txt.join z ss)) H
theorem Qaaa (K:PySem.W.Frag):Ob (r2V (Qaeg K)) .joi:=by
 intro B H G σ ρ vs ts w Q F r e q
 match ts,e,r with
 | [.str x,.lst a],e,r =>
  replace e:(match Qib a with | some ss=>if JoinOk x ss=true then some (PV.fz (.str (Txt.join x ss))) else none | none=>none)=some w:=e
  cases hs:Qib a with
  | none=>rw [hs] at e;cases e
  | some ss =>
   rw [hs] at e
   obtain ⟨hj,rfl⟩:=Qgc (show (if JoinOk x ss=true then some (PV.fz (.str (Txt.join x ss))) else none)=some w from e)
   obtain ⟨v1,v2,rfl,h1,h2⟩:=r.two
   obtain ⟨l,ws,rfl,hz,el,rl⟩:=h2.lst
   rw [Qoi hs] at rl
   rw [rl.strs_inv] at el
   exact ⟨_,_,by rw [h1.str],x,l,ss,rfl,rfl,SqL.of el,hj,q _ H G F pvS⟩
theorem Qkw {z:Str} {j} {apos:Pos} (hK:X.K=K) (hb:QE X b (tE p b')) (hbase:attributeBase (.Constant (.str z) j p2) "join" X.env (eval (.Constant (.str z) j p2) X.env)=eval (.Constant (.str z) j p2) X.env:=by rfl)
  (hfew:((backTo pos (starEach [b] X.env)).all (fun x=>!x.1)&&(backToKw pos (keywordEach [] X.env)).all (fun x=>x.1.isSome)&&decide ([b].length+([]:List Keyword).length+(if ([]:List Keyword).isEmpty then 0 else 1)<30))=true:=by rfl)
  (hline:(apos.endLine==pos.line)=true:=by rfl) (hs:Q5 b=true:=by rfl) (hplain:(backTo pos (starEach [] X.env)).any (·.1)=false:=by rfl) :
  QE X (.Call (.Attribute (.Constant (.str z) j p2) "join" apos) [b] [] pos) (tE p (.bi .joi (.cons (.str z) (.cons b' .nil)))) :=
 (Q0t F.slot_str_join F.type_str_join (Q99 K hK) Qlq (Qs hb Qa7 hs) hbase hfew hline hs hplain).weak fun σ H Q h =>
  ⟨⟨z,rfl⟩,Qgb (Q39 (Qaaa K) h) fun v H1 ⟨y,l,ss,e1,e2,a,b,q⟩=>⟨y,l,ss,e1,by rw [e2],a,b,q⟩⟩
noncomputable def Q6r:R2:=fun x y H Q=>∃ z k,x=.str z∧y=.int k∧1≤k∧k≤1000∧z.length=1∧Q (.str ⟨(List.replicate k.toNat (z.cps.getD 0 0)).toArray⟩) H
theorem Qq7 (c:Nat):∀ (n:Nat) (acc:Array Nat),(List.replicate n (#[c]:Array Nat)).foldl (· ++ ·) acc=acc++(List.replicate n c).toArray
 | 0,acc=>by simp
 | n+1,acc=>by
  rw [List.replicate_succ,List.foldl_cons,Qq7 c n,List.replicate_succ]
  apply Array.toList_inj.mp
  simp
theorem Q4f:OpR X (binaryOp .Mult) Q6r:=by
 intro pins s σ H x y v u Q I rx ry h
 obtain ⟨z,k,rfl,rfl,h1,h2,hz,q⟩:=h
 obtain ⟨t,rfl⟩:=rx
 obtain ⟨t',rfl⟩:=ry
 have hn:¬ k<1:=by omega
 have hcz:z.cps = #[z.cps.getD 0 0]:=by
  have:z.cps.size=1:=hz
  obtain ⟨c,hc⟩:∃ c,z.cps = #[c]:=by
   match h:z.cps.toList,(by simpa using this:z.cps.toList.length=1) with
   | [c],_=>exact ⟨c,by apply Array.toList_inj.mp;rw [h]⟩
  rw [hc];rfl
 have hl:z.length*k.toNat≤1000:=by rw [hz];omega
 refine PySem.P.mul_str (by
   rw [decide_eq_false (by omega:¬ k < -(2^63:Int)),decide_eq_false (by omega:¬ k≥2^63)];rfl) (fun _ _=>?_) (fun _ _=>?_) ?_
 ·rw [hz]
  have:(1:Int)≤(2^63-1) / k:=(Int.le_ediv_iff_mul_le (by omega)).mpr (by omega)
  show ¬ ((1:Nat):Int)>_
  omega
 ·show decide (z.length*k.toNat>sizeLine)=false
  exact decide_eq_false (by rw [sizeLine_eq];omega)
 ·rw [if_neg hn]
  by_cases hk:(k==1||z.length==0)=true
  ·rw [if_pos hk]
   have k1:k=1:=by
    rw [hz] at hk
    simpa using hk
   subst k1
   refine ⟨.str z,H,I,⟨t,rfl⟩,?_⟩
   have:(⟨(List.replicate (1:Int).toNat (z.cps.getD 0 0)).toArray⟩:Str)=z:=by
    show (⟨#[z.cps.getD 0 0]⟩:Str)=z
    rw [←hcz]
   rw [this] at q
   exact q
  ·rw [if_neg hk]
   have e:(List.replicate k.toNat z.cps).foldl (· ++ ·) #[]=(List.replicate k.toNat (z.cps.getD 0 0)).toArray:=by
    have h0:=Qq7 (z.cps.getD 0 0) k.toNat #[]
    rw [←hcz] at h0
    rw [h0];simp
   rw [e]
   exact ⟨by show (List.replicate k.toNat (z.cps.getD 0 0)).toArray.size≤_;rw [List.size_toArray,List.length_replicate,sizeLine_eq];omega,.str _,H,I.tok _,⟨_,rfl⟩,q⟩
theorem Q4g:Ob (r2V Q6r) .repS:=by
 intro B H G σ ρ vs ts w Q F r e q
 match ts,e,r with
 | [.str x,.int k],e,r =>
  obtain ⟨z,rfl⟩:=Qgc (show (if 1≤k∧k≤1000∧x.length=1 then some (PV.fz (.str ⟨(List.replicate k.toNat (x.cps.getD 0 0)).toArray⟩)) else none)=some w from e)
  exact ⟨_,_,Qjf r,x,k,rfl,rfl,z.1,z.2.1,z.2.2,q _ H G F pvS⟩
theorem Qtn (ha:QE X a (tE p a')) (hb:QE X b (tE p b')):QE X (.BinOp a .Mult b pos) (tE p (.bi .repS (.cons a' (.cons b' .nil)))):=(Qwm ⟨Q4f⟩ ha hb).weak fun σ H Q h=>Qhi Q4g h
noncomputable def Its (x:Str):It:=⟨fun i _=>i<x.cps.size,fun i H v H'=>H'=H∧∃ c,x.cps[i]?=some c∧v=.str ⟨#[c]⟩,fun i _=>x.cps.size≤i⟩
theorem Qq8 {P:Program} {w:World} {K:PySem.W.Frag} {tg:Expr} {x:Str} {t:Tok} {ty:String} (it:Addr) (hn:["enumerate","zip","dict_itemiterator","dict_reverseitemiterator","odict_iterator","itertools.zip_longest","itertools.pairwise"].contains ty=false)
  (W:∀ A:Around,A.handled=none→Walks P w A it [it] [it] x.cps.size (SignAt x) (fun i h=>h.IsStrIter it ty x t i))
  (W2:∀ (A:Around) (i:Nat) (s:Shared) (Q:Value→Shared→Prop) (E:Value→Shared→Prop),s.heap.IsStrIter it ty x t i→Q (.ref it) s→wpAny (model P w) A (pyIter (.ref it)) Q E s)
  (Wd:∀ (A:Around),A.handled=none→∀ (i:Nat) (s:Shared) (Q:Option Value→Shared→Prop) (E:Value→Shared→Prop),s.heap.IsStrIter it ty x t i→x.cps[i]?=none→(∀ h',Heap.ExtBut it s.heap h'→Q none { s with heap:=h' })→wpAny (model P w) A (pyNext (.ref it)) Q E s) :
  Turn P w K tg (Its x) [it] it (fun i h=>h.IsStrIter it ty x t i) where
 mem:=by simp
 obj:=fun i h st b hb=>by
  have e:b=it:=by simpa using hb
  subst e
  obtain ⟨o,e,c,d⟩:=st
  exact ⟨o,e,fun v z=>by rw [d] at z;cases z⟩
 keep:=fun i h h' st k=>let ⟨o,e,r⟩:=st;⟨o,k it (by simp) o e,r⟩
 item:=by
  intro X hP hw hK hc i pins s σ H E I hf st hg
  subst hP hw hK
  obtain ⟨f0,f1,f2,f3,f4,f5⟩:=hf it (by simp)
  refine (W X.A (I.ok.hd hc)).item i s _ _ hg st fun v h' tk hv st' kk=>?_
  obtain ⟨c,u,hc',rfl⟩:=hv
  have I1:Inv X pins σ H { s with heap:=h',toks:=tk }:=I.turned (fun b o hb e=>kk b o (by simpa using hb) e) f0 f1 f3 f4 f5
  obtain ⟨o,e,c1,d⟩:=id st'
  exact ⟨_,rfl,Quh (s:={ s with heap:=h',toks:=tk }) e c1 d hn ⟨.str ⟨#[c]⟩,H,I1,⟨u,rfl⟩,⟨rfl,c,hc',rfl⟩,st',fun b hb=>(hf b hb).1⟩⟩
 done:=by
  intro X hP hw hK hc i pins s σ H E I hf st hg
  subst hP hw hK
  obtain ⟨f0,f1,f2,f3,f4,f5⟩:=hf it (by simp)
  exact Wd X.A (I.ok.hd hc) i s _ _ st (Array.getElem?_eq_none hg) fun h' eb=>⟨rfl,I.turned (t':=s.toks) (fun b o hb e=>eb b o hb e) f0 f1 f3 f4 f5⟩
 self:=W2
noncomputable def iStr (tl:TE):TI:=fun σ H R=>tl σ H fun v H1=>∃ x,v=.str x∧R (Its x) H1
theorem Qaab {tg:Expr} {tl:TE} (hl:QE X e tl):QI X tg e (iStr tl):=⟨by
 intro pins s σ H R I h
 refine thn (hl.h pins s σ H _ I h) fun v s1 ⟨y,H1,I1,r1,q1⟩=>?_
 obtain ⟨x,rfl,q⟩:=q1
 obtain ⟨t,rfl⟩:=r1
 have key:∀ (o:Obj) (tn:Nat→Heap→Prop),Turn X.prog X.w X.K tg (Its x) [s1.heap.objs.size] s1.heap.objs.size tn→tn 0 (s1.heap.push o)→PIE X pins σ tg R (.ref s1.heap.objs.size) { s1 with heap:=s1.heap.push o }:=fun o tn T t0=>by
  refine ⟨s1.heap.objs.size,[s1.heap.objs.size],_,_,H1,rfl,I1.kept (t':=s1.toks) fun b o e=>Heap.get?_push_of_some _ e,T,t0,fun b hb=>?_,q⟩
  have e:b=s1.heap.objs.size:=by simpa using hb
  subst e
  exact I1.fpOk (Nat.le_refl _) (I1.hok.fresh (Nat.le_refl _))
 cases ha:x.cps.all (· < 128)
 ·exact wpAny_pyIter_wide ha (key _ _ (Qq8 _ (by decide) (fun A hA=>Walks.strWide hA _ x t) (fun _ _ _ _ _ st q=>wpAny_pyIter_striter_wide st q) (fun A hA i s Q E st hx q=>wpAny_pyNext_wide_end hA st hx q)) ⟨_,Heap.get?_push_size _ rfl,rfl,rfl⟩)
 ·exact wpAny_pyIter_ascii ha (key _ _ (Qq8 _ (by decide) (fun A hA=>Walks.strAscii hA _ x t) (fun _ _ _ _ _ st q=>wpAny_pyIter_striter_ascii st q) (fun A hA i s Q E st hx q=>wpAny_pyNext_ascii_end hA st hx q)) ⟨_,Heap.get?_push_size _ rfl,rfl,rfl⟩)⟩
theorem Qpb (x:Str):(Qfx x).length=x.cps.size:=by unfold Qfx;rw [List.length_map];simp
theorem Q4h {x:Str} {i c:Nat} (h:x.cps[i]?=some c):(Qfx x)[i]?=some (T.str ⟨#[c]⟩):=by
 unfold Qfx
 rw [List.getElem?_map,show x.cps.toList[i]?=some c by simpa using h]
 rfl
theorem Qaac {x:Str} {H:Hp} {G:Addr→Prop}:WkR (Its x) H G (fun _=>True) (Qfx x) where
 go:=fun i H' hi _=>by rw [Qpb] at hi;exact hi
 stop:=fun i H' hi _=>by rw [Qpb] at hi;exact hi
 yld:=fun i H' v H2 hi _ y=>by
  obtain ⟨rfl,c,hc,rfl⟩:=y
  exact ⟨Same.refl _,_,Q4h hc,fun _ _ _=>by unfold Is;rfl⟩
theorem Q0u {tg:Expr} (ha:QE X e (tE p e')):QI X tg e (tW p (.seq (.bi .chs (.cons e' .nil)))):=(Qaab ha).weak fun σ H R zz1=>by
 obtain ⟨G,ρ,F,h⟩:=zz1
 unfold evW evE evA evA at h
 refine ⟨G,ρ,F,(h.bind.imp fun r ρ1 h1=>h1).bind.bind.imp fun r ρ1 h1 v H1 G1 F1 r1=>?_⟩
 replace h1:Fin p (Qa2 H G σ ρ) σ (match Qv ρ1 [r] with | some ts=>Out.opt (Qb6 .chs ts) ρ1 | none=>.no) _:=h1
 cases e:Qv ρ1 [r] with
 | none=>rw [e] at h1;exact False.elim h1
 | some ts =>
  rw [e] at h1
  obtain ⟨t,rfl⟩:∃ t,ts=[t]:=by
   unfold Qv at e
   cases h3:cont ρ1 r with
   | none=>rw [h3] at e;cases e
   | some t=>rw [h3] at e;cases e;exact ⟨t,rfl⟩
  have rs:=PVRs.rdbs (PVRs.cons r1 PVRs.nil) F1 e
  obtain ⟨v',e2,hv⟩:=rs.one
  cases e2
  cases t <;> first | exact False.elim h1 | skip
  rename_i x
  replace h1:Fin p (Qa2 H G σ ρ) σ (Out.opt (if x.length≤90000 then some (PV.fz (.lst (Qfx x))) else none) ρ1) _:=h1
  by_cases hz:x.length≤90000
  ·rw [if_pos hz] at h1
   obtain ⟨_,k⟩:=h1
   exact ⟨x,hv.str,k _ H1 G1 _ F1 Qaac fun _ _ _=>True.intro⟩
  ·rw [if_neg hz] at h1
   exact False.elim h1
variable {st:Stmt}
theorem IsL.rev {H:Hp}:∀ {ts:List T} {vs:List V},IsL H vs ts→IsL H vs.reverse ts.reverse
 | [],vs,r=>by rw [r.nil_inv];exact .nil
 | t::ts,vs,r=>by
  obtain ⟨v,w,rfl,a,q⟩:=r.cons_inv
  rw [List.reverse_cons,List.reverse_cons]
  exact q.rev.append (.one a)
theorem Qaeh {i:Nat} (h:QS X st (Qug (Q79 K "list" Qqa (Qk4 i)))):QS X st (tS p (.rvs i)):=h.weak fun D σ H zz1=>by
 obtain ⟨B,G,ρ,F,hO,h⟩:=zz1
 unfold exS at h
 cases hs:Qd ρ i with
 | un=>rw [hs] at h;exact False.elim h
 | pin _=>rw [hs] at h;exact False.elim h
 | fx _=>rw [hs] at h;exact False.elim h
 | fz t=>rw [hs] at h;exact False.elim h
 | ro t=>rw [hs] at h;exact False.elim h
 | ml t=>rw [hs] at h;exact False.elim h
 | ow u =>
  rw [hs] at h
  cases u <;> first | exact False.elim h | skip
  rename_i ts
  replace h:SFin p B H G D (.nx (ρ.set i (.ow (.lst ts.reverse)))):=h
  obtain ⟨a,sa,g,o1⟩:=F.prvAt (t:=.lst ts) (by rw [hs];rfl)
  obtain ⟨vs,zz,el,il⟩:=o1.lst_inv
  obtain ⟨F4,s4⟩:=F.change (s':=.ow (.lst ts.reverse)) (.inl ⟨hs,rfl⟩) sa il.rev (by rw [List.length_reverse];exact zz)
  exact ⟨_,sa,.inl ⟨rfl,_,SqL.of el⟩,a,vs,rfl,rfl,el,h σ _ G F4 s4⟩
theorem Qaei (K:PySem.W.Frag) (hK:X.K=K) {T:String} {o:Expr} {to:TE} {name:Str} {apos cpos:Pos} {id:String} {r:V→List V→Hp→VK→Prop} (pa:PlainAttrs T) (slot:PySem.Slot T name id) (hty:typeOf (.builtin id)=pure (.type "method_descriptor")) (hm:QMt X id r) (ho:QE X o to)
  (hbase:attributeBase o name X.env (eval o X.env)=eval o X.env:=by rfl) (hline:(apos.endLine==cpos.line)=true:=by rfl):QE X (.Call (.Attribute o name apos) [] [] cpos) (Q79 K T r to):=⟨by subst hK;exact Q8a pa slot hty hm.h ho.h hbase hline⟩
theorem Qaad {h:Heap} {mg:Str→Option Value} {x y:Str} {t:Tok} (X:K.In h) (G:h.Ns mainGlobals mg) (a:PySem.W.nsIn K mainGlobals x=some (some (.str y t))):∃ u,mg x=some u∧RelV (.str y) u:=⟨_,PySem.W.mg_of X G a,t,rfl⟩
end
section
variable {X:Cx} {p:Pr} {a:Expr} {a':E} {pos p2:Pos}
end
section
variable {cf:CF} {ρ:En}
end
end L2
namespace L2
open PySem PySem.Spec PyProof.Rows PySem.W PySem.Calls
variable {X:Cx} {p:Pr} {st:Stmt}
end L2
namespace L2
open PySem PySem.Spec PyProof.Rows PySem.W PySem.Calls
section
variable {X:Cx} {pins:List (Addr×Obj)} {σ σ0:St} {H H0:Hp} {s s0:Shared}
end
section
variable {prog:Program} {w:World} {A:Around} {E:Value→Shared→Prop} {s:Shared} {a kS:Addr} {keys:Array Value} {us:List Value} {kz:List Int} {e e1:Nat} {P:PySem.Fin→Shared→Prop}
end
section
variable {X:Cx} {pins:List (Addr×Obj)} {σ:St} {H:Hp} {s:Shared}
end
section
variable {X:Cx} {x:Str} {ps:List Str} {k:Nat} {sp:Sp} {e eb:Expr} {te:TE} {p1 p2 k1 k2 pos:Pos}
end
section
variable {X:Cx} {p:Pr} {f:Nat} {e':E} {K:PySem.W.Frag}
end
section
variable {X:Cx} {p:Pr} {f k:Nat} {e':E} {x:Str} {ps:List Str} {e:Expr} {p1 p2 k1 k2 kp pos:Pos}
end
end L2
namespace L2
open PySem PySem.Spec PyProof.Rows PySem.W PySem.Calls
section
variable {prog:Program} {w:World} {A:Around} {E:Value→Shared→Prop}
end
section
variable {X:Cx} {pos:Pos}
end
section
variable {X:Cx} {p:Pr} {e':E} {st:Stmt} {K:PySem.W.Frag}
end
end L2
namespace L2
open PySem PySem.Spec PyProof.Rows PySem.W PySem.Calls
section
variable {X:Cx} {p:Pr} {st:Stmt} {B:Bs} {H H1:Hp} {G G1:Addr→Prop} {σ σ1:St} {ρ ρ1:En} {i:Nat} {ts:List T}
end
section
variable {X:Cx} {p:Pr} {e a b:Expr} {e' a' b':E} {pos p1 p2 pos':Pos} {x:Str}
end
section
variable {P:Program} {w:World} {H:Hp}
open Classical in
theorem Qvf {s:Shared} {A:Around} {ts:List T} {vs:List V} {its:List Value} {tx:T} {u:Value} (i1:IsL H vs ts) (r1:Vals vs its) (ok:HOk P w H s.heap) (h1:ts.all (Qo 49)=true) (h2:Qo 49 tx=true) (sx:Shp P w H s.heap tx u) (hu:A.units+64<cLine) :
  ∃ e:Value→Bool,(∀ y,y∈its.toArray→SeqAt.EqAt A.in1 s y u (e y))∧its.toArray.any e=ts.any fun t=>eqT t tx:=by
 have key:∀ (j:Nat) (y:Value),its[j]?=some y→∃ t,ts[j]?=some t∧SeqAt.EqAt A.in1 s y u (eqT t tx):=fun j y hy=>by
  have hj:j<its.length:=by
   rcases Nat.lt_or_ge j its.length with z | z
   ·exact z
   ·rw [List.getElem?_eq_none z] at hy;cases hy
  have l1:j<vs.length:=by rw [r1.length];exact hj
  obtain ⟨y',hy',ry⟩:=r1.get (List.getElem?_eq_getElem l1)
  rw [hy] at hy'
  cases hy'
  obtain ⟨t,ht,it⟩:=i1.get (List.getElem?_eq_getElem l1)
  exact ⟨t,ht,Qzl 49 ok (by show A.units+1+49<cLine;omega) t tx y u (List.all_eq_true.mp h1 t (List.mem_of_getElem? ht)) h2 (it.shp ry ok) sx⟩
 have len:its.length=ts.length:=by rw [←r1.length,i1.length]
 refine ⟨fun y=>decide (∃ (j:Nat) (t:T),its[j]?=some y∧ts[j]?=some t∧eqT t tx=true),fun y hy=>?_,?_⟩
 ·have hy:y∈its:=by simpa using hy
  obtain ⟨j,hj⟩:=List.getElem?_of_mem hy
  obtain ⟨t,ht,et⟩:=key j y hj
  show SeqAt.EqAt A.in1 s y u (decide (∃ (j:Nat) (t:T),its[j]?=some y∧ts[j]?=some t∧eqT t tx=true))
  by_cases z:∃ (j:Nat) (t:T),its[j]?=some y∧ts[j]?=some t∧eqT t tx=true
  ·rw [decide_eq_true z]
   obtain ⟨k,t',hk,hk',e'⟩:=z
   obtain ⟨t2,e2,q⟩:=key k y hk
   rw [hk'] at e2
   cases e2
   rw [e'] at q
   exact q
  ·rw [decide_eq_false z]
   have:eqT t tx=false:=by
    cases e:eqT t tx with
    | false=>rfl
    | true=>exact absurd ⟨j,t,hj,ht,e⟩ z
   rw [this] at et
   exact et
 ·rw [Bool.eq_iff_iff]
  constructor
  ·intro z
   have z:its.any (fun y=>decide (∃ (j:Nat) (t:T),its[j]?=some y∧ts[j]?=some t∧eqT t tx=true))=true:=by simpa only [List.any_toArray] using z
   obtain ⟨y,hy,z⟩:=List.any_eq_true.mp z
   obtain ⟨j,t,_,ht,et⟩:=of_decide_eq_true z
   exact List.any_eq_true.mpr ⟨t,List.mem_of_getElem? ht,et⟩
  ·intro z
   obtain ⟨t,ht,et⟩:=List.any_eq_true.mp z
   obtain ⟨j,hj⟩:=List.getElem?_of_mem ht
   have hl:j<its.length:=by
    rw [len]
    rcases Nat.lt_or_ge j ts.length with z | z
    ·exact z
    ·rw [List.getElem?_eq_none z] at hj;cases hj
   have:its.any (fun y=>decide (∃ (j:Nat) (t:T),its[j]?=some y∧ts[j]?=some t∧eqT t tx=true))=true :=
    List.any_eq_true.mpr ⟨its[j],List.getElem_mem hl,decide_eq_true ⟨j,t,List.getElem?_eq_getElem hl,hj,et⟩⟩
   simpa only [List.any_toArray] using this
end
section
variable {X:Cx} {p:Pr} {a b:Expr} {a' b':E} {pos:Pos}
noncomputable def rInS (neg:Bool):R2:=fun x y H Q=>∃ t t' ts,Is H x t∧Is H y t'∧Qeb t'=some ts∧Qo 49 t=true∧ts.all (Qo 49)=true∧Q (.bl (if neg then !(ts.any fun u=>eqT u t) else ts.any fun u=>eqT u t)) H
theorem Qaek (hu:X.A.units+64<cLine):QOp X (compareOp .In) (rInS false):=⟨by
 intro pins s σ H x y v u Q I rx ry ⟨t,t',ts,i,j,hs,h1,h2,q⟩
 have s1:=i.shp rx I.hok (P:=X.prog) (w:=X.w)
 have s2:=j.shp ry I.hok (P:=X.prog) (w:=X.w)
 cases s2 <;> first | (cases hs;done) | skip
 ·rename_i j1 i1 r1 p1
  cases hs
  obtain ⟨e,he,hq⟩:=Qvf i1 r1 I.hok h2 h1 s1 hu
  exact SeqAt.in_tupleAt e p1 he ⟨.bl _,H,I,rfl,by rw [hq];exact q⟩
 ·rename_i j1 i1 r1 p1
  cases hs
  obtain ⟨e,he,hq⟩:=Qvf i1 r1 I.hok h2 h1 s1 hu
  exact SeqAt.in_listAt e p1 he ⟨.bl _,H,I,rfl,by rw [hq];exact q⟩⟩
theorem Q4i {t u:T} {k:Bool} (e:inO t u=some k):∃ ts,Qeb u=some ts∧Qo 49 t=true∧ts.all (Qo 49)=true∧k=ts.any fun u=>eqT u t:=by
 unfold inO at e
 cases es:Qeb u with
 | none=>rw [es] at e;cases e
 | some ts =>
  rw [es] at e
  have e:(if Qo 49 t=true∧ts.all (Qo 49)=true then some (ts.any fun u=>eqT u t) else none)=some k:=e
  by_cases z:Qo 49 t=true∧ts.all (Qo 49)=true
  ·rw [if_pos z] at e
   exact ⟨ts,rfl,z.1,z.2,(Option.some.inj e).symm⟩
  ·rw [if_neg z] at e;cases e
theorem Qaae:Oc2 (rInS false) (opC .inn):=by
 intro H G x y t u k Q hx hy e q
 obtain ⟨ts,h1,h2,h3,rfl⟩:=Q4i (show inO t u=some k from e)
 exact ⟨t,u,ts,hx.is,hy.is,h1,h2,h3,q⟩
theorem t_in (hu:X.A.units+64<cLine) (ha:QE X a (tE p a')) (hb:QE X b (tE p b')) (hm:behindInMarks .In b=false:=by rfl):QT X (.Compare a [.In] [b] pos) (tT p (.cmp .inn a' b')):=Ql3 (Qaek hu) Qaae ha hb hm
end
section
variable {X:Cx} {k v:Expr} {tk tv:TE} {pos:Pos}
end
section
variable {X:Cx} {p:Pr} {a b:Expr} {a' b':E} {pos:Pos}
end
section
variable {prog:Program} {w:World} {A:Around} {E:Value→Shared→Prop} {s:Shared}
end
section
variable {X:Cx}
end
end L2
namespace L2
open PySem PySem.Spec PyProof.Rows PySem.W
section
variable {prog:Program} {w:World} {A:Around} {E:Value→Shared→Prop} {s:Shared} {it d:Addr} {i ep:Nat} {es:Array DictEntry}
end
section
variable {X:Cx}
end
section
variable {prog:Program} {w:World} {A:Around} {E:Value→Shared→Prop} {h:Heap} {g:Array GenState} {d:Drawn} {t:Nat} {os:OsState} {a:Addr} {its:Array Value} {n:Nat}
end
section
variable {prog:Program} {w:World} {A:Around} {E:Value→Shared→Prop} {s:Shared}
end
section
variable {X:Cx}
end
section
variable {prog:Program} {w:World} {A:Around} {E:Value→Shared→Prop} {s:Shared} {l:Addr} {xs:Array (Int×Tok)}
end
section
variable {X:Cx}
end
section
variable {prog:Program} {w:World} {A:Around} {E:Value→Shared→Prop} {s:Shared} {l:Addr} {xs:Array (Int×Tok)}
end
section
variable {X:Cx}
end
end L2
namespace L2
open PySem PySem.Spec PyProof.Rows PySem.W PySem.Calls
section
variable {prog:Program} {w:World} {A:Around} {E:Value→Shared→Prop} {s:Shared}
end
inductive TupsI (h:Heap):List Value→List (List Int)→Prop
 | nil:TupsI h [] []
 | cons {a:Addr} {its:List Value} {k:List Int} {vs:List Value} {ks:List (List Int)} (ht:h.IsTuple a its.toArray) (hi:IntsAre its k) (t:TupsI h vs ks):TupsI h (.ref a::vs) (k::ks)
section
variable {prog:Program} {w:World} {A:Around} {E:Value→Shared→Prop} {s:Shared}
end
section
variable {prog:Program} {w:World} {A:Around} {E:Value→Shared→Prop} {s:Shared}
end
inductive TupsV (K:PySem.W.Frag) (H:Hp):List V→List (List Int)→Prop
 | nil:TupsV K H [] []
 | cons {b:Addr} {k:List Int} {ys:List V} {ks:List (List Int)} (hq:SqT K H b (k.map V.int)) (t:TupsV K H ys ks):TupsV K H (.ref b::ys) (k::ks)
section
variable {X:Cx}
end
end L2
namespace L2
open PySem PySem.Spec PyProof.Rows PySem.W PySem.Calls
inductive PairI (h:Heap):List Value→List (List Int)→Prop
 | nil:PairI h [] []
 | cons {a b:Addr} {i:Int} {tk:Tok} {its:List Value} {k:List Int} {vs:List Value} {ks:List (List Int)} (ha:h.IsTuple a #[.int i tk,.ref b]) (hb:h.IsTuple b its.toArray) (hi:IntsAre its k) (t:PairI h vs ks):PairI h (.ref a::vs) ((i::k)::ks)
section
variable {prog:Program} {w:World} {A:Around} {E:Value→Shared→Prop} {s:Shared}
end
inductive PairV (K:PySem.W.Frag) (H:Hp):List V→List (List Int)→Prop
 | nil:PairV K H [] []
 | cons {a b:Addr} {i:Int} {k:List Int} {ys:List V} {ks:List (List Int)} (ha:SqT K H a [.int i,.ref b]) (hb:SqT K H b (k.map V.int)) (t:PairV K H ys ks):PairV K H (.ref a::ys) ((i::k)::ks)
section
variable {X:Cx}
end
end L2
namespace L2
open PySem PySem.Spec PyProof.Rows PySem.W PySem.Calls
noncomputable abbrev prO (e:DictEntry):Obj:={ cls:=.type "tuple",data:=.seq #[e.key,e.val] }
section
variable {prog:Program} {w:World} {A:Around} {E:Value→Shared→Prop} {s:Shared} {it d:Addr} {i ep:Nat} {es:Array DictEntry} {x0 x1 ok ov:Value}
end
structure GI (es:Array DictEntry) (lo:Addr) (h:Heap) (as:List Addr):Prop where
 rise:as.Pairwise (· < ·)
 above:∀ a∈as,lo<a
 pairs:∀ (j:Nat) (a:Addr),as[j]?=some a→∃ hj:j<es.size,h.get? a=some (prO es[j])
section
variable {prog:Program} {w:World} {A:Around} {E:Value→Shared→Prop} {s:Shared} {d:Addr} {ep:Nat} {es:Array DictEntry} {R:Result→Shared→Prop}
end
end L2
namespace L2
open PySem PySem.Spec PyProof.Rows PySem.W PySem.Calls
inductive PairR (h:Heap):List Value→List (List Int)→Prop
 | nil:PairR h [] []
 | cons {a b:Addr} {i:Int} {tk:Tok} {its:List Value} {k:List Int} {vs:List Value} {ks:List (List Int)} (ha:h.IsTuple a #[.ref b,.int i tk]) (hb:h.IsTuple b its.toArray) (hi:IntsAre its k) (t:PairR h vs ks):PairR h (.ref a::vs) (k::ks)
section
variable {prog:Program} {w:World} {A:Around} {E:Value→Shared→Prop} {s:Shared}
end
end L2
namespace L2
open PySem PySem.Spec PyProof.Rows PySem.W PySem.Calls
section
variable {X:Cx} {pins:List (Addr×Obj)} {σ σ0:St} {H H0:Hp} {s s0:Shared}
end
section
variable {prog:Program} {w:World} {A:Around} {E:Value→Shared→Prop} {s:Shared} {d:Addr}
end
section
variable {X:Cx}
end
end L2
namespace L2
open PySem PySem.Spec PyProof.Rows PySem.W PySem.Calls
section
variable {X:Cx} {p:Pr} {a:Expr} {a':E} {pos p1 apos cpos:Pos}
end
end L2
namespace L2
open PySem PySem.Spec PyProof.Rows PySem.W PySem.Calls
section
variable {X:Cx}
end
end L2
namespace L2
open PySem PySem.Spec PyProof.Rows PySem.W PySem.Calls
section
variable {X:Cx} {p:Pr} {a b:Expr} {a' b':E} {pos apos:Pos} {K:PySem.W.Frag}
end
end L2
namespace L2
open PySem PySem.Spec PyProof.Rows PySem.W PySem.Calls
section
variable {prog:Program} {w:World} {A:Around} {E:Value→Shared→Prop} {s:Shared}
end
section
variable {X:Cx}
end
end L2
namespace L2
open PySem PySem.Spec PyProof.Rows PySem.W PySem.Calls
section
variable {prog:Program} {w:World} {A:Around} {E:Value→Shared→Prop} {s:Shared}
noncomputable def elt (vs:List Value) (ks:List (List Int)) (j:Nat):Int×Value:=(Q6b (Qqw ks j),vs.getD j Value.none)
structure MOk (ks:List (List Int)) (led:Bool) (r:SetTable×Array Nat):Prop where
 fits:r.1.fits r.2.size=true
 plain:r.1.plain=true
 gave:r.1.gaveWay=false
 led:r.1.led=led
 size:r.2.size≤1000
 lt:∀ x∈r.2,x<ks.length
end
section
variable {prog:Program} {w:World} {A:Around} {R:Result→Shared→Prop} {I:Addr} {fp wr:List Addr} {G:Array GenState→Array GenState→Prop} {n:Nat} {P:Nat→Value→Prop} {St:Nat→Shared→Prop}
end
section
variable {prog:Program} {w:World} {A:Around} {E:Value→Shared→Prop} {s:Shared}
end
end L2
namespace L2
open PySem PySem.Spec PyProof.Rows PySem.W PySem.Calls
section
variable {prog:Program} {w:World} {A:Around} {E:Value→Shared→Prop} {s:Shared}
end
section
variable {X:Cx}
end
end L2
namespace L2
open PySem PySem.Spec PyProof.Rows PySem.W PySem.Calls
section
variable {prog:Program} {w:World} {A:Around} {E:Value→Shared→Prop} {s:Shared}
end
section
variable {prog:Program} {w:World} {A:Around} {R:Result→Shared→Prop} {I:Addr} {fp wr:List Addr} {G:Array GenState→Array GenState→Prop} {n:Nat} {P:Nat→Value→Prop} {St:Nat→Shared→Prop}
end
section
variable {prog:Program} {w:World} {A:Around} {E:Value→Shared→Prop} {s:Shared}
end
section
variable {X:Cx}
end
section
variable {H H1:Hp} {b:Addr} {o:HO}
end
section
variable {X:Cx}
end
section
variable {X:Cx} {p:Pr} {e a b:Expr} {e' a' k':E} {st:Stmt} {pos p1 apos:Pos} {x:Str} {K:PySem.W.Frag}
end
section
variable {prog:Program} {w:World} {A:Around} {R:Result→Shared→Prop} {s:Shared} {l:Addr} {items:Array Value} {c:Nat} {x:Value} {e:Nat→Bool} {j:Nat}
end
section
variable {X:Cx}
variable {p:Pr} {st:Stmt} {e':E} {K:PySem.W.Frag}
end
end L2
namespace L2
open PySem PySem.Spec PyProof.Rows PySem.W
section
variable {X:Cx} {tg l e:Expr} {tl:TE}
end
section
variable {X:Cx} {p:Pr} {tg e:Expr} {e':E}
end
section
variable {B:Bs} {H H1:Hp} {G G1:Addr→Prop} {σ σ1:St} {ρ ρ1:En} {b:Addr} {o:HO}
noncomputable def RowR (H:Hp) (G:Addr→Prop) (r:Addr) (is:List Int):Prop:=¬ G r∧H r=some (.lst (is.map V.int))∧is.length≤1000
noncomputable def TabR (H:Hp) (G:Addr→Prop) (q:Addr×List Addr) (M:List (List Int)):Prop:=¬ G q.1∧H q.1=some (.lst (q.2.map V.ref))∧Paired (RowR H G) q.2 M∧M.length≤1000
noncomputable abbrev Q4j (ps:List (Addr×List Addr)):List Addr:=ps.map (·.1)++ps.flatMap (·.2)
structure Tree (H:Hp) (G:Addr→Prop) (lf:Addr) (ps:List (Addr×List Addr)) (Ms:List (List (List Int))):Prop where
 own:G lf
 top:H lf=some (.lst (ps.map fun q=>V.ref q.1))
 tabs:Paired (TabR H G) ps Ms
 nd:(Q4j ps).Nodup
structure Lv (B:Bs) (iF iR:Nat) (H:Hp) (G:Addr→Prop) (σ:St) (ρ:En) (lf lr:Addr) (ps:List (Addr×List Addr)) (Ms:List (List (List Int))) (rs:List Addr) (R:List (List Int)):Prop where
 F:FI B H G σ ρ
 sF:Qd ρ iF=.ow (.lst (Ms.map Q6e))
 eF:σ[iF]?=some (some (.ref lf))
 sR:Qd ρ iR=.ow (.lst (R.map Q6d))
 eR:σ[iR]?=some (some (.ref lr))
 tr:Tree H G lf ps Ms
 hr:H lr=some (.lst (rs.map V.ref))
 rows:Paired (RowR H G) rs R
 nd:(rs++Q4j ps).Nodup
 fr:∀ b∈rs++Q4j ps,B.H b=none
structure Lf (B:Bs) (iF:Nat) (H:Hp) (G:Addr→Prop) (σ:St) (ρ:En) (lf:Addr) (ps:List (Addr×List Addr)) (Ms:List (List (List Int))):Prop where
 F:FI B H G σ ρ
 sF:Qd ρ iF=.ow (.lst (Ms.map Q6e))
 eF:σ[iF]?=some (some (.ref lf))
 tr:Tree H G lf ps Ms
 fr:∀ b∈Q4j ps,B.H b=none
variable {iF iR iH:Nat} {lf lr:Addr} {ps:List (Addr×List Addr)} {Ms:List (List (List Int))} {rs:List Addr} {R:List (List Int)} {is:List Int}
end
structure Rw (B:Bs) (H:Hp) (G:Addr→Prop) (σ:St) (ρ:En) (l:Addr) (rs:List Addr) (M:List (List Int)):Prop where
 F:FI B H G σ ρ
 g:∀ b∈l::rs,G b
 nd:(l::rs).Nodup
 np:∀ b∈l::rs,∀ k,¬ PrvAt σ ρ k b
 fr:∀ b∈l::rs,B.H b=none
 el:H l=some (.lst (rs.map V.ref))
 row:Paired (fun r (is:List Int)=>H r=some (.lst (is.map V.int))) rs M
section
variable {B:Bs} {H H1 H2 H3:Hp} {G G1:Addr→Prop} {σ:St} {ρ ρ1:En} {l r:Addr} {rs:List Addr} {M:List (List Int)} {is is':List Int} {i y:Nat}
end
section
variable {B:Bs} {H:Hp} {G:Addr→Prop} {σ:St} {ρ:En} {K:PySem.W.Frag} {p:Pr} {D:Ends} {a v:E} {i j k:Nat}
end
section
variable {B:Bs} {H:Hp} {G:Addr→Prop} {σ:St} {ρ:En} {l:Addr} {rs:List Addr} {M M':List (List Int)} {K:PySem.W.Frag} {p:Pr} {i j k w s:Nat} {v:ME} {x:Int} {Q:VK} {D:Ends}
end
theorem argR.mono {H H':Hp} {dx:Option Addr} (s:Same H H'):∀ {arg:List Int},argR H dx arg→argR H' dx arg
 | [],h=>h
 | [_],⟨d,e,q⟩=>⟨d,e,s _ _ q⟩
 | [_,_],⟨d,e,q⟩=>⟨d,e,s _ _ q⟩
 | _::_::_::_,h=>h.elim
noncomputable def ExAt (mg:Str→Option Value) (H:Hp) (a:Addr) (c:Nat) (arg:List Int):Prop:=∃ nm dx,Qbk[c]?=some nm∧H a=some (Qo4 a (.ref (cad mg nm)) dx)∧argR H dx arg
noncomputable def Q0v:T→Option V
 | .non=>some .non
 | .bl b=>some (.bl b)
 | .int i=>some (.int i)
 | .str s=>some (.str s)
 | _=>none
noncomputable def Qvg:List T→Option (List V)
 | []=>some []
 | t::ts=>match Q0v t,Qvg ts with
  | some v,some vs=>some (v::vs)
  | _,_=>none
noncomputable def NewT (H H2:Hp) (v:V) (t:T):Prop:=Q0v t=some v∨∃ ts vs q,t=.tup ts∧ts.length≤1000∧Qvg ts=some vs∧v=.ref q∧H q=none∧H2 q=some (.tup vs)
theorem Qvh {D:Hp} {t:T} {v:V} (h:Q0v t=some v):Is D v t:=by
 cases t <;> first | (cases h;done) | skip
 ·cases h;exact Is.non
 ·cases h;exact Is.bl
 ·cases h;exact Is.int
 ·cases h;exact Is.str
theorem Qq9 {D:Hp}:∀ {ts:List T} {vs:List V},Qvg ts=some vs→IsL D vs ts
 | [],vs,h=>by cases h;exact .nil
 | t::ts,vs,h=>by
  unfold Qvg at h
  split at h
  ·rename_i v ws e1 e2
   cases h
   exact .cons (Qvh e1) (Qq9 e2)
  ·cases h
noncomputable def Q4k (mg:Str→Option Value) (i n:Nat) (h:Nat→List Int→Option T):TS:=fun D σ H=>∃ a c arg t,σ.length=n∧σ[i]?=some (some (.ref a))∧ExAt mg H a c arg∧h c arg=some t∧∀ v H2,Same H H2→NewT H H2 v t→D.rt v H2
section
variable {X:Cx} {p:Pr} {body suite:List Stmt} {b0:Stmt} {n:Str} {np hpos pos:Pos} {i:Nat} {b:S} {h:Nat→List Int→Option T}
theorem Q4l (ex:Exs X.K p.mg) {D:Ends} {σ:St} {H:Hp} (hi:i<σ.length) (q:tS p (.tryR i b h) D σ H):tTry i X.K (cad p.mg "NoughtError") (fun R=>tS ⟨p.cf,R,p.mg⟩ b) (Q4k p.mg i σ.length h) D σ H:=by
 obtain ⟨B,G,ρ,F,hO,q⟩:=q
 unfold exS at q
 refine ⟨fun cls dx σ' H'=>∃ x ρ1 G',FI B H' G' σ' ρ1∧Q3k p.mg H' x cls dx∧exS p.cf b ρ=.xn x ρ1,⟨B,G,ρ,F,hO,?_⟩,?_⟩
 ·cases e:exS p.cf b ρ with
  | nx ρ1=>rw [e] at q;exact q
  | rt r ρ1=>rw [e] at q;exact q
  | bk ρ1=>rw [e] at q;exact q
  | ct ρ1=>rw [e] at q;exact q
  | no=>rw [e] at q;exact q
  | xn x ρ1=>exact fun cls dx σ1 H1 G1 F1 xr=>⟨x,ρ1,G1,F1,xr,rfl⟩
 ·rintro cls dx σ' H' a ⟨x,ρ1,G',F1,xr,e⟩ ha hl
  rw [e] at q
  obtain ⟨nm,hn,rfl,hd⟩:=xr
  refine ⟨⟨_,rfl,ex.sub x.c hn⟩,?_⟩
  dsimp only at q
  cases ht:h x.c x.arg with
  | none=>rw [ht] at q;exact q.elim
  | some t =>
   rw [ht] at q
   have sa:Same H' (upd H' a (Qo4 a (.ref (cad p.mg nm)) dx)):=Same.upd ha
   refine ⟨a,x.c,x.arg,t,by rw [List.length_set,hl],Ql7 (by rw [hl];exact hi),⟨nm,dx,hn,Qp,?_⟩,ht,fun v H2 s2 nw=>?_⟩
   ·exact hd.mono sa
   ·have s3:=sa.trans s2
    have F2:=F1.grow s3
    refine q v σ' H2 G' F2 ?_
    show Is (dls H2 G') v t
    rcases nw with z | ⟨ts,vs,w,rfl,hz,e1,rfl,e2,e3⟩
    ·exact Qvh z
    ·have hw:H' w=none:=by
      cases z:H' w with
      | none=>rfl
      | some o=>rw [sa _ _ z] at e2;cases e2
     have ng:¬ G' w:=fun g=>by
      obtain ⟨_,z,_⟩:=F1.prv w g
      rw [hw] at z
      cases z
     exact .tup (by rw [Qdb ng];exact e3) (Qq9 e1) (by omega)
end
section
variable {X:Cx} {p:Pr} {e:Expr} {es:List Expr} {es':Es} {x nm:Str} {np cpos pos:Pos} {c k:Nat} {D:Ends} {σ:St} {H:Hp}
theorem Qw7 (hx:Qbk[c]?=some nm) (hc:c<6) (h:tS p (.raise c es') D σ H):tA p es' σ H (fun vs H1=>vs.length≤sizeLine∧p.R (.ref (cad p.mg nm)) none σ H1):=by
 obtain ⟨B,G,ρ,F,hO,h⟩:=h
 unfold exS at h
 refine Quy F (Qhg h) fun rs ρ2 vs H2 G2 k F2 _ r2=>?_
 split at k
 ·rw [if_neg (by omega)] at k
  exact False.elim k
 ·rw [if_pos hc] at k
  cases r2 with
  | cons pv r3 =>
   cases r3
   exact ⟨by show 1≤sizeLine;decide,k _ _ σ H2 G2 F2 ⟨nm,hx,rfl,rfl⟩⟩
 ·rw [if_neg (by omega)] at k
  exact False.elim k
 ·exact False.elim k
theorem Qw8 (hx:Qbk[c]?=some nm) (hc:6≤c∧c<9) (h:tS p (.raise c es') D σ H):tA p es' σ H (fun vs H1=>∃ v,vs=[v]∧∀ d,H1 d=none→p.R (.ref (cad p.mg nm)) (some d) σ (upd H1 d (.xd [("at",v)]))):=by
 obtain ⟨B,G,ρ,F,hO,h⟩:=h
 unfold exS at h
 refine Quy F (Qhg h) fun rs ρ2 vs H2 G2 k F2 _ r2=>?_
 split at k
 ·rw [if_pos hc] at k
  cases r2 with
  | cons pv r3 =>
   cases r3
   have e:=pv.is
   unfold Is at e
   subst e
   exact ⟨_,rfl,fun d hd=>k _ _ σ _ G2 (F2.grow (Same.upd hd)) ⟨nm,hx,rfl,d,rfl,Qp⟩⟩
 ·rw [if_neg (by omega)] at k
  exact False.elim k
 ·rw [if_neg (by omega)] at k
  exact False.elim k
 ·exact False.elim k
theorem Q0w (c:Nat) (pz:Qe5 X p.R) (hc:X.calm=true) (ex:Exs X.K p.mg) (hx:Qbk[c]?=some x) (h6:c<6) (ha:QA X (e::es) (tA p es')) (hm:X.mg x=p.mg x:=by rfl) (hg:Gl X x:=by rfl)
  (hdb:(x==("__debug__" : Str))=false:=by decide) (he:starEach (e::es) X.env=(false,eval e X.env)::starEach es X.env:=by rfl) (hpl:(backTo cpos (starEach es X.env)).any (·.1)=false:=by rfl) :
  QS X (.Raise (some (.Call (.Name x np) (e::es) [] cpos)) none pos) (tS p (.raise c es')) :=
 (Q3b pz hc F.excBase_ValueError (ex.rz c h6 hx) (hm.trans (ex.m c x hx)) ha hg hdb he hpl).weak fun D σ H h=>Qw7 hx h6 h
theorem Qra (c:Nat) (pz:Qe5 X p.R) (hc:X.calm=true) (ex:Exs X.K p.mg) (i:Ini X.K (cad p.mg "NoughtError") (cad p.mg x)) (hr:Room k X.A) (hx:Qbk[c]?=some x) (h6:6≤c∧c<9) (ha:QA X [e] (tA p es')) (hm:X.mg x=p.mg x:=by rfl) (hg:Gl X x:=by rfl)
  (hdb:(x==("__debug__" : Str))=false:=by decide) (he:starEach [e] X.env=[(false,eval e X.env)]:=by rfl) :
  QS X (.Raise (some (.Call (.Name x np) [e] [] cpos)) none pos) (tS p (.raise c es')) :=
 (Qzw pz hc i hr (hm.trans (ex.m c x hx)) ha hg hdb he).weak fun D σ H h=>Qw8 hx h6 h
end
section
variable {X:Cx} {p:Pr} {body suite:List Stmt} {b0:Stmt} {n:Str} {np hpos pos:Pos} {i:Nat} {b:S} {h:Nat→List Int→Option T}
theorem Q0x (ex:Exs X.K p.mg) (hb:∀ (pins:List (Addr×Obj)) (R:XR),Qe5 (Qlt X pins R) R→QB (Qlt X pins R) body (tS ⟨p.cf,R,p.mg⟩ b)) (hs:∀ (pins:List (Addr×Obj)) (e:Addr),QB (Qlu X pins e) (b0::suite) (Q4k p.mg i X.N.length h))
  (hN:X.N.Nodup) (hm:X.mg "NoughtError" = p.mg "NoughtError" := by rfl) (hi:X.N[i]?=some n:=by rfl) (hl:X.env.scope.names.lookup n=some .local:=by rfl) (hg:Gl X "NoughtError" := by rfl)
  (hst:∃ env outer L,X.stack=env::outer∧X.env=env∧env.frame=some L:=by exact ⟨_,_,_,rfl,rfl,rfl⟩):QS X (.Try body [.ExceptHandler (some (.Name "NoughtError" np)) (some n) (b0::suite) hpos] [] [] pos) (tS p (.tryR i b h)) :=
 ⟨fun pins s σ H D I z=>(Qadd hb hs hN ex.nou F.excBase_ValueError.hasBase (hm.trans ex.m0) hi hl hg hst (by decide)).h pins s σ H D I (I.len ▸ Q4l ex (by rw [I.len];exact (List.getElem?_eq_some_iff.mp hi).1) z)⟩
end
section
variable {X:Cx} {p:Pr} {body suite:List Stmt} {b0:Stmt} {n:Str} {np hpos pos:Pos} {i j:Nat} {b:S} {h:Nat→List Int→Option T}
end
noncomputable abbrev rLe:R2:=rI0 fun i j=>.bl (decide (i≤j))
theorem Qaaf {p:Pr} {a' b' c':E} {σ:St} {H:Hp} {Q:VK} (h:tE p (.chl a' b' c') σ H Q):Qyd rLe rLe (tE p a') (tE p b') (tE p c') σ H Q:=by
 obtain ⟨G,ρ,F,h⟩:=h
 unfold evE at h
 refine tE2 F h fun ra rb ρ2 x y H2 G2 F2 r1 r2 h2=>?_
 cases ra with
 | ow t=>cases rb <;> exact False.elim h2
 | sl i=>cases rb <;> exact False.elim h2
 | fz t =>
  cases rb with
  | ow u=>cases t <;> exact False.elim h2
  | sl i=>cases t <;> exact False.elim h2
  | fz u =>
   cases t <;> first | exact False.elim h2 | skip
   cases u <;> first | exact False.elim h2 | skip
   rename_i i j
   obtain rfl:=r1.is.int_inv
   obtain rfl:=r2.is.int_inv
   refine ⟨i,j,rfl,rfl,_,rfl,?_⟩
   replace h2:Fin p (Qa2 H G σ ρ) σ (if i≤j then (evE p.cf c' ρ2).bind (fun rc ρ3=>match rc with
    | PV.fz (.int k)=>Out.ok (PV.fz (.bl (decide (j≤k)))) ρ3
    | _=>.no) else Out.ok (PV.fz (.bl false)) ρ2) _:=h2
   by_cases z:i≤j
   ·rw [if_pos z] at h2
    rw [decide_eq_true z,if_pos rfl]
    refine Ql1 F2 h2.bind fun rc ρ3 w H3 G3 h3 F3 F3' r3=>?_
    cases rc with
    | ow t=>exact False.elim h3
    | sl i=>exact False.elim h3
    | fz t =>
     cases t <;> first | exact False.elim h3 | skip
     obtain rfl:=r3.is.int_inv
     exact ⟨_,_,rfl,rfl,h3 _ H3 G3 F3 pvB⟩
   ·rw [if_neg z] at h2
    rw [decide_eq_false z,if_neg Bool.false_ne_true]
    exact h2 _ H2 G2 F2 pvB
section
variable {X:Cx} {p:Pr} {a b c:Expr} {a' b' c':E} {pos:Pos}
theorem Qaen (ha:QE X a (tE p a')) (hb:QE X b (tE p b')) (hc:QE X c (tE p c')) (hm:lastMarks [.LtE,.LtE] [b,c]=false:=by with_unfolding_all rfl):QT X (.Compare a [.LtE,.LtE] [b,c] pos) (tT p (.chl a' b' c')) :=
 (QT.mk (Qye Q5t Q5t ha.h hb.h hc.h hm)).weak fun σ H Q ⟨G,ρ,F,h⟩=>Qaaf ⟨G,ρ,F,(Qhb h).imp fun r ρ1 zz1 v H1 G1 F1 pv=>by
  obtain ⟨b,e,k⟩:=zz1
  subst e
  have i:=pv.is
  unfold Is at i
  exact ⟨b,i,k H1 G1 F1⟩⟩
end
section
variable {prog:Program} {w:World} {A:Around} {E:Value→Shared→Prop} {s:Shared}
end
section
variable {X:Cx} {a b:Expr} {rest:List Expr} {ta tb:TE} {pos:Pos}
end
section
variable {cf:CF} {ρ:En}
end
section
variable {X:Cx} {pins:List (Addr×Obj)} {σ:St} {H:Hp} {s:Shared}
end
section
variable {X:Cx} {p:Pr}
end
section
variable {X:Cx} {p:Pr} {x:Str} {i n:Nat} {e:Expr} {es:List Expr} {es':Es} {p1 pos:Pos}
end
structure LamSc (l:LamT):Prop where
 kind:l.scope.kind=.function
 co:l.scope.isCoroutine=false
 gen:l.scope.isGenerator=false
 nd:(l.ps++l.caps).Nodup
 par:∀ x∈l.ps,l.scope.names.lookup x=some .local
 cap:∀ x∈l.caps,l.scope.names.lookup x=some .free
 nocell:∀ y∈l.scope.names,y.2≠.cell
 free:∀ y∈l.scope.names,y.2=.free→y.1∈l.caps
 bind:∀ (cl:List (Str×Addr)) (pm cdv ctv:Value) (us:List Value),us.length=l.ps.length→bindArgs (PySem.W.kla_fn "<lambda>" l.qual l.params l.body l.scope cl pm cdv ctv) ⟨us,[]⟩=pure (l.ps.zip us)
section
variable {P:Program} {w:World} {K:PySem.W.Frag} {mg:Str→Option Value} {base:Heap}
noncomputable abbrev swX (X:Cx) (g:Str→Bool):Cx:={ X with fn:=g }
structure QB0 (X:Cx) (g:Str→Bool) (st:List Stmt) (t:TS):Prop where
 h:∀ (pins:List (Addr×Obj)) (s:Shared) (σ:St) (H:Hp) (D:Ends),Inv X pins σ H s→t D σ H→wpAny (model X.prog X.w) X.A (execs st X.env) (SP (swX X g) pins D) X.xe s
end
noncomputable abbrev Tbs:=List (Addr×Str)
section
variable {K:PySem.W.Frag} {tb:Addr} {ms:Tbs} {qn:Str} {mg:Str→Option Value}
structure MakesL (K:PySem.W.Frag) (mg:Str→Option Value) (x:Str) (c tb:Addr):Prop where
 tab:K.lookup tb=none
 of:Qs7 K mg x (.ref c)
 hd:∃ o vs file tf flags tg inF text tt,K.lookup c=some o∧o.cls=.type "code" ∧ o.data=.fields vs∧vs[11]?=some (.ref tb)∧vs.getD 11 .none=.ref tb∧vs.getD 18 .none=.str file tf∧vs.getD 7 .none=.int flags tg∧vs.getD 9 .none=.bool inF∧vs.getD 10 .none=.int text tt
end
section
variable {X:Cx} {p:Pr} {x:Str} {e:Expr} {es:List Expr} {es':Es} {p1 pos:Pos}
end
section
variable {K:PySem.W.Frag} {ms:Tbs}
end
noncomputable abbrev uns (n:Nat):En:=List.replicate n .un
theorem Qdl (n i:Nat):Qd (uns n) i=.un:=by
 unfold Qd uns
 rw [List.getElem?_replicate]
 split <;> rename_i e
 ·split at e <;> cases e
  rfl
 ·rfl
noncomputable abbrev bs0 (H:Hp):Bs:=⟨H,fun _=>False,fun _=>False,fun _=>False,fun _ _=>False⟩
theorem Qaag (H:Hp) {σ:St} {n:Nat} (hl:σ.length=n):FI (bs0 H) H (fun _=>False) σ (uns n) where
 len:=by rw [hl,List.length_replicate]
 slot:=fun i=>by rw [Qdl];trivial
 apart:=fun i j a h _=>by obtain ⟨⟨t,e⟩,_⟩:=h;rw [Qdl] at e;cases e
 prv:=fun b h=>h.elim
 chg:=fun _ _ _ _ e=>e
 keep:=fun _ o e=>⟨o,e⟩
 newO:=fun a h=>by obtain ⟨i,t,e,_⟩:=h;rw [Qdl] at e;cases e
 newM:=fun a h=>by obtain ⟨i,t,e,_⟩:=h;rw [Qdl] at e;cases e
 fix:=fun i a h=>by obtain ⟨⟨t,e⟩,_⟩:=h;rw [Qdl] at e;rcases e with e | e | e <;> cases e
 gg:=fun _ h=>h
 gn:=fun _ h=>.inl h
 bp:=fun _ h=>h.elim
noncomputable def Qme (K:PySem.W.Frag):Sp:=fun vs H Q _=>∃ (a:Addr) (ns:List Int) (k:Nat),vs=[.ref a,.int k]∧SqL K H a (ns.map V.int)∧∀ i:Int,Q (.int i) H
noncomputable abbrev Q0y (K:PySem.W.Frag) (hi:Int):TI:=Q21 K (tOp (Qnu K) (Q5z (Qh7 (Qko (Qme K) [] E0 (Qh7 (Qk4 0) (Qh7 (tC (.int 0)) Qp9))) Qp9)) (tSl (Qyy K) (Qk4 0) (Quo (tC (.int 1))) (Quo (tC (.int hi)))))
theorem Q0z {p:Pr} {K:PySem.W.Frag} {σ:St} {H:Hp} {D:Ends} {a:Addr} {ns:List Int} {ic n:Nat} {body:S} {hi:Int} (hσ:σ[0]?=some (some (.ref a))) (hs:SqL K H a (ns.map V.int)) (hns:ns.length≤63) (hl:σ.length=n) (hic:ic<n)
  (hb:∀ m:Int,∃ ρ',exS p.cf body ((uns n).set ic (.fz (.int m)))=.nx ρ'∧ρ'.length=n) (hD:∀ σ' H',D.nx σ' H'):Qya (Q0y K hi) (Qgx ic) (tS p body) D σ H:=by
 refine ⟨_,hσ,a,ns,0,rfl,hs,fun c0=>⟨by show 1≤sizeLine;decide,fun l7 n7=>?_⟩⟩
 have hs7:=(Same.upd (o:=.lst [.int c0]) n7).seq hs
 refine ⟨_,hσ,_,rfl,_,rfl,.inl ⟨a,_,rfl,hs7,fun l8 n8=>?_⟩⟩
 have n78:l7≠l8:=Qbr Qp n8
 have hcl:=Qg7 (ns.map V.int) (some 1) (some hi)
 refine .inr (.inl ⟨l7,l8,_,_,rfl,rfl,by rw [Q2 n78,Qp],Qp,?_,fun l9 n9=>?_⟩)
 ·refine Qc2 ?_
  rw [List.length_map] at hcl
  show 1+_≤100000
  omega
 generalize hH9:upd (upd (upd H l7 (.lst [.int c0])) l8 (.lst (Qg6 (ns.map V.int) (some 1) (some hi)))) l9 (.lst ([.int c0]++Qg6 (ns.map V.int) (some 1) (some hi)))=H9
 have e9:H9 l9=some (.lst ([.int c0]++Qg6 (ns.map V.int) (some 1) (some hi))):=by rw [←hH9,Qp]
 have allI:∀ x∈[V.int c0]++Qg6 (ns.map V.int) (some 1) (some hi),∃ i:Int,x=.int i:=fun x hx=>by
  rcases List.mem_append.mp hx with hx | hx
  ·exact ⟨c0,List.mem_singleton.mp hx⟩
  ·have hx:=List.mem_of_mem_drop (List.mem_of_mem_take hx)
   obtain ⟨n,_,e⟩:=List.mem_map.mp hx
   exact ⟨n,e.symm⟩
 refine ⟨l9,rfl,.inl ⟨⟨_,SqL.of e9⟩,Qyb (K:=K) (a:=l9) (xs:=[V.int c0]++Qg6 (ns.map V.int) (some 1) (some hi)) (fun i σ H10=>σ.length=n∧H10 l9=some (.lst ([.int c0]++Qg6 (ns.map V.int) (some 1) (some hi)))) ⟨hl,e9⟩ (fun i σ H10 _ h=>SqL.of h.2) ?_ ?_⟩⟩
 ·rintro i x σ2 H2 hx ⟨hl2,e2⟩
  obtain ⟨m,rfl⟩:=allI x (List.mem_of_getElem? hx)
  obtain ⟨ρ',eb,lb⟩:=hb m
  have F0:=(Qaag H2 hl2).setFz (i:=ic) (v:=.int m) (t:=.int m) (by rw [List.length_replicate];exact hic) Is.int
  refine ⟨bs0 H2,fun _=>False,_,F0,fun _ z=>z,?_⟩
  rw [eb]
  exact fun σ1 H1 G1 F1 _=>⟨by rw [F1.len,lb],F1.chg l9 _ (fun z=>z) (fun z=>z) e2⟩
 ·rintro σ2 H2 _
  exact hD σ2 H2
noncomputable def Qto (K:PySem.W.Frag):Sp:=fun vs H Q _=>∃ (a:Addr) (ns:List Int),vs=[.ref a]∧SqL K H a (ns.map V.int)∧ns.length≤63∧∀ H',Q (.bl true) H'
noncomputable def Qjg:Slot→Bool
 | .ml _=>false
 | _=>true
theorem Qvi:∀ {ρ:En},ρ.all Qjg=true→∀ k t,Qd ρ k≠.ml t
 | [],_,k,t,e=>by rw [Qf9] at e;cases e
 | s::ρ,h,0,t,e=>by
  rw [Qa] at e
  subst e
  simp [Qjg] at h
 | s::ρ,h,k+1,t,e=>by
  rw [List.all_cons,Bool.and_eq_true] at h
  rw [Qb] at e
  exact Qvi h.2 k t e
theorem Qmf {js:List (Option Nat)} {ρi:En} (h:ρi.all Qjg=true):∀ (ρ:En) (n:Nat),Qdo js ρi n ρ=ρ
 | [],_=>rfl
 | s::ρ,n=>by
  unfold Qdo
  rw [Qmf h ρ (n+1)]
  rcases Qdt js ρi n s with e | ⟨k,t,_,e,_⟩
  ·rw [e]
  ·exact absurd e (Qvi h k t)
theorem Q4m {js:List (Option Nat)} {ρi ρ:En} (h:ρi.all Qjg=true):Qm8 js ρi ρ=ρ:=Qmf h ρ 0
theorem Qrb:∀ {ρ0 ρ:En},ρ0.all Qjg=true→ρ0.length=ρ.length→Qgz ρ0 ρ=true
 | [],[],_,_=>rfl
 | [],_::_,_,h=>by cases h
 | _::_,[],_,h=>by cases h
 | s0::ρ0,s::ρ,h,hl=>by
  rw [List.all_cons,Bool.and_eq_true] at h
  have q:=Qrb (ρ0:=ρ0) (ρ:=ρ) h.2 (by simpa using hl)
  cases s0 <;> first | exact q | (simp [Qjg] at h)
noncomputable def Qg4:Slot→Bool
 | .un=>true
 | .fz _=>true
 | _=>false
theorem Qrc {s:Slot} {rest:En} {x:T} (h:Qg4 s=true):Qha (.nm 0) x (s::rest)=some (.fz x::rest):=by
 cases s <;> first | rfl | cases h
theorem Qmg {c:En→Out Bool} {el:En→Out PV} {rest:En} {g:T→Bool} {f:T→T}:∀ {xs acc:List T} {s0:Slot},Qg4 s0=true→(∀ x∈xs,c (.fz x::rest)=.ok (g x) (.fz x::rest))→(∀ x∈xs,g x=true→∃ r,el (.fz x::rest)=.ok r (.fz x::rest)∧frz r=some (f x))→acc.length+xs.length≤100000 →
  ∃ s,Qe7 (.nm 0) c el xs acc (s0::rest)=.ok (acc++(xs.filter g).map f) (s::rest)∧Qg4 s=true
 | [],acc,s0,h0,hc,he,hz=>⟨s0,by unfold Qe7;simp,h0⟩
 | x::xs,acc,s0,h0,hc,he,hz=>by
  rw [List.length_cons] at hz
  have ih:=fun acc' (hz':acc'.length+xs.length≤100000)=>Qmg (c:=c) (el:=el) (rest:=rest) (g:=g) (f:=f) (xs:=xs) (acc:=acc') (s0:=.fz x) rfl (fun y hy=>hc y (List.mem_cons_of_mem _ hy)) (fun y hy=>he y (List.mem_cons_of_mem _ hy)) hz'
  unfold Qe7
  rw [Qrc h0]
  simp only [hc x List.mem_cons_self,Out.bind]
  cases hg:g x with
  | false =>
   obtain ⟨s,e,o⟩:=ih acc (by omega)
   refine ⟨s,?_,o⟩
   simp only [Bool.false_eq_true,if_false,e,List.filter_cons,hg]
  | true =>
   obtain ⟨r,er,fr⟩:=he x List.mem_cons_self hg
   simp only [if_true,er,fr]
   have za:acc.length<100000:=by omega
   rw [if_pos za]
   obtain ⟨s,e,o⟩:=ih (acc++[f x]) (by rw [List.length_append,List.length_singleton];omega)
   refine ⟨s,?_,o⟩
   simp only [e,List.filter_cons,hg,if_true,List.map_cons,List.append_assoc,List.singleton_append]
theorem Qvj {cf:CF} {w:W} {js:List (Option Nat)} {cs:Es} {e:E} {ρ rest:En} {xs:List T} {g:T→Bool} {f:T→T} (hw:evW cf w ρ=.ok (xs,none) ρ) (hcap:Qfl js ρ=.un::rest) (hml:rest.all Qjg=true) (hap:Qdd js=true)
  (hc:∀ x∈xs,evC cf cs (.fz x::rest)=.ok (g x) (.fz x::rest)) (he:∀ x∈xs,g x=true→∃ r,evE cf e (.fz x::rest)=.ok r (.fz x::rest)∧frz r=some (f x)) (hz:xs.length≤100000) :
  evE cf (.comp w js (.nm 0) cs e) ρ=.ok (.ow (.lst ((xs.filter g).map f))) ρ:=by
 obtain ⟨s,e1,o⟩:=Qmg (c:=evC cf cs) (el:=evE cf e) (rest:=rest) (g:=g) (f:=f) (xs:=xs) (acc:=[]) (s0:=.un) rfl hc he (by simpa using hz)
 have hs:(s::rest).all Qjg=true:=by
  rw [List.all_cons,hml]
  cases s <;> first | rfl | cases o
 unfold evE
 rw [hw]
 simp only [Out.bind,hcap,e1]
 rw [if_pos ⟨Qrb (by rw [List.all_cons,hml];rfl) rfl,hap⟩,Q4m hs]
 rfl
theorem Qbu {cf:CF} {w:W} {js:List (Option Nat)} {e:E} {ρ rest:En} {xs:List T} {f:T→T} (hw:evW cf w ρ=.ok (xs,none) ρ) (hcap:Qfl js ρ=.un::rest) (hml:rest.all Qjg=true) (hap:Qdd js=true)
  (he:∀ x∈xs,∃ r,evE cf e (.fz x::rest)=.ok r (.fz x::rest)∧frz r=some (f x)) (hz:xs.length≤100000) :
  evE cf (.comp w js (.nm 0) .nil e) ρ=.ok (.ow (.lst (xs.map f))) ρ:=by
 rw [Qvj (g:=fun _=>true) (f:=f) hw hcap hml hap (fun x _=>by unfold evC;rfl) (fun x hx _=>he x hx) hz,List.filter_eq_self.mpr (fun _ _=>rfl)]
theorem Qmh {tg:Tg} {b:En→SO} (J:Nat→En→Prop):∀ {xs:List T} {n:Nat} {ρ:En},J n ρ→(∀ (i:Nat) x ρ,xs[i]?=some x→J (n+i) ρ→∃ ρ1 ρ2,Qha tg x ρ=some ρ1∧(b ρ1=.nx ρ2∨b ρ1=.ct ρ2)∧J (n+i+1) ρ2)→∃ ρ',Qd4 tg b xs ρ=.nx ρ'∧J (n+xs.length) ρ'
 | [],n,ρ,h,_=>⟨ρ,rfl,h⟩
 | x::xs,n,ρ,h,hs=>by
  obtain ⟨ρ1,ρ2,e1,e2,j⟩:=hs 0 x ρ rfl h
  obtain ⟨ρ',e3,j3⟩:=Qmh (tg:=tg) (b:=b) J (xs:=xs) (n:=n+1) (ρ:=ρ2) (by simpa using j) fun i y ρ hy hj=>by
   have:=hs (i+1) y ρ (by rw [List.getElem?_cons_succ];exact hy) (by rw [show n+(i+1)=n+1+i by omega];exact hj)
   rw [show n+(i+1)+1=n+1+i+1 by omega] at this
   exact this
  refine ⟨ρ',?_,by rw [List.length_cons,show n+(xs.length+1)=n+1+xs.length by omega];exact j3⟩
  unfold Qd4
  rw [e1]
  rcases e2 with e2 | e2 <;> simp only [e2] <;> exact e3
noncomputable def Q4n (Q:Df→Prop):List Df→Prop
 | []=>True
 | d::ds=>Q d∧Q4n Q ds
theorem Qpc {Q:Df→Prop}:∀ {ds:List Df},Q4n Q ds→∀ (f:Nat) (d:Df),ds[f]?=some d→Q d
 | [],_,f,d,e=>by simp at e
 | c::ds,h,0,d,e=>by simp at e;subst e;exact h.1
 | c::ds,h,f+1,d,e=>by rw [List.getElem?_cons_succ] at e;exact Qpc h.2 f d e
variable {cf:CF} {ρ ρ1 ρ2:En} {α β:Type}
theorem Qy {a:α} {k:α→En→Out β}:(Out.ok a ρ).bind k=k a ρ:=rfl
noncomputable def Q1 (i:Nat) (ρ:En):Slot→Out PV
 | .fz t=>.ok (.fz t) ρ
 | .un=>.no
 | .pin _=>.no
 | .fx t=>.ok (.fz t) ρ
 | _=>.ok (.sl i) ρ
theorem Qk {i:Nat}:evE cf (.var i) ρ=Q1 i ρ (Qd ρ i):=by rw [evE];cases Qd ρ i <;> rfl
theorem Qai {i:Int}:evE cf (.int i) ρ=.ok (.fz (.int i)) ρ:=by rw [evE]
theorem Qm9 {i:Bool}:evE cf (.bl i) ρ=.ok (.fz (.bl i)) ρ:=by rw [evE]
theorem Qf1:evE cf .non ρ=.ok (.fz .non) ρ:=by rw [evE]
theorem Qbd {i:Str}:evE cf (.str i) ρ=.ok (.fz (.str i)) ρ:=by rw [evE]
noncomputable def Qw9 (rs:List PV) (ρ:En):Out PV:=match Qcl rs with
 | some ts=>if ts.length≤100000 then .ok (.fz (.tup ts)) ρ else .no
 | none=>.no
noncomputable def Qep (rs:List PV) (ρ:En):Out PV:=match Qcl rs with
 | some ts=>if ts.length≤100000 then .ok (.ow (.lst ts)) ρ else .no
 | none=>.no
theorem Qrd {es:Es}:evE cf (.tup es) ρ=(evA cf es ρ).bind Qw9:=by rw [evE];rfl
theorem Qcm {es:Es}:evE cf (.lst es) ρ=(evA cf es ρ).bind Qep:=by rw [evE];rfl
noncomputable def Qcr (o:BOp) (ρ:En):Option T→Option T→Out PV
 | some x,some y=>.opt (opB o x y) ρ
 | _,_=>.no
noncomputable def Qcs (o:BOp) (ra rb:PV) (ρ:En):Out PV:=Qcr o ρ (cont ρ ra) (cont ρ rb)
noncomputable def Qct (cf:CF) (o:BOp) (b:E) (ra:PV) (ρ:En):Out PV:=(evE cf b ρ).bind (Qcs o ra)
theorem Qc6 {o:BOp} {a b:E}:evE cf (.bin o a b) ρ=(evE cf a ρ).bind (Qct cf o b):=by rw [evE];rfl
noncomputable def Q4o:PV→En→Out PV
 | .fz (.int i),ρ=>.ok (.fz (.int (-i))) ρ
 | _,_=>.no
theorem Q00 {a:E}:evE cf (.neg a) ρ=(evE cf a ρ).bind Q4o:=by rw [evE];congr 1;funext r ρ1;cases r with
 | fz t=>cases t <;> rfl
 | ow t=>rfl
 | sl i=>rfl
noncomputable def yBl:PV→En→Out Bool
 | .fz (.bl b),ρ=>.ok b ρ
 | _,_=>.no
theorem Qr {o:Out PV}:Qat o=o.bind yBl:=by unfold Qat;congr 1;funext r ρ1;cases r with
 | fz t=>cases t <;> rfl
 | ow t=>rfl
 | sl i=>rfl
noncomputable def Qef (b:Bool) (ρ:En):Out PV:=.ok (.fz (.bl (!b))) ρ
theorem Qca {a:E}:evE cf (.not a) ρ=(Qat (evE cf a ρ)).bind Qef:=by rw [evE];rfl
noncomputable def yB (b:Bool) (ρ:En):Out PV:=.ok (.fz (.bl b)) ρ
noncomputable def Qna (cf:CF) (b:E):Bool→En→Out PV
 | true,ρ=>(Qat (evE cf b ρ)).bind yB
 | false,ρ=>.ok (.fz (.bl false)) ρ
noncomputable def yOr (cf:CF) (b:E):Bool→En→Out PV
 | false,ρ=>(Qat (evE cf b ρ)).bind yB
 | true,ρ=>.ok (.fz (.bl true)) ρ
theorem Qjh {a b:E}:evE cf (.and a b) ρ=(Qat (evE cf a ρ)).bind (Qna cf b):=by rw [evE];congr 1;funext c ρ1;cases c <;> rfl
theorem Qdw {a b:E}:evE cf (.or a b) ρ=(Qat (evE cf a ρ)).bind (yOr cf b):=by rw [evE];congr 1;funext c ρ1;cases c <;> rfl
noncomputable def Qnb (cf:CF) (a b:E):Bool→En→Out PV
 | true,ρ=>evE cf a ρ
 | false,ρ=>evE cf b ρ
theorem Qji {c a b:E}:evE cf (.ite c a b) ρ=(Qat (evE cf c ρ)).bind (Qnb cf a b):=by rw [evE];congr 1;funext c ρ1;cases c <;> rfl
noncomputable def Qap (ρ:En):Option Bool→Out PV
 | some k=>.ok (.fz (.bl k)) ρ
 | none=>.no
noncomputable def Qaq (o:COp) (ρ:En):Option T→Option T→Out PV
 | some x,some y=>Qap ρ (opC o x y)
 | _,_=>.no
noncomputable def Qar (o:COp) (ra rb:PV) (ρ:En):Out PV:=Qaq o ρ (cont ρ ra) (cont ρ rb)
noncomputable def Qas (cf:CF) (o:COp) (b:E) (ra:PV) (ρ:En):Out PV:=(evE cf b ρ).bind (Qar o ra)
theorem Qau {o:COp} {a b:E}:evE cf (.cmp o a b) ρ=(evE cf a ρ).bind (Qas cf o b):=by
 rw [evE]
 rfl
noncomputable def Qe9 (n:String) (ρ:En):Option T→Out PV
 | some t=>if Qic n && !Qda t then .ok (.fz (.bl (Qe3 (tyT t) n))) ρ else .no
 | none=>.no
noncomputable def Qjj (n:String) (ra:PV) (ρ:En):Out PV:=Qe9 n ρ (cont ρ ra)
theorem Qf2 {a:E} {n:String}:evE cf (.isI a n) ρ=(evE cf a ρ).bind (Qjj n):=by
 rw [evE]
 rfl
theorem Q6 {f:Nat} {es:Es}:evE cf (.call f es) ρ=(evA cf es ρ).bind (Qkr cf f):=by rw [evE]
theorem Qaeo {t:T}:evE cf (.lit t) ρ=.ok (.fz t) ρ:=by rw [evE]
noncomputable def Qax (b:Bi) (ρ:En):Option (List T)→Out PV
 | some ts=>.opt (Qb6 b ts) ρ
 | none=>.no
noncomputable def yBi (b:Bi) (rs:List PV) (ρ:En):Out PV:=Qax b ρ (Qv ρ rs)
theorem Qaz {b:Bi} {es:Es}:evE cf (.bi b es) ρ=(evA cf es ρ).bind (yBi b):=by
 rw [evE]
 rfl
noncomputable def Qj8 (ρ:En):Option T→Out PV
 | some t=>.ok (.fz t) ρ
 | none=>.no
noncomputable def Qj9 (ρ:En):Option T→Option T→Out PV
 | some x,some y=>Qj8 ρ (Qz2 x y)
 | _,_=>.no
noncomputable def Qka (ra rb:PV) (ρ:En):Out PV:=Qj9 ρ (cont ρ ra) (cont ρ rb)
noncomputable def Qkb (cf:CF) (b:E) (ra:PV) (ρ:En):Out PV:=(evE cf b ρ).bind (Qka ra)
theorem Qk7 {a b:E}:evE cf (.ix a b) ρ=(evE cf a ρ).bind (Qkb cf b):=by
 rw [evE]
 rfl
noncomputable def Qxa (l h:Option Int) (ρ:En):Option T→Out PV
 | some x=>.opt (Q3j x l h) ρ
 | none=>.no
noncomputable def Qoj (ra:PV) (l:Option Int) (ρ:En):Option (Option Int)→Out PV
 | none=>.no
 | some h=>Qxa l h ρ (cont ρ ra)
noncomputable def Qxb (ra:PV) (l:Option Int) (rh:List PV) (ρ:En):Out PV:=Qoj ra l ρ (Qj2 rh)
noncomputable def Qok (cf:CF) (hi:Es) (ra:PV) (ρ:En):Option (Option Int)→Out PV
 | none=>.no
 | some l=>(evA cf hi ρ).bind (Qxb ra l)
noncomputable def Qxc (cf:CF) (hi:Es) (ra:PV) (rl:List PV) (ρ:En):Out PV:=Qok cf hi ra ρ (Qj2 rl)
noncomputable def Qxd (cf:CF) (lo hi:Es) (ra:PV) (ρ:En):Out PV:=(evA cf lo ρ).bind (Qxc cf hi ra)
theorem Qre {a:E} {lo hi:Es}:evE cf (.slc a lo hi) ρ=(evE cf a ρ).bind (Qxd cf lo hi):=by
 rw [evE]
 rfl
noncomputable def Qaep (l:Bool):PV→En→Out PV
 | .fz (.int j),ρ=>if j.natAbs≤100000 then .ok (if l then .ow (.lst (Qcd 0 j.toNat)) else .fz (.tup (Qcd 0 j.toNat))) ρ else .no
 | _,_=>.no
theorem Qaah {l:Bool} {a:E}:evE cf (.tupR l a) ρ=(evE cf a ρ).bind (Qaep l):=by
 rw [evE]
 congr 1;funext r ρ1
 cases r with
 | fz t=>cases t <;> rfl
 | ow t=>rfl
 | sl i=>rfl
theorem Ql:evA cf .nil ρ=.ok [] ρ:=by rw [evA]
noncomputable def yC2 (r:PV) (rs:List PV) (ρ:En):Out (List PV):=.ok (r::rs) ρ
noncomputable def yC1 (cf:CF) (es:Es) (r:PV) (ρ:En):Out (List PV):=(evA cf es ρ).bind (yC2 r)
theorem Qg {e:E} {es:Es}:evA cf (.cons e es) ρ=(evE cf e ρ).bind (yC1 cf es):=by rw [evA];rfl
noncomputable def Qkx (r:PV) (ρ:En):Option (List T)→Out (List T×Option Nat)
 | some ts=>.ok (ts,Qg3 r) ρ
 | none=>.no
noncomputable def Qky (r:PV) (ρ:En):Option T→Out (List T×Option Nat)
 | some t=>Qkx r ρ (Qeb t)
 | none=>.no
noncomputable def Qrf (r:PV) (ρ:En):Out (List T×Option Nat):=Qky r ρ (cont ρ r)
theorem Qmi {e:E}:evW cf (.seq e) ρ=(evE cf e ρ).bind Qrf:=by
 rw [evW]
 rfl
noncomputable def Q01:PV→En→Out (List T×Option Nat)
 | .fz (.int j),ρ=>if j.natAbs≤100000 then .ok (Qcd 0 j.toNat,none) ρ else .no
 | _,_=>.no
theorem Qkc {a:E}:evW cf (.rng1 a) ρ=(evE cf a ρ).bind Q01:=by
 rw [evW]
 congr 1;funext r ρ1
 cases r with
 | fz t=>cases t <;> rfl
 | ow t=>rfl
 | sl i=>rfl
noncomputable def Qaai:PV→PV→En→Out (List T×Option Nat)
 | .fz (.int i),.fz (.int j),ρ=>if i.natAbs≤100000∧j.natAbs≤100000 then .ok (Qcd i (j-i).toNat,none) ρ else .no
 | _,_,_=>.no
noncomputable def Q6s (cf:CF) (b:E) (r:PV) (ρ:En):Out (List T×Option Nat):=(evE cf b ρ).bind (Qaai r)
theorem Qaaj {a b:E}:evW cf (.rng2 a b) ρ=(evE cf a ρ).bind (Q6s cf b):=by
 rw [evW]
 congr 1;funext r ρ1
 show _=(evE cf b ρ1).bind _
 congr 1;funext r2 ρ2
 cases r with
 | fz t=>cases t <;> cases r2 <;> first | rfl | (rename_i u;cases u <;> rfl)
 | ow t=>cases r2 <;> rfl
 | sl i=>cases r2 <;> rfl
noncomputable def Q6t:PV→PV→En→Out (List T×Option Nat)
 | .fz (.tup xs),.fz (.tup ys),ρ=>.ok (Qth xs ys,none) ρ
 | .fz (.lst xs),.fz (.tup ys),ρ=>.ok (Qth xs ys,none) ρ
 | .fz (.lst xs),.fz (.lst ys),ρ=>.ok (Qth xs ys,none) ρ
 | _,_,_=>.no
noncomputable def yZip (cf:CF) (b:E) (r:PV) (ρ:En):Out (List T×Option Nat):=(evE cf b ρ).bind (Q6t r)
theorem Qaer {a b:E}:evW cf (.zip a b) ρ=(evE cf a ρ).bind (yZip cf b):=by
 rw [evW]
 congr 1;funext r ρ1
 show _=(evE cf b ρ1).bind _
 congr 1;funext r2 ρ2
 cases r with
 | fz t=>cases t <;> cases r2 <;> first | rfl | (rename_i u;cases u <;> rfl)
 | ow t=>cases r2 <;> rfl
 | sl i=>cases r2 <;> rfl
noncomputable def Qvk (r:PV) (ρ:En):Option T→Out (List T×Option Nat)
 | some (.lst ts)=>.ok (Qk5 0 ts,Qg3 r) ρ
 | some (.tup ts)=>.ok (Qk5 0 ts,Qg3 r) ρ
 | _=>.no
noncomputable def Q4p (r:PV) (ρ:En):Out (List T×Option Nat):=Qvk r ρ (cont ρ r)
theorem Q02 {e:E}:evW cf (.enm e) ρ=(evE cf e ρ).bind Q4p:=by
 rw [evW]
 rfl
noncomputable def Q3 (rs:List PV) (ρ:En):FR→Out PV
 | .ok r fin=>.ok r (Qa1 ρ rs fin)
 | .xn x fin=>.xn x (Qa1 ρ rs fin)
 | .no=>.no
noncomputable def Q4 (cf:CF) (f:Nat) (rs:List PV) (ρ:En):Option (List Arg)→Out PV
 | some as=>Q3 rs ρ (cf f as)
 | none=>.no
theorem Q4q {f:Nat} {rs:List PV} (h:Qu rs=true):Qkr cf f rs ρ=Q4 cf f rs ρ (Qx ρ rs):=by
 unfold Qkr
 rw [if_pos h]
 cases Qx ρ rs with
 | none=>rfl
 | some as =>
  show (match cf f as with | .ok r fin=>Out.ok r (Qa1 ρ rs fin) | .xn x fin=>.xn x (Qa1 ρ rs fin) | .no=>.no)=Q3 rs ρ (cf f as)
  cases cf f as <;> rfl
theorem Qac {a:α} {k:α→En→SO}:ofO (.ok a ρ) k=k a ρ:=rfl
theorem Qaak {a:α} {k:α→SO}:Qad (some a) k=k a:=rfl
theorem Qbf {k:En→SO}:(SO.nx ρ).seq k=k ρ:=rfl
theorem Qd5 {r:PV} {k:En→SO}:(SO.rt r ρ).seq k=.rt r ρ:=rfl
theorem Qch:exS cf .nil ρ=.nx ρ:=by rw [exS]
theorem Q0 {a b:S}:exS cf (.seq a b) ρ=(exS cf a ρ).seq (exS cf b):=by rw [exS]
noncomputable def Qrg (_:PV) (ρ:En):SO:=.nx ρ
theorem Qim {e:E}:exS cf (.expr e) ρ=ofO (evE cf e ρ) Qrg:=by rw [exS];rfl
theorem Qkz {i:Nat} {e:E}:exS cf (.set i e) ρ=ofO (evE cf e ρ) (Ql0 i):=by rw [exS]
noncomputable def Qal (i:Nat) (ρ:En):Option T→SO
 | some t=>Qad (Qbn i (.fz t) ρ) .nx
 | none=>.no
noncomputable def Qbh (i:Nat) (r:PV) (ρ:En):SO:=Qal i ρ (frz r)
theorem Qam {i:Nat} {e:E}:exS cf (.setF i e) ρ=ofO (evE cf e ρ) (Qbh i):=by
 rw [exS]
 rfl
noncomputable def yUnp (is:List Nat):PV→En→SO
 | .fz (.tup ts),ρ=>Qad (Qcx is ts ρ) .nx
 | _,_=>.no
theorem Q6u {is:List Nat} {e:E}:exS cf (.unp is e) ρ=ofO (evE cf e ρ) (yUnp is):=by
 rw [exS]
 congr 1;funext r ρ1
 cases r with
 | fz t=>cases t <;> rfl
 | ow t=>rfl
 | sl i=>rfl
noncomputable def Qk0 (i:Nat) (ρ:En) (t:T):Slot→SO
 | .ow (.lst ts)=>if ts.length<100000 then .nx (ρ.set i (.ow (.lst (ts++[t])))) else .no
 | .ml (.lst ts)=>if ts.length<100000 then .nx (ρ.set i (.ml (.lst (ts++[t])))) else .no
 | _=>.no
noncomputable def Qk1 (i:Nat) (ρ:En):Option T→SO
 | none=>.no
 | some t=>Qk0 i ρ t (Qd ρ i)
noncomputable def Qpd (i:Nat) (r:PV) (ρ:En):SO:=Qk1 i ρ (frz r)
theorem Qaes {i:Nat} {e:E} (h:(Qd ρ i).mut=true):exS cf (.app i e) ρ=ofO (evE cf e ρ) (Qpd i):=by
 rw [exS,if_pos h]
 rfl
noncomputable def Q6v (i:Nat) (ρ:En) (us:List T):Slot→SO
 | .ow (.lst ts)=>if ts.length+us.length≤100000 then .nx (ρ.set i (.ow (.lst (ts++us)))) else .no
 | .ml (.lst ts)=>if ts.length+us.length≤100000 then .nx (ρ.set i (.ml (.lst (ts++us)))) else .no
 | _=>.no
noncomputable def yExt (i:Nat):PV→En→SO
 | .fz (.tup us),ρ=>Q6v i ρ us (Qd ρ i)
 | _,_=>.no
theorem Qaet {i:Nat} {e:E} (h:(Qd ρ i).mut=true):exS cf (.ext i e) ρ=ofO (evE cf e ρ) (yExt i):=by
 rw [exS,if_pos h]
 congr 1;funext r ρ1
 cases r with
 | fz t=>cases t <;> rfl
 | ow t=>rfl
 | sl i=>rfl
noncomputable def Qvl (i:Nat) (t:T) (j:Int) (ρ:En):Slot→SO
 | .ow (.lst ts)=>Qad (ixN ts.length j) fun n=>.nx (ρ.set i (.ow (.lst (ts.set n t))))
 | .ml (.lst ts)=>Qad (ixN ts.length j) fun n=>.nx (ρ.set i (.ml (.lst (ts.set n t))))
 | _=>.no
noncomputable def Qrh (i:Nat) (t:T):PV→En→SO
 | .fz (.int j),ρ=>Qvl i t j ρ (Qd ρ i)
 | _,_=>.no
noncomputable def Qvm (cf:CF) (i:Nat) (k:E) (ρ:En):Option T→SO
 | none=>.no
 | some t=>if (Qd ρ i).mut=true then ofO (evE cf k ρ) (Qrh i t) else .no
noncomputable def Q03 (cf:CF) (i:Nat) (k:E) (r:PV) (ρ:En):SO:=Qvm cf i k ρ (frz r)
theorem Q04 {i:Nat} {k e:E}:exS cf (.put i k e) ρ=ofO (evE cf e ρ) (Q03 cf i k):=by
 rw [exS]
 congr 1;funext r ρ1
 unfold Q03
 cases frz r with
 | none=>rfl
 | some t =>
  show _=(if (Qd ρ1 i).mut=true then ofO (evE cf k ρ1) (Qrh i t) else .no)
  by_cases h:(Qd ρ1 i).mut=true
  ·simp only [if_pos h]
   congr 1;funext rk ρ2
   cases rk with
   | fz u=>cases u <;> rfl
   | ow u=>rfl
   | sl j=>rfl
  ·simp only [if_neg h]
theorem Qin {i:Nat} {e:E}:exS cf (.app i e) ρ=if (Qd ρ i).mut=true then ofO (evE cf e ρ) (Qpd i) else .no:=by
 by_cases h:(Qd ρ i).mut=true
 ·rw [if_pos h,Qaes h]
 ·rw [if_neg h,exS,if_neg h]
theorem Qaan {i:Nat} {e:E}:exS cf (.ext i e) ρ=if (Qd ρ i).mut=true then ofO (evE cf e ρ) (yExt i) else .no:=by
 by_cases h:(Qd ρ i).mut=true
 ·rw [if_pos h,Qaet h]
 ·rw [if_neg h,exS,if_neg h]
theorem Qw {f:Nat} {rs:List PV}:Qkr cf f rs ρ=if Qu rs=true then Q4 cf f rs ρ (Qx ρ rs) else .no:=by
 by_cases h:Qu rs=true
 ·rw [if_pos h,Q4q h]
 ·rw [if_neg h];unfold Qkr;rw [if_neg h]
noncomputable def Qbv (r:PV) (ρ:En):SO:=.rt r ρ
theorem Qah {e:E}:exS cf (.ret e) ρ=ofO (evE cf e ρ) Qbv:=by rw [exS];rfl
theorem Qaao:exS cf .retN ρ=.rt (.fz .non) ρ:=by rw [exS]
noncomputable def yIf (cf:CF) (a b:S):Bool→En→SO
 | true,ρ=>exS cf a ρ
 | false,ρ=>exS cf b ρ
theorem Qav {c:E} {a b:S}:exS cf (.ite c a b) ρ=ofO (Qat (evE cf c ρ)) (yIf cf a b):=by rw [exS];congr 1;funext k ρ1;cases k <;> rfl
noncomputable def Qmj (cf:CF) (tg:Tg) (b:S):List T×Option Nat→En→SO
 | (ts,none),ρ=>Qd4 tg (exS cf b) ts ρ
 | (_,some _),_=>.no
theorem Qjk {w:W} {tg:Tg} {b:S}:exS cf (.for_ w tg b) ρ=Qlz (ofO (evW cf w ρ) (Qmj cf tg b)):=by
 rw [exS]
 congr 2;funext its ρ1
 obtain ⟨ts,lk⟩:=its
 cases lk <;> rfl
theorem Qaap {w:W} {tg:Tg} {b:S}:exS cf (.forX w tg b) ρ=ofO (evW cf w ρ) (Qmj cf tg b):=by
 rw [exS]
 congr 1;funext its ρ1
 obtain ⟨ts,lk⟩:=its
 cases lk <;> rfl
noncomputable def Qaj (r:PV):Option (List T)→FR
 | some fin=>.ok r fin
 | none=>.no
noncomputable def Qan (o:Option (List T)):Option PV→FR
 | some r=>Qaj r o
 | none=>.no
noncomputable def Qb4 (as:List Arg):SO→FR
 | .nx ρ=>Qaj (.fz .non) (Qt as ρ)
 | .rt r ρ=>Qan (Qt as ρ) (Qae ρ r)
 | .xn x ρ=>match Qt as ρ with
  | some fin=>.xn x fin
  | none=>.no
 | _=>.no
theorem Qbi {fn:Fn} {as:List Arg} (h:as.length=fn.ps):Qbx cf fn as=Qb4 as (exS cf fn.body (Qfm fn as)):=by
 unfold Qbx
 rw [if_pos h]
 cases exS cf fn.body (Qfm fn as) with
 | nx ρ=>show (match Qt as ρ with | some fin=>FR.ok (.fz .non) fin | none=>.no)=Qaj _ (Qt as ρ);cases Qt as ρ <;> rfl
 | rt r ρ =>
  show (match Qae ρ r,Qt as ρ with | some r,some fin=>FR.ok r fin | _,_=>.no)=Qan (Qt as ρ) (Qae ρ r)
  cases Qae ρ r <;> cases Qt as ρ <;> rfl
 | xn x ρ=>rfl
 | bk ρ=>rfl
 | ct ρ=>rfl
 | no=>rfl
section
variable {b:Bool} {i:Int} {x:Str} {ts:List T}
theorem Qaaq:Qic "int" = true:=rfl
theorem Q4r:Qic "bool" = true:=rfl
theorem Qci:Qic "tuple" = true:=rfl
theorem Q4s:Qic "list" = true:=rfl
theorem Qtp:Qe3 (tyT (.int i)) "int" = true:=rfl
theorem Qri:Qe3 (tyT (.int i)) "bool" = false:=rfl
theorem Qgd:Qe3 (tyT (.int i)) "tuple" = false:=rfl
theorem Qtq:Qe3 (tyT (.tup ts)) "int" = false:=rfl
theorem Qrj:Qe3 (tyT (.tup ts)) "bool" = false:=rfl
theorem Qbo:Qe3 (tyT (.tup ts)) "tuple" = true:=rfl
theorem Qrk:Qe3 (tyT (.tup ts)) "list" = false:=rfl
theorem Qrl:Qe3 (tyT (.lst ts)) "list" = true:=rfl
end
theorem Q05 {as:List Arg} {ρ:En}:Qb4 as (.nx ρ)=Qaj (.fz .non) (Qt as ρ):=rfl
theorem Q7 {as:List Arg} {ρ:En} {r:PV}:Qb4 as (.rt r ρ)=Qan (Qt as ρ) (Qae ρ r):=rfl
theorem Qge {ρ:En}:Qlz (.nx ρ)=.nx ρ:=rfl
theorem Qpe {ρ:En} {r:PV}:Qlz (.rt r ρ)=.rt r ρ:=rfl
theorem Qdx {α:Type} (g:α→Bool):∀ (xs:List α),Qj1 (xs.map fun x=>T.bl (g x))=some (xs.map g)
 | []=>rfl
 | x::xs=>by
  rw [List.map_cons,List.map_cons]
  unfold Qj1
  rw [Qdx g xs]
  rfl
theorem Qol (n:Nat) (xs:List Int):Qo (n+1) (.tup (xs.map T.int))=true:=by
 rw [Qo,List.all_eq_true]
 intro t ht
 obtain ⟨i,_,rfl⟩:=List.mem_map.mp ht
 simp [Qo]
theorem Qrm:∀ (xs ys:List Int),eqL (xs.map T.int) (ys.map T.int)=decide (xs=ys)
 | [],[]=>by rw [List.map_nil,Qi5];rfl
 | [],y::ys=>by rw [Qhv (by simp)];simp
 | x::xs,[]=>by rw [Qhv (by simp)];simp
 | x::xs,y::ys=>by
  rw [List.map_cons,List.map_cons,Qfv,Qrm xs ys,eqT]
  by_cases h:x=y
  ·subst h;simp
  ·simp [h]
theorem Q4t {xs ys:List Int}:eqO (.tup (xs.map T.int)) (.tup (ys.map T.int))=some (decide (xs=ys)):=by
 show (if _ then _ else _)=_
 rw [if_pos ⟨Qol 49 xs,Qol 49 ys⟩,eqT,Qrm]
theorem at_0 {a:T} {l:List T}:atI (a::l) 0=some a:=by
 have:atI (a::l) ((0:Nat):Int)=some a:=Qcb rfl
 exact this
theorem at_1 {a b:T} {l:List T}:atI (a::b::l) 1=some b:=by
 have:atI (a::b::l) ((1:Nat):Int)=some b:=Qcb rfl
 exact this
theorem Q06 {n:Nat}:ixN (n+1) 0=some 0:=by
 unfold ixN
 rw [if_pos (by omega),if_pos (by omega)]
 rfl
inductive All2 (F:T→T→Prop):List T→List T→Prop where
 | nil:All2 F [] []
 | cons {x y xs ys}:F x y→All2 F xs ys→All2 F (x::xs) (y::ys)
inductive Ran (F:T→T→Prop):List T→List T→Prop where
 | nil:Ran F [] []
 | skip {x xs ys}:Ran F xs ys→Ran F (x::xs) ys
 | take {x y xs ys}:F x y→Ran F xs ys→Ran F (x::xs) (y::ys)
variable {cf:CF} {P:T→Prop} {F:T→T→Prop} {rest:T→En}
theorem Qom {el:En→Out PV}:∀ {xs acc:List T} {s0:Slot} {q:T},Qg4 s0=true→P q→(∀ x∈xs,∀ q,P q→∃ r y q',el (.fz x::rest q)=.ok r (.fz x::rest q')∧frz r=some y∧P q'∧F x y)→acc.length+xs.length≤100000 →
  ∃ s ys q',Qe7 (.nm 0) (evC cf .nil) el xs acc (s0::rest q)=.ok (acc++ys) (s::rest q')∧Qg4 s=true∧P q'∧All2 F xs ys
 | [],acc,s0,q,h0,hp,he,hz=>⟨s0,[],q,by unfold Qe7;simp,h0,hp,.nil⟩
 | x::xs,acc,s0,q,h0,hp,he,hz=>by
  rw [List.length_cons] at hz
  obtain ⟨r,y,q1,er,fr,p1,f1⟩:=he x List.mem_cons_self q hp
  obtain ⟨s,ys,q2,e2,o,p2,f2⟩:=Qom (el:=el) (xs:=xs) (acc:=acc++[y]) (s0:=.fz x) (q:=q1) rfl p1 (fun z hz=>he z (List.mem_cons_of_mem _ hz)) (by rw [List.length_append,List.length_singleton];omega)
  refine ⟨s,y::ys,q2,?_,o,p2,.cons f1 f2⟩
  unfold Qe7
  rw [Qrc h0]
  have ec:evC cf .nil (.fz x::rest q)=.ok true (.fz x::rest q):=by rw [evC]
  simp only [ec,Out.bind,if_true,er,fr]
  have za:acc.length<100000:=by omega
  rw [if_pos za,e2,List.append_assoc,List.singleton_append]
theorem Q07 {w:W} {js:List (Option Nat)} {e:E} {ρ:En} {ρ':T→En} {xs:List T} {q:T} (hq:P q) (hw:evW cf w ρ=.ok (xs,none) ρ) (hcap:Qfl js ρ=.un::rest q) (hk:∀ s q',Qgz (.un::rest q) (s::rest q')=true) (hap:Qdd js=true) (hb:∀ s q',Qg4 s=true→Qm8 js (s::rest q') ρ=ρ' q')
  (he:∀ x∈xs,∀ q,P q→∃ r y q',evE cf e (.fz x::rest q)=.ok r (.fz x::rest q')∧frz r=some y∧P q'∧F x y) (hz:xs.length≤100000) :
  ∃ ys q',evE cf (.comp w js (.nm 0) .nil e) ρ=.ok (.ow (.lst ys)) (ρ' q')∧P q'∧All2 F xs ys:=by
 obtain ⟨s,ys,q',e1,o,p1,f1⟩:=Qom (cf:=cf) (el:=evE cf e) (rest:=rest) (P:=P) (F:=F) (xs:=xs) (acc:=[]) (s0:=.un) (q:=q) rfl hq he (by simpa using hz)
 refine ⟨ys,q',?_,p1,f1⟩
 unfold evE
 rw [hw]
 simp only [Out.bind,hcap,e1]
 rw [if_pos ⟨hk s q',hap⟩,hb s q' o]
 rfl
theorem rngI {j:Int} {ρ:En} (h0:0≤j) (h:j≤100000):Q01 (.fz (.int j)) ρ=.ok (Qcd 0 j.toNat,none) ρ:=by
 show (if j.natAbs≤100000 then _ else _)=_
 rw [if_pos (by omega)]
theorem Q08 {n:Nat} {ρ:En} (h:n≤100000):Q01 (.fz (.int (n:Int))) ρ=.ok (Qcd 0 n,none) ρ:=by
 rw [rngI (by omega) (by omega),Int.toNat_natCast]
theorem Qpf {α:Type} {xs:List α}:Qj1 (xs.map fun _=>T.bl true)=some (xs.map fun _=>true):=Qdx (fun _=>true) xs
theorem Qtr {α:Type} {xs:List α}:(xs.map fun _=>true).all id=true:=by rw [List.all_eq_true];intro b hb;obtain ⟨_,_,rfl⟩:=List.mem_map.mp hb;rfl
theorem Qb8 {i j:Int}:eqO (.int i) (.int j)=some (decide (i=j)):=rfl
theorem Qaat:eqO .non .non=some true:=rfl
theorem Qaau {i:Int}:eqO (.int i) .non=some false:=rfl
theorem Qaav {i:Int}:eqO .non (.int i)=some false:=rfl
theorem Q09 {xs:List Int}:eqO (.tup (xs.map T.int)) (.tup [])=some (decide (xs=[])):=Q4t (xs:=xs) (ys:=[])
theorem Qaaw:eqO (.tup []) (.tup [])=some true:=by
 have:=Q09 (xs:=[])
 simpa using this
theorem Qeq {a:Addr} {n i:Nat}:Qd (.pin a::uns n) i=.un∨(i=0∧Qd (.pin a::uns n) i=.pin a):=by
 cases i with
 | zero=>exact .inr ⟨rfl,rfl⟩
 | succ i=>left;rw [Qb];exact Qdl n i
theorem Qaax (H:Hp) {σ:St} {n:Nat} {a:Addr} (hl:σ.length=n+1) (h0:σ[0]?=some (some (.ref a))):FI (bs0 H) H (fun _=>False) σ (.pin a::uns n) where
 len:=by rw [hl,List.length_cons,List.length_replicate]
 slot:=fun i=>by
  rcases Qeq (a:=a) (n:=n) (i:=i) with e | ⟨rfl,e⟩
  ·rw [e];trivial
  ·rw [e];exact h0
 apart:=fun i j b h _=>by
  obtain ⟨⟨t,e⟩,_⟩:=h
  rcases Qeq (a:=a) (n:=n) (i:=i) with z | ⟨_,z⟩ <;> rw [z] at e <;> cases e
 prv:=fun b h=>h.elim
 chg:=fun _ _ _ _ e=>e
 keep:=fun _ o e=>⟨o,e⟩
 newO:=fun b h=>by
  obtain ⟨i,t,e,_⟩:=h
  rcases Qeq (a:=a) (n:=n) (i:=i) with z | ⟨_,z⟩ <;> rw [z] at e <;> cases e
 newM:=fun b h=>by
  obtain ⟨i,t,e,_⟩:=h
  rcases Qeq (a:=a) (n:=n) (i:=i) with z | ⟨_,z⟩ <;> rw [z] at e <;> cases e
 fix:=fun i b h=>by
  obtain ⟨⟨t,e⟩,_⟩:=h
  rcases Qeq (a:=a) (n:=n) (i:=i) with z | ⟨_,z⟩ <;> rw [z] at e <;> rcases e with e | e | e <;> cases e
 gg:=fun _ h=>h
 gn:=fun _ h=>.inl h
 bp:=fun _ h=>h.elim
noncomputable abbrev Q6w (p:Pr) (K:PySem.W.Frag) (pre:S) (ic:Nat) (hi:Int) (body:S):TS:=Qx2 (tS p pre) (Qx2 (Qya (Q0y K hi) (Qgx ic) (tS p body)) (Qx4 (tC (.bl true))))
theorem Q4u {p:Pr} {K:PySem.W.Frag} {H:Hp} {vs:List V} {Q:VK} {E:XK} {N:List Str} {pre:S} {ic:Nat} {hi:Int} {body:S} (h:Qto K vs H Q E) (hN:1≤N.length) (hic:ic<N.length)
  (hc:∀ a:Addr,∃ ρ',exS p.cf pre (.pin a::uns (N.length-1))=.nx (.pin a::ρ')∧ρ'.length=N.length-1)
  (hb:∀ m:Int,∃ ρ',exS p.cf body ((uns N.length).set ic (.fz (.int m)))=.nx ρ'∧ρ'.length=N.length):Q6w p K pre ic hi body { nx:=fun _ H'=>Q .non H',rt:=Q } (Qbs N vs) H:=by
 obtain ⟨a,ns,rfl,hs,hns,q⟩:=h
 have hl:(Qbs N [.ref a]).length=N.length:=by unfold Qbs;simp only [List.length_append,List.length_map,List.length_replicate,List.length_cons,List.length_nil];omega
 obtain ⟨ρ',e,hρ⟩:=hc a
 refine ⟨bs0 H,fun _=>False,_,Qaax H (n:=N.length-1) (by rw [hl];omega) (Qoa rfl),fun _ z=>z,?_⟩
 rw [e]
 intro σ1 H1 G1 F1 _
 have h0:σ1[0]?=some (some (.ref a)):=F1.slot 0
 have hl1:σ1.length=N.length:=by rw [F1.len,List.length_cons,hρ];omega
 have s1:Same H H1:=fun b o eb=>F1.chg b o (fun z=>z) (fun z=>z) eb
 exact Q0z h0 (s1.seq hs) hns hl1 hic hb fun σ' H'=>q H'
end L2
namespace L2
variable {i j:Int} {a b:List T} {x y:T} {lo hi:Option Int} {c:Bool}
theorem uo1:opB .add (.int i) (.int j)=some (.fz (.int (i+j))):=rfl
theorem uo2:opB .add (.tup a) (.tup b)=if a.length+b.length≤100000 then some (.fz (.tup (a++b))) else none:=rfl
theorem uo4:opB .sub (.int i) (.int j)=some (.fz (.int (i-j))):=rfl
theorem uo5:opB .mul (.int i) (.int j)=if Qfw i j=true then some (.fz (.int (i*j))) else none:=rfl
theorem uo6:opB .mul (.tup a) (.int j)=if a.length*j.toNat≤100000∧1≤j∧j.natAbs≤100000∧a≠[] then some (.fz (.tup (List.replicate j.toNat a).flatten)) else none:=rfl
theorem uo7:opB .fdv (.int i) (.int j)=if 0<j∧j.natAbs<2^64 then some (.fz (.int (i / j))) else if j≠0∧j.natAbs.log2<9000 then some (.fz (.int (i.fdiv j))) else none:=rfl
theorem uo8:opB .mod (.int i) (.int j)=if 0<j then some (.fz (.int (i%j))) else if j<0 then some (.fz (.int (i.fmod j))) else none:=rfl
theorem uo9:opB .pow (.int i) (.int j)=if 0≤j∧j.natAbs≤1000000∧i.natAbs<2^64 then some (.fz (.int (i^j.toNat))) else none:=rfl
theorem uc1:opC .eq x y=eqO x y:=rfl
theorem uc2:opC .ne x y=(eqO x y).map (!·):=rfl
theorem uc3:opC .lt (.int i) (.int j)=some (decide (i<j)):=rfl
theorem uc4:opC .le (.int i) (.int j)=some (decide (i≤j)):=rfl
theorem uc5:opC .gt (.int i) (.int j)=some (decide (j<i)):=rfl
theorem uc6:opC .ge (.int i) (.int j)=some (decide (j≤i)):=rfl
theorem uc7:opC .isn x .non=some (Qg9 x):=rfl
theorem uc8:opC .isnn x .non=some (!Qg9 x):=rfl
theorem ui1:Qz2 (.lst a) (.int i)=atI a i:=rfl
theorem ui2:Qz2 (.tup a) (.int i)=atI a i:=rfl
theorem ui3:Q3j (.lst a) lo hi=some (.ow (.lst (Qbb a lo hi))):=rfl
theorem ui4:Q3j (.tup a) lo hi=some (.fz (.tup (Qbb a lo hi))):=rfl
theorem ub1:Qb6 .len [.lst a]=some (.fz (.int a.length)):=rfl
theorem ub2:Qb6 .len [.tup a]=some (.fz (.int a.length)):=rfl
theorem ub3:Qb6 .all [.lst a]=(Qj1 a).map fun bs=>.fz (.bl (bs.all id)):=rfl
theorem ub4:Qb6 .any [.lst a]=(Qj1 a).map fun bs=>.fz (.bl (bs.any id)):=rfl
theorem ub5:Qb6 .sum [.lst a]=(Qh4 a).map fun is=>.fz (.int is.sum):=rfl
theorem ub6:Qb6 .max [.int i,.int j]=some (.fz (.int (if j>i then j else i))):=rfl
theorem ub7:Qb6 .dvm [.int i,.int j]=if 0<j∧j.natAbs<2^64 then some (.fz (.tup [.int (i / j),.int (i%j)])) else none:=rfl
theorem ub8:Qb6 .int [.bl c]=some (.fz (.int (if c then 1 else 0))):=rfl
theorem ub9:Qb6 .tup [.lst a]=some (.fz (.tup a)):=rfl
section
variable {cf:CF} {ρ:En}
end
section
variable {cf:CF} {ρ ρ1 ρ2:En}
end
section
variable {fA f0:En→SO} {fc:En→Out Bool} {fV f1 f2:En→Out PV} {iF iR iH iW iS iT iN:Nat} {Ms:List (List (List Int))} {R M:List (List Int)} {is:List Int} {ρ ρ1 ρ2 ρ3:En}
end
noncomputable def Qvn (K:PySem.W.Frag):Bool:=match K.getLast? with
 | some (_,o)=>(match o.data with
  | .fields a=>a.size != 2&&(a.size != 4&&a.size != 6)
  | _=>true)
 | none=>true
theorem Qaeu {K:PySem.W.Frag} (h:Qvn K=true) (a:PySem.Addr) (q:PySem.Str):¬ Qxx K a q:=fun zz1=>by
 obtain ⟨b,fs,e,hs,_⟩:=zz1
 unfold Qvn at h
 rw [e] at h
 dsimp only at h
 rcases hs with z | z | z <;> rw [z] at h <;> cases h
section
variable {cf:CF} {ρ ρ1 ρ2:En}
end
end L2
namespace L2
open PySem PySem.Spec PyProof.Rows
section
variable {cf:CF} {ρ:En} {x:Xn} {α β:Type}
theorem Q1a {k:α→En→SO}:ofO (Out.xn x ρ:Out α) k=.xn x ρ:=rfl
theorem q_xn {k:En→SO}:(SO.xn x ρ).seq k=.xn x ρ:=rfl
noncomputable def yXn (x:Xn):Option (List T)→FR
 | some fin=>.xn x fin
 | none=>.no
theorem Qmk {as:List Arg}:Qb4 as (.xn x ρ)=yXn x (Qt as ρ):=by
 show (match Qt as ρ with | some fin=>FR.xn x fin | none=>.no)=_
 cases Qt as ρ <;> rfl
theorem Qhk {fin:List T}:yXn x (some fin)=.xn x fin:=rfl
noncomputable def Qts (c:Nat) (rs:List PV) (ρ1:En):SO:=match rs with
 | [.fz (.int i)]=>if 6≤c∧c<9 then .xn ⟨c,[i]⟩ ρ1 else .no
 | [.fz (.str _)]=>if c<6 then .xn ⟨c,[]⟩ ρ1 else .no
 | [.fz (.int i),.fz (.int j)]=>if c=9 then .xn ⟨c,[i,j]⟩ ρ1 else .no
 | _=>.no
theorem Qpg {c:Nat} {es:Es}:exS cf (.raise c es) ρ=ofO (evA cf es ρ) (Qts c):=by rw [exS];rfl
noncomputable def Q4v (h:Nat→List Int→Option T):SO→SO
 | .xn x ρ1=>match h x.c x.arg with
  | some t=>.rt (.fz t) ρ1
  | none=>.no
 | o=>o
theorem Qtt {i:Nat} {b:S} {h:Nat→List Int→Option T}:exS cf (.tryR i b h) ρ=Q4v h (exS cf b ρ):=by
 rw [exS]
 cases exS cf b ρ <;> rfl
theorem Qaaz {h:Nat→List Int→Option T} {r:PV}:Q4v h (.rt r ρ)=.rt r ρ:=rfl
end
section
variable {X:Cx} {p:Pr} {a:Expr} {a':E} {pos p1 p2:Pos}
end
end L2
set_option maxHeartbeats 4000000
namespace My
open PySem L2
noncomputable def top (i:Nat):Stmt:=PySem.Challenge.pw_noughtways_k73_tables_written_and_read.main.body.getD i (.Pass ⟨0,0,0,0⟩)
theorem Qfn {x:Str} {st:Stmt} {p0:Str} (h:∀ (kV doc pm:Value) (an:Option Addr) (cdv ct:Value) (a0:Value),bindArgs (PySem.W.fnOf x x (Qbe st) (Qaa st) (Qf st) .none kV doc pm an cdv ct) ⟨[a0],[]⟩=pure [(p0,a0)]):Qag x st [p0]:=fun a b c d e f us hl=>match us,hl with | [a0],_=>h a b c d e f a0
theorem Qtu {x:Str} {st:Stmt} {p0 p1:Str} (h:∀ (kV doc pm:Value) (an:Option Addr) (cdv ct:Value) (a0 a1:Value),bindArgs (PySem.W.fnOf x x (Qbe st) (Qaa st) (Qf st) .none kV doc pm an cdv ct) ⟨[a0,a1],[]⟩=pure [(p0,a0),(p1,a1)]):Qag x st [p0,p1]:=fun a b c d e f us hl=>match us,hl with | [a0,a1],_=>h a b c d e f a0 a1
theorem bdN3 {x:Str} {st:Stmt} {p0 p1 p2:Str} (h:∀ (kV doc pm:Value) (an:Option Addr) (cdv ct:Value) (a0 a1 a2:Value),bindArgs (PySem.W.fnOf x x (Qbe st) (Qaa st) (Qf st) .none kV doc pm an cdv ct) ⟨[a0,a1,a2],[]⟩=pure [(p0,a0),(p1,a1),(p2,a2)]):Qag x st [p0,p1,p2]:=fun a b c d e f us hl=>match us,hl with | [a0,a1,a2],_=>h a b c d e f a0 a1 a2
noncomputable abbrev Qgf:Stmt:=top 14
theorem Qrn:FnScope ["thing"] ["thing"] (Qf Qgf):=⟨rfl,rfl,rfl,by decide +kernel,rfl,by decide +kernel,by decide +kernel⟩
theorem Qro:Qag "is_whole" Qgf ["thing"]:=Qfn fun _ _ _ _ _ _ _=>rfl
noncomputable abbrev Qjl:Stmt:=top 15
theorem Qxe:FnScope ["thing","size"] ["thing","size"] (Qf Qjl):=⟨rfl,rfl,rfl,by decide +kernel,rfl,by decide +kernel,by decide +kernel⟩
theorem Qxf:Qag "is_row" Qjl ["thing","size"]:=Qtu fun _ _ _ _ _ _ _ _=>rfl
noncomputable abbrev Qhy:Stmt:=top 16
theorem Qtv:FnScope ["thing"] ["thing"] (Qf Qhy):=⟨rfl,rfl,rfl,by decide +kernel,rfl,by decide +kernel,by decide +kernel⟩
theorem Qtw:Qag "is_grid" Qhy ["thing"]:=Qfn fun _ _ _ _ _ _ _=>rfl
noncomputable abbrev Qeg:Stmt:=top 17
theorem Qnc:FnScope ["thing"] ["thing"] (Qf Qeg):=⟨rfl,rfl,rfl,by decide +kernel,rfl,by decide +kernel,by decide +kernel⟩
theorem Qnd:Qag "need_table" Qeg ["thing"]:=Qfn fun _ _ _ _ _ _ _=>rfl
noncomputable abbrev Qdf:Stmt:=top 21
theorem Qcy:FnScope ["number","parts","left"] ["number"] (Qf Qdf):=⟨rfl,rfl,rfl,by decide +kernel,rfl,by decide +kernel,by decide +kernel⟩
theorem Qk8:Qag "number_shown" Qdf ["number"]:=Qfn fun _ _ _ _ _ _ _=>rfl
noncomputable abbrev Qcz:Stmt:=top 22
theorem Qkd:FnScope ["numbers"] ["numbers"] (Qf Qcz):=⟨rfl,rfl,rfl,by decide +kernel,rfl,by decide +kernel,by decide +kernel⟩
theorem Qke:Qag "numbers_shown" Qcz ["numbers"]:=Qfn fun _ _ _ _ _ _ _=>rfl
noncomputable abbrev Qdp:Stmt:=top 23
theorem Qml:FnScope ["table"] ["table"] (Qf Qdp):=⟨rfl,rfl,rfl,by decide +kernel,rfl,by decide +kernel,by decide +kernel⟩
theorem Qmm:Qag "table_shown" Qdp ["table"]:=Qfn fun _ _ _ _ _ _ _=>rfl
noncomputable abbrev Qfa:Stmt:=top 24
theorem Qjm:FnScope ["word","figures"] ["word"] (Qf Qfa):=⟨rfl,rfl,rfl,by decide +kernel,rfl,by decide +kernel,by decide +kernel⟩
theorem Qph:Qag "is_number" Qfa ["word"]:=Qfn fun _ _ _ _ _ _ _=>rfl
noncomputable abbrev Qb1:Stmt:=top 25
theorem Qdy:FnScope ["text","many","words"] ["text","many"] (Qf Qb1):=⟨rfl,rfl,rfl,by decide +kernel,rfl,by decide +kernel,by decide +kernel⟩
theorem Qhl:Qag "is_row_of_numbers" Qb1 ["text","many"]:=Qtu fun _ _ _ _ _ _ _ _=>rfl
noncomputable abbrev Qfb:Stmt:=top 26
theorem Qgg:FnScope ["text","rows","at"] ["text"] (Qf Qfb):=⟨rfl,rfl,rfl,by decide +kernel,rfl,by decide +kernel,by decide +kernel⟩
theorem Qpi:Qag "wrong_row" Qfb ["text"]:=Qfn fun _ _ _ _ _ _ _=>rfl
noncomputable abbrev Qfc:Stmt:=top 27
theorem Qpj:FnScope ["thing"] ["thing"] (Qf Qfc):=⟨rfl,rfl,rfl,by decide +kernel,rfl,by decide +kernel,by decide +kernel⟩
theorem Qpk:Qag "need_text" Qfc ["thing"]:=Qfn fun _ _ _ _ _ _ _=>rfl
noncomputable abbrev Qeh:Stmt:=top 28
theorem Qif:FnScope ["text","at"] ["text"] (Qf Qeh):=⟨rfl,rfl,rfl,by decide +kernel,rfl,by decide +kernel,by decide +kernel⟩
theorem Qne:Qag "table_read" Qeh ["text"]:=Qfn fun _ _ _ _ _ _ _=>rfl
noncomputable abbrev Qer:Stmt:=top 30
theorem Qrp:FnScope ["_law_script","_law_k"] ["_law_script","_law_k"] (Qf Qer):=⟨rfl,rfl,rfl,by decide +kernel,rfl,by decide +kernel,by decide +kernel⟩
theorem Qrq:Qag "_law_cell" Qer ["_law_script","_law_k"]:=Qtu fun _ _ _ _ _ _ _ _=>rfl
noncomputable abbrev Qhz:Stmt:=top 31
theorem Qmn:FnScope ["_law_cell_here","_law_left"] ["_law_cell_here"] (Qf Qhz):=⟨rfl,rfl,rfl,by decide +kernel,rfl,by decide +kernel,by decide +kernel⟩
theorem Qtx:Qag "_law_pen" Qhz ["_law_cell_here"]:=Qfn fun _ _ _ _ _ _ _=>rfl
noncomputable abbrev Qgh:Stmt:=top 32
theorem Qdz:FnScope ["_law_pen_here","_law_many","_law_left","_law_found","_law_stir"] ["_law_pen_here","_law_many"] (Qf Qgh):=⟨rfl,rfl,rfl,by decide +kernel,rfl,by decide +kernel,by decide +kernel⟩
theorem Qrr:Qag "_law_draw" Qgh ["_law_pen_here","_law_many"]:=Qtu fun _ _ _ _ _ _ _ _=>rfl
noncomputable abbrev Qc7:Stmt:=top 33
theorem Qjn:FnScope ["_law_thing"] ["_law_thing"] (Qf Qc7):=⟨rfl,rfl,rfl,by decide +kernel,rfl,by decide +kernel,by decide +kernel⟩
theorem Qjo:Qag "_law_whole" Qc7 ["_law_thing"]:=Qfn fun _ _ _ _ _ _ _=>rfl
noncomputable abbrev Qh0:Stmt:=top 34
theorem Qmo:FnScope ["_law_pen_here","_law_some"] ["_law_pen_here"] (Qf Qh0):=⟨rfl,rfl,rfl,by decide +kernel,rfl,by decide +kernel,by decide +kernel⟩
theorem Qty:Qag "_law_odd" Qh0 ["_law_pen_here"]:=Qfn fun _ _ _ _ _ _ _=>rfl
noncomputable abbrev Qes:Stmt:=top 35
theorem Qd0:FnScope ["_law_e","_law_marks","_law_words"] ["_law_e"] (Qf Qes):=⟨rfl,rfl,rfl,by decide +kernel,rfl,by decide +kernel,by decide +kernel⟩
theorem Qrs:Qag "_law_kind" Qes ["_law_e"]:=Qfn fun _ _ _ _ _ _ _=>rfl
noncomputable abbrev Qei:Stmt:=top 36
theorem Qb0:FnScope ["_law_pen_here","_law_size","_law_most","_law_many","_law_kind_here","_law_found","_law_turn","_law_rows","_law_i"] ["_law_pen_here","_law_size","_law_most"] (Qf Qei):=⟨rfl,rfl,rfl,by decide +kernel,rfl,by decide +kernel,by decide +kernel⟩
theorem Qnf:Qag "_law_tables" Qei ["_law_pen_here","_law_size","_law_most"]:=bdN3 fun _ _ _ _ _ _ _ _ _=>rfl
noncomputable abbrev Qej:Stmt:=top 37
theorem Qng:FnScope ["_law_pen_here","_law_kind_here"] ["_law_pen_here","_law_kind_here"] (Qf Qej):=⟨rfl,rfl,rfl,by decide +kernel,rfl,by decide +kernel,by decide +kernel⟩
theorem Qnh:Qag "_law_number" Qej ["_law_pen_here","_law_kind_here"]:=Qtu fun _ _ _ _ _ _ _ _=>rfl
noncomputable abbrev Qdg:Stmt:=top 38
theorem Qk9:FnScope ["_law_found","_law_due"] ["_law_found","_law_due"] (Qf Qdg):=⟨rfl,rfl,rfl,by decide +kernel,rfl,by decide +kernel,by decide +kernel⟩
theorem Qla:Qag "_law_table_is" Qdg ["_law_found","_law_due"]:=Qtu fun _ _ _ _ _ _ _ _=>rfl
noncomputable abbrev Qgi:Stmt:=top 39
theorem Qrt:FnScope ["_law_table"] ["_law_table"] (Qf Qgi):=⟨rfl,rfl,rfl,by decide +kernel,rfl,by decide +kernel,by decide +kernel⟩
theorem Qru:Qag "_law_text" Qgi ["_law_table"]:=Qfn fun _ _ _ _ _ _ _=>rfl
noncomputable abbrev Qc0:Stmt:=top 40
theorem Qf3:FnScope ["_law_word","_law_figures"] ["_law_word"] (Qf Qc0):=⟨rfl,rfl,rfl,by decide +kernel,rfl,by decide +kernel,by decide +kernel⟩
theorem Qkf:Qag "_law_number_in" Qc0 ["_law_word"]:=Qfn fun _ _ _ _ _ _ _=>rfl
noncomputable abbrev Qgj:Stmt:=top 41
theorem Qc8:FnScope ["_law_text_here","_law_rows","_law_found","_law_at","_law_row","_law_numbers"] ["_law_text_here"] (Qf Qgj):=⟨rfl,rfl,rfl,by decide +kernel,rfl,by decide +kernel,by decide +kernel⟩
theorem Qrv:Qag "_law_read" Qgj ["_law_text_here"]:=Qfn fun _ _ _ _ _ _ _=>rfl
noncomputable abbrev Qgk:Stmt:=top 42
theorem Qk2:FnScope ["_law_text_here","_law_e"] ["_law_text_here"] (Qf Qgk):=⟨rfl,rfl,rfl,by decide +kernel,rfl,by decide +kernel,by decide +kernel⟩
theorem Qrw:Qag "_law_told" Qgk ["_law_text_here"]:=Qfn fun _ _ _ _ _ _ _=>rfl
noncomputable abbrev Qfd:Stmt:=top 43
theorem Qgl:FnScope ["_law_text_here","_law_found","_law_due"] ["_law_text_here"] (Qf Qfd):=⟨rfl,rfl,rfl,by decide +kernel,rfl,by decide +kernel,by decide +kernel⟩
theorem Qpl:Qag "_law_right" Qfd ["_law_text_here"]:=Qfn fun _ _ _ _ _ _ _=>rfl
noncomputable abbrev Qek:Stmt:=top 44
theorem Qa3:FnScope ["_law_pen_here","_law_text_here","_law_rows","_law_at","_law_words","_law_to","_law_odd_here","_law_word","_law_some","_law_lines","_law_way"] ["_law_pen_here","_law_text_here"] (Qf Qek):=⟨rfl,rfl,rfl,by decide +kernel,rfl,by decide +kernel,by decide +kernel⟩
theorem Qni:Qag "_law_spoilt" Qek ["_law_pen_here","_law_text_here"]:=Qtu fun _ _ _ _ _ _ _ _=>rfl
noncomputable abbrev Qdq:Stmt:=top 45
theorem Qhm:FnScope ["_law_thing","_law_e"] ["_law_thing"] (Qf Qdq):=⟨rfl,rfl,rfl,by decide +kernel,rfl,by decide +kernel,by decide +kernel⟩
theorem Qmp:Qag "_law_refused" Qdq ["_law_thing"]:=Qfn fun _ _ _ _ _ _ _=>rfl
noncomputable abbrev Qk3:Stmt:=top 46
theorem Qgm:FnScope ["_law_script","_law_text_here","_law_cell_here","_law_pen_here","_law_table","_law_found","_law_things","_law_thing"] ["_law_script"] (Qf Qk3):=⟨rfl,rfl,rfl,by decide +kernel,rfl,by decide +kernel,by decide +kernel⟩
theorem Qaa0:Qag "law" Qk3 ["_law_script"]:=Qfn fun _ _ _ _ _ _ _=>rfl
theorem Qnj:PySem.bootBuiltins "ValueError" = some (.type "ValueError"):=by decide +kernel
theorem Qaa1:PySem.bootBuiltins "abs" = some (.builtin "abs"):=by decide +kernel
theorem Qhn:PySem.bootBuiltins "all" = some (.builtin "all"):=by decide +kernel
theorem Qpm:PySem.bootBuiltins "bool" = some (.type "bool"):=by decide +kernel
theorem Qxg:PySem.bootBuiltins "divmod" = some (.builtin "divmod"):=by decide +kernel
theorem Qpn:PySem.bootBuiltins "enumerate" = some (.type "enumerate"):=by decide +kernel
theorem Qkg:PySem.bootBuiltins "int" = some (.type "int"):=by decide +kernel
theorem Qm:PySem.bootBuiltins "isinstance" = some (.builtin "isinstance"):=by decide +kernel
theorem Qco:PySem.bootBuiltins "len" = some (.builtin "len"):=by decide +kernel
theorem Q4w:PySem.bootBuiltins "list" = some (.type "list"):=by decide +kernel
theorem Qaa2:PySem.bootBuiltins "max" = some (.builtin "max"):=by decide +kernel
theorem Qmq:PySem.bootBuiltins "str" = some (.type "str"):=by decide +kernel
theorem Qcj:PySem.bootBuiltins "tuple" = some (.type "tuple"):=by decide +kernel
structure Txt (K:PySem.W.Frag) (mg:Str→Option Value):Prop where
 n_ValueError:mg "ValueError" = none
 n_abs:mg "abs" = none
 n_all:mg "all" = none
 n_bool:mg "bool" = none
 n_divmod:mg "divmod" = none
 n_enumerate:mg "enumerate" = none
 n_int:mg "int" = none
 n_isinstance:mg "isinstance" = none
 n_len:mg "len" = none
 n_list:mg "list" = none
 n_max:mg "max" = none
 n_range:mg "range" = none
 n_str:mg "str" = none
 n_tuple:mg "tuple" = none
 m_FIGURES:∃ u,mg "FIGURES" = some u∧RelV (.str "0123456789") u
 m_MOST_FIGURES:∃ u,mg "MOST_FIGURES" = some u∧RelV (.int (12)) u
 m_MOST_ROWS:∃ u,mg "MOST_ROWS" = some u∧RelV (.int (4)) u
 ex:Exs K mg
 i_NoText:Ini K (cad mg "NoughtError") (cad mg "NoText")
 k_kind:Dfn K mg "_law_kind" Qes
 k_whole:Dfn K mg "_law_whole" Qc7
noncomputable def Q1b:List Str:=["table","way","set","rest","line","row","tables","below","text","great"]
noncomputable def Qrx:Nat→List Int→Option T
 | 8,[i]=>some (.int i)
 | _,_=>none
noncomputable def Qmr:Nat→List Int→Option T
 | 0,[]=>some (.bl true)
 | _,_=>none
noncomputable abbrev Qcu:Stmt:=Q2r (top 10) 0
theorem Qms:FnScope ["self","at"] ["self","at"] (Qf Qcu):=⟨rfl,rfl,rfl,by decide +kernel,rfl,by decide +kernel,by decide +kernel⟩
theorem Qmt:∀ (kV doc pm:Value) (an:Option Addr) (cdv ct:Value) (us:List Value),us.length=2→bindArgs (PySem.W.fnOf "__init__" "NoText.__init__" (Qbe Qcu) (Qaa Qcu) (Qf Qcu) .none kV doc pm an cdv ct) ⟨us,[]⟩=pure ((["self","at"]:List Str).zip us):=fun _ _ _ _ _ _ us hl=>match us,hl with | [_,_],_=>rfl
noncomputable abbrev Qtz:L2.S:=(.ret (.and (.isI (.var 0) "int") (.not (.isI (.var 0) "bool"))))
noncomputable abbrev Qio:L2.Df:=⟨"is_whole",Qgf,["thing"],["thing"],⟨1,1,Qtz⟩,fun _=>true,fun _=>true⟩
noncomputable abbrev Qmu:L2.S:=(.seq (.ite (.or (.not (.isI (.var 0) "tuple")) (.cmp .ne (.bi .len (.cons (.var 0) .nil)) (.var 1))) (.ret (.bl false)) .nil)
 (.ret (.bi .all (.cons (.comp (.seq (.var 0)) [none] (.nm 0) .nil (.call 0 (.cons (.var 0) .nil))) .nil))))
noncomputable abbrev Qmv:L2.Df:=⟨"is_row",Qjl,["thing","size"],["thing","size"],⟨2,2,Qmu⟩,fun _=>true,fun _=>true⟩
noncomputable abbrev Qkh:L2.S:=(.seq (.ite (.or (.not (.isI (.var 0) "tuple")) (.or (.cmp .lt (.bi .len (.cons (.var 0) .nil)) (.int 1)) (.cmp .gt (.bi .len (.cons (.var 0) .nil)) (.int (4))))) (.ret (.bl false)) .nil)
 (.ret (.bi .all (.cons (.comp (.seq (.var 0)) [none,some 0] (.nm 0) .nil (.call 1 (.cons (.var 0) (.cons (.bi .len (.cons (.var 1) .nil)) .nil)))) .nil))))
noncomputable abbrev Qki:L2.Df:=⟨"is_grid",Qhy,["thing"],["thing"],⟨1,1,Qkh⟩,fun _=>true,fun _=>true⟩
noncomputable abbrev Qdh:L2.S:=(.ite (.not (.call 2 (.cons (.var 0) .nil))) (.raise 0 (.cons (.str "this is no table") .nil)) .nil)
noncomputable abbrev Qgn:L2.Df:=⟨"need_table",Qeg,["thing"],["thing"],⟨1,1,Qdh⟩,fun _=>true,fun _=>true⟩
noncomputable abbrev Qet:L2.S:=(.seq (.set 1 (.lst .nil))
 (.seq (.setF 2 (.bi .abs (.cons (.var 0) .nil)))
 (.seq (.whl (.cmp .ge (.var 2) (.bin .pow (.int 10) (.int 64))) (.seq (.app 1 .bad)
 (.setF 2 (.bin .fdv (.var 2) (.bin .pow (.int 10) (.int 64))))))
 (.seq (.app 1 (.bi .strI (.cons (.var 2) .nil)))
 (.seq (.app 1 (.ite (.cmp .lt (.var 0) (.int 0)) (.str "-") (.str "")))
 (.seq (.rvs 1)
 (.ret (.bi .joi (.cons (.str "") (.cons (.var 1) .nil))))))))))
noncomputable abbrev Qeu:L2.Df:=⟨"number_shown",Qdf,["number","parts","left"],["number"],⟨1,3,Qet⟩,fun _=>true,fun _=>true⟩
noncomputable abbrev Qd6:L2.S:=(.ret (.bi .joi (.cons (.str " ") (.cons (.comp (.seq (.var 0)) [none] (.nm 0) .nil (.call 4 (.cons (.var 0) .nil))) .nil))))
noncomputable abbrev Qd7:L2.Df:=⟨"numbers_shown",Qcz,["numbers"],["numbers"],⟨1,1,Qd6⟩,fun _=>true,fun _=>true⟩
noncomputable abbrev Qcv:L2.S:=(.seq (.expr (.call 3 (.cons (.var 0) .nil)))
 (.ret (.bi .joi (.cons (.str "/") (.cons (.comp (.seq (.var 0)) [none] (.nm 0) .nil (.call 5 (.cons (.var 0) .nil))) .nil)))))
noncomputable abbrev Qdr:L2.Df:=⟨"table_shown",Qdp,["table"],["table"],⟨1,1,Qcv⟩,fun _=>true,fun _=>true⟩
noncomputable abbrev Qho:L2.S:=(.seq (.setF 1 (.ite (.bi .sta (.cons (.var 0) (.cons (.str "-") .nil))) (.bi .slF (.cons (.var 0) (.cons (.int 1) .nil))) (.var 0)))
 (.seq (.ite (.or (.cmp .lt (.bi .lenT (.cons (.var 1) .nil)) (.int 1)) (.or (.cmp .gt (.bi .lenT (.cons (.var 1) .nil)) (.int (12))) (.not (.bi .all (.cons (.comp (.seq (.bi .chs (.cons (.var 1) .nil))) [none] (.nm 0) .nil (.bi .inS (.cons (.var 0) (.cons (.str "0123456789") .nil)))) .nil))))) (.ret (.bl false)) .nil)
 (.ret (.or (.cmp .eq (.var 0) (.str "0")) (.cmp .ne (.bi .ixS (.cons (.var 1) (.cons (.int 0) .nil))) (.str "0"))))))
noncomputable abbrev Qhp:L2.Df:=⟨"is_number",Qfa,["word","figures"],["word"],⟨1,2,Qho⟩,fun _=>true,fun _=>true⟩
noncomputable abbrev Qcp:L2.S:=(.seq (.setF 2 (.bi .spl (.cons (.var 0) (.cons (.str " ") .nil))))
 (.ret (.and (.cmp .eq (.bi .len (.cons (.var 2) .nil)) (.var 1)) (.bi .all (.cons (.comp (.seq (.var 2)) [none] (.nm 0) .nil (.call 7 (.cons (.var 0) .nil))) .nil)))))
noncomputable abbrev Qcq:L2.Df:=⟨"is_row_of_numbers",Qb1,["text","many","words"],["text","many"],⟨2,3,Qcp⟩,fun _=>true,fun _=>true⟩
noncomputable abbrev Qd1:L2.S:=(.seq (.setF 1 (.bi .spl (.cons (.var 0) (.cons (.str "/") .nil))))
 (.seq (.for_ (.rng1 (.bi .len (.cons (.var 1) .nil))) (.nm 2) (.ite (.or (.cmp .eq (.var 2) (.int (4))) (.not (.call 8 (.cons (.ix (.var 1) (.var 2)) (.cons (.bi .len (.cons (.var 1) .nil)) .nil))))) (.ret (.bin .add (.var 2) (.int 1))) .nil))
 (.ret .non)))
noncomputable abbrev Qhq:L2.Df:=⟨"wrong_row",Qfb,["text","rows","at"],["text"],⟨1,3,Qd1⟩,fun _=>true,fun _=>true⟩
noncomputable abbrev Qd2:L2.S:=(.ite (.not (.isI (.var 0) "str")) (.raise 8 (.cons (.int 0) .nil)) .nil)
noncomputable abbrev Qhr:L2.Df:=⟨"need_text",Qfc,["thing"],["thing"],⟨1,1,Qd2⟩,fun _=>true,fun _=>true⟩
noncomputable abbrev Qdi:L2.S:=(.seq (.expr (.call 10 (.cons (.var 0) .nil)))
 (.seq (.setF 1 (.call 9 (.cons (.var 0) .nil)))
 (.seq (.ite (.cmp .isnn (.var 1) .non) (.raise 8 (.cons (.var 1) .nil)) .nil)
 (.ret (.bi .tup (.cons (.comp (.seq (.bi .spl (.cons (.var 0) (.cons (.str "/") .nil)))) [none] (.nm 0) .nil (.bi .tup (.cons (.comp (.seq (.bi .spl (.cons (.var 0) (.cons (.str " ") .nil)))) [none] (.nm 0) .nil (.bi .intS (.cons (.var 0) .nil))) .nil))) .nil))))))
noncomputable abbrev Qgo:L2.Df:=⟨"table_read",Qeh,["text","at"],["text"],⟨1,2,Qdi⟩,fun _=>true,fun _=>true⟩
noncomputable abbrev Qkj:L2.S:=(.seq (.setF 1 (.bi .max (.cons (.var 0) (.cons (.bin .sub (.int 0) (.var 0)) .nil))))
 (.ret (.lst (.cons (.var 1) (.cons (.bi .int (.cons (.cmp .ge (.var 1) (.bin .pow (.int 10) (.int 18))) .nil)) .nil)))))
noncomputable abbrev Qkk:L2.Df:=⟨"_law_pen",Qhz,["_law_cell_here","_law_left"],["_law_cell_here"],⟨1,2,Qkj⟩,fun _=>true,fun _=>true⟩
noncomputable abbrev Qev:L2.S:=(.seq (.ite (.cmp .eq (.ix (.var 0) (.int 1)) (.int 1)) (.seq (.unp [2,3] (.bi .dvm (.cons (.ix (.var 0) (.int 0)) (.cons (.var 1) .nil))))
 (.seq (.put 0 (.int 0) (.var 2))
 (.ret (.var 3)))) .nil)
 (.seq (.setF 4 (.bin .mod (.bin .mul (.bin .add (.bin .mod (.ix (.var 0) (.int 0)) (.int 2147483647)) (.int 40503)) (.int 69621)) (.int 2147483629)))
 (.seq (.setF 4 (.bin .mod (.bin .add (.bin .mul (.var 4) (.var 4)) (.int 7817)) (.int 2147483587)))
 (.seq (.put 0 (.int 0) (.bin .mod (.bin .add (.bin .mul (.var 4) (.int 48271)) (.int 11)) (.int 2147483629)))
 (.ret (.bin .mod (.bin .fdv (.ix (.var 0) (.int 0)) (.int 32)) (.var 1)))))))
noncomputable abbrev Qbc:L2.Df:=⟨"_law_draw",Qgh,["_law_pen_here","_law_many","_law_left","_law_found","_law_stir"],["_law_pen_here","_law_many"],⟨2,5,Qev⟩,fun _=>true,fun _=>true⟩
noncomputable abbrev Qry:L2.S:=(.ret (.and (.isI (.var 0) "int") (.not (.isI (.var 0) "bool"))))
noncomputable abbrev Qfe:L2.Df:=⟨"_law_whole",Qc7,["_law_thing"],["_law_thing"],⟨1,1,Qry⟩,fun _=>true,fun _=>true⟩
noncomputable abbrev Qkl:L2.S:=(.seq (.setF 1 (.lst (.cons .non (.cons (.bl true) (.cons (.bl false) (.cons (.neg (.int 1)) (.cons (.str "1") (.cons (.str "") (.cons (.tup .nil) (.cons (.lst .nil) (.cons (.tup (.cons (.int 0) .nil)) (.cons (.lst (.cons (.int 0) .nil)) (.cons (.lit (.dct [Sum.inr "a"] [.int 1])) (.cons (.tup (.cons (.int 0) (.cons (.int 1) .nil))) (.cons (.bin .pow (.int 10) (.int 30)) (.cons (.tup (.cons (.tup (.cons (.int 0) .nil)) .nil)) (.cons (.tup (.cons (.str "ab") .nil)) .nil)))))))))))))))))
 (.ret (.ix (.bin .add (.var 1) (.lst (.cons (.tup (.cons (.bl true) .nil)) .nil))) (.call 13 (.cons (.var 0) (.cons (.int 16) .nil))))))
noncomputable abbrev Qkm:L2.Df:=⟨"_law_odd",Qh0,["_law_pen_here","_law_some"],["_law_pen_here"],⟨1,2,Qkl⟩,fun _=>true,fun _=>true⟩
noncomputable abbrev Qgp:L2.S:=(.seq (.setF 3 (.bin .add (.int 1) (.call 13 (.cons (.var 0) (.cons (.var 2) .nil)))))
 (.seq (.setF 4 (.call 13 (.cons (.var 0) (.cons (.int 8) .nil))))
 (.seq (.set 5 (.lst .nil))
 (.seq (.for_ (.rng1 (.var 3)) (.nm 6) (.seq (.set 7 (.lst .nil))
 (.seq (.for_ (.rng1 (.var 1)) (.nm 8) (.app 7 (.bi .tup (.cons (.comp (.rng1 (.var 1)) [none,some 0,some 4] (.nm 0) .nil (.call 17 (.cons (.var 1) (.cons (.var 2) .nil)))) .nil))))
 (.app 5 (.bi .tup (.cons (.var 7) .nil))))))
 (.ret (.var 5))))))
noncomputable abbrev Qgq:L2.Df:=⟨"_law_tables",Qei,["_law_pen_here","_law_size","_law_most","_law_many","_law_kind_here","_law_found","_law_turn","_law_rows","_law_i"],["_law_pen_here","_law_size","_law_most"],⟨3,9,Qgp⟩,fun _=>true,fun _=>true⟩
noncomputable abbrev Qb9:L2.S:=(.seq (.ite (.cmp .lt (.var 1) (.int 3)) (.ret (.ix (.lst (.cons (.int 0) (.cons (.int 0) (.cons (.int 1) (.cons (.int 0) (.cons (.int 1) (.cons (.neg (.int 1)) .nil))))))) (.call 13 (.cons (.var 0) (.cons (.int 6) .nil))))) .nil)
 (.seq (.ite (.cmp .lt (.var 1) (.int 7)) (.ret (.bin .sub (.call 13 (.cons (.var 0) (.cons (.int 7) .nil))) (.int 3))) .nil)
 (.ret (.bin .add (.bin .sub (.call 13 (.cons (.var 0) (.cons (.bin .sub (.bin .mul (.int 2) (.bin .pow (.int 10) (.int 12))) (.int 1)) .nil))) (.bin .pow (.int 10) (.int 12))) (.int 1)))))
noncomputable abbrev Qgr:L2.Df:=⟨"_law_number",Qej,["_law_pen_here","_law_kind_here"],["_law_pen_here","_law_kind_here"],⟨2,2,Qb9⟩,fun _=>true,fun _=>true⟩
noncomputable abbrev Qew:L2.S:=(.seq (.ite (.or (.not (.isI (.var 0) "tuple")) (.or (.cmp .ne (.var 0) (.var 1)) (.not (.bi .all (.cons (.comp (.seq (.var 0)) [none] (.nm 0) .nil (.isI (.var 0) "tuple")) .nil))))) (.ret (.bl false)) .nil)
 (.ret (.bi .all (.cons (.comp (.seq (.var 0)) [none] (.nm 0) .nil (.bi .all (.cons (.comp (.seq (.var 0)) [none] (.nm 0) .nil (.call 14 (.cons (.var 0) .nil))) .nil))) .nil))))
noncomputable abbrev Qex:L2.Df:=⟨"_law_table_is",Qdg,["_law_found","_law_due"],["_law_found","_law_due"],⟨2,2,Qew⟩,fun _=>true,fun _=>true⟩
noncomputable abbrev Qip:L2.S:=(.ret (.bi .joi (.cons (.str "/") (.cons (.comp (.seq (.var 0)) [none] (.nm 0) .nil (.bi .joi (.cons (.str " ") (.cons (.comp (.seq (.var 0)) [none] (.nm 0) .nil (.bi .strI (.cons (.var 0) .nil))) .nil)))) .nil))))
noncomputable abbrev Qiq:L2.Df:=⟨"_law_text",Qgi,["_law_table"],["_law_table"],⟨1,1,Qip⟩,fun _=>true,fun _=>true⟩
noncomputable abbrev Qd8:L2.S:=(.seq (.setF 1 (.ite (.cmp .eq (.bi .slT (.cons (.var 0) (.cons (.int 1) .nil))) (.str "-")) (.bi .slF (.cons (.var 0) (.cons (.int 1) .nil))) (.var 0)))
 (.seq (.ite (.or (.not (.chl (.int 1) (.bi .lenT (.cons (.var 1) .nil)) (.int 12))) (.cmp .ne (.comp (.seq (.bi .chs (.cons (.var 1) .nil))) [none] (.nm 0) (.cons (.bi .ninS (.cons (.var 0) (.cons (.str "0123456789") .nil))) .nil) (.var 0)) (.lst .nil))) (.ret .non) .nil)
 (.seq (.ite (.and (.cmp .eq (.bi .ixS (.cons (.var 1) (.cons (.int 0) .nil))) (.str "0")) (.or (.cmp .gt (.bi .lenT (.cons (.var 1) .nil)) (.int 1)) (.cmp .eq (.bi .ixS (.cons (.var 0) (.cons (.int 0) .nil))) (.str "-")))) (.ret .non) .nil)
 (.ret (.bi .intS (.cons (.var 0) .nil))))))
noncomputable abbrev Qd9:L2.Df:=⟨"_law_number_in",Qc0,["_law_word","_law_figures"],["_law_word"],⟨1,2,Qd8⟩,fun _=>true,fun _=>true⟩
noncomputable abbrev Qey:L2.S:=(.seq (.setF 1 (.bi .spl (.cons (.var 0) (.cons (.str "/") .nil))))
 (.seq (.set 2 (.lst .nil))
 (.seq (.for_ (.enm (.var 1)) (.tp [3,4]) (.seq (.setF 5 (.comp (.seq (.bi .spl (.cons (.var 4) (.cons (.str " ") .nil)))) [none] (.nm 0) .nil (.call 20 (.cons (.var 0) .nil))))
 (.seq (.ite (.or (.cmp .gt (.var 3) (.int 3)) (.or (.cmp .ne (.bi .len (.cons (.var 5) .nil)) (.bi .len (.cons (.var 1) .nil))) (.cmp .inn .non (.var 5)))) (.ret (.bin .add (.var 3) (.int 1))) .nil)
 (.app 2 (.bi .tup (.cons (.var 5) .nil))))))
 (.ret (.bi .tup (.cons (.var 2) .nil))))))
noncomputable abbrev Qir:L2.Df:=⟨"_law_read",Qgj,["_law_text_here","_law_rows","_law_found","_law_at","_law_row","_law_numbers"],["_law_text_here"],⟨1,6,Qey⟩,fun _=>true,fun _=>true⟩
noncomputable abbrev Qez:L2.S:=(.seq (.tryR 1 (.ret (.call 11 (.cons (.var 0) .nil))) Qrx)
 (.ret .non))
noncomputable abbrev Qis:L2.Df:=⟨"_law_told",Qgk,["_law_text_here","_law_e"],["_law_text_here"],⟨1,2,Qez⟩,fun _=>true,fun _=>true⟩
noncomputable abbrev Qd3:L2.S:=(.seq (.setF 1 (.call 22 (.cons (.var 0) .nil)))
 (.seq (.setF 2 (.ite (.isI (.var 0) "str") (.call 21 (.cons (.var 0) .nil)) (.int 0)))
 (.seq (.ite (.isI (.var 2) "tuple") (.ret (.call 18 (.cons (.var 1) (.cons (.var 2) .nil)))) .nil)
 (.ret (.and (.call 14 (.cons (.var 1) .nil)) (.cmp .eq (.var 1) (.var 2)))))))
noncomputable abbrev Qff:L2.Df:=⟨"_law_right",Qfd,["_law_text_here","_law_found","_law_due"],["_law_text_here"],⟨1,3,Qd3⟩,fun _=>true,fun _=>true⟩
noncomputable abbrev Qjp:L2.S:=(.seq (.setF 2 (.bi .spl (.cons (.var 1) (.cons (.str "/") .nil))))
 (.seq (.setF 3 (.call 13 (.cons (.var 0) (.cons (.bi .len (.cons (.var 2) .nil)) .nil))))
 (.seq (.setF 4 (.bi .spl (.cons (.ix (.var 2) (.var 3)) (.cons (.str " ") .nil))))
 (.seq (.setF 5 (.call 13 (.cons (.var 0) (.cons (.bi .len (.cons (.var 4) .nil)) .nil))))
 (.seq (.setF 6 (.lst (.cons (.str "") (.cons (.str "00") (.cons (.str "-0") (.cons (.str "01") (.cons (.str "-") (.cons (.str "--1") (.cons (.str "+1") (.cons (.str "a") (.cons (.bi .repS (.cons (.str "1") (.cons (.int 13) .nil))) (.cons (.bi .repS (.cons (.str "9") (.cons (.int 12) .nil))) (.cons (.bi .catS (.cons (.str "-") (.cons (.bi .repS (.cons (.str "9") (.cons (.int 12) .nil))) .nil))) (.cons (.str "1.0") (.cons (.str "- 1") (.cons (.str "0") (.cons (.str "-7") .nil)))))))))))))))))
 (.seq (.setF 7 (.ix (.var 6) (.call 13 (.cons (.var 0) (.cons (.int 15) .nil)))))
 (.seq (.setF 8 (.lst (.cons (.bin .add (.slc (.var 2) .nil (.cons (.var 3) .nil)) (.slc (.var 2) (.cons (.bin .add (.var 3) (.int 1)) .nil) .nil)) (.cons (.bin .add (.slc (.var 2) .nil (.cons (.bin .add (.var 3) (.int 1)) .nil)) (.slc (.var 2) (.cons (.var 3) .nil) .nil)) (.cons (.bin .add (.var 2) (.lst (.cons (.str "0") .nil))) (.cons (.bin .add (.bin .add (.slc (.var 2) .nil (.cons (.var 3) .nil)) (.lst (.cons (.str "") .nil))) (.slc (.var 2) (.cons (.bin .add (.var 3) (.int 1)) .nil) .nil)) .nil))))))
 (.seq (.set 9 (.lst (.cons (.bin .add (.slc (.var 4) .nil (.cons (.var 5) .nil)) (.slc (.var 4) (.cons (.bin .add (.var 5) (.int 1)) .nil) .nil)) (.cons (.bin .add (.slc (.var 4) .nil (.cons (.bin .add (.var 5) (.int 1)) .nil)) (.slc (.var 4) (.cons (.var 5) .nil) .nil)) (.cons (.bin .add (.bin .add (.slc (.var 4) .nil (.cons (.var 5) .nil)) (.lst (.cons (.var 7) .nil))) (.slc (.var 4) (.cons (.bin .add (.var 5) (.int 1)) .nil) .nil)) .nil)))))
 (.seq (.app 9 (.bin .add (.bin .add (.slc (.var 4) .nil (.cons (.var 5) .nil)) (.lst (.cons (.var 7) .nil))) (.slc (.var 4) (.cons (.var 5) .nil) .nil)))
 (.seq (.setF 10 (.call 13 (.cons (.var 0) (.cons (.int 12) .nil))))
 (.seq (.ite (.cmp .lt (.var 10) (.int 4)) (.ret (.bi .joi (.cons (.str "/") (.cons (.ix (.var 8) (.var 10)) .nil)))) .nil)
 (.ret (.bi .joi (.cons (.str "/") (.cons (.bin .add (.bin .add (.slc (.var 2) .nil (.cons (.var 3) .nil)) (.lst (.cons (.bi .joi (.cons (.str " ") (.cons (.ix (.var 9) (.bin .mod (.var 10) (.int 4))) .nil))) .nil))) (.slc (.var 2) (.cons (.bin .add (.var 3) (.int 1)) .nil) .nil)) .nil)))))))))))))))
noncomputable abbrev Qgs:L2.Df:=⟨"_law_spoilt",Qek,["_law_pen_here","_law_text_here","_law_rows","_law_at","_law_words","_law_to","_law_odd_here","_law_word","_law_some","_law_lines","_law_way"],["_law_pen_here","_law_text_here"],⟨2,11,Qjp⟩,fun _=>true,fun _=>true⟩
noncomputable abbrev Qfo:L2.S:=(.seq (.tryR 1 (.expr (.call 6 (.cons (.var 0) .nil))) Qmr)
 (.ret (.bl false)))
noncomputable abbrev Qfp:L2.Df:=⟨"_law_refused",Qdq,["_law_thing","_law_e"],["_law_thing"],⟨1,2,Qfo⟩,fun _=>true,fun _=>true⟩
noncomputable abbrev ds:List L2.Df:=[Qio,Qmv,Qki,Qgn,Qeu,Qd7,Qdr,Qhp,Qcq,Qhq,Qhr,Qgo,Qkk,Qbc,Qfe,Qkm,Qgq,Qgr,Qex,Qiq,Qd9,Qir,Qis,Qff,Qgs,Qfp]
section
variable {P:Program} {w:World} {K:PySem.W.Frag} {mg:Str→Option Value} {base:Heap}
noncomputable def XcAt (mg:Str→Option Value) (H:Hp) (a:Addr) (i:Nat):Prop:=∃ x dx,Qbk[i]?=some x∧H a=some (Qo4 a (.ref (cad mg x)) dx)∧∀ d,dx=some d→∃ fs,H d=some (.xd fs)
noncomputable def Qpo (mg:Str→Option Value):Sp:=fun vs H Q _=>∃ a i x,vs=[.ref a]∧XcAt mg H a i∧Q1b[i]?=some x∧∀ H',Same H H'→Q (.str x) H'
theorem Qfq {H:Hp} {a:Addr} {i:Nat} {y:Str} {Q:VK} (ex:Exs K mg) (j:Nat) (h:XcAt mg H a i) (hy:Qbk[j]?=some y) (k:Q (.bl (i==j)) H):Qo5 K [.ref a,.ref (cad mg y)] H Q:=by
 obtain ⟨x,dx,hx,ha,hd⟩:=h
 exact ⟨a,_,dx,_,_,rfl,ha,hd,ex.xc i hx,.inl ⟨_,rfl⟩,ex.kit i j hx hy,k⟩
theorem Qaa3 {H:Hp} {a:Addr} {i:Nat} {Q:VK} (ex:Exs K mg) (h:XcAt mg H a i) (k:Q (.bl true) H):Qo5 K [.ref a,.ty "ValueError"] H Q:=by
 obtain ⟨x,dx,hx,ha,hd⟩:=h
 exact ⟨a,_,dx,_,_,rfl,ha,hd,ex.xc i hx,.inr ⟨_,rfl⟩,ex.val i hx,k⟩
theorem XcAt.mono {H H':Hp} {a:Addr} {i:Nat} (h:XcAt mg H a i) (s:Same H H'):XcAt mg H' a i:=by
 obtain ⟨x,dx,hx,ha,hd⟩:=h
 exact ⟨x,dx,hx,s _ _ ha,fun d e=>let ⟨fs,q⟩:=hd d e;⟨fs,s _ _ q⟩⟩
noncomputable def Qh1 (i:Nat):List Bool:=[i==0,i==1,i==2,i==3]++[i==4,i==5,i==6,i==7]++[i==8,i==9]
theorem Q1c:∀ i,i<10→(Qh1 i).count true=1∧(Qh1 i)[i]?=some true∧∀ m,m<i→(Qh1 i)[m]?≠some true:=by decide
theorem Qjq (d:Dfn K mg "_law_kind" Qes) (tx:Txt K mg):Q3g P w K mg base "_law_kind" ["_law_e"] 1 (Qpo mg):=by
 refine Qzq (k:=0) d Qd0 Qrs (fun vs H Q E h=>?_) (fun f cdv A outer s H vs Q E hr h=>?_)
 ·obtain ⟨a,i,x,rfl,_⟩:=h
  rfl
 ·obtain ⟨a,i,x,rfl,xa,hi,q⟩:=h
  refine ⟨_,(Qec (Qa8 (i:=1) Qd0.nd (Qqk (Qs (Qh3 (Qdc K rfl) tx.n_isinstance Qm (Qs (Qb5 0) (Qs (Qia (tx.ex.m 0 _ rfl)) Qa7))) (Qs (Qh3 (Qdc K rfl) tx.n_isinstance Qm (Qs (Qb5 0) (Qs (Qia (tx.ex.m 1 _ rfl)) Qa7))) (Qs (Qh3 (Qdc K rfl) tx.n_isinstance Qm (Qs (Qb5 0) (Qs (Qia (tx.ex.m 2 _ rfl)) Qa7))) (Qs (Qh3 (Qdc K rfl) tx.n_isinstance Qm (Qs (Qb5 0) (Qs (Qia (tx.ex.m 3 _ rfl)) Qa7))) Qa7))))))
   (Qec (Qa8 (i:=1) Qd0.nd (Qwm (Qut K rfl) (Qb5 1) (Qqk (Qs (Qh3 (Qdc K rfl) tx.n_isinstance Qm (Qs (Qb5 0) (Qs (Qia (tx.ex.m 4 _ rfl)) Qa7))) (Qs (Qh3 (Qdc K rfl) tx.n_isinstance Qm (Qs (Qb5 0) (Qs (Qia (tx.ex.m 5 _ rfl)) Qa7))) (Qs (Qh3 (Qdc K rfl) tx.n_isinstance Qm (Qs (Qb5 0) (Qs (Qia (tx.ex.m 6 _ rfl)) Qa7))) (Qs (Qh3 (Qdc K rfl) tx.n_isinstance Qm (Qs (Qb5 0) (Qs (Qia (tx.ex.m 7 _ rfl)) Qa7))) Qa7)))))))
   (Qec (Qa8 (i:=1) Qd0.nd (Qwm (Qut K rfl) (Qb5 1) (Qqk (Qs (Qh3 (Qdc K rfl) tx.n_isinstance Qm (Qs (Qb5 0) (Qs (Qia (tx.ex.m 8 _ rfl)) Qa7))) (Qs (Qh3 (Qdc K rfl) tx.n_isinstance Qm (Qs (Qb5 0) (Qs (Qia (tx.ex.m 9 _ rfl)) Qa7))) Qa7)))))
   (Qec (Qus (Q8m (Q53 (Qy6 (Qs5 (Qh3 (Qdc K rfl) tx.n_isinstance Qm (Qs (Qb5 0) (Qs (Qii "ValueError" tx.n_ValueError Qnj) Qa7))))) (Qy7 (Qlr o_ne (Qo1 K rfl PySem.F.plainAttrs_list PySem.F.slot_list_count PySem.F.type_list_count (Qzo K rfl) (Qb5 1) (Qs Q26 Qa7)) Qnw (Qor _))))) (Qfk (Qi4 Qlq)) Qo2)
   (Qec (Qa8 (i:=2) Qd0.nd (Qacv (Qfj Qh9 (Qfj Qh9 (Qfj Qh9 (Qfj Qh9 (Qfj Qh9 (Qfj Qh9 (Qfj Qh9 (Qfj Qh9 (Qfj Qh9 (Qfj Qh9 Qacu))))))))))))
   (Qfk (Qi4 (Q28 (Q8s K rfl) (Qb5 2) (Qo1 K rfl PySem.F.plainAttrs_list PySem.F.slot_list_index PySem.F.type_list_index (Qzp K rfl) (Qb5 1) (Qs Q26 Qa7)))))))))),?_⟩
  have hi10:i<10:=(List.getElem?_eq_some_iff.mp hi).1
  obtain ⟨mc,mi,mn⟩:=Q1c i hi10
  refine ⟨_,rfl,Qfq tx.ex 0 xa rfl ⟨_,rfl,Qfq tx.ex 1 xa rfl ⟨_,rfl,Qfq tx.ex 2 xa rfl ⟨_,rfl,Qfq tx.ex 3 xa rfl ⟨by show 4≤sizeLine;decide,fun l1 n1=>?_⟩⟩⟩⟩⟩
  have xa1:=xa.mono (Same.upd (o:=.lst [.bl (i==0),.bl (i==1),.bl (i==2),.bl (i==3)]) n1)
  refine ⟨_,rfl,_,rfl,Qfq tx.ex 4 xa1 rfl ⟨_,rfl,Qfq tx.ex 5 xa1 rfl ⟨_,rfl,Qfq tx.ex 6 xa1 rfl ⟨_,rfl,Qfq tx.ex 7 xa1 rfl ⟨by show 4≤sizeLine;decide,fun l2 n2=>?_⟩⟩⟩⟩⟩
  have n12:l1≠l2:=Qbr Qp n2
  have S2:=Same.upd (o:=.lst [.bl (i==4),.bl (i==5),.bl (i==6),.bl (i==7)]) n2
  refine .inr (.inl ⟨l1,l2,_,_,rfl,rfl,by rw [Q2 n12,Qp],Qp,by show 4+4≤sizeLine;decide,fun l3 n3=>?_⟩)
  have S3:=S2.trans (Same.upd (o:=.lst ([.bl (i==0),.bl (i==1),.bl (i==2),.bl (i==3)]++[.bl (i==4),.bl (i==5),.bl (i==6),.bl (i==7)])) n3)
  have xa3:=xa1.mono S3
  refine ⟨_,rfl,_,rfl,Qfq tx.ex 8 xa3 rfl ⟨_,rfl,Qfq tx.ex 9 xa3 rfl ⟨by show 2≤sizeLine;decide,fun l4 n4=>?_⟩⟩⟩
  have n34:l3≠l4:=Qbr Qp n4
  have S4:=S3.trans (Same.upd (o:=.lst [.bl (i==8),.bl (i==9)]) n4)
  refine .inr (.inl ⟨l3,l4,_,_,rfl,rfl,by rw [Q2 n34,Qp],Qp,by show 8+2≤sizeLine;decide,fun l5 n5=>?_⟩)
  have S5:=S4.trans (Same.upd (o:=.lst ([.bl (i==0),.bl (i==1),.bl (i==2),.bl (i==3)]++[.bl (i==4),.bl (i==5),.bl (i==6),.bl (i==7)]++[.bl (i==8),.bl (i==9)])) n5)
  have xa5:=xa1.mono S5
  generalize hH5:upd _ l5 _=H5 at xa5 S5 ⊢
  have e5:H5 l5=some (.lst ((Qh1 i).map V.bl)):=by rw [←hH5,Qp];rfl
  have S50:=(Same.upd (o:=.lst [.bl (i==0),.bl (i==1),.bl (i==2),.bl (i==3)]) n1).trans S5
  refine ⟨_,rfl,Qaa3 tx.ex xa5 ⟨_,rfl,iteF ?_⟩⟩
  refine ⟨_,rfl,.inl ⟨rfl,_,SqL.of e5⟩,l5,Qh1 i,true,rfl,rfl,e5,rfl,_,rfl,?_⟩
  rw [mc]
  refine iteF ?_
  intro v6 H6 s6 r6
  obtain ⟨l6,ws,rfl,e6,i6⟩:=r6.lst_inv
  obtain ⟨n6,e6⟩:=Qg8 e6
  refine ⟨_,rfl,_,rfl,.inl ⟨rfl,_,SqL.of (s6 _ _ e5)⟩,l5,Qh1 i,true,i,rfl,rfl,s6 _ _ e5,by show 10≤1000;decide,mi,mn,?_⟩
  have ht:(Q1b.map T.str)[i]?=some (.str x):=by rw [List.getElem?_map,hi];rfl
  obtain ⟨v,hv,iv⟩:=IsL.getT (ts:=Q1b.map T.str) i6 ht
  have:v=.str x:=by unfold Is at iv;exact iv
  subst this
  exact .inl ⟨l6,_,_,_,rfl,rfl,SqL.of e6,Qcb hv,q H6 (S50.trans s6)⟩
theorem Q6x {H:Hp} {a:Addr} {c:Nat} {arg:List Int} (h:ExAt mg H a c arg):XcAt mg H a c:=by
 obtain ⟨nm,dx,hn,ha,hd⟩:=h
 refine ⟨nm,dx,hn,ha,fun d e=>?_⟩
 match arg,hd with
 | [],hd=>exact nomatch (hd.symm.trans e)
 | [_],⟨_,e',q⟩=>cases e'.symm.trans e;exact ⟨_,q⟩
 | [_,_],⟨_,e',q⟩=>cases e'.symm.trans e;exact ⟨_,q⟩
noncomputable def Qon:Sp:=fun vs H Q _=>∃ i:Int,vs=[.int i]∧Q (.bl true) H
theorem Qrz (d:Dfn K mg "_law_whole" Qc7) (tx:Txt K mg):Q3g P w K mg base "_law_whole" ["_law_thing"] 1 Qon:=by
 refine Qzq (k:=0) d Qjn Qjo (fun vs H Q E h=>?_) (fun f cdv A outer s H vs Q E hr h=>?_)
 ·obtain ⟨i,rfl,_⟩:=h
  rfl
 ·obtain ⟨i,rfl,q⟩:=h
  refine ⟨_,(Qfk (Qi4 (Q52 (Qh3 Qs6 tx.n_isinstance Qm (Qs (Qb5 0) (Qs (Qii "int" tx.n_int Qkg) Qa7))) (Q51 (Q50 (Qh3 Qs6 tx.n_isinstance Qm (Qs (Qb5 0) (Qs (Qii "bool" tx.n_bool Qpm) Qa7)))))))),?_⟩
  refine ⟨_,rfl,_,_,T.int i,rfl,Is.int,rfl,by simp,_,rfl,?_⟩
  refine Q8d ?_
  exact ⟨_,rfl,_,_,T.int i,rfl,Is.int,rfl,by simp,_,rfl,q⟩
theorem Qxh {c:Nat} {arg:List Int} {t:T} (e:Qrx c arg=some t):∃ i,c=8∧arg=[i]∧t=.int i:=by
 unfold Qrx at e
 split at e
 ·cases e;exact ⟨_,rfl,rfl,rfl⟩
 ·cases e
theorem Q4x (tx:Txt K mg) {D:Ends} {σ:St} {H:Hp} {v n:Nat} (z:Q4k mg v n Qrx D σ H) :
  Q7m (Q7e (Qul (tOp rEq (Qko (Qpo mg) [] E0 (Qh7 (Qk4 v) Qp9)) (tC (V.str "text")))) (tB (Qko Qon [] E0 (Qh7 (Qzz K "at" (Qk4 v)) Qp9)))) (Qx4 (Qzz K "at" (Qk4 v))) Qx1 D σ H:=by
 obtain ⟨a,c,arg,t,hl,hs,xa,e,q⟩:=z
 obtain ⟨i,rfl,rfl,rfl⟩:=Qxh e
 have xc:=Q6x xa
 obtain ⟨nm,dx,hn,ha,d,rfl,hd⟩:=xa
 cases hn
 refine ⟨_,hs,a,8,"text",rfl,xc,rfl,fun H2 s2=>?_⟩
 have rd:∀ (Q':VK),Q' (.int i) H2→Q6a K "at" (.ref a) H2 Q':=fun Q' k=>⟨a,_,d,_,.int i,rfl,s2 _ _ ha,s2 _ _ hd,rfl,⟨i,rfl⟩,⟨_,tx.i_NoText⟩,tx.ex.xc 8 rfl,k⟩
 exact ⟨rfl,_,rfl,Q8d ⟨_,hs,rd _ ⟨i,rfl,_,rfl,Q8d ⟨_,hs,rd _ (q _ _ s2 (.inl rfl))⟩⟩⟩⟩
theorem Qr0 {c:Nat} {arg:List Int} {t:T} (e:Qmr c arg=some t):c=0∧arg=[]∧t=.bl true:=by
 unfold Qmr at e
 split at e
 ·cases e;exact ⟨rfl,rfl,rfl⟩
 ·cases e
theorem Qxi (tx:Txt K mg) {D:Ends} {σ:St} {H:Hp} {v n:Nat} (z:Q4k mg v n Qmr D σ H) :
  Qx4 (tOp rEq (Qko (Qpo mg) [] E0 (Qh7 (Qk4 v) Qp9)) (tC (V.str "table"))) D σ H:=by
 obtain ⟨a,c,arg,t,hl,hs,xa,e,q⟩:=z
 obtain ⟨rfl,rfl,rfl⟩:=Qr0 e
 refine ⟨_,hs,a,0,"table",rfl,Q6x xa,rfl,fun H2 s2=>⟨rfl,?_⟩⟩
 rw [decide_eq_true rfl]
 exact q _ _ s2 (.inl rfl)
theorem Qt0 (tx:Txt K mg):Qa9 P w K mg base ds Qio:=fun cf n R f cdv A outer s H E hc h1 co pz hr =>
 (Q8 (Qay (Qu0 (Qg1 tx.n_isinstance Qm (Qe 0) (Qii "int" tx.n_int Qkg)) (Qq1 (Q6h (Qg1 tx.n_isinstance Qm (Qe 0) (Qii "bool" tx.n_bool Qpm)))))))
theorem Q1d (tx:Txt K mg):Qa9 P w K mg base ds Qmv:=fun cf n R f cdv A outer s H E hc h1 co pz hr =>
 (Qq (Qf0 (t_w (Qj4 (Qfz (Qc3 (Qg1 tx.n_isinstance Qm (Qe 0) (Qii "tuple" tx.n_tuple Qcj)))) (Qie (Q0n hr.units (Qdu (Qgy K rfl) (Qen K) tx.n_len Qco (Qc (Qe 0) Qh)) (Qe 1))))) (Q8 (Qay Qj3)) Qc5)
  (Q8 (Qay (Qdu (Qkq K rfl) (Qhc K) tx.n_all Qhn (Qc (Qcg ["number"] [none] rfl (Qcn rfl (Qe 0)) (fun _ _ _=>(Qa5 (Qa4 (i:=0) (show List.Nodup (["number"]:List PySem.Str) by decide +kernel)))) (fun _ _ _=>Qcf) (fun _ _ _=>(Qab (hc 0 Qio rfl) Qao hr (Qc (Qe 0) Qh)))) Qh)))))
theorem Qxj (tx:Txt K mg):Qa9 P w K mg base ds Qki:=fun cf n R f cdv A outer s H E hc h1 co pz hr =>
 (Qq (Qf0 (t_w (Qj4 (Qfz (Qc3 (Qg1 tx.n_isinstance Qm (Qe 0) (Qii "tuple" tx.n_tuple Qcj)))) (Qj4 (Qw4 (Qdu (Qgy K rfl) (Qen K) tx.n_len Qco (Qc (Qe 0) Qh)) Qn) (Qie (Q34 (Qdu (Qgy K rfl) (Qen K) tx.n_len Qco (Qc (Qe 0) Qh)) (Qtk tx.m_MOST_ROWS)))))) (Q8 (Qay Qj3)) Qc5)
  (Q8 (Qay (Qdu (Qkq K rfl) (Qhc K) tx.n_all Qhn (Qc (Qcg ["row","thing"] [none,some 0] rfl (Qcn rfl (Qe 0)) (fun _ _ _=>(Qa5 (Qa4 (i:=0) (show List.Nodup (["row","thing"]:List PySem.Str) by decide +kernel)))) (fun _ _ _=>Qcf) (fun _ _ _=>(Qab (hc 1 Qmv rfl) Qao hr (Qc (Qe 0) (Qc (Qdu (Qgy K rfl) (Qen K) tx.n_len Qco (Qc (Qe 1) Qh)) Qh))))) Qh)))))
theorem Qpp (tx:Txt K mg):Qa9 P w K mg base ds Qgn:=fun cf n R f cdv A outer s H E hc h1 co pz hr =>
 (Q8 (Qf0 (Qfz (Qc3 (Qab (hc 2 Qki rfl) pz hr (Qc (Qe 0) Qh)))) (Q8 (Q0w 0 pz rfl tx.ex rfl (by decide) (Qc Qa0 Qh))) Qc5))
theorem Qmw (tx:Txt K mg):Qa9 P w K mg base ds Qeu:=fun cf n R f cdv A outer s H E hc h1 co pz hr =>
 (Qq (Qn7 (Qa8 (i:=1) Qcy.nd (Qce Qh)))
  (Qq (Qa6 (Qa8 (i:=2) Qcy.nd (Qdu Qac5 Q9k tx.n_abs Qaa1 (Qc (Qe 0) Qh))))
  (Qq (Qad2 (t_ge (Qe 2) (Qoe Qn Qn)) (Qq (Qma (Qf6 (Qo1 K rfl PySem.F.plainAttrs_list PySem.F.slot_list_append PySem.F.type_list_append Qel (Qb5 1) (Qs Qad4 Qa7))))
  (Q8 (Qa6 (Qa8 (i:=2) Qcy.nd (Q6m (Qe 2) (Qoe Qn Qn)))))))
  (Qq (Qma (Qf6 (Qo1 K rfl PySem.F.plainAttrs_list PySem.F.slot_list_append PySem.F.type_list_append Qel (Qb5 1) (Qs (Qg2 Q0o Qvc tx.n_str Qmq (Qc (Qe 2) Qh)) Qa7))))
  (Qq (Qma (Qf6 (Qo1 K rfl PySem.F.plainAttrs_list PySem.F.slot_list_append PySem.F.type_list_append Qel (Qb5 1) (Qs (Qu1 (Qw4 (Qe 0) Qn) Qa0 Qa0) Qa7))))
  (Qq (Qaeh (Qf6 (Qaei K rfl PySem.F.plainAttrs_list PySem.F.slot_list_reverse PySem.F.type_list_reverse ⟨Qs0⟩ (Qb5 1))))
  (Q8 (Qay (Qkw rfl (Qe 1))))))))))
theorem Qlb (tx:Txt K mg):Qa9 P w K mg base ds Qd7:=fun cf n R f cdv A outer s H E hc h1 co pz hr =>
 (Q8 (Qay (Qkw rfl (Qcg ["number"] [none] rfl (Qcn rfl (Qe 0)) (fun _ _ _=>(Qa5 (Qa4 (i:=0) (show List.Nodup (["number"]:List PySem.Str) by decide +kernel)))) (fun _ _ _=>Qcf) (fun _ _ _=>(Qab (hc 4 Qeu rfl) Qao hr (Qc (Qe 0) Qh)))))))
theorem Qnk (tx:Txt K mg):Qa9 P w K mg base ds Qdr:=fun cf n R f cdv A outer s H E hc h1 co pz hr =>
 (Qq (Qtl (Qab (hc 3 Qgn rfl) pz hr (Qc (Qe 0) Qh)))
  (Q8 (Qay (Qkw rfl (Qcg ["row"] [none] rfl (Qcn rfl (Qe 0)) (fun _ _ _=>(Qa5 (Qa4 (i:=0) (show List.Nodup (["row"]:List PySem.Str) by decide +kernel)))) (fun _ _ _=>Qcf) (fun _ _ _=>(Qab (hc 5 Qd7 rfl) Qao hr (Qc (Qe 0) Qh))))))))
theorem Qr1 (tx:Txt K mg):Qa9 P w K mg base ds Qhp:=fun cf n R f cdv A outer s H E hc h1 co pz hr =>
 (Qq (Qa6 (Qa8 (i:=1) Qjm.nd (Qu1 (Qc3 (Qaed (Qe 0))) (Q6p (Qe 0) Qn) (Qe 0))))
  (Qq (Qf0 (t_w (Qj4 (Qw4 (Qdu Qpa Qlj tx.n_len Qco (Qc (Qe 1) Qh)) Qn) (Qj4 (Q34 (Qdu Qpa Qlj tx.n_len Qco (Qc (Qe 1) Qh)) (Qtk tx.m_MOST_FIGURES)) (Qie (Qfz (Qc3 (Qdu (Qkq K rfl) (Qhc K) tx.n_all Qhn (Qc (Qcg ["figure"] [none] rfl (Q0u (Qe 1)) (fun _ _ _=>(Qa5 (Qa4 (i:=0) (show List.Nodup (["figure"]:List PySem.Str) by decide +kernel)))) (fun _ _ _=>Qcf) (fun _ _ _=>(Qad9 (Qe 0) (Q38 tx.m_FIGURES)))) Qh)))))))) (Q8 (Qay Qj3)) Qc5)
  (Q8 (Qay (s_or (Q9x hr.units (Qe 0) Qa0) (Qq1 (g_ne hr.units (Q0r (Qe 1) Qn) Qa0)))))))
theorem Qh5 (tx:Txt K mg):Qa9 P w K mg base ds Qcq:=fun cf n R f cdv A outer s H E hc h1 co pz hr =>
 (Qq (Qa6 (Qa8 (i:=2) Qdy.nd (Qkv (Qe 0))))
  (Q8 (Qay (Qu0 (Q9x hr.units (Qdu (Qgy K rfl) (Qen K) tx.n_len Qco (Qc (Qe 2) Qh)) (Qe 1)) (Qq1 (Qdu (Qkq K rfl) (Qhc K) tx.n_all Qhn (Qc (Qcg ["word"] [none] rfl (Qcn rfl (Qe 2)) (fun _ _ _=>(Qa5 (Qa4 (i:=0) (show List.Nodup (["word"]:List PySem.Str) by decide +kernel)))) (fun _ _ _=>Qcf) (fun _ _ _=>(Qab (hc 7 Qhp rfl) Qao hr (Qc (Qe 0) Qh)))) Qh)))))))
theorem Qr2 (tx:Txt K mg):Qa9 P w K mg base ds Qhq:=fun cf n R f cdv A outer s H E hc h1 co pz hr =>
 (Qq (Qa6 (Qa8 (i:=1) Qgg.nd (Qkv (Qe 0))))
  (Qq (Qof rfl (Qmc tx.n_range (Qdu (Qgy K rfl) (Qen K) tx.n_len Qco (Qc (Qe 1) Qh))) (Qa5 (Qa4 (i:=2) Qgg.nd)) (Q8 (Qf0 (t_w (Qj4 (Q0m hr.units (Qe 2) (Qtk tx.m_MOST_ROWS)) (Qie (Qfz (Qc3 (Qab (hc 8 Qcq rfl) Qao hr (Qc (Qk6 rfl (Qe 1) (Qe 2)) (Qc (Qdu (Qgy K rfl) (Qen K) tx.n_len Qco (Qc (Qe 1) Qh)) Qh)))))))) (Q8 (Qay (Qbt rfl (Qe 2) Qn))) Qc5)))
  (Q8 (Qay Qi7))))
theorem Qr3 (tx:Txt K mg):Qa9 P w K mg base ds Qhr:=fun cf n R f cdv A outer s H E hc h1 co pz hr =>
 (Q8 (Qf0 (Qfz (Qc3 (Qg1 tx.n_isinstance Qm (Qe 0) (Qii "str" tx.n_str Qmq)))) (Q8 (Qra 8 pz rfl tx.ex tx.i_NoText hr rfl (by decide) (Qc Qn Qh))) Qc5))
theorem Qpq (tx:Txt K mg):Qa9 P w K mg base ds Qgo:=fun cf n R f cdv A outer s H E hc h1 co pz hr =>
 (Qq (Qtl (Qab (hc 10 Qhr rfl) pz hr (Qc (Qe 0) Qh)))
  (Qq (Qa6 (Qa8 (i:=1) Qif.nd (Qab (hc 9 Qhq rfl) pz hr (Qc (Qe 0) Qh))))
  (Qq (Qf0 (Q9y (Qe 1) Qi7) (Q8 (Qra 8 pz rfl tx.ex tx.i_NoText hr rfl (by decide) (Qc (Qe 1) Qh))) Qc5)
  (Q8 (Qay (Qg2 (Qhu K rfl) (Qj5 K) tx.n_tuple Qcj (Qc (Qcg ["row"] [none] rfl (Qcn rfl (Qkv (Qe 0))) (fun _ _ _=>(Qa5 (Qa4 (i:=0) (show List.Nodup (["row"]:List PySem.Str) by decide +kernel)))) (fun _ _ _=>Qcf) (fun _ _ _=>(Qg2 (Qhu K rfl) (Qj5 K) tx.n_tuple Qcj (Qc (Qcg ["word"] [none] rfl (Qcn rfl (Qkv (Qe 0))) (fun _ _ _=>(Qa5 (Qa4 (i:=0) (show List.Nodup (["word"]:List PySem.Str) by decide +kernel)))) (fun _ _ _=>Qcf) (fun _ _ _=>(Qg2 Q0q Qvd tx.n_int Qkg (Qc (Qe 0) Qh)))) Qh)))) Qh)))))))
theorem Qxk (tx:Txt K mg):Qa9 P w K mg base ds Qkk:=fun cf n R f cdv A outer s H E hc h1 co pz hr =>
 (Qq (Qa6 (Qa8 (i:=1) Qmn.nd (Qdu (Q9l K rfl rfl) (Q9m K) tx.n_max Qaa2 (Qc (Qe 0) (Qc (Qu9 Qn (Qe 0)) Qh)))))
  (Q8 (Qay (Qce (Qc (Qe 1) (Qc (Qg2 Q8v Q9o tx.n_int Qkg (Qc (g_ge (Qe 1) (Qoe Qn Qn)) Qh)) Qh))))))
theorem Qt1 (tx:Txt K mg):Qa9 P w K mg base ds Qbc:=fun cf n R f cdv A outer s H E hc h1 co pz hr =>
 (Qq (Qf0 (Q0m hr.units (Qk6 rfl (Qe 0) Qn) Qn) (Qq (Qad1 (Qzc (Qdu Qac7 Q9n tx.n_divmod Qxg (Qc (Qk6 rfl (Qe 0) Qn) (Qc (Qe 1) Qh))) (Q0g (is:=[2,3]) (Qza K rfl rfl (Qlg (Qa4 (i:=2) Qdz.nd) (Qlg (Qa4 (i:=3) Qdz.nd) Qy9))) rfl)))
  (Qq (Q6l (Qzc (Qe 2) (Qzb (Qb5 0) Qn)))
  (Q8 (Qay (Qe 3))))) Qc5)
  (Qq (Qa6 (Qa8 (i:=4) Qdz.nd (Qod (Qva (Qbt rfl (Qod (Qk6 rfl (Qe 0) Qn) Qn) Qn) Qn) Qn)))
  (Qq (Qa6 (Qa8 (i:=4) Qdz.nd (Qod (Qbt rfl (Qva (Qe 4) (Qe 4)) Qn) Qn)))
  (Qq (Q6l (Qzc (Qod (Qbt rfl (Qva (Qe 4) Qn) Qn) Qn) (Qzb (Qb5 0) Qn)))
  (Q8 (Qay (Qod (Q6m (Qk6 rfl (Qe 0) Qn) Qn) (Qe 1))))))))
theorem Qr4 (tx:Txt K mg):Qa9 P w K mg base ds Qfe:=fun cf n R f cdv A outer s H E hc h1 co pz hr =>
 (Q8 (Qay (Qu0 (Qg1 tx.n_isinstance Qm (Qe 0) (Qii "int" tx.n_int Qkg)) (Qq1 (Q6h (Qg1 tx.n_isinstance Qm (Qe 0) (Qii "bool" tx.n_bool Qpm)))))))
theorem Qxl (tx:Txt K mg):Qa9 P w K mg base ds Qkm:=fun cf n R f cdv A outer s H E hc h1 co pz hr =>
 (Qq (Qa6 (Qa8 (i:=1) Qmo.nd (Qce (Qc Qi7 (Qc Qj3 (Qc Qj3 (Qc (Q6g Qn) (Qc Qa0 (Qc Qa0 (Qc (Qfy Qh) (Qc (Qce Qh) (Qc (Qfy (Qc Qn Qh)) (Qc (Qce (Qc Qn Qh)) (Qc (Qad5 (Q27 Qact)) (Qc (Qfy (Qc Qn (Qc Qn Qh))) (Qc (Qoe Qn Qn) (Qc (Qfy (Qc (Qfy (Qc Qn Qh)) Qh)) (Qc (Qfy (Qc Qa0 Qh)) Qh))))))))))))))))))
  (Q8 (Qay (Qk6 rfl (Qbt rfl (Qe 1) (Qce (Qc (Qfy (Qc Qj3 Qh)) Qh))) (Qab (hc 13 Qbc rfl) pz hr (Qc (Qe 0) (Qc Qn Qh)))))))
theorem Qpr (tx:Txt K mg):Qa9 P w K mg base ds Qgq:=fun cf n R f cdv A outer s H E hc h1 co pz hr =>
 (Qq (Qa6 (Qa8 (i:=3) Qb0.nd (Qbt rfl Qn (Qab (hc 13 Qbc rfl) pz hr (Qc (Qe 0) (Qc (Qe 2) Qh))))))
  (Qq (Qa6 (Qa8 (i:=4) Qb0.nd (Qab (hc 13 Qbc rfl) pz hr (Qc (Qe 0) (Qc Qn Qh)))))
  (Qq (Qn7 (Qa8 (i:=5) Qb0.nd (Qce Qh)))
  (Qq (Qof rfl (Qmc tx.n_range (Qe 3)) (Qa5 (Qa4 (i:=6) Qb0.nd)) (Qq (Qn7 (Qa8 (i:=7) Qb0.nd (Qce Qh)))
  (Qq (Qof rfl (Qmc tx.n_range (Qe 1)) (Qa5 (Qa4 (i:=8) Qb0.nd)) (Q8 (Qma (Qf6 (Qo1 K rfl PySem.F.plainAttrs_list PySem.F.slot_list_append PySem.F.type_list_append Qel (Qb5 7) (Qs (Qg2 (Qhu K rfl) (Qj5 K) tx.n_tuple Qcj (Qc (Qcg ["_law_j","_law_pen_here","_law_kind_here"] [none,some 0,some 4] rfl (Qmc tx.n_range (Qe 1)) (fun _ _ _=>(Qa5 (Qa4 (i:=0) (show List.Nodup (["_law_j","_law_pen_here","_law_kind_here"]:List PySem.Str) by decide +kernel)))) (fun _ _ _=>Qcf) (fun _ _ _=>(Qab (hc 17 Qgr rfl) Qao hr (Qc (Qe 1) (Qc (Qe 2) Qh))))) Qh)) Qa7))))))
  (Q8 (Qma (Qf6 (Qo1 K rfl PySem.F.plainAttrs_list PySem.F.slot_list_append PySem.F.type_list_append Qel (Qb5 5) (Qs (Qg2 (Qhu K rfl) (Qj5 K) tx.n_tuple Qcj (Qc (Qe 7) Qh)) Qa7))))))))
  (Q8 (Qay (Qe 5)))))))
theorem Qps (tx:Txt K mg):Qa9 P w K mg base ds Qgr:=fun cf n R f cdv A outer s H E hc h1 co pz hr =>
 (Qq (Qf0 (Qw4 (Qe 1) Qn) (Q8 (Qay (Qk6 rfl (Qce (Qc Qn (Qc Qn (Qc Qn (Qc Qn (Qc Qn (Qc (Q6g Qn) Qh))))))) (Qab (hc 13 Qbc rfl) pz hr (Qc (Qe 0) (Qc Qn Qh)))))) Qc5)
  (Qq (Qf0 (Qw4 (Qe 1) Qn) (Q8 (Qay (Qu9 (Qab (hc 13 Qbc rfl) pz hr (Qc (Qe 0) (Qc Qn Qh))) Qn))) Qc5)
  (Q8 (Qay (Qbt rfl (Qu9 (Qab (hc 13 Qbc rfl) pz hr (Qc (Qe 0) (Qc (Qu9 (Qva Qn (Qoe Qn Qn)) Qn) Qh))) (Qoe Qn Qn)) Qn)))))
theorem Qmx (tx:Txt K mg):Qa9 P w K mg base ds Qex:=fun cf n R f cdv A outer s H E hc h1 co pz hr =>
 (Qq (Qf0 (t_w (Qj4 (Qfz (Qc3 (Qg1 tx.n_isinstance Qm (Qe 0) (Qii "tuple" tx.n_tuple Qcj)))) (Qj4 (Q0n hr.units (Qe 0) (Qe 1)) (Qie (Qfz (Qc3 (Qdu (Qkq K rfl) (Qhc K) tx.n_all Qhn (Qc (Qcg ["_law_row"] [none] rfl (Qcn rfl (Qe 0)) (fun _ _ _=>(Qa5 (Qa4 (i:=0) (show List.Nodup (["_law_row"]:List PySem.Str) by decide +kernel)))) (fun _ _ _=>Qcf) (fun _ _ _=>(Qg1 tx.n_isinstance Qm (Qe 0) (Qii "tuple" tx.n_tuple Qcj)))) Qh)))))))) (Q8 (Qay Qj3)) Qc5)
  (Q8 (Qay (Qdu (Qkq K rfl) (Qhc K) tx.n_all Qhn (Qc (Qcg ["_law_row"] [none] rfl (Qcn rfl (Qe 0)) (fun _ _ _=>(Qa5 (Qa4 (i:=0) (show List.Nodup (["_law_row"]:List PySem.Str) by decide +kernel)))) (fun _ _ _=>Qcf) (fun _ _ _=>(Qdu (Qkq K rfl) (Qhc K) tx.n_all Qhn (Qc (Qcg ["_law_one"] [none] rfl (Qcn rfl (Qe 0)) (fun _ _ _=>(Qa5 (Qa4 (i:=0) (show List.Nodup (["_law_one"]:List PySem.Str) by decide +kernel)))) (fun _ _ _=>Qcf) (fun _ _ _=>(Qab (hc 14 Qfe rfl) Qao hr (Qc (Qe 0) Qh)))) Qh)))) Qh)))))
theorem Qt2 (tx:Txt K mg):Qa9 P w K mg base ds Qiq:=fun cf n R f cdv A outer s H E hc h1 co pz hr =>
 (Q8 (Qay (Qkw rfl (Qcg ["_law_row"] [none] rfl (Qcn rfl (Qe 0)) (fun _ _ _=>(Qa5 (Qa4 (i:=0) (show List.Nodup (["_law_row"]:List PySem.Str) by decide +kernel)))) (fun _ _ _=>Qcf) (fun _ _ _=>(Qkw rfl (Qcg ["_law_number_here"] [none] rfl (Qcn rfl (Qe 0)) (fun _ _ _=>(Qa5 (Qa4 (i:=0) (show List.Nodup (["_law_number_here"]:List PySem.Str) by decide +kernel)))) (fun _ _ _=>Qcf) (fun _ _ _=>(Qg2 Q0o Qvc tx.n_str Qmq (Qc (Qe 0) Qh))))))))))
theorem Qlc (tx:Txt K mg):Qa9 P w K mg base ds Qd9:=fun cf n R f cdv A outer s H E hc h1 co pz hr =>
 (Qq (Qa6 (Qa8 (i:=1) Qf3.nd (Qu1 (Q0m hr.units (Qaea (Qe 0) Qn) Qa0) (Q6p (Qe 0) Qn) (Qe 0))))
  (Qq (Qf0 (t_w (Qj4 (Qfz (Qaen Qn (Qdu Qpa Qlj tx.n_len Qco (Qc (Qe 1) Qh)) Qn)) (Qie (Q0n hr.units (Qcg ["_law_sign"] [none] rfl (Q0u (Qe 1)) (fun _ _ _=>(Qa5 (Qa4 (i:=0) (show List.Nodup (["_law_sign"]:List PySem.Str) by decide +kernel)))) (fun _ _ _=>(Q9r (Q94 (Qe 0) Qa0))) (fun _ _ _=>(Qe 0))) (Qce Qh))))) (Q8 (Qay Qi7)) Qc5)
  (Qq (Qf0 (t_w (Qads (Q0m hr.units (Q0r (Qe 1) Qn) Qa0) (Qie (t_w (Qj4 (Q34 (Qdu Qpa Qlj tx.n_len Qco (Qc (Qe 1) Qh)) Qn) (Qie (Q0m hr.units (Q0r (Qe 0) Qn) Qa0))))))) (Q8 (Qay Qi7)) Qc5)
  (Q8 (Qay (Qg2 Q0q Qvd tx.n_int Qkg (Qc (Qe 0) Qh)))))))
theorem Qt3 (tx:Txt K mg):Qa9 P w K mg base ds Qir:=fun cf n R f cdv A outer s H E hc h1 co pz hr =>
 (Qq (Qa6 (Qa8 (i:=1) Qc8.nd (Qkv (Qe 0))))
  (Qq (Qn7 (Qa8 (i:=2) Qc8.nd (Qce Qh)))
  (Qq (Qof rfl (Qad6 rfl tx.n_enumerate Qpn (Qe 1)) (Q0g (is:=[3,4]) (Qza K rfl rfl (Qlg (Qa4 (i:=3) Qc8.nd) (Qlg (Qa4 (i:=4) Qc8.nd) Qy9))) rfl) (Qq (Qa6 (Q9z ["_law_word"] [none] rfl (Qcn rfl (Qkv (Qe 4))) (fun _ _ _=>(Qa5 (Qa4 (i:=0) (show List.Nodup (["_law_word"]:List PySem.Str) by decide +kernel)))) (fun _ _ _=>Qcf) (fun _ _ _=>(Qab (hc 20 Qd9 rfl) Qao hr (Qc (Qe 0) Qh))) (Qa4 (i:=5) Qc8.nd)))
  (Qq (Qf0 (t_w (Qj4 (Q34 (Qe 3) Qn) (Qj4 (Q0n hr.units (Qdu (Qgy K rfl) (Qen K) tx.n_len Qco (Qc (Qe 5) Qh)) (Qdu (Qgy K rfl) (Qen K) tx.n_len Qco (Qc (Qe 1) Qh))) (Qie (t_in hr.units Qi7 (Qe 5)))))) (Q8 (Qay (Qbt rfl (Qe 3) Qn))) Qc5)
  (Q8 (Qma (Qf6 (Qo1 K rfl PySem.F.plainAttrs_list PySem.F.slot_list_append PySem.F.type_list_append Qel (Qb5 2) (Qs (Qg2 (Qhu K rfl) (Qj5 K) tx.n_tuple Qcj (Qc (Qe 5) Qh)) Qa7))))))))
  (Q8 (Qay (Qg2 (Qhu K rfl) (Qj5 K) tx.n_tuple Qcj (Qc (Qe 2) Qh)))))))
theorem Qt4 (tx:Txt K mg):Qa9 P w K mg base ds Qis:=fun cf n R f cdv A outer s H E hc h1 co pz hr =>
 (Qq (Q0x (i:=1) tx.ex (fun pins R' pz'=>(Q8 (Qay (Qab (hc 11 Qgo rfl) pz' hr (Qc (Qe 0) Qh))))) (fun pins e=>QB.weak (Qfk (Qus (Q8m (Qy8 (Qlr Q8q (Qzr (Qjq tx.k_kind tx) ((hr.mono h1.1).mark _) (Qs (Qb5 1) Qa7)) Qlq (Qor _)) (Qur (Qs5 (Qzr (Qrz tx.k_whole tx) ((hr.mono h1.1).mark _) (Qs (Qz0 K rfl (Qb5 1)) Qa7)))))) (Qfk (Qi4 (Qz0 K rfl (Qb5 1)))) Qo2)) fun D σ H z=>Q4x tx z) Qk2.nd)
  (Q8 (Qay Qi7)))
theorem Qr5 (tx:Txt K mg):Qa9 P w K mg base ds Qff:=fun cf n R f cdv A outer s H E hc h1 co pz hr =>
 (Qq (Qa6 (Qa8 (i:=1) Qgl.nd (Qab (hc 22 Qis rfl) pz hr (Qc (Qe 0) Qh))))
  (Qq (Qa6 (Qa8 (i:=2) Qgl.nd (Qu1 (Qc3 (Qg1 tx.n_isinstance Qm (Qe 0) (Qii "str" tx.n_str Qmq))) (Qab (hc 21 Qir rfl) pz hr (Qc (Qe 0) Qh)) Qn)))
  (Qq (Qf0 (Qc3 (Qg1 tx.n_isinstance Qm (Qe 2) (Qii "tuple" tx.n_tuple Qcj))) (Q8 (Qay (Qab (hc 18 Qex rfl) pz hr (Qc (Qe 1) (Qc (Qe 2) Qh))))) Qc5)
  (Q8 (Qay (Qu0 (Qab (hc 14 Qfe rfl) pz hr (Qc (Qe 1) Qh)) (Qq1 (Q9x hr.units (Qe 1) (Qe 2)))))))))
theorem Qpt (tx:Txt K mg):Qa9 P w K mg base ds Qgs:=fun cf n R f cdv A outer s H E hc h1 co pz hr =>
 (Qq (Qa6 (Qa8 (i:=2) Qa3.nd (Qkv (Qe 1))))
  (Qq (Qa6 (Qa8 (i:=3) Qa3.nd (Qab (hc 13 Qbc rfl) pz hr (Qc (Qe 0) (Qc (Qdu (Qgy K rfl) (Qen K) tx.n_len Qco (Qc (Qe 2) Qh)) Qh)))))
  (Qq (Qa6 (Qa8 (i:=4) Qa3.nd (Qkv (Qk6 rfl (Qe 2) (Qe 3)))))
  (Qq (Qa6 (Qa8 (i:=5) Qa3.nd (Qab (hc 13 Qbc rfl) pz hr (Qc (Qe 0) (Qc (Qdu (Qgy K rfl) (Qen K) tx.n_len Qco (Qc (Qe 4) Qh)) Qh)))))
  (Qq (Qa6 (Qa8 (i:=6) Qa3.nd (Qce (Qc Qa0 (Qc Qa0 (Qc Qa0 (Qc Qa0 (Qc Qa0 (Qc Qa0 (Qc Qa0 (Qc Qa0 (Qc (Qtn Qa0 Qn) (Qc (Qtn Qa0 Qn) (Qc (Q93 Qa0 (Qtn Qa0 Qn)) (Qc Qa0 (Qc Qa0 (Qc Qa0 (Qc Qa0 Qh))))))))))))))))))
  (Qq (Qa6 (Qa8 (i:=7) Qa3.nd (Qk6 rfl (Qe 6) (Qab (hc 13 Qbc rfl) pz hr (Qc (Qe 0) (Qc Qn Qh))))))
  (Qq (Qa6 (Qa8 (i:=8) Qa3.nd (Qce (Qc (Qbt rfl (Qdv rfl (Qe 2) Qby (Qbz (Qe 3))) (Qdv rfl (Qe 2) (Qbz (Qbt rfl (Qe 3) Qn)) Qby)) (Qc (Qbt rfl (Qdv rfl (Qe 2) Qby (Qbz (Qbt rfl (Qe 3) Qn))) (Qdv rfl (Qe 2) (Qbz (Qe 3)) Qby)) (Qc (Qbt rfl (Qe 2) (Qce (Qc Qa0 Qh))) (Qc (Qbt rfl (Qbt rfl (Qdv rfl (Qe 2) Qby (Qbz (Qe 3))) (Qce (Qc Qa0 Qh))) (Qdv rfl (Qe 2) (Qbz (Qbt rfl (Qe 3) Qn)) Qby)) Qh)))))))
  (Qq (Qn7 (Qa8 (i:=9) Qa3.nd (Qce (Qc (Qbt rfl (Qdv rfl (Qe 4) Qby (Qbz (Qe 5))) (Qdv rfl (Qe 4) (Qbz (Qbt rfl (Qe 5) Qn)) Qby)) (Qc (Qbt rfl (Qdv rfl (Qe 4) Qby (Qbz (Qbt rfl (Qe 5) Qn))) (Qdv rfl (Qe 4) (Qbz (Qe 5)) Qby)) (Qc (Qbt rfl (Qbt rfl (Qdv rfl (Qe 4) Qby (Qbz (Qe 5))) (Qce (Qc (Qe 7) Qh))) (Qdv rfl (Qe 4) (Qbz (Qbt rfl (Qe 5) Qn)) Qby)) Qh))))))
  (Qq (Qma (Qf6 (Qo1 K rfl PySem.F.plainAttrs_list PySem.F.slot_list_append PySem.F.type_list_append Qel (Qb5 9) (Qs (Qbt rfl (Qbt rfl (Qdv rfl (Qe 4) Qby (Qbz (Qe 5))) (Qce (Qc (Qe 7) Qh))) (Qdv rfl (Qe 4) (Qbz (Qe 5)) Qby)) Qa7))))
  (Qq (Qa6 (Qa8 (i:=10) Qa3.nd (Qab (hc 13 Qbc rfl) pz hr (Qc (Qe 0) (Qc Qn Qh)))))
  (Qq (Qf0 (Qw4 (Qe 10) Qn) (Q8 (Qay (Qkw rfl (Qk6 rfl (Qe 8) (Qe 10))))) Qc5)
  (Q8 (Qay (Qkw rfl (Qbt rfl (Qbt rfl (Qdv rfl (Qe 2) Qby (Qbz (Qe 3))) (Qce (Qc (Qkw rfl (Qk6 rfl (Qe 9) (Qod (Qe 10) Qn))) Qh))) (Qdv rfl (Qe 2) (Qbz (Qbt rfl (Qe 3) Qn)) Qby))))))))))))))))
theorem Qnl (tx:Txt K mg):Qa9 P w K mg base ds Qfp:=fun cf n R f cdv A outer s H E hc h1 co pz hr =>
 (Qq (Q0x (i:=1) tx.ex (fun pins R' pz'=>(Q8 (Qtl (Qab (hc 6 Qdr rfl) pz' hr (Qc (Qe 0) Qh))))) (fun pins e=>QB.weak (Qfk (Qi4 (Qy5 Q8q (Qzr (Qjq tx.k_kind tx) ((hr.mono h1.1).mark _) (Qs (Qb5 1) Qa7)) Qlq (Qor _)))) fun D σ H z=>Qxi tx z) Qhm.nd)
  (Q8 (Qay Qj3)))
theorem Qpu (d:Dfn K mg "_law_cell" Qer) (tx:Txt K mg):Has P w K mg base "_law_cell" ["_law_script","_law_k"] 1 (Qme K):=by
 refine Qac8 (k:=0) d Qrp Qrq (fun vs H Q E h=>?_) (fun f cdv A outer s H vs Q E hr h=>?_)
 ·obtain ⟨a,ns,k,rfl,_⟩:=h
  rfl
 ·obtain ⟨a,ns,k,rfl,hs,q⟩:=h
  refine ⟨_,(Qec (Qus (Qlr o_lt (Qb5 1) (Qh3 (Qgy K rfl) tx.n_len Qco (Qs (Qb5 0) Qa7)) (Qor _)) (Qfk (Qi4 (Q28 (Q8s K rfl) (Qb5 0) (Qb5 1)))) Qo2)
   (Qfk (Qi4 Qnw))),?_⟩
  refine ⟨_,rfl,_,rfl,a,_,rfl,.inl hs,_,_,rfl,rfl,_,rfl,?_⟩
  refine ite2 (fun c=>?_) (fun c=>?_)
  ·have c:(k:Int)<(ns.map V.int).length:=by simpa using c
   have hk:k<ns.length:=by rw [List.length_map] at c;omega
   refine ⟨_,rfl,_,rfl,.inl ⟨a,_,_,_,rfl,rfl,hs,Qcb (v:=V.int ns[k]) ?_,q _⟩⟩
   rw [List.getElem?_map,List.getElem?_eq_getElem hk]
   rfl
  ·exact q _
noncomputable abbrev Q6y:L2.S:=(.for_ (.seq (.lst (.cons (.str "") (.cons (.str "0") (.cons (.str "-0") (.cons (.str "1 2") (.cons (.str "1 2/3 4") (.cons (.str "1/2") (.cons (.str "1 2/3 4/") (.cons (.str "/") (.cons (.str " 1") (.cons (.str "1 ") (.cons .non (.cons (.int 7) (.cons (.lst (.cons (.str "1") .nil)) (.cons (.tup (.cons (.tup (.cons (.int 1) .nil)) .nil)) .nil)))))))))))))))) (.nm 1) (.ite (.not (.call 23 (.cons (.var 1) .nil))) (.ret (.bl false)) .nil))
noncomputable abbrev Q1e:L2.S:=(.seq (.set 3 (.call 12 (.cons (.var 2) .nil)))
 (.seq (.setF 4 (.ix (.call 16 (.cons (.var 3) (.cons (.bin .add (.int 1) (.call 13 (.cons (.var 3) (.cons (.int 4) .nil)))) (.cons (.int 1) .nil)))) (.int 0)))
 (.seq (.setF 1 (.call 19 (.cons (.var 4) .nil)))
 (.seq (.setF 5 (.call 6 (.cons (.var 4) .nil)))
 (.seq (.ite (.or (.not (.isI (.var 5) "str")) (.cmp .ne (.var 5) (.var 1))) (.ret (.bl false)) .nil)
 (.seq (.setF 6 (.bin .add (.lst (.cons (.var 1) (.cons (.call 15 (.cons (.var 3) .nil)) .nil))) (.comp (.rng1 (.int 4)) [none,some 3,some 1] (.nm 0) .nil (.call 24 (.cons (.var 1) (.cons (.var 2) .nil))))))
 (.seq (.ite (.not (.bi .all (.cons (.comp (.seq (.var 6)) [none] (.nm 0) .nil (.call 23 (.cons (.var 0) .nil))) .nil))) (.ret (.bl false)) .nil)
 (.for_ (.seq (.lst (.cons .non (.cons (.bi .list (.cons (.var 4) .nil)) (.cons (.bin .add (.var 4) (.slc (.var 4) .nil (.cons (.int 1) .nil))) (.cons (.tup (.cons (.var 4) .nil)) (.cons (.tup (.cons (.tup (.cons (.bl true) .nil)) .nil)) (.cons (.tup .nil) (.cons (.int 0) (.cons (.var 1) .nil)))))))))) (.nm 7) (.ite (.not (.call 25 (.cons (.var 7) .nil))) (.ret (.bl false)) .nil)))))))))
theorem Qaev (tx:Txt K mg) {cf:CF} {f:Addr} {cdv:Value} {A:Around} {outer:List Env} {s:Shared} {H:Hp} {E:XK} (hc:Qo8 P w K mg base ds cf 29) (h_cell:Has P w K mg base "_law_cell" ["_law_script","_law_k"] 1 (Qme K)) (hr:Room 29 (A.deeper (PyProof.Rows.envOfC "law" (Qf Qk3) s.heap.objs.size f cdv))) :
  QB (Qh2 (fun _=>true) CX0 P w K mg base ["_law_script","_law_text_here","_law_cell_here","_law_pen_here","_law_table","_law_found","_law_things","_law_thing"] "law" (Qf Qk3) f cdv A outer s H E).nox (Qaa Qk3) (Q6w ⟨cf,fun _ _ _ _=>False,mg⟩ K Q6y 2 5 Q1e) :=
 Qec (Qof rfl (Qcn rfl (Qce (Qc Qa0 (Qc Qa0 (Qc Qa0 (Qc Qa0 (Qc Qa0 (Qc Qa0 (Qc Qa0 (Qc Qa0 (Qc Qa0 (Qc Qa0 (Qc Qi7 (Qc Qn (Qc (Qce (Qc Qa0 Qh)) (Qc (Qfy (Qc (Qfy (Qc Qn Qh)) Qh)) Qh)))))))))))))))) (Qa5 (Qa4 (i:=1) Qgm.nd)) (Q8 (Qf0 (Qfz (Qc3 (Qab (hc 23 Qff rfl) Qao hr (Qc (Qe 1) Qh)))) (Q8 (Qay Qj3)) Qc5)))
  (Qec (Q55 PassesOwn.never rfl (Q54 K rfl (Qwm (Qut K rfl) (Qqk (Qs (q_fn h_cell (hr.mono (by decide)) (Qs (Qb5 0) (Qs Qnw Qa7))) Qa7)) (Q29 (o_sl K rfl) (Qb5 0) (Qls Qnw) (Qls Qnw)))) (Qa4 (i:=2) Qgm.nd)
   (Qq (Qn7 (Qa8 (i:=3) Qgm.nd (Qab (hc 12 Qkk rfl) Qao hr (Qc (Qe 2) Qh))))
  (Qq (Qa6 (Qa8 (i:=4) Qgm.nd (Qk6 rfl (Qab (hc 16 Qgq rfl) Qao hr (Qc (Qe 3) (Qc (Qbt rfl Qn (Qab (hc 13 Qbc rfl) Qao hr (Qc (Qe 3) (Qc Qn Qh)))) (Qc Qn Qh)))) Qn)))
  (Qq (Qa6 (Qa8 (i:=1) Qgm.nd (Qab (hc 19 Qiq rfl) Qao hr (Qc (Qe 4) Qh))))
  (Qq (Qa6 (Qa8 (i:=5) Qgm.nd (Qab (hc 6 Qdr rfl) Qao hr (Qc (Qe 4) Qh))))
  (Qq (Qf0 (t_w (Qj4 (Qfz (Qc3 (Qg1 tx.n_isinstance Qm (Qe 5) (Qii "str" tx.n_str Qmq)))) (Qie (Q0n hr.units (Qe 5) (Qe 1))))) (Q8 (Qay Qj3)) Qc5)
  (Qq (Qa6 (Qa8 (i:=6) Qgm.nd (Qbt rfl (Qce (Qc (Qe 1) (Qc (Qab (hc 15 Qkm rfl) Qao hr (Qc (Qe 3) Qh)) Qh))) (Qcg ["_law_turn","_law_pen_here","_law_text_here"] [none,some 3,some 1] rfl (Qmc tx.n_range Qn) (fun _ _ _=>(Qa5 (Qa4 (i:=0) (show List.Nodup (["_law_turn","_law_pen_here","_law_text_here"]:List PySem.Str) by decide +kernel)))) (fun _ _ _=>Qcf) (fun _ _ _=>(Qab (hc 24 Qgs rfl) Qao hr (Qc (Qe 1) (Qc (Qe 2) Qh))))))))
  (Qq (Qf0 (Qfz (Qc3 (Qdu (Qkq K rfl) (Qhc K) tx.n_all Qhn (Qc (Qcg ["_law_thing"] [none] rfl (Qcn rfl (Qe 6)) (fun _ _ _=>(Qa5 (Qa4 (i:=0) (show List.Nodup (["_law_thing"]:List PySem.Str) by decide +kernel)))) (fun _ _ _=>Qcf) (fun _ _ _=>(Qab (hc 23 Qff rfl) Qao hr (Qc (Qe 0) Qh)))) Qh)))) (Q8 (Qay Qj3)) Qc5)
  (Q8 (Qof rfl (Qcn rfl (Qce (Qc Qi7 (Qc (Qg2 (Q8w K rfl) (Q3t K) tx.n_list Q4w (Qc (Qe 4) Qh)) (Qc (Qbt rfl (Qe 4) (Qdv rfl (Qe 4) Qby (Qbz Qn))) (Qc (Qfy (Qc (Qe 4) Qh)) (Qc (Qfy (Qc (Qfy (Qc Qj3 Qh)) Qh)) (Qc (Qfy Qh) (Qc Qn (Qc (Qe 1) Qh)))))))))) (Qa5 (Qa4 (i:=7) Qgm.nd)) (Q8 (Qf0 (Qfz (Qc3 (Qab (hc 25 Qfp rfl) Qao hr (Qc (Qe 7) Qh)))) (Q8 (Qay Qj3)) Qc5))))))))))))
  (Qfk (Qi4 Q26)))
end
open PySem L2
noncomputable abbrev cfn (k:Nat):CF:=evF (Qje ds) k
noncomputable abbrev Tb:=List (List Int)
noncomputable abbrev Qba (r:List Int):T:=.tup (r.map .int)
noncomputable abbrev Qbg (M:Tb):T:=.tup (M.map Qba)
noncomputable abbrev Q6z (Ms:List Tb):T:=.lst (Ms.map Qbg)
structure Sq (n:Nat) (M:Tb):Prop where
 len:M.length=n
 row:∀ r∈M,r.length=n
 bd:∀ r∈M,∀ x∈r,(x:Int).natAbs≤1000000000000
structure Tabs (n:Nat) (Ms:List Tb):Prop where
 n1:1≤n
 n4:n≤4
 m1:1≤Ms.length
 m4:Ms.length≤4
 sq:∀ M∈Ms,Sq n M
noncomputable def whole:T→Bool
 | .int _=>true
 | _=>false
noncomputable def nc:T→Bool
 | .clo _ _=>false
 | _=>true
theorem Qt5 (k:Nat) (t:T) (h:nc t=true:=by rfl):cfn (k+1) 0 [.fz t]=.ok (.fz (.bl (whole t))) [.non]:=by cases t <;> first | (cases h;done) | rfl
theorem Qhs (k:Nat) (t:T) (h:nc t=true:=by rfl):cfn (k+1) 14 [.fz t]=.ok (.fz (.bl (whole t))) [.non]:=by cases t <;> first | (cases h;done) | rfl
theorem Q4y {n:Nat} {Ms:List Tb} (h:Tabs n Ms) {i:Nat} (hi:i<Ms.length):atI (Ms.map Qbg) (i:Int)=some (Qbg Ms[i])∧Sq n Ms[i] :=
 ⟨Qcb (by rw [List.getElem?_map,List.getElem?_eq_getElem hi];rfl),h.sq _ (List.getElem_mem hi)⟩
open PySem L2
noncomputable def gd:Nat→T→Bool
 | _,.clo _ _=>false
 | n+1,.tup ts=>decide (ts.length≤1000)&&ts.all (gd n)
 | n+1,.lst ts=>decide (ts.length≤1000)&&ts.all (gd n)
 | 0,.tup _=>false
 | 0,.lst _=>false
 | _,_=>true
theorem Q1f {n:Nat} {t:T} (h:gd n t=true):nc t=true:=by
 cases t <;> first | rfl | (cases n <;> cases h)
theorem Qt6 {n:Nat} {ts:List T} (h:gd (n+1) (.tup ts)=true):ts.length≤1000∧∀ x∈ts,gd n x=true:=by
 have h:(decide (ts.length≤1000)&&ts.all (gd n))=true:=h
 rw [Bool.and_eq_true,decide_eq_true_eq,List.all_eq_true] at h
 exact h
theorem Qaa4 {n:Nat} {ts:List T} (h:gd (n+1) (.lst ts)=true):ts.length≤1000∧∀ x∈ts,gd n x=true:=by
 have h:(decide (ts.length≤1000)&&ts.all (gd n))=true:=h
 rw [Bool.and_eq_true,decide_eq_true_eq,List.all_eq_true] at h
 exact h
theorem Q60 {n:Nat} {ts:List T} (h:ts.length≤1000) (h2:∀ x∈ts,gd n x=true):gd (n+1) (.tup ts)=true∧gd (n+1) (.lst ts)=true:=by
 have q:(decide (ts.length≤1000)&&ts.all (gd n))=true:=by rw [Bool.and_eq_true,decide_eq_true_eq,List.all_eq_true];exact ⟨h,h2⟩
 exact ⟨q,q⟩
noncomputable def Q4z:T→Bool
 | .tup _=>true
 | _=>false
noncomputable def lenT:T→Nat
 | .tup ts=>ts.length
 | _=>0
noncomputable def Qld (n:Nat):T→Bool
 | .tup ts=>decide (ts.length=n)&&ts.all whole
 | _=>false
noncomputable def Qig:T→Bool
 | .tup ts=>decide (1≤ts.length∧ts.length≤4)&&ts.all (Qld ts.length)
 | _=>false
theorem Qaa5 (k:Nat) (n:Nat) {t:T} (hn:nc t=true) (ht:Q4z t=false):cfn (k+2) 1 [.fz t,.fz (.int n)]=.ok (.fz (.bl false)) [.non,.non]:=by
 cases t <;> first | (cases hn;done) | (cases ht;done) | rfl
theorem Qaa6 (k:Nat) (n:Nat) {m:Nat} {t:T} (hg:gd (m+1) t=true):cfn (k+2) 1 [.fz t,.fz (.int n)]=.ok (.fz (.bl (Qld n t))) [.non,.non]:=by
 cases hi:Q4z t with
 | false =>
  have e:=Qaa5 k n (Q1f hg) hi
  cases t <;> first | exact e | (cases hi;done)
 | true =>
  cases t <;> first | (cases hi;done) | skip
  rename_i ts
  obtain ⟨hl,hx⟩:=Qt6 hg
  show Qbx (cfn (k+1)) ⟨2,2,Qmu⟩ _=_
  rw [Qbi rfl]
  show Qb4 _ (exS _ Qmu [.fz (.tup ts),.fz (.int n)])=_
  by_cases hn:ts.length=n
  ·have c1:(ts.length:Int)=(n:Int):=by omega
   have hcomp:evE (cfn (k+1)) (.comp (.seq (.var 0)) [none] (.nm 0) .nil (.call 0 (.cons (.var 0) .nil))) [.fz (.tup ts),.fz (.int n)]=.ok (.ow (.lst (ts.map fun x=>T.bl (whole x)))) [.fz (.tup ts),.fz (.int n)] :=
    Qbu (rest:=[]) rfl rfl rfl rfl (fun x hx'=>by
     have q:=Qt5 k x (Q1f (hx x hx'))
     refine ⟨.fz (.bl (whole x)),?_,rfl⟩
     simp only [Q6,Qg,Qk,Q1,Qa,Qy,yC1,Ql,yC2,Qw,Qu,Q4,Qx,Qaf,Q3,q,Qa1,Qj,Qz,L2.Qi,Option.map,if_true]) (by omega)
   have ea:(ts.map whole).all id=ts.all whole:=by rw [List.all_map];rfl
   have er:Qld n (.tup ts)=ts.all whole:=by show (decide (ts.length=n)&&_)=_;rw [decide_eq_true hn,Bool.true_and]
   simp only [Q0,Qav,Qdw,Qca,Qf2,Qk,Q1,Qa,Qy,Qjj,Qe9,cont,Qci,Qda,Bool.not_false,Bool.and_true,Qbo,if_true,Qr,yBl,Qef,Bool.not_true,yOr,Qau,Qaz,Qg,yC1,Ql,yC2,yBi,Qax,Qv,Out.opt,ub2,c1,Qas,Qb,Qar,Qaq,Qap,uc2,Option.map,Qb8,decide_true,yB,Qac,yIf,Qch,Qbf,Qah,hcomp,ub3,Qdx,ea,Qbv,Q7,Qan,Qae,Qaj,Qt,er]
  ·have c1:¬ (ts.length:Int)=(n:Int):=by omega
   have er:Qld n (.tup ts)=false:=by show (decide (ts.length=n)&&_)=_;rw [decide_eq_false hn,Bool.false_and]
   simp only [Q0,Qav,Qdw,Qca,Qf2,Qk,Q1,Qa,Qy,Qjj,Qe9,cont,Qci,Qda,Bool.not_false,Bool.and_true,Qbo,if_true,Qr,yBl,Qef,Bool.not_true,yOr,Qau,Qaz,Qg,yC1,Ql,yC2,yBi,Qax,Qv,Out.opt,ub2,Qas,Qb,Qar,Qaq,Qap,uc2,Option.map,Qb8,c1,decide_false,yB,Qac,yIf,Qah,Qm9,Qbv,Qd5,Q7,Qan,Qae,Qaj,Qt,er]
theorem Q40 (k:Nat) {t:T} (hn:nc t=true) (ht:Q4z t=false):cfn (k+3) 2 [.fz t]=.ok (.fz (.bl false)) [.non]:=by
 cases t <;> first | (cases hn;done) | (cases ht;done) | rfl
theorem Qvo (k:Nat) {m:Nat} {t:T} (hg:gd (m+2) t=true):cfn (k+3) 2 [.fz t]=.ok (.fz (.bl (Qig t))) [.non]:=by
 cases hi:Q4z t with
 | false =>
  have e:=Q40 k (Q1f hg) hi
  cases t <;> first | exact e | (cases hi;done)
 | true =>
  cases t <;> first | (cases hi;done) | skip
  rename_i ts
  obtain ⟨hl,hx⟩:=Qt6 hg
  show Qbx (cfn (k+2)) ⟨1,1,Qkh⟩ _=_
  rw [Qbi rfl]
  show Qb4 _ (exS _ Qkh [.fz (.tup ts)])=_
  have hcomp:evE (cfn (k+2)) (.comp (.seq (.var 0)) [none,some 0] (.nm 0) .nil (.call 1 (.cons (.var 0) (.cons (.bi .len (.cons (.var 1) .nil)) .nil)))) [.fz (.tup ts)]=.ok (.ow (.lst (ts.map fun x=>T.bl (Qld ts.length x)))) [.fz (.tup ts)] :=
   Qbu (rest:=[.fz (.tup ts)]) rfl rfl rfl rfl (fun x hx'=>by
    have q:=Qaa6 k ts.length (hx x hx')
    refine ⟨.fz (.bl (Qld ts.length x)),?_,rfl⟩
    simp only [Q6,Qg,Qk,Q1,Qa,Qy,yC1,Qaz,Qb,Ql,yC2,yBi,Qax,Qv,cont,Out.opt,ub2,Qw,Qu,Q4,Qx,Qaf,Q3,q,Qa1,Qj,Qz,L2.Qi,Option.map,if_true]) (by omega)
  have ea:(ts.map (Qld ts.length)).all id=ts.all (Qld ts.length):=by rw [List.all_map];rfl
  by_cases h1:(ts.length:Int)<1
  ·have er:Qig (.tup ts)=false:=by show (decide (1≤ts.length∧ts.length≤4)&&_)=_;rw [decide_eq_false (by omega),Bool.false_and]
   simp only [Q0,Qav,Qdw,Qca,Qf2,Qk,Q1,Qa,Qy,Qjj,Qe9,cont,Qci,Qda,Bool.not_false,Bool.and_true,Qbo,if_true,Qr,yBl,Qef,Bool.not_true,yOr,Qau,Qaz,Qg,yC1,Ql,yC2,yBi,Qax,Qv,Out.opt,ub2,Qas,Qai,Qar,Qaq,Qap,uc3,h1,decide_true,yB,Qac,yIf,Qah,Qm9,Qbv,Qd5,Q7,Qan,Qae,Qaj,Qt,Option.map,er]
  ·by_cases h4:(4:Int)<(ts.length:Int)
   ·have er:Qig (.tup ts)=false:=by show (decide (1≤ts.length∧ts.length≤4)&&_)=_;rw [decide_eq_false (by omega),Bool.false_and]
    simp only [Q0,Qav,Qdw,Qca,Qf2,Qk,Q1,Qa,Qy,Qjj,Qe9,cont,Qci,Qda,Bool.not_false,Bool.and_true,Qbo,if_true,Qr,yBl,Qef,Bool.not_true,yOr,Qau,Qaz,Qg,yC1,Ql,yC2,yBi,Qax,Qv,Out.opt,ub2,Qas,Qai,Qar,Qaq,Qap,uc3,h1,decide_false,uc5,h4,decide_true,yB,Qac,yIf,Qah,Qm9,Qbv,Qd5,Q7,Qan,Qae,Qaj,Qt,Option.map,er]
   ·have er:Qig (.tup ts)=ts.all (Qld ts.length):=by show (decide (1≤ts.length∧ts.length≤4)&&_)=_;rw [decide_eq_true (by omega),Bool.true_and]
    simp only [Q0,Qav,Qdw,Qca,Qf2,Qk,Q1,Qa,Qy,Qjj,Qe9,cont,Qci,Qda,Bool.not_false,Bool.and_true,Qbo,if_true,Qr,yBl,Qef,Bool.not_true,yOr,Qau,Qaz,Qg,yC1,Ql,yC2,yBi,Qax,Qv,Out.opt,ub2,Qas,Qai,Qar,Qaq,Qap,uc3,h1,decide_false,uc5,h4,yB,Qac,yIf,Qch,Qbf,Qah,hcomp,ub3,Option.map,Qdx,ea,Qbv,Q7,Qan,Qae,Qaj,Qt,er]
noncomputable def First (f:Nat→Bool) (n:Nat) (o:Option Nat):Prop:=(∃ i,i<n∧o=some i∧f i=true∧∀ j,j<i→f j=false)∨(o=none∧∀ j,j<n→f j=false)
theorem First.uniq {f:Nat→Bool} {n:Nat} {o o':Option Nat} (h:First f n o) (h':First f n o'):o=o':=by
 rcases h with ⟨i,hi,rfl,fi,lo⟩ | ⟨rfl,no⟩ <;> rcases h' with ⟨j,hj,rfl,fj,lo'⟩ | ⟨rfl,no'⟩
 ·rcases Nat.lt_trichotomy i j with h | h | h
  ·rw [lo' i h] at fi;cases fi
  ·rw [h]
  ·rw [lo j h] at fj;cases fj
 ·rw [no' i hi] at fi;cases fi
 ·rw [no j hj] at fj;cases fj
 ·rfl
theorem Qit {tg:Tg} {b:En→SO} {f:Nat→Bool} {r:Nat→PV} (J L:Nat→En→Prop):∀ {xs:List T} {n:Nat} {ρ:En},J n ρ→(∀ (i:Nat) x ρ,xs[i]?=some x→J (n+i) ρ→∃ ρ1 ρ2,Qha tg x ρ=some ρ1∧((f (n+i)=false∧b ρ1=.nx ρ2∧J (n+i+1) ρ2)∨(f (n+i)=true∧b ρ1=.rt (r (n+i)) ρ2∧L (n+i) ρ2))) →
  (∃ i,i<xs.length∧f (n+i)=true∧(∀ j,j<i→f (n+j)=false)∧∃ ρ',Qd4 tg b xs ρ=.rt (r (n+i)) ρ'∧L (n+i) ρ')∨((∀ j,j<xs.length→f (n+j)=false)∧∃ ρ',Qd4 tg b xs ρ=.nx ρ'∧J (n+xs.length) ρ')
 | [],n,ρ,h,_=>.inr ⟨fun j hj=>absurd hj (Nat.not_lt_zero _),ρ,rfl,h⟩
 | x::xs,n,ρ,h,hs=>by
  obtain ⟨ρ1,ρ2,e1,e2⟩:=hs 0 x ρ rfl h
  rcases e2 with ⟨f0,eb,j1⟩ | ⟨f0,eb,l1⟩
  ·have ih:=Qit (tg:=tg) (b:=b) (f:=f) (r:=r) J L (xs:=xs) (n:=n+1) (ρ:=ρ2) (by simpa using j1) fun i y ρ hy hj=>by
    have q:=hs (i+1) y ρ (by rw [List.getElem?_cons_succ];exact hy) (by rw [show n+(i+1)=n+1+i by omega];exact hj)
    rw [show n+(i+1)=n+1+i by omega] at q
    exact q
   have ef:Qd4 tg b (x::xs) ρ=Qd4 tg b xs ρ2:=by
    rw [Qd4]
    simp only [e1,eb]
   rcases ih with ⟨i,hi,fi,lo,ρ',e,l⟩ | ⟨no,ρ',e,j⟩
   ·refine .inl ⟨i+1,by rw [List.length_cons];omega,by rw [show n+(i+1)=n+1+i by omega];exact fi,fun j hj=>?_,ρ',by rw [ef,e,show n+(i+1)=n+1+i by omega],by rw [show n+(i+1)=n+1+i by omega];exact l⟩
    cases j with
    | zero=>exact f0
    | succ j=>rw [show n+(j+1)=n+1+j by omega];exact lo j (by omega)
   ·refine .inr ⟨fun j hj=>?_,ρ',by rw [ef,e],by rw [List.length_cons,show n+(xs.length+1)=n+1+xs.length by omega];exact j⟩
    cases j with
    | zero=>exact f0
    | succ j=>rw [show n+(j+1)=n+1+j by omega];exact no j (by rw [List.length_cons] at hj;omega)
  ·refine .inl ⟨0,by rw [List.length_cons];omega,f0,fun j hj=>absurd hj (Nat.not_lt_zero _),ρ2,?_,l1⟩
   rw [Qd4]
   simp only [e1,eb]
open PySem L2
noncomputable abbrev cpL (x:PySem.Str):List Nat:=x.cps.toList
theorem Qlk {x y:PySem.Str} (h:cpL x=cpL y):x=y:=by
 obtain ⟨a⟩:=x
 obtain ⟨b⟩:=y
 congr 1
 exact Array.toList_inj.mp h
theorem Qgt (x:PySem.Str):x.length=(cpL x).length:=by simp [PySem.Str.length,cpL]
theorem Qmy (x y:PySem.Str):cpL (x++y)=cpL x++cpL y:=PySem.W.KT.app_list x y
theorem Qr6 (x y:PySem.Str):PySem.Txt.join "" [x,y]=x++y:=by
 show PySem.Builtin.Str.glued "" [x,y]=_
 rw [PySem.StrLaws.glued_eq_join]
 apply Qlk
 show cpL (x ++ "" ++ y)=_
 rw [Qmy,Qmy,Qmy]
 show cpL x++[]++cpL y=_
 rw [List.append_nil]
theorem Qpv {sep:PySem.Str} {l:List PySem.Str} {B:Nat} (hB:∀ y∈l,y.length≤B) (h:l.length*B+l.length*sep.length≤16777216):PySem.JoinOk sep l=true:=by
 unfold PySem.JoinOk
 rw [PySem.StrLaws.joinFits hB h]
 rfl
theorem Qr7 {sep:PySem.Str} {l:List PySem.Str} {B:Nat} (hB:∀ y∈l,y.length≤B):(PySem.Txt.join sep l).length≤l.length*B+l.length*sep.length:=by
 show (PySem.Builtin.Str.glued sep l).length≤_
 rw [PySem.StrLaws.glued_eq_join]
 refine Nat.le_trans (PySem.StrLaws.join_length_le sep l) (Nat.add_le_add_right ?_ _)
 induction l with
 | nil=>simp
 | cons x l ih =>
  rw [List.map_cons,List.sum_cons,List.length_cons,Nat.add_mul,Nat.one_mul,Nat.add_comm]
  exact Nat.add_le_add (ih fun y hy=>hB y (List.mem_cons_of_mem _ hy)) (hB x List.mem_cons_self)
noncomputable def wt (l:List PySem.Str):Nat:=(l.map fun x=>x.length+1).sum
theorem Qt7 (a b:List PySem.Str):wt (a++b)=wt a+wt b:=by unfold wt;rw [List.map_append,List.sum_append]
theorem Qaa7 {l:List PySem.Str}:∀ (a b:Nat),wt ((l.drop a).take b)≤wt l:=by
 have take:∀ (l:List PySem.Str) (n:Nat),wt (l.take n)≤wt l:=fun l n=>by
  have:=Qt7 (l.take n) (l.drop n)
  rw [List.take_append_drop] at this
  omega
 intro a b
 have:=Qt7 (l.take a) (l.drop a)
 rw [List.take_append_drop] at this
 have:=take (l.drop a) b
 omega
theorem Qaa8 {l:List PySem.Str}:l.length≤wt l:=by
 induction l with
 | nil=>exact Nat.zero_le _
 | cons y l ih =>
  have e:wt (y::l)=y.length+1+wt l:=rfl
  rw [List.length_cons];omega
theorem Qvp {sep:PySem.Str} (h1:sep.length=1):∀ (l:List PySem.Str),l≠[]→(PySem.Txt.join sep l).length+1=wt l:=by
 have key:∀ l:List PySem.Str,l≠[]→(PySem.Str.join sep l).length+1=wt l:=by
  intro l
  induction l with
  | nil=>intro h;exact absurd rfl h
  | cons x l ih =>
   intro _
   cases l with
   | nil=>show x.length+1=x.length+1+0;omega
   | cons y r =>
    have:=ih (by simp)
    show (x++sep++PySem.Str.join sep (y::r)).length+1=x.length+1+wt (y::r)
    rw [PySem.Str.length_append,PySem.Str.length_append,h1]
    omega
 intro l h
 show (PySem.Builtin.Str.glued sep l).length+1=_
 rw [PySem.StrLaws.glued_eq_join]
 exact key l h
theorem Q41 {sep:PySem.Str} (h1:sep.length=1) (l:List PySem.Str):(PySem.Txt.join sep l).length≤wt l:=by
 by_cases h:l=[]
 ·subst h
  show (PySem.Builtin.Str.glued sep []).length≤_
  rw [PySem.StrLaws.glued_eq_join]
  exact Nat.zero_le _
 ·have:=Qvp h1 l h;omega
theorem Qaew {sep:PySem.Str} (h1:sep.length=1) {l:List PySem.Str} (h:wt l≤16777216):PySem.JoinOk sep l=true:=by
 unfold PySem.JoinOk
 rw [PySem.StrLaws.joinTotal]
 have e:(l.map (·.length)).sum+l.length*sep.length=wt l:=by
  rw [h1,Nat.mul_one]
  induction l with
  | nil=>rfl
  | cons x l ih =>
   have e:wt (x::l)=x.length+1+wt l:=rfl
   rw [List.map_cons,List.sum_cons,List.length_cons,e]
   have:=ih (by omega)
   omega
 rw [e]
 unfold PySem.Builtin.Str.tooLong
 rw [decide_eq_false (by rw [show PySem.sizeLine=16777216 by decide];omega)]
 rfl
theorem Qmz (x y:PySem.Str):PySem.Txt.split x y≠[]:=by
 unfold PySem.Txt.split
 split
 ·simp
 ·split
  ·simp
  ·intro h
   have:=congrArg List.length h
   rw [PySem.length_partsBetween] at this
   simp at this
theorem Qt8 (x y:PySem.Str):PySem.Txt.join y (PySem.Txt.split x y)=x:=by
 show PySem.Builtin.Str.glued y _=_
 unfold PySem.Txt.split
 split
 ·rw [PySem.StrLaws.glued_eq_join];rfl
 ·split
  ·rw [PySem.StrLaws.glued_eq_join];rfl
  ·exact PySem.StrLaws.glued_between_self x y _
theorem Qr8 {x y:PySem.Str} (h1:y.length=1):wt (PySem.Txt.split x y)=x.length+1:=by
 rw [←Qvp h1 _ (Qmz x y),Qt8]
noncomputable def Qbq:List Nat→List Nat
 | 45::l=>l
 | l=>l
theorem Q42 {α:Type} {l:List α}:atI l 0=l[0]?:=by
 cases l with
 | nil=>rfl
 | cons x l=>exact Qcb (j:=0) (v:=x) rfl
theorem Qxm (w:PySem.Str):PySem.Txt.startswith w "-" = decide ((cpL w).head?=some 45):=by
 unfold PySem.Txt.startswith
 rw [PySem.StrLaws.subAt_eq]
 obtain ⟨⟨l⟩⟩:=w
 cases l with
 | nil=>rfl
 | cons c l =>
  show (decide (0+1≤(c::l).length)&&(((c::l).drop 0).take 1==[45]))=decide ((c::l).head?=some 45)
  rw [List.length_cons,decide_eq_true (by omega),Bool.true_and]
  show ([c]==[45])=decide (some c=some 45)
  by_cases h:c=45
  ·subst h;rfl
  ·rw [decide_eq_false (by simpa using h)];simpa using h
theorem Qxn {w:PySem.Str} (h:1≤w.length):cpL (PySem.Txt.slice w (some 1) none)=(cpL w).drop 1:=by
 have hl:=Qgt w
 rw [PyProof.Rows.slice_from_eq (b:=(w.length:Int)) (by decide) (by omega) rfl]
 show (List.take _ (List.drop 1 (cpL w)))=_
 rw [List.take_of_length_le]
 rw [List.length_drop];omega
theorem Qjr (w:PySem.Str):cpL (PySem.Txt.slice w none (some 1))=(cpL w).take 1:=by
 have hl:=Qgt w
 rcases Nat.lt_or_ge w.length 1 with h | h
 ·have e0:(cpL w)=[]:=List.length_eq_zero_iff.mp (by omega)
  rw [PyProof.Rows.slice_to_beyond (by omega),e0]
  have:=PyProof.Rows.slice_closes_to (x:=w) (j:=(w.length:Int)) ⟨by omega,by rw [hl];exact Int.le_refl _⟩
  rw [eq_of_beq this]
  show List.take _ (List.drop 0 (cpL w))=_
  rw [e0];simp
 ·have hn:(1:Int)≤(w.cps.toList.length:Nat):=by
   have e:w.cps.toList.length=w.length:=hl.symm
   omega
  have:=PyProof.Rows.slice_closes_to (x:=w) (j:=1) ⟨by decide,hn⟩
  rw [eq_of_beq this]
  rfl
theorem Qt9 (w:PySem.Str):(PySem.Txt.slice w none (some 1)=("-" : PySem.Str))↔(cpL w).head?=some 45:=by
 constructor
 ·intro h
  have e:=Qjr w
  rw [h] at e
  replace e:[45]=(cpL w).take 1:=e
  cases hw:cpL w with
  | nil=>rw [hw] at e;cases e
  | cons c l=>rw [hw] at e;cases e;rfl
 ·intro h
  apply Qlk
  rw [Qjr]
  cases hw:cpL w with
  | nil=>rw [hw] at h;cases h
  | cons c l=>rw [hw] at h;cases h;rfl
noncomputable def Qe2 (w:PySem.Str):PySem.Str:=if (cpL w).head?=some 45 then PySem.Txt.slice w (some 1) none else w
theorem Qgu (w:PySem.Str):cpL (Qe2 w)=Qbq (cpL w):=by
 unfold Qe2
 cases hw:cpL w with
 | nil=>rw [if_neg (by simp),hw];rfl
 | cons c l =>
  have h1:1≤w.length:=by rw [Qgt,hw,List.length_cons];omega
  by_cases h:c=45
  ·subst h
   rw [if_pos (show (45::l).head?=some 45 from rfl),Qxn h1,hw];rfl
  ·rw [if_neg (show ¬ (c::l).head?=some 45 by simpa using h),hw]
   unfold Qbq
   split
   ·rename_i e;cases e;exact absurd rfl h
   ·rfl
noncomputable def dgt (c:Nat):Bool:=PySem.Txt.contains "0123456789" ⟨#[c]⟩
theorem Q43 (c:Nat):dgt c=true→48≤c∧c≤57:=by
 intro h
 unfold dgt PySem.Txt.contains at h
 obtain ⟨f,ch⟩:=PySem.StrLaws.occ_chain ("0123456789" : PySem.Str) ⟨#[c]⟩ 1
 cases ho:PySem.Builtin.Str.occurrences ("0123456789" : PySem.Str) ⟨#[c]⟩ 0 ("0123456789" : PySem.Str).length 1 with
 | nil=>rw [ho] at h;cases h
 | cons i r =>
  rw [ho] at ch
  obtain ⟨_,⟨_,hs⟩,_⟩:=ch
  rw [PySem.StrLaws.subAt_eq] at hs
  have e:=eq_of_beq hs
  have hm:c∈cpL ("0123456789" : PySem.Str):=List.mem_of_mem_drop (List.mem_of_mem_take (by rw [e];exact List.mem_singleton.mpr rfl))
  have ha:(cpL ("0123456789" : PySem.Str)).all (fun c=>decide (48≤c∧c≤57))=true:=by decide
  exact of_decide_eq_true (List.all_eq_true.mp ha c hm)
noncomputable def okF (w:PySem.Str):Bool:=decide (1≤(Qbq (cpL w)).length)&&(decide ((Qbq (cpL w)).length≤12)&&(Qbq (cpL w)).all dgt)
noncomputable def Qe0 (w:PySem.Str):Bool:=okF w&&(decide (w=("0" : PySem.Str))||decide ((Qbq (cpL w)).head?≠some 48))
theorem Q44 {w:PySem.Str} (h:okF w=true):(decide (w=("0" : PySem.Str))||decide ((Qbq (cpL w)).head?≠some 48)) = !(decide ((Qbq (cpL w)).head?=some 48)&&(decide (1<(Qbq (cpL w)).length)||decide ((cpL w).head?=some 45))):=by
 unfold okF at h
 rw [Bool.and_eq_true,decide_eq_true_eq] at h
 obtain ⟨h1,_⟩:=h
 by_cases hz:(Qbq (cpL w)).head?=some 48
 ·rw [decide_eq_true hz,Bool.true_and,decide_eq_false (p:=(Qbq (cpL w)).head?≠some 48) (fun z=>z hz),Bool.or_false]
  by_cases hm:(cpL w).head?=some 45
  ·rw [decide_eq_true hm,Bool.or_true]
   rw [decide_eq_false (by intro e;subst e;cases hm)];rfl
  ·rw [decide_eq_false hm,Bool.or_false]
   have ef:Qbq (cpL w)=cpL w:=by
    cases hw:cpL w with
    | nil=>rfl
    | cons c l =>
     rw [hw] at hm
     unfold Qbq
     split
     ·rename_i e;cases e;exact absurd rfl hm
     ·rfl
   rw [ef] at hz h1 ⊢
   by_cases hl:1<(cpL w).length
   ·rw [decide_eq_true hl,decide_eq_false (by intro e;subst e;exact absurd hl (by decide))];rfl
   ·rw [decide_eq_false hl]
    have:cpL w=[48]:=by
     cases hw:cpL w with
     | nil=>rw [hw] at hz;cases hz
     | cons c l =>
      rw [hw] at hz hl h1
      cases hz
      have:l=[]:=List.length_eq_zero_iff.mp (by rw [List.length_cons] at hl;omega)
      rw [this]
    rw [decide_eq_true (Qlk (y:=("0" : PySem.Str)) this)];rfl
 ·rw [decide_eq_false hz,decide_eq_true (p:=(Qbq (cpL w)).head?≠some 48) hz]
  simp
theorem Qvq {w:PySem.Str} (h:okF w=true):∃ n,PySem.intText? w=some n∧w.length≤640:=by
 unfold okF at h
 rw [Bool.and_eq_true,Bool.and_eq_true,decide_eq_true_eq,decide_eq_true_eq,List.all_eq_true] at h
 obtain ⟨h1,h2,h3⟩:=h
 have hd:PySem.NumText.AllDigits (Qbq (cpL w)):=fun c hc=>Q43 c (h3 c hc)
 have hne:Qbq (cpL w)≠[]:=by intro e;rw [e] at h1;cases h1
 have hl:=Qgt w
 cases hw:cpL w with
 | nil=>rw [hw] at h1;cases h1
 | cons c l =>
  by_cases hc:c=45
  ·subst hc
   have e:Qbq (cpL w)=l:=by rw [hw];rfl
   rw [e] at hd hne h2
   have hz:w.length≤640:=by rw [hl,hw,List.length_cons];omega
   exact ⟨_,PySem.intText_neg hw hd hne (by omega),hz⟩
  ·have e:Qbq (cpL w)=cpL w:=by
    rw [hw];unfold Qbq
    split
    ·rename_i e;cases e;exact absurd rfl hc
    ·rfl
   rw [e] at hd hne h2
   exact ⟨_,PySem.intText_digits hd hne (by omega),by omega⟩
noncomputable def Qnm (w:PySem.Str):Int:=(PySem.intText? w).getD 0
theorem Qaa9 {w:PySem.Str} (h:Qe0 w=true):PySem.intText? w=some (Qnm w)∧w.length≤640:=by
 unfold Qe0 at h
 rw [Bool.and_eq_true] at h
 obtain ⟨n,e,z⟩:=Qvq h.1
 unfold Qnm
 rw [e]
 exact ⟨rfl,z⟩
noncomputable def Qgv (n:Int):PySem.Str:=PySem.Str.ofString (toString n)
theorem Q61 (s:String):cpL (PySem.Str.ofString s)=s.toList.map Char.toNat:=by unfold cpL;rw [PySem.Str.ofString_eq_toList]
theorem Qr9 (n:Int):PySem.Txt.join "" [if n<0 then "-" else "",Qgv (if n<0 then -n else n)]=Qgv n:=by
 rw [Qr6]
 apply Qlk
 rw [Qmy]
 by_cases h:n<0
 ·rw [if_pos h,if_pos h]
  obtain ⟨m,rfl⟩:∃ m,n=Int.negSucc m:=by
   cases n with
   | ofNat m=>exact absurd h (by simp)
   | negSucc m=>exact ⟨m,rfl⟩
  have e1:Qgv (-Int.negSucc m)=PySem.Str.ofString (toString (m+1)):=rfl
  have e2:Qgv (Int.negSucc m)=PySem.Str.ofString ("-" ++ toString (m+1)):=rfl
  rw [e1,e2,Q61 (toString (m+1)),Q61 ("-" ++ toString (m+1)),String.toList_append,List.map_append]
  rfl
 ·rw [if_neg h,if_neg h]
  show []++_=_
  rfl
theorem Qm0 {n:Int} (h:n.natAbs≤1000000000000):(Qgv n).length≤14:=by
 have pos:∀ v:Int,0≤v→v≤1000000000000→(Qgv v).length≤13:=fun v h0 h1=>PyProof.Rows.toString_length_le h0 (by decide) (by show v<10^13;omega)
 by_cases hn:n<0
 ·have e:=Qr9 n
  rw [if_pos hn,if_pos hn,Qr6] at e
  rw [←e,Qgt,Qmy,List.length_append,←Qgt,←Qgt]
  have:=pos (-n) (by omega) (by omega)
  show 1+_≤14
  omega
 ·have:=pos n (by omega) (by omega)
  omega
noncomputable def Qkn (r:List Int):PySem.Str:=PySem.Txt.join " " (r.map Qgv)
noncomputable def Qfr (M:List (List Int)):PySem.Str:=PySem.Txt.join "/" (M.map Qkn)
open PySem L2
noncomputable def Qea (q:T):Prop:=∃ n f:Int,0≤n∧q=.lst [.int n,.int f]
theorem Qe1 (k:Nat) {m:Int} (h0:0<m) (h1:m.natAbs<2^64) {q:T} (hq:Qea q):∃ r q',0≤r∧r<m∧Qea q'∧cfn (k+1) 13 [.ml q,.fz (.int m)]=.ok (.fz (.int r)) [q',.non]:=by
 obtain ⟨n,f,hn,rfl⟩:=hq
 have h1':m.natAbs<18446744073709551616:=h1
 have h32:(32:Int).natAbs<18446744073709551616:=by decide
 by_cases hf:f=1
 ·refine ⟨n%m,.lst [.int (n / m),.int f],Int.emod_nonneg _ (by omega),Int.emod_lt_of_pos _ h0,⟨_,_,Int.ediv_nonneg hn (by omega),rfl⟩,?_⟩
  show Qbx (cfn k) ⟨2,5,Qev⟩ _=_
  rw [Qbi rfl]
  show Qb4 _ (exS _ Qev [.ml (.lst [.int n,.int f]),.fz (.int m),.un,.un,.un])=_
  subst hf
  simp only [Q0,Qav,Qau,Qk7,Qk,Q1,Qa,Qy,Qkb,Qai,Qka,Qj9,cont,Slot.prv,Qj8,ui1,at_1,Qas,Qar,Qaq,Qap,uc1,Qb8,decide_true,Qr,yBl,Qac,yIf,Q6u,Qaz,Qg,at_0,yC1,Qb,Ql,yC2,yBi,Qax,Qv,Out.opt,ub7,h0,Nat.reducePow,h1',and_self,if_true,yUnp,Qad,Qcx,Qbn,List.length_cons,List.length_nil,Nat.reduceAdd,Nat.reduceLT,List.set,Qbf,Q04,Q03,Qvm,frz,Slot.mut,Qrh,Qvl,Q06,Qah,Qbv,Qd5,Q7,Qan,Qae,Qaj,Qt,Option.map]
 ·refine ⟨(((((n%2147483647+40503)*69621%2147483629)*((n%2147483647+40503)*69621%2147483629)+7817)%2147483587)*48271+11)%2147483629 / 32%m,
   .lst [.int ((((((n%2147483647+40503)*69621%2147483629)*((n%2147483647+40503)*69621%2147483629)+7817)%2147483587)*48271+11)%2147483629),.int f],Int.emod_nonneg _ (by omega),Int.emod_lt_of_pos _ h0,⟨_,_,Int.emod_nonneg _ (by decide),rfl⟩,?_⟩
  show Qbx (cfn k) ⟨2,5,Qev⟩ _=_
  rw [Qbi rfl]
  show Qb4 _ (exS _ Qev [.ml (.lst [.int n,.int f]),.fz (.int m),.un,.un,.un])=_
  have b1:Qfw (n%2147483647+40503) 69621=true:=by unfold Qfw;simp
  have m1:0≤(n%2147483647+40503)*69621%2147483629:=Int.emod_nonneg _ (by decide)
  have m2:(n%2147483647+40503)*69621%2147483629<2147483629:=Int.emod_lt_of_pos _ (by decide)
  generalize hs:(n%2147483647+40503)*69621%2147483629=st at m1 m2 ⊢
  have b2:Qfw st st=true:=by
   unfold Qfw
   simp only [Bool.or_eq_true,decide_eq_true_eq]
   exact .inl (by omega)
  have b3:∀ z,Qfw z 48271=true:=fun z=>by unfold Qfw;simp
  simp only [Q0,Qav,Qau,Qk7,Qk,Q1,Qa,Qy,Qkb,Qai,Qka,Qj9,cont,Slot.prv,Qj8,ui1,at_1,Qas,Qar,Qaq,Qap,uc1,Qb8,hf,decide_false,Qr,yBl,Qac,yIf,Qch,Qbf,Qam,Qc6,at_0,Qct,Qcs,Qcr,Out.opt,uo8,Int.reduceLT,if_false,if_true,uo1,uo5,b1,hs,Qbh,Qal,frz,Qad,Qbn,List.length_cons,List.length_nil,Nat.reduceAdd,Nat.reduceLT,Qb,List.set,b2,Q04,b3,Q03,Qvm,Slot.mut,Qrh,Qvl,Q06,Qah,uo7,Nat.reducePow,h32,and_self,h0,Qbv,Q7,Qan,Qae,Qaj,Qt,Option.map]
theorem Qaex (k:Nat) (c:Int):∃ q,Qea q∧cfn (k+1) 12 [.fz (.int c)]=.ok (.ow q) [.non]:=by
 refine ⟨.lst [.int (if 0-c>c then 0-c else c),.int (if decide (10^18≤(if 0-c>c then 0-c else c))=true then 1 else 0)],⟨_,_,?_,rfl⟩,?_⟩
 ·split <;> omega
 ·have p1:(18:Int).natAbs≤1000000:=by decide
  have p2:(10:Int).natAbs<18446744073709551616:=by decide
  show Qbx (cfn k) ⟨1,2,Qkj⟩ _=_
  rw [Qbi rfl]
  show Qb4 _ (exS _ Qkj [.fz (.int c),.un])=_
  have z2:(2:Nat)≤100000:=by decide
  simp only [Q0,Qam,Qaz,Qg,Qk,Q1,Qa,Qy,yC1,Qc6,Qai,Qct,Qcs,Qcr,cont,Out.opt,uo4,Ql,yC2,yBi,Qax,Qv,ub6,Qac,Qbh,Qal,frz,Qad,Qbn,List.length_cons,List.length_nil,Nat.reduceAdd,Nat.reduceLT,Qb,List.set,if_true,Qbf,Qah,Qcm,Qau,Qas,uo9,Int.reduceLE,p1,Nat.reducePow,p2,and_self,Int.reduceToNat,Int.reducePow,Qar,Qaq,Qap,uc6,ub8,Qep,Qcl,z2,Qbv,Q7,Qan,Qae,Qaj,Qt,Option.map]
noncomputable abbrev Big:Nat:=1000000000000
noncomputable def BdQ (_ y:T):Prop:=∃ v:Int,y=.int v∧v.natAbs≤Big
theorem Qxo {xs ys:List T} (h:All2 BdQ xs ys):∃ r:List Int,ys=r.map T.int∧r.length=xs.length∧∀ v∈r,v.natAbs≤Big:=by
 induction h with
 | nil=>exact ⟨[],rfl,rfl,fun v hv=>(nomatch hv)⟩
 | cons f _ ih =>
  obtain ⟨v,rfl,hv⟩:=f
  obtain ⟨r,rfl,hl,hr⟩:=ih
  refine ⟨v::r,rfl,by rw [List.length_cons,List.length_cons,hl],fun w hw=>?_⟩
  rcases List.mem_cons.mp hw with rfl | hw
  ·exact hv
  ·exact hr w hw
theorem at6 {r:Int} (h0:0≤r) (h1:r<6):∃ v:Int,atI [T.int 0,.int 0,.int 1,.int 0,.int 1,.int (-1)] r=some (.int v)∧v.natAbs≤Big:=by
 obtain ⟨i,rfl⟩:=Int.eq_ofNat_of_zero_le h0
 have hi:i=0∨i=1∨i=2∨i=3∨i=4∨i=5:=by omega
 rcases hi with rfl | rfl | rfl | rfl | rfl | rfl
 ·exact ⟨0,Qcb rfl,by decide⟩
 ·exact ⟨0,Qcb rfl,by decide⟩
 ·exact ⟨1,Qcb rfl,by decide⟩
 ·exact ⟨0,Qcb rfl,by decide⟩
 ·exact ⟨1,Qcb rfl,by decide⟩
 ·exact ⟨-1,Qcb rfl,by decide⟩
theorem Q1g (k:Nat) {kind:Int} {q:T} (hq:Qea q):∃ (v:Int) (q':T),v.natAbs≤Big∧Qea q'∧cfn (k+2) 17 [.ml q,.fz (.int kind)]=.ok (.fz (.int v)) [q',.non]:=by
 by_cases h3:kind<3
 ·obtain ⟨r1,q1,a0,a1,p1,e1⟩:=Qe1 k (m:=6) (by decide) (by decide) hq
  obtain ⟨v,ev,hv⟩:=at6 a0 a1
  refine ⟨v,q1,hv,p1,?_⟩
  have z6:(6:Nat)≤100000:=by decide
  show Qbx (cfn (k+1)) ⟨2,2,Qb9⟩ _=_
  rw [Qbi rfl]
  show Qb4 _ (exS _ Qb9 [.ml q,.fz (.int kind)])=_
  simp only [Q0,Qav,Qau,Qk,Q1,Qb,Qa,Qy,Qas,Qai,Qar,Qaq,cont,Qap,uc3,h3,decide_true,Qr,yBl,Qac,yIf,Qah,Qk7,Qcm,Qg,yC1,Q00,Q4o,Int.reduceNeg,Ql,yC2,Qep,Qcl,frz,List.length_cons,List.length_nil,Nat.reduceAdd,z6,if_true,Qkb,Q6,Qw,Qu,List.all_cons,List.all_nil,Bool.and_true,Q4,Qx,Qaf,Q3,e1,Qa1,Qj,Qz,L2.Qi,Option.map,List.getElem?_cons_zero,Slot.put,reduceCtorEq,if_false,Qka,Qj9,Qj8,ui1,ev,Qbv,Qd5,Q7,Qan,Qae,Qaj,Qt]
 ·by_cases h7:kind<7
  ·obtain ⟨r1,q1,a0,a1,p1,e1⟩:=Qe1 k (m:=7) (by decide) (by decide) hq
   refine ⟨r1-3,q1,by show _≤1000000000000;omega,p1,?_⟩
   show Qbx (cfn (k+1)) ⟨2,2,Qb9⟩ _=_
   rw [Qbi rfl]
   show Qb4 _ (exS _ Qb9 [.ml q,.fz (.int kind)])=_
   simp only [Q0,Qav,Qau,Qk,Q1,Qb,Qa,Qy,Qas,Qai,Qar,Qaq,cont,Qap,uc3,h3,decide_false,Qr,yBl,Qac,yIf,Qch,Qbf,h7,decide_true,Qah,Qc6,Q6,Qg,yC1,Ql,yC2,Qw,Qu,List.all_cons,List.all_nil,Bool.and_true,Q4,Qx,Qaf,Q3,e1,Qa1,Qj,Qz,L2.Qi,Option.map,if_true,List.getElem?_cons_zero,Slot.put,Nat.reduceAdd,reduceCtorEq,if_false,Qct,Qcs,Qcr,Out.opt,uo4,Qbv,Qd5,Q7,Qan,Qae,Qaj,Qt]
  ·obtain ⟨r1,q1,a0,a1,p1,e1⟩:=Qe1 k (m:=1999999999999) (by decide) (by decide) hq
   refine ⟨r1-1000000000000+1,q1,by show _≤1000000000000;omega,p1,?_⟩
   have p10:(12:Int).natAbs≤1000000:=by decide
   have p11:(10:Int).natAbs<18446744073709551616:=by decide
   have mo:Qfw 2 1000000000000=true:=by decide
   show Qbx (cfn (k+1)) ⟨2,2,Qb9⟩ _=_
   rw [Qbi rfl]
   show Qb4 _ (exS _ Qb9 [.ml q,.fz (.int kind)])=_
   simp only [Q0,Qav,Qau,Qk,Q1,Qb,Qa,Qy,Qas,Qai,Qar,Qaq,cont,Qap,uc3,h3,decide_false,Qr,yBl,Qac,yIf,Qch,Qbf,h7,Qah,Qc6,Q6,Qg,yC1,Qct,Qcs,Qcr,Out.opt,uo9,Int.reduceLE,p10,Nat.reducePow,p11,and_self,Int.reduceToNat,Int.reducePow,if_true,uo5,mo,Int.reduceMul,uo4,Int.reduceSub,Ql,yC2,Qw,Qu,List.all_cons,List.all_nil,Bool.and_true,Q4,Qx,Qaf,Q3,e1,Qa1,Qj,Qz,L2.Qi,Option.map,List.getElem?_cons_zero,Slot.put,Nat.reduceAdd,reduceCtorEq,if_false,uo1,Qbv,Q7,Qan,Qae,Qaj,Qt]
noncomputable abbrev Qua:E:=.call 17 (.cons (.var 1) (.cons (.var 2) .nil))
theorem Qaba (k:Nat) {n:Nat} (h4:n≤4) {kind:Int} {q:T} (hq:Qea q) {a b:Slot} {found rows:T} {s6:Slot} {i:Int}:∃ (r:List Int) (q':T),evE (cfn (k+2)) (.bi .tup (.cons (.comp (.rng1 (.var 1)) [none,some 0,some 4] (.nm 0) .nil Qua) .nil)) [.ml q,.fz (.int n),a,b,.fz (.int kind),.ow found,s6,.ow rows,.fz (.int i)] =
  .ok (.fz (Qba r)) [.ml q',.fz (.int n),a,b,.fz (.int kind),.ow found,s6,.ow rows,.fz (.int i)]∧Qea q'∧r.length=n∧∀ v∈r,v.natAbs≤Big:=by
 have hw:evW (cfn (k+2)) (.rng1 (.var 1)) [.ml q,.fz (.int n),a,b,.fz (.int kind),.ow found,s6,.ow rows,.fz (.int i)]=.ok (Qcd 0 n,none) [.ml q,.fz (.int n),a,b,.fz (.int kind),.ow found,s6,.ow rows,.fz (.int i)]:=by
  have c:n≤100000:=by omega
  simp only [Qkc,Qk,Q1,Qb,Qa,Qy,Q08 c]
 obtain ⟨ys,q',e,p,f⟩:=Q07 (cf:=cfn (k+2)) (P:=Qea) (F:=BdQ) (rest:=fun q=>[.ml q,.fz (.int kind)]) (w:=.rng1 (.var 1)) (js:=[none,some 0,some 4]) (e:=Qua) (ρ:=[.ml q,.fz (.int n),a,b,.fz (.int kind),.ow found,s6,.ow rows,.fz (.int i)])
  (ρ':=fun q'=>[.ml q',.fz (.int n),a,b,.fz (.int kind),.ow found,s6,.ow rows,.fz (.int i)]) hq hw rfl (fun s q'=>rfl) rfl (fun s q' _=>rfl) (fun x hx q hq=>by
   obtain ⟨v,q1,hv,p1,e1⟩:=Q1g k (kind:=kind) hq
   refine ⟨.fz (.int v),_,q1,?_,rfl,p1,_,rfl,hv⟩
   simp only [Q6,Qg,Qk,Q1,Qb,Qa,Qy,yC1,Ql,yC2,Qw,Qu,List.all_cons,List.all_nil,Bool.and_true,Q4,Qx,Qaf,Q3,e1,Qa1,Qj,Qz,L2.Qi,reduceCtorEq,Option.map,if_false,Nat.reduceAdd,if_true,List.getElem?_cons_zero,Slot.put,Nat.reduceEqDiff]) (by rw [Qbp];omega)
 obtain ⟨r,rfl,hl,hr⟩:=Qxo f
 rw [Qbp] at hl
 refine ⟨r,q',?_,p,hl,hr⟩
 simp only [Qaz,Qg,e,Qy,yC1,Ql,yC2,yBi,Qax,Qv,cont,Out.opt,ub9]
noncomputable def Rows (n i:Nat) (rows:Tb):Prop:=rows.length=i∧∀ r∈rows,r.length=n∧∀ x∈r,(x:Int).natAbs≤Big
theorem Rows.snoc {n i:Nat} {rows:Tb} {r:List Int} (h:Rows n i rows) (hl:r.length=n) (hr:∀ x∈r,(x:Int).natAbs≤Big):Rows n (i+1) (rows++[r]):=by
 refine ⟨by rw [List.length_append,h.1];rfl,fun x hx=>?_⟩
 rcases List.mem_append.mp hx with hx | hx
 ·exact h.2 x hx
 ·rw [List.mem_singleton.mp hx];exact ⟨hl,hr⟩
noncomputable abbrev Q1h:S:=.app 7 (.bi .tup (.cons (.comp (.rng1 (.var 1)) [none,some 0,some 4] (.nm 0) .nil Qua) .nil))
theorem Q45 (k:Nat) {n:Nat} (h4:n≤4) {kind:Int} {q:T} (hq:Qea q) {a b:Slot} {found:T} {s6 s8:Slot} (o8:Qg4 s8=true):∃ (rows:Tb) (q':T) (t8:Slot),Qd4 (.nm 8) (exS (cfn (k+2)) Q1h) (Qcd 0 n) [.ml q,.fz (.int n),a,b,.fz (.int kind),.ow found,s6,.ow (.lst []),s8] =
  .nx [.ml q',.fz (.int n),a,b,.fz (.int kind),.ow found,s6,.ow (.lst (rows.map Qba)),t8]∧Qea q'∧Rows n n rows∧Qg4 t8=true:=by
 obtain ⟨ρ',e,rows,q',t8,p,hr,o,rfl⟩:=Qmh (fun j ρ=>∃ (rows:Tb) (q':T) (t8:Slot),Qea q'∧Rows n j rows∧Qg4 t8=true∧ρ=[.ml q',.fz (.int n),a,b,.fz (.int kind),.ow found,s6,.ow (.lst (rows.map Qba)),t8]) (tg:=.nm 8) (b:=exS (cfn (k+2)) Q1h) (xs:=Qcd 0 n) (n:=0) (ρ:=[.ml q,.fz (.int n),a,b,.fz (.int kind),.ow found,s6,.ow (.lst []),s8]) ⟨[],q,s8,hq,⟨rfl,fun r hr=>(nomatch hr)⟩,o8,rfl⟩ (by
  rintro i x ρ hx ⟨rows,q1,t8,p1,hr,o,rfl⟩
  have hi:i<n:=by have:=(List.getElem?_eq_some_iff.mp hx).1;rwa [Qbp] at this
  rw [Qj7 hi] at hx
  cases hx
  obtain ⟨r,q2,e2,p2,l2,v2⟩:=Qaba k h4 p1 (a:=a) (b:=b) (found:=found) (rows:=.lst (rows.map Qba)) (s6:=s6) (i:=0+(i:Int)) (n:=n) (kind:=kind)
  have z:rows.length<100000:=by have:=hr.1;omega
  refine ⟨[.ml q1,.fz (.int n),a,b,.fz (.int kind),.ow found,s6,.ow (.lst (rows.map Qba)),.fz (.int (0+(i:Int)))],_,(by cases t8 <;> first | rfl | cases o),.inl ?_,rows++[r],q2,.fz (.int (0+(i:Int))),p2,hr.snoc l2 v2,rfl,rfl⟩
  simp only [Qin,Slot.mut,Qb,Qa,e2,Qac,Qpd,Qk1,frz,Qk0,List.length_map,z,List.set,if_true,List.map_append,List.map_cons,List.map_nil])
 rw [Qbp,Nat.zero_add] at hr
 exact ⟨rows,q',t8,e,p,hr,o⟩
noncomputable abbrev Q1i:S:=.seq (.set 7 (.lst .nil)) (.seq (.for_ (.rng1 (.var 1)) (.nm 8) Q1h) (.app 5 (.bi .tup (.cons (.var 7) .nil))))
noncomputable def Q46:Slot→Bool
 | .un=>true
 | .fz _=>true
 | .ow _=>true
 | _=>false
theorem Qxp (k:Nat) {n m:Nat} (h4:n≤4) (hm:m≤4) {kind:Int} {q:T} (hq:Qea q) {a b:Slot}:∃ (Ms:List Tb) (q':T) (t6 t7 t8:Slot),Qd4 (.nm 6) (exS (cfn (k+2)) Q1i) (Qcd 0 m) [.ml q,.fz (.int n),a,b,.fz (.int kind),.ow (.lst []),.un,.un,.un] =
  .nx [.ml q',.fz (.int n),a,b,.fz (.int kind),.ow (.lst (Ms.map Qbg)),t6,t7,t8]∧Qea q'∧Ms.length=m∧∀ M∈Ms,Sq n M:=by
 obtain ⟨ρ',e,Ms,q',t6,t7,t8,p,hl,hs,_,_,_,rfl⟩:=Qmh (fun j ρ=>∃ (Ms:List Tb) (q':T) (t6 t7 t8:Slot),Qea q'∧Ms.length=j∧(∀ M∈Ms,Sq n M)∧Qg4 t6=true∧Q46 t7=true∧Qg4 t8=true∧ρ=[.ml q',.fz (.int n),a,b,.fz (.int kind),.ow (.lst (Ms.map Qbg)),t6,t7,t8]) (tg:=.nm 6) (b:=exS (cfn (k+2)) Q1i) (xs:=Qcd 0 m) (n:=0) (ρ:=[.ml q,.fz (.int n),a,b,.fz (.int kind),.ow (.lst []),.un,.un,.un]) ⟨[],q,.un,.un,.un,hq,rfl,fun M hM=>(nomatch hM),rfl,rfl,rfl,rfl⟩ (by
  rintro i x ρ hx ⟨Ms,q1,t6,t7,t8,p1,hl,hs,o6,o7,o8,rfl⟩
  have hi:i<m:=by have:=(List.getElem?_eq_some_iff.mp hx).1;rwa [Qbp] at this
  obtain ⟨rows,q2,u8,e2,p2,hr,w8⟩:=Q45 k h4 p1 (a:=a) (b:=b) (found:=.lst (Ms.map Qbg)) (s6:=.fz x) o8 (n:=n) (kind:=kind)
  have c:n≤100000:=by omega
  have z:Ms.length<100000:=by omega
  refine ⟨[.ml q1,.fz (.int n),a,b,.fz (.int kind),.ow (.lst (Ms.map Qbg)),.fz x,t7,t8],_,(by cases t6 <;> first | rfl | cases o6),.inl ?_,Ms++[rows],q2,.fz x,.ow (.lst (rows.map Qba)),u8,p2,by rw [List.length_append,hl];rfl,fun M hM=>?_,rfl,rfl,w8,rfl⟩
  ·have es:exS (cfn (k+2)) (.set 7 (.lst .nil)) [.ml q1,.fz (.int n),a,b,.fz (.int kind),.ow (.lst (Ms.map Qbg)),.fz x,t7,t8]=.nx [.ml q1,.fz (.int n),a,b,.fz (.int kind),.ow (.lst (Ms.map Qbg)),.fz x,.ow (.lst []),t8]:=by
    cases t7 <;> first | rfl | (cases o7;done)
   rw [Q0,es,Qbf]
   simp only [Q0,Qjk,Qkc,Qk,Q1,Qb,Qa,Qy,Q08 c,Qac,Qmj,e2,Qge,Qbf,Qin,Slot.mut,Qaz,Qg,yC1,Ql,yC2,yBi,Qax,Qv,cont,Slot.prv,Out.opt,ub9,Qpd,Qk1,frz,Qk0,List.length_map,z,List.set,if_true,List.map_append,List.map_cons,List.map_nil]
  ·rcases List.mem_append.mp hM with hM | hM
   ·exact hs M hM
   ·rw [List.mem_singleton.mp hM]
    exact ⟨hr.1,fun r h=>(hr.2 r h).1,fun r h=>(hr.2 r h).2⟩)
 rw [Qbp,Nat.zero_add] at hl
 exact ⟨Ms,q',t6,t7,t8,e,p,hl,hs⟩
theorem Q1j (k:Nat) {n:Nat} (h1:1≤n) (h4:n≤4) {w:Nat} (w1:1≤w) (w4:w≤4) {q:T} (hq:Qea q):∃ Ms q',Tabs n Ms∧Qea q'∧cfn (k+3) 16 [.ml q,.fz (.int n),.fz (.int w)]=.ok (.ow (Q6z Ms)) [q',.non,.non]:=by
 obtain ⟨r1,q1,a0,a1,p1,e1⟩:=Qe1 (k+1) (m:=w) (by omega) (by omega) hq
 obtain ⟨kind,q2,b0,b1,p2,e2⟩:=Qe1 (k+1) (m:=8) (by decide) (by decide) p1
 obtain ⟨m,hm⟩:=Int.eq_ofNat_of_zero_le (show 0≤1+r1 by omega)
 obtain ⟨Ms,q4,t6,t7,t8,e4,p4,hl,hs⟩:=Qxp k h4 (show m≤4 by omega) p2 (a:=.fz (.int w)) (b:=.fz (.int m)) (n:=n) (kind:=kind)
 refine ⟨Ms,q4,⟨h1,h4,by omega,by omega,hs⟩,p4,?_⟩
 have c:m≤100000:=by omega
 have z0:(0:Nat)≤100000:=by decide
 show Qbx (cfn (k+2)) ⟨3,9,Qgp⟩ _=_
 rw [Qbi rfl]
 show Qb4 _ (exS _ Qgp [.ml q,.fz (.int n),.fz (.int w),.un,.un,.un,.un,.un,.un])=_
 simp only [Q0,Qam,Qc6,Qai,Qy,Qct,Q6,Qg,Qk,Q1,Qa,yC1,Qb,Ql,yC2,Qw,Qu,List.all_cons,List.all_nil,Bool.and_true,Q4,Qx,Qaf,Q3,e1,Qa1,Qj,Qz,L2.Qi,Option.map,if_true,List.getElem?_cons_zero,Slot.put,Nat.reduceAdd,reduceCtorEq,if_false,Qcs,Qcr,cont,Out.opt,uo1,hm,Qac,Qbh,Qal,frz,Qad,Qbn,List.length_cons,List.length_nil,Nat.reduceLT,List.set,Qbf,e2,Qkz,Qcm,Qep,Qcl,z0,Ql0,Qjk,Qkc,Q08 c,Qmj,e4,Qge,Qah,Qbv,Q7,Qan,Qae,Qaj,Qt]
open PySem L2
theorem Qpw {L:List T} {r:Int} (h0:0≤r) (h1:r<(L.length:Int)):∃ t,atI L r=some t∧t∈L:=by
 obtain ⟨j,rfl⟩:=Int.eq_ofNat_of_zero_le h0
 have hj:j<L.length:=by omega
 exact ⟨_,Qcb (List.getElem?_eq_getElem hj),List.getElem_mem hj⟩
theorem Qfg {a b:List T} (h:a.length+b.length≤100000):opB .add (.lst a) (.lst b)=some (.ow (.lst (a++b))):=if_pos h
noncomputable abbrev Qsa:List T:=[.non,.bl true,.bl false,.int (-1),.str "1",.str "",.tup [],.lst [],.tup [.int 0],.lst [.int 0],.dct [Sum.inr "a"] [.int 1],.tup [.int 0,.int 1],.int 1000000000000000000000000000000,.tup [.tup [.int 0]],.tup [.str "ab"]]
theorem Qaey (k:Nat) {q:T} (hq:Qea q):∃ t q',(gd 3 t=true∧t∈Qsa++[T.tup [.bl true]])∧Qea q'∧cfn (k+2) 15 [.ml q]=.ok (.fz t) [q']:=by
 obtain ⟨r,q1,r0,r9,p1,e1⟩:=Qe1 k (m:=16) (by decide) (by decide) hq
 obtain ⟨t,ea,ht⟩:=Qpw (L:=Qsa++[.tup [.bl true]]) r0 (by show r<16;exact r9)
 refine ⟨t,q1,?_,p1,?_⟩
 ·have:(Qsa++[T.tup [.bl true]]).all (gd 3)=true:=by decide +kernel
  exact ⟨List.all_eq_true.mp this t ht,ht⟩
 have z15:(15:Nat)≤100000:=by decide
 have z16:(15:Nat)+1≤100000:=by decide
 have z1:(1:Nat)≤100000:=by decide
 have z2:(2:Nat)≤100000:=by decide
 have z0:(0:Nat)≤100000:=by decide
 have q1':(30:Int).natAbs≤1000000:=by decide
 have q2':(10:Int).natAbs<18446744073709551616:=by decide
 have es:exS (cfn (k+1)) (.setF 1 (.lst (.cons .non (.cons (.bl true) (.cons (.bl false) (.cons (.neg (.int 1)) (.cons (.str "1") (.cons (.str "") (.cons (.tup .nil) (.cons (.lst .nil) (.cons (.tup (.cons (.int 0) .nil)) (.cons (.lst (.cons (.int 0) .nil)) (.cons (.lit (.dct [Sum.inr "a"] [.int 1])) (.cons (.tup (.cons (.int 0) (.cons (.int 1) .nil))) (.cons (.bin .pow (.int 10) (.int 30)) (.cons (.tup (.cons (.tup (.cons (.int 0) .nil)) .nil)) (.cons (.tup (.cons (.str "ab") .nil)) .nil))))))))))))))))) [.ml q,.un]=.nx [.ml q,.fz (.lst Qsa)]:=by
  simp only [Qam,Qcm,Qg,Qf1,Qy,yC1,Qm9,Q00,Qai,Q4o,Int.reduceNeg,Qbd,Qrd,Ql,Qw9,Qcl,List.length_nil,z0,if_true,Qep,yC2,frz,List.length_cons,Nat.reduceAdd,z1,Qaeo,z2,Qc6,Qct,Qcs,Qcr,cont,Out.opt,uo9,Int.reduceLE,q1',Nat.reducePow,q2',and_self,Int.reduceToNat,Int.reducePow,z15,Qac,Qbh,Qal,Qad,Qbn,Nat.reduceLT,Qb,Qa,List.set]
 have ka:opB .add (.lst Qsa) (.lst [.tup [.bl true]])=some (.ow (.lst (Qsa++[T.tup [.bl true]]))):=Qfg z16
 show Qbx (cfn (k+1)) ⟨1,2,Qkl⟩ _=_
 rw [Qbi rfl]
 show Qb4 _ (exS _ Qkl [.ml q,.un])=_
 rw [Q0,es,Qbf]
 generalize Qsa=OL at ka ea ⊢
 generalize hL:OL++[T.tup [.bl true]]=L at ka ea
 simp only [Qah,Qk7,Qc6,Qk,Q1,Qb,Qa,Qy,Qct,Qcm,Qg,Qrd,Qm9,yC1,Ql,yC2,Qw9,Qcl,frz,List.length_cons,List.length_nil,Nat.reduceAdd,z1,if_true,Qep,Qcs,Qcr,cont,Out.opt,ka,Qkb,Q6,Qai,Qw,Qu,List.all_cons,List.all_nil,Bool.and_true,Q4,Qx,Qaf,Q3,e1,Qa1,Qj,Qz,L2.Qi,Option.map,List.getElem?_cons_zero,Slot.put,reduceCtorEq,if_false,Qka,Qj9,Qj8,ui1,ea,Qac,Qbv,Q7,Qan,Qae,Qaj,Qt]
theorem gdT {n:Nat} {ts:List T} (hl:ts.length≤1000) (h:∀ x∈ts,gd n x=true):gd (n+1) (.tup ts)=true:=(Q60 hl h).1
theorem gdL {n:Nat} {ts:List T} (hl:ts.length≤1000) (h:∀ x∈ts,gd n x=true):gd (n+1) (.lst ts)=true:=(Q60 hl h).2
noncomputable def AllG (n:Nat) (ts:List T):Prop:=∀ x∈ts,gd n x=true
theorem AllG.nil {n:Nat}:AllG n []:=fun x hx=>nomatch hx
theorem AllG.cons {n:Nat} {t:T} {ts:List T} (h:gd n t=true) (hs:AllG n ts):AllG n (t::ts):=fun x hx=>by
 rcases List.mem_cons.mp hx with rfl | hx
 ·exact h
 ·exact hs x hx
theorem AllG.app {n:Nat} {ts us:List T} (h:AllG n ts) (hs:AllG n us):AllG n (ts++us):=fun x hx=>(List.mem_append.mp hx).elim (h x) (hs x)
theorem AllG.cut {n:Nat} {ts:List T} (h:AllG n ts) {lo hi:Option Int}:AllG n (Qbb ts lo hi):=fun x hx=>h x (List.mem_of_mem_drop (List.mem_of_mem_take hx))
theorem Qaez (r:List Int):AllG 0 (r.map T.int):=fun x hx=>by obtain ⟨i,_,rfl⟩:=List.mem_map.mp hx;rfl
theorem Qabb {r:List Int} (h:r.length≤4):gd 1 (Qba r)=true:=gdT (by rw [List.length_map];omega) (Qaez r)
theorem Q1k {n:Nat} {M:Tb} (h:Sq n M) (h4:n≤4):AllG 1 (M.map Qba):=fun x hx=>by
 obtain ⟨r,hr,rfl⟩:=List.mem_map.mp hx
 exact Qabb (by rw [h.row r hr];exact h4)
theorem Qae0 {n:Nat} {M:Tb} (h:Sq n M) (h4:n≤4):gd 2 (Qbg M)=true:=gdT (by rw [List.length_map,h.len];omega) (Q1k h h4)
theorem Qae1 {t:T}:∀ {n:Nat},gd n t=true→gd (n+1) t=true:=by
 intro n
 induction n generalizing t with
 | zero=>intro h;cases t <;> first | rfl | (cases h;done)
 | succ n ih =>
  intro h
  cases t <;> first | rfl | (cases h;done) | skip
  ·obtain ⟨hl,hx⟩:=Qt6 h
   exact gdT hl fun x hx'=>ih (hx x hx')
  ·obtain ⟨hl,hx⟩:=Qaa4 h
   exact gdL hl fun x hx'=>ih (hx x hx')
theorem Qae2 {a b:List T} (h:a.length+b.length≤100000):opB .add (.tup a) (.tup b)=some (.fz (.tup (a++b))):=if_pos h
open PySem L2
section
variable {x y:PySem.Str} {i:Int} {ss:List PySem.Str} {cf:CF} {ρ:En}
theorem us1:Qb6 .strI [.int i]=if i.natAbs.log2<1920 then some (.fz (.str (Qgv i))) else none:=rfl
theorem us2 {n:Int} (h:PySem.intText? x=some n) (hz:x.length≤640):Qb6 .intS [.str x]=some (.fz (.int n)):=by
 show (match PySem.intText? x with | some n=>if x.length≤640 then some (PV.fz (.int n)) else none | none=>none)=_
 rw [h]
 exact if_pos hz
theorem us3:Qb6 .sta [.str x,.str "-"]=some (.fz (.bl (decide ((cpL x).head?=some 45)))):=by
 show some (PV.fz (.bl (PySem.Txt.startswith x "-")))=_
 rw [Qxm]
theorem us4 (hy:(y.length==0)=false) (hz:x.length≤90000):Qb6 .spl [.str x,.str y]=some (.ow (.lst ((PySem.Txt.split x y).map T.str))):=if_pos ⟨hy,hz⟩
theorem Qsb:∀ ss:List PySem.Str,Qib (ss.map T.str)=some ss
 | []=>rfl
 | x::ss=>by
  show (match Qib (ss.map T.str) with | some xs=>some (x::xs) | none=>none)=_
  rw [Qsb ss]
theorem us5 (h:PySem.JoinOk x ss=true):Qb6 .joi [.str x,.lst (ss.map T.str)]=some (.fz (.str (PySem.Txt.join x ss))):=by
 show (match Qib (ss.map T.str) with | some ss=>if PySem.JoinOk x ss=true then some (PV.fz (.str (PySem.Txt.join x ss))) else none | none=>none)=_
 rw [Qsb]
 exact if_pos h
theorem us6 {c:Nat} (hz:x.length≤90000) (h:(cpL x)[0]?=some c):Qb6 .ixS [.str x,.int 0]=some (.fz (.str ⟨#[c]⟩)):=by
 show (if x.length≤90000 then (match atI x.cps.toList 0 with | some c=>some (PV.fz (.str ⟨#[c]⟩)) | none=>none) else none)=_
 rw [if_pos hz,Q42,h]
theorem us7 (hz:x.length≤90000) (hi:i.natAbs≤90000):Qb6 .slF [.str x,.int i]=some (.fz (.str (PySem.Txt.slice x (some i) none))):=if_pos ⟨hz,hi⟩
theorem us8 (hz:x.length≤90000) (hi:i.natAbs≤90000):Qb6 .slT [.str x,.int i]=some (.fz (.str (PySem.Txt.slice x none (some i)))):=if_pos ⟨hz,hi⟩
theorem us9 (hz:x.length≤90000):Qb6 .lenT [.str x]=some (.fz (.int (x.length:Nat))):=if_pos hz
theorem usa:Qb6 .inS [.str y,.str x]=some (.fz (.bl (PySem.Txt.contains x y))):=rfl
theorem usb:Qb6 .ninS [.str y,.str x]=some (.fz (.bl (!PySem.Txt.contains x y))):=rfl
theorem usc (hz:x.length+y.length≤90000):Qb6 .catS [.str x,.str y]=some (.fz (.str (x++y))):=if_pos hz
end
noncomputable def yRvs (i:Nat) (ρ:En):Slot→SO
 | .ow (.lst ts)=>.nx (ρ.set i (.ow (.lst ts.reverse)))
 | _=>.no
theorem Q62 {cf:CF} {ρ:En} {i:Nat}:exS cf (.rvs i) ρ=yRvs i ρ (Qd ρ i):=by
 rw [exS]
 cases Qd ρ i with
 | ow t=>cases t <;> rfl
 | _=>rfl
theorem Qvr {m:Nat} (h:m≤1000000000000):m.log2<1920:=by
 by_cases h0:m=0
 ·subst h0;decide
 ·exact Nat.lt_trans ((Nat.log2_lt h0).mpr (by show m<2^41;omega)) (by decide)
theorem Qxq {c:En→Out Bool} {b:En→SO} {n:Nat} {ρ ρ1:En} (h:c ρ=.ok false ρ1):Qly c b (n+1) ρ=.nx ρ1:=by
 unfold Qly
 rw [h]
 rfl
noncomputable abbrev Q1l:S:=.whl (.cmp .ge (.var 2) (.bin .pow (.int 10) (.int 64))) (.seq (.app 1 .bad) (.setF 2 (.bin .fdv (.var 2) (.bin .pow (.int 10) (.int 64)))))
theorem Q47 (k:Nat) {n m:Int} {p:Slot} (h:m<10^64):exS (cfn k) Q1l [.fz (.int n),p,.fz (.int m)]=.nx [.fz (.int n),p,.fz (.int m)]:=by
 have p1:(64:Int).natAbs≤1000000:=by decide
 have p2:(10:Int).natAbs<18446744073709551616:=by decide
 have hf:¬ (10000000000000000000000000000000000000000000000000000000000000000≤m):=by omega
 have et:Qat (evE (cfn k) (.cmp .ge (.var 2) (.bin .pow (.int 10) (.int 64))) [.fz (.int n),p,.fz (.int m)])=.ok false [.fz (.int n),p,.fz (.int m)]:=by
  simp only [Qau,Qk,Q1,Qb,Qa,Qy,Qas,Qc6,Qai,Qct,Qcs,Qcr,cont,Out.opt,uo9,Int.reduceLE,p1,Nat.reducePow,p2,and_self,Int.reduceToNat,Int.reducePow,if_true,Qar,Qaq,Qap,uc6,hf,decide_false,Qr,yBl]
 rw [exS]
 show Qlz (Qly (fun ρ=>Qat (evE (cfn k) (.cmp .ge (.var 2) (.bin .pow (.int 10) (.int 64))) ρ)) _ (999999+1) _)=_
 rw [Qxq (c:=fun ρ=>Qat (evE (cfn k) (.cmp .ge (.var 2) (.bin .pow (.int 10) (.int 64))) ρ)) et]
 rfl
theorem Q48 (k:Nat) {n:Int} (h:n.natAbs≤1000000000000):cfn (k+1) 4 [.fz (.int n)]=.ok (.fz (.str (Qgv n))) [.non]:=by
 have ha:(if n<0 then -n else n).natAbs=n.natAbs:=by split <;> omega
 have hl:=Qvr (m:=(if n<0 then -n else n).natAbs) (by omega)
 have hw:=fun p=>Q47 k (n:=n) (m:=if n<0 then -n else n) (p:=p) (by split <;> omega)
 have ej:=us5 (x := "") (ss:=[if n<0 then "-" else "",Qgv (if n<0 then -n else n)]) (Qpv (B:=14) (fun y hy=>by
  rcases List.mem_cons.mp hy with rfl | hy
  ·split <;> decide
  ·rw [List.mem_singleton.mp hy];exact Qm0 (by omega)) (by show 2*14+2*0≤_;decide))
 rw [Qr9] at ej
 have ab:Qb6 .abs [.int n]=some (.fz (.int (if n<0 then -n else n))):=rfl
 show Qbx (cfn k) ⟨1,3,Qet⟩ _=_
 rw [Qbi rfl]
 show Qb4 _ (exS _ Qet [.fz (.int n),.un,.un])=_
 have z0:(0:Nat)<100000:=by decide
 have z1:(1:Nat)<100000:=by decide
 have z00:(0:Nat)≤100000:=by decide
 generalize hm:(if n<0 then -n else n)=m at *
 by_cases hn:n<0
 ·rw [if_pos hn] at ej
  simp only [Q0,Qkz,Qcm,Ql,Qy,Qep,Qcl,List.length_nil,z00,if_true,Qac,Ql0,Qad,Qbn,List.length_cons,Nat.reduceAdd,Nat.reduceLT,Qb,Qa,List.set,Qbf,Qam,Qaz,Qg,Qk,Q1,yC1,yC2,yBi,Qax,Qv,cont,Out.opt,ab,Qbh,Qal,frz,hw,Qin,Slot.mut,us1,hl,Qpd,Qk1,Qk0,z0,List.nil_append,Qji,Qau,Qas,Qai,Qar,Qaq,Qap,uc3,hn,decide_true,Qr,yBl,Qnb,Qbd,z1,List.cons_append,Q62,yRvs,List.reverse_cons,List.reverse_nil,Qah,Slot.prv]
  exact congrArg (fun o=>Qb4 [Arg.fz (T.int n)] (ofO (Out.opt o [.fz (.int n),.ow (.lst [.str "-",.str (Qgv m)]),.fz (.int m)]) fun r ρ=>.rt r ρ)) ej
 ·rw [if_neg hn] at ej
  simp only [Q0,Qkz,Qcm,Ql,Qy,Qep,Qcl,List.length_nil,z00,if_true,Qac,Ql0,Qad,Qbn,List.length_cons,Nat.reduceAdd,Nat.reduceLT,Qb,Qa,List.set,Qbf,Qam,Qaz,Qg,Qk,Q1,yC1,yC2,yBi,Qax,Qv,cont,Out.opt,ab,Qbh,Qal,frz,hw,Qin,Slot.mut,us1,hl,Qpd,Qk1,Qk0,z0,List.nil_append,Qji,Qau,Qas,Qai,Qar,Qaq,Qap,uc3,hn,decide_false,Qr,yBl,Qnb,Qbd,z1,List.cons_append,Q62,yRvs,List.reverse_cons,List.reverse_nil,Qah,Slot.prv]
  exact congrArg (fun o=>Qb4 [Arg.fz (T.int n)] (ofO (Out.opt o [.fz (.int n),.ow (.lst [.str "",.str (Qgv m)]),.fz (.int m)]) fun r ρ=>.rt r ρ)) ej
open PySem L2
theorem Qsc {r:List Int} (hl:r.length≤4) (hr:∀ v∈r,(v:Int).natAbs≤1000000000000):(Qkn r).length≤60:=by
 have h:∀ y∈r.map Qgv,y.length≤14:=fun y hy=>by
  obtain ⟨v,hv,rfl⟩:=List.mem_map.mp hy
  exact Qm0 (hr v hv)
 have q:=Qr7 (sep := " ") h
 rw [List.length_map] at q
 have s1:(" " : PySem.Str).length=1:=by decide
 rw [s1] at q
 show (PySem.Txt.join " " (r.map Qgv)).length≤60
 omega
theorem Qsd {r:List Int} (hl:r.length≤4) (hr:∀ v∈r,(v:Int).natAbs≤1000000000000):Qb6 .joi [.str " ",.lst ((r.map Qgv).map T.str)]=some (.fz (.str (Qkn r))) :=
 us5 (Qpv (B:=14) (fun y hy=>by
  obtain ⟨v,hv,rfl⟩:=List.mem_map.mp hy
  exact Qm0 (hr v hv)) (by rw [List.length_map];have:(" ":PySem.Str).length=1:=(by decide);rw [this];omega))
theorem Q1m {n:Nat} {M:Tb} (h:Sq n M) (h4:n≤4):(Qfr M).length≤244:=by
 have hh:∀ y∈M.map Qkn,y.length≤60:=fun y hy=>by
  obtain ⟨r,hr,rfl⟩:=List.mem_map.mp hy
  exact Qsc (by rw [h.row r hr];exact h4) (h.bd r hr)
 have q:=Qr7 (sep := "/") hh
 have hl:=h.len
 rw [List.length_map] at q
 have s1:("/" : PySem.Str).length=1:=by decide
 rw [s1] at q
 show (PySem.Txt.join "/" (M.map Qkn)).length≤244
 omega
theorem Qse {n:Nat} {M:Tb} (h:Sq n M) (h4:n≤4):Qb6 .joi [.str "/",.lst ((M.map Qkn).map T.str)]=some (.fz (.str (Qfr M))) :=
 us5 (Qpv (B:=60) (fun y hy=>by
  obtain ⟨r,hr,rfl⟩:=List.mem_map.mp hy
  exact Qsc (by rw [h.row r hr];exact h4) (h.bd r hr)) (by
   have hl:=h.len
   rw [List.length_map];have:("/" : PySem.Str).length=1:=by decide
   rw [this];omega))
noncomputable def shT:T→T
 | .int i=>.str (Qgv i)
 | .tup us=>match Qh4 us with
  | some r=>.str (Qkn r)
  | none=>.non
 | t=>t
theorem Qvs:∀ r:List Int,Qh4 (r.map T.int)=some r
 | []=>rfl
 | i::r=>by
  show (match Qh4 (r.map T.int) with | some is=>some (i::is) | none=>none)=_
  rw [Qvs r]
theorem Qpx (r:List Int):shT (Qba r)=.str (Qkn r):=by
 show (match Qh4 (r.map T.int) with | some r=>T.str (Qkn r) | none=>.non)=_
 rw [Qvs]
theorem Qvt (r:List Int):(r.map T.int).map shT=(r.map Qgv).map T.str:=by rw [List.map_map,List.map_map];rfl
theorem Qvu (M:Tb):(M.map Qba).map shT=(M.map Qkn).map T.str:=by
 rw [List.map_map,List.map_map]
 exact List.map_congr_left fun r _=>Qpx r
theorem Qle (k:Nat) {r:List Int} (hl:r.length≤4) (hr:∀ v∈r,(v:Int).natAbs≤1000000000000):cfn (k+2) 5 [.fz (Qba r)]=.ok (.fz (.str (Qkn r))) [.non]:=by
 have hcomp:evE (cfn (k+1)) (.comp (.seq (.var 0)) [none] (.nm 0) .nil (.call 4 (.cons (.var 0) .nil))) [.fz (Qba r)]=.ok (.ow (.lst ((r.map T.int).map shT))) [.fz (Qba r)] :=
  Qbu (rest:=[]) rfl rfl rfl rfl (fun x hx=>by
   obtain ⟨i,hi,rfl⟩:=List.mem_map.mp hx
   refine ⟨.fz (.str (Qgv i)),?_,rfl⟩
   simp only [Q6,Qg,Qk,Q1,Qa,Qy,yC1,Ql,yC2,Qw,Qu,Q4,Qx,Qaf,Q3,Q48 k (hr i hi),Qa1,Qj,Qz,L2.Qi,Option.map,if_true]) (by rw [List.length_map];omega)
 rw [Qvt] at hcomp
 show Qbx (cfn (k+1)) ⟨1,1,Qd6⟩ _=_
 rw [Qbi rfl]
 show Qb4 _ (exS _ Qd6 [.fz (Qba r)])=_
 simp only [Qah,Qaz,Qg,Qbd,Qy,yC1,hcomp,Ql,yC2,yBi,Qax,Qv,cont,Out.opt,Qsd hl hr,Qac,Qbv,Q7,Qan,Qae,Qaj,Qt,Option.map]
theorem Qxr {n:Nat} {M:Tb} (h:Sq n M) (h1:1≤n) (h4:n≤4):Qig (Qbg M)=true:=by
 have hl:=h.len
 show (decide (1≤(M.map Qba).length∧(M.map Qba).length≤4)&&(M.map Qba).all (Qld (M.map Qba).length))=true
 rw [List.length_map,decide_eq_true (by omega),Bool.true_and,List.all_eq_true]
 intro x hx
 obtain ⟨r,hr,rfl⟩:=List.mem_map.mp hx
 show (decide ((r.map T.int).length=M.length)&&(r.map T.int).all whole)=true
 rw [List.length_map,decide_eq_true (by rw [h.row r hr,hl]),Bool.true_and,List.all_eq_true]
 intro y hy
 obtain ⟨i,_,rfl⟩:=List.mem_map.mp hy
 rfl
theorem r0 (s:PySem.Str) (ρ:En):Qts 0 [.fz (.str s)] ρ=.xn ⟨0,[]⟩ ρ:=rfl
theorem r8 (i:Int) (ρ:En):Qts 8 [.fz (.int i)] ρ=.xn ⟨8,[i]⟩ ρ:=rfl
theorem Qpy (k:Nat) {m:Nat} {t:T} (hg:gd (m+2) t=true) (h:Qig t=true):cfn (k+4) 3 [.fz t]=.ok (.fz .non) [.non]:=by
 show Qbx (cfn (k+3)) ⟨1,1,Qdh⟩ _=_
 rw [Qbi rfl]
 show Qb4 _ (exS _ Qdh [.fz t])=_
 simp only [Qav,Qca,Q6,Qg,Qk,Q1,Qa,Qy,yC1,Ql,yC2,Qw,Qu,Q4,Qx,Qaf,Q3,Qvo k hg,h,Qa1,Qj,Qz,L2.Qi,Option.map,if_true,Qr,yBl,Qef,Bool.not_true,Qac,yIf,Qch,Q05,Qaj,Qt]
theorem Qpz (k:Nat) {m:Nat} {t:T} (hg:gd (m+2) t=true) (h:Qig t=false):cfn (k+4) 3 [.fz t]=.xn ⟨0,[]⟩ [.non]:=by
 show Qbx (cfn (k+3)) ⟨1,1,Qdh⟩ _=_
 rw [Qbi rfl]
 show Qb4 _ (exS _ Qdh [.fz t])=_
 simp only [Qav,Qca,Q6,Qg,Qk,Q1,Qa,Qy,yC1,Ql,yC2,Qw,Qu,Q4,Qx,Qaf,Q3,Qvo k hg,h,Qa1,Qj,Qz,L2.Qi,Option.map,if_true,Qr,yBl,Qef,Bool.not_false,Qac,yIf,Qpg,Qbd,r0,Qmk,Qt,Qhk]
theorem Qnn (k:Nat) {n:Nat} {M:Tb} (h:Sq n M) (h1:1≤n) (h4:n≤4):cfn (k+5) 6 [.fz (Qbg M)]=.ok (.fz (.str (Qfr M))) [.non]:=by
 have hl:=h.len
 have hcomp:evE (cfn (k+4)) (.comp (.seq (.var 0)) [none] (.nm 0) .nil (.call 5 (.cons (.var 0) .nil))) [.fz (Qbg M)]=.ok (.ow (.lst ((M.map Qba).map shT))) [.fz (Qbg M)] :=
  Qbu (rest:=[]) rfl rfl rfl rfl (fun x hx=>by
   obtain ⟨r,hr,rfl⟩:=List.mem_map.mp hx
   have e:=Qle (k+2) (r:=r) (by rw [h.row r hr];exact h4) (h.bd r hr)
   refine ⟨.fz (.str (Qkn r)),?_,by rw [Qpx];rfl⟩
   simp only [Q6,Qg,Qk,Q1,Qa,Qy,yC1,Ql,yC2,Qw,Qu,Q4,Qx,Qaf,Q3,e,Qa1,Qj,Qz,L2.Qi,Option.map,if_true]) (by rw [List.length_map];omega)
 rw [Qvu] at hcomp
 have e:=Qpy k (m:=0) (Qae0 h h4) (Qxr h h1 h4)
 show Qbx (cfn (k+4)) ⟨1,1,Qcv⟩ _=_
 rw [Qbi rfl]
 show Qb4 _ (exS _ Qcv [.fz (Qbg M)])=_
 simp only [Q0,Qim,Q6,Qg,Qk,Q1,Qa,Qy,yC1,Ql,yC2,Qw,Qu,Q4,Qx,Qaf,Q3,e,Qa1,Qj,Qz,L2.Qi,Option.map,if_true,Qac,Qrg,Qbf,Qah,Qaz,Qbd,hcomp,yBi,Qax,Qv,cont,Out.opt,Qse h h4,Qbv,Q7,Qan,Qae,Qaj,Qt]
theorem Qno (k:Nat) {m:Nat} {t:T} (hg:gd (m+2) t=true) (h:Qig t=false):cfn (k+5) 6 [.fz t]=.xn ⟨0,[]⟩ [.non]:=by
 show Qbx (cfn (k+4)) ⟨1,1,Qcv⟩ _=_
 rw [Qbi rfl]
 show Qb4 _ (exS _ Qcv [.fz t])=_
 simp only [Q0,Qim,Q6,Qg,Qk,Q1,Qa,Qy,yC1,Ql,yC2,Qw,Qu,Q4,Qx,Qaf,Q3,Qpz k hg h,Qa1,Qj,Qz,L2.Qi,Option.map,if_true,Q1a,q_xn,Qmk,Qt,Qhk]
theorem Qub (k:Nat) {n:Nat} {M:Tb} (h:Sq n M) (h4:n≤4):cfn (k+1) 19 [.fz (Qbg M)]=.ok (.fz (.str (Qfr M))) [.non]:=by
 have hl:=h.len
 have hcomp:evE (cfn k) (.comp (.seq (.var 0)) [none] (.nm 0) .nil (.bi .joi (.cons (.str " ") (.cons (.comp (.seq (.var 0)) [none] (.nm 0) .nil (.bi .strI (.cons (.var 0) .nil))) .nil)))) [.fz (Qbg M)]=.ok (.ow (.lst ((M.map Qba).map shT))) [.fz (Qbg M)] :=
  Qbu (rest:=[]) rfl rfl rfl rfl (fun x hx=>by
   obtain ⟨r,hr,rfl⟩:=List.mem_map.mp hx
   have lr:r.length≤4:=by rw [h.row r hr];exact h4
   have hin:evE (cfn k) (.comp (.seq (.var 0)) [none] (.nm 0) .nil (.bi .strI (.cons (.var 0) .nil))) [.fz (Qba r)]=.ok (.ow (.lst ((r.map T.int).map shT))) [.fz (Qba r)] :=
    Qbu (rest:=[]) rfl rfl rfl rfl (fun x hx=>by
     obtain ⟨i,hi,rfl⟩:=List.mem_map.mp hx
     have hlg:=Qvr (h.bd r hr i hi)
     refine ⟨.fz (.str (Qgv i)),?_,rfl⟩
     simp only [Qaz,Qg,Qk,Q1,Qa,Qy,yC1,Ql,yC2,yBi,Qax,Qv,cont,Out.opt,us1,hlg,if_true]) (by rw [List.length_map];omega)
   rw [Qvt] at hin
   refine ⟨.fz (.str (Qkn r)),?_,by rw [Qpx];rfl⟩
   simp only [Qaz,Qg,Qbd,Qy,yC1,hin,Ql,yC2,yBi,Qax,Qv,cont,Out.opt,Qsd lr (h.bd r hr)]) (by rw [List.length_map];omega)
 rw [Qvu] at hcomp
 show Qbx (cfn k) ⟨1,1,Qip⟩ _=_
 rw [Qbi rfl]
 show Qb4 _ (exS _ Qip [.fz (Qbg M)])=_
 simp only [Qah,Qaz,Qg,Qbd,Qy,yC1,hcomp,Ql,yC2,yBi,Qax,Qv,cont,Out.opt,Qse h h4,Qac,Qbv,Q7,Qan,Qae,Qaj,Qt,Option.map]
open PySem L2
theorem Qae3 {cf:CF} {e:E} {ρ:En} {l:Nat} (m:Int) (h:evE cf e ρ=.ok (.fz (.int (l:Int))) ρ):evE cf (.chl (.int 1) e (.int m)) ρ=.ok (.fz (.bl (decide (1≤l)&&decide ((l:Int)≤m)))) ρ:=by
 rw [evE,Qai]
 simp only [Out.bind,h]
 by_cases h1:(1:Int)≤l
 ·rw [if_pos h1,decide_eq_true (by omega:1≤l),Bool.true_and,Qai]
 ·rw [if_neg h1,decide_eq_false (by omega:¬ 1≤l),Bool.false_and]
theorem usd {x:PySem.Str} (hz:x.length≤90000):Qb6 .chs [.str x]=some (.fz (.lst (Qfx x))):=if_pos hz
noncomputable def dgX:T→Bool
 | .str x=>PySem.Txt.contains "0123456789" x
 | _=>false
theorem Qabd (x:PySem.Str):((Qfx x).map dgX).all id=(cpL x).all dgt:=by
 unfold Qfx
 rw [List.map_map,List.all_map]
 rfl
theorem Q49 (x:PySem.Str):decide ((Qfx x).filter (fun t=>!dgX t)=[])=(cpL x).all dgt:=by
 unfold Qfx
 have:(cpL x).all dgt=true↔((cpL x).map fun c=>T.str ⟨#[c]⟩).filter (fun t=>!dgX t)=[]:=by
  rw [List.filter_eq_nil_iff,List.all_eq_true]
  constructor
  ·rintro h t ht
   obtain ⟨c,hc,rfl⟩:=List.mem_map.mp ht
   have:=h c hc
   show ¬ (!dgt c)=true
   rw [this];decide
  ·intro h c hc
   have:=h _ (List.mem_map.mpr ⟨c,hc,rfl⟩)
   replace this:¬ (!dgt c)=true:=this
   cases hd:dgt c with
   | true=>rfl
   | false=>rw [hd] at this;exact absurd rfl this
 by_cases h:(cpL x).all dgt=true
 ·rw [h,decide_eq_true (this.mp h)]
 ·rw [decide_eq_false fun z=>h (this.mpr z)]
  cases hb:(cpL x).all dgt with
  | true=>exact absurd hb h
  | false=>rfl
theorem Qm1 (x:PySem.Str):(Qfx x).length=x.length:=Qpb x
theorem Qcw {w:PySem.Str}:(Qe2 w).length=(Qbq (cpL w)).length:=by rw [Qgt,Qgu]
theorem Qvv:∀ l:List Nat,(Qbq l).length≤l.length:=fun l=>by
 unfold Qbq
 split
 ·rw [List.length_cons];omega
 ·exact Nat.le_refl _
theorem Qvw {w:PySem.Str}:(Qe2 w).length≤w.length:=by rw [Qcw,Qgt];exact Qvv _
theorem Quc (c d:Nat):decide ((⟨#[c]⟩:PySem.Str)=⟨#[d]⟩)=decide (c=d):=by
 by_cases h:c=d
 ·subst h;rw [decide_eq_true rfl,decide_eq_true rfl]
 ·rw [decide_eq_false h,decide_eq_false fun z=>h (by injection z with z;injection z with z;injection z)]
theorem Qp0 {l:List Nat} {c:Nat} (h:l[0]?=some c) (d:Nat):decide (l.head?=some d)=decide (c=d):=by
 cases l with
 | nil=>cases h
 | cons y l =>
  have hy:y=c:=by simpa using h
  subst hy
  by_cases e:y=d
  ·rw [decide_eq_true e,decide_eq_true (show (y::l).head?=some d by rw [←e];rfl)]
  ·rw [decide_eq_false e,decide_eq_false fun z=>e (by simpa using z)]
theorem Qsf {cf:CF} {ρ:En} {x:PySem.Str} {e:E} (h:evE cf e ρ=.ok (.fz (.str x)) ρ) (hz:x.length≤90000):evW cf (.seq (.bi .chs (.cons e .nil))) ρ=.ok (Qfx x,none) ρ:=by
 simp only [Qmi,Qaz,Qg,h,Qy,yC1,Ql,yC2,yBi,Qax,Qv,cont,Out.opt,usd hz,Qrf,Qky,Qkx,Qeb,Qg3]
theorem str0:("0" : PySem.Str)=⟨#[48]⟩:=by decide
theorem strm:("-" : PySem.Str)=⟨#[45]⟩:=by decide
theorem Qgw {x y:PySem.Str}:eqO (.str x) (.str y)=some (decide (x=y)):=rfl
theorem Qsg (k:Nat) {w:PySem.Str} (hz:w.length≤90000):cfn (k+1) 7 [.fz (.str w)]=.ok (.fz (.bl (Qe0 w))) [.non]:=by
 have es:exS (cfn k) (.setF 1 (.ite (.bi .sta (.cons (.var 0) (.cons (.str "-") .nil))) (.bi .slF (.cons (.var 0) (.cons (.int 1) .nil))) (.var 0))) [.fz (.str w),.un]=.nx [.fz (.str w),.fz (.str (Qe2 w))]:=by
  unfold Qe2
  by_cases h:(cpL w).head?=some 45
  ·simp only [Qam,Qji,Qaz,Qg,Qk,Q1,Qa,Qy,yC1,Qbd,Ql,yC2,yBi,Qax,Qv,cont,Out.opt,us3,h,decide_true,Qr,yBl,Qnb,Qai,us7 hz (show (1:Int).natAbs≤90000 by decide),Qac,Qbh,Qal,frz,Qad,Qbn,List.length_cons,List.length_nil,Nat.reduceAdd,Nat.reduceLT,Qb,List.set,if_true]
  ·simp only [Qam,Qji,Qaz,Qg,Qk,Q1,Qa,Qy,yC1,Qbd,Ql,yC2,yBi,Qax,Qv,cont,Out.opt,us3,h,decide_false,Qr,yBl,Qnb,Qac,Qbh,Qal,frz,Qad,Qbn,List.length_cons,List.length_nil,Nat.reduceAdd,Nat.reduceLT,Qb,List.set,if_true,if_false]
 have fz:(Qe2 w).length≤90000:=Nat.le_trans Qvw hz
 have hcomp:evE (cfn k) (.comp (.seq (.bi .chs (.cons (.var 1) .nil))) [none] (.nm 0) .nil (.bi .inS (.cons (.var 0) (.cons (.str "0123456789") .nil)))) [.fz (.str w),.fz (.str (Qe2 w))]=.ok (.ow (.lst ((Qfx (Qe2 w)).map fun x=>T.bl (dgX x)))) [.fz (.str w),.fz (.str (Qe2 w))] :=
  Qbu (rest:=[]) (Qsf (by simp only [Qk,Q1,Qb,Qa]) fz) rfl rfl rfl (fun x hx=>by
   unfold Qfx at hx
   obtain ⟨c,_,rfl⟩:=List.mem_map.mp hx
   exact ⟨.fz (.bl (dgX (.str ⟨#[c]⟩))),by simp only [Qaz,Qg,Qk,Q1,Qa,Qy,yC1,Qbd,Ql,yC2,yBi,Qax,Qv,cont,Out.opt,usa,dgX],rfl⟩) (by rw [Qm1];omega)
 show Qbx (cfn k) ⟨1,2,Qho⟩ _=_
 rw [Qbi rfl]
 show Qb4 _ (exS _ Qho [.fz (.str w),.un])=_
 rw [Q0,es,Qbf]
 have ha:=Qabd (Qe2 w)
 rw [Qgu] at ha
 have hn:Qe0 w=(decide (1≤(Qbq (cpL w)).length)&&(decide ((Qbq (cpL w)).length≤12)&&(Qbq (cpL w)).all dgt)&&(decide (w=("0" : PySem.Str))||decide ((Qbq (cpL w)).head?≠some 48))):=rfl
 by_cases h1:(((Qbq (cpL w)).length:Nat):Int)<1
 ·rw [decide_eq_false (by omega:¬ 1≤(Qbq (cpL w)).length),Bool.false_and,Bool.false_and] at hn
  simp only [Q0,Qav,Qdw,Qau,Qaz,Qg,Qk,Q1,Qb,Qa,Qy,yC1,Ql,yC2,yBi,Qax,Qv,cont,Out.opt,us9 fz,Qcw,Qas,Qai,Qar,Qaq,Qap,uc3,h1,decide_true,Qr,yBl,yOr,Qac,yIf,Qah,Qm9,Qbv,Qd5,Q7,Qan,Qae,Qaj,Qt,Option.map,hn]
 ·rw [decide_eq_true (by omega:1≤(Qbq (cpL w)).length),Bool.true_and] at hn
  by_cases h2:(12:Int)<(((Qbq (cpL w)).length:Nat):Int)
  ·rw [decide_eq_false (by omega:¬ (Qbq (cpL w)).length≤12),Bool.false_and,Bool.false_and] at hn
   simp only [Q0,Qav,Qdw,Qau,Qaz,Qg,Qk,Q1,Qb,Qa,Qy,yC1,Ql,yC2,yBi,Qax,Qv,cont,Out.opt,us9 fz,Qcw,Qas,Qai,Qar,Qaq,Qap,uc3,h1,decide_false,Qr,yBl,yOr,uc5,h2,decide_true,yB,Qac,yIf,Qah,Qm9,Qbv,Qd5,Q7,Qan,Qae,Qaj,Qt,Option.map,hn]
  ·rw [decide_eq_true (by omega:(Qbq (cpL w)).length≤12),Bool.true_and] at hn
   cases h3:(Qbq (cpL w)).all dgt with
   | false =>
    rw [h3,Bool.false_and] at hn
    simp only [Q0,Qav,Qdw,Qau,Qaz,Qg,Qk,Q1,Qb,Qa,Qy,yC1,Ql,yC2,yBi,Qax,Qv,cont,Out.opt,us9 fz,Qcw,Qas,Qai,Qar,Qaq,Qap,uc3,h1,decide_false,Qr,yBl,yOr,uc5,h2,Qca,hcomp,ub3,Option.map,Qdx,ha,h3,Qef,Bool.not_false,yB,Qac,yIf,Qah,Qm9,Qbv,Qd5,Q7,Qan,Qae,Qaj,Qt,hn]
   | true =>
    rw [h3,Bool.true_and] at hn
    obtain ⟨c,hc⟩:∃ c,(cpL (Qe2 w))[0]?=some c:=by
     rw [Qgu]
     exact ⟨_,List.getElem?_eq_getElem (by omega)⟩
    have hh:=Qp0 (by rw [←Qgu];exact hc) (l:=Qbq (cpL w)) 48
    have hne:decide ((Qbq (cpL w)).head?≠some 48) = !decide (c=48):=by rw [←hh];exact decide_not
    rw [hne] at hn
    by_cases h4:w=("0" : PySem.Str)
    ·rw [decide_eq_true h4,Bool.true_or] at hn
     have d4:=decide_eq_true h4
     simp only [Q0,Qav,Qdw,Qau,Qaz,Qg,Qk,Q1,Qb,Qa,Qy,yC1,Ql,yC2,yBi,Qax,Qv,cont,Out.opt,us9 fz,Qcw,Qas,Qai,Qar,Qaq,Qap,uc3,h1,decide_false,Qr,yBl,yOr,uc5,h2,Qca,hcomp,ub3,Option.map,Qdx,ha,h3,Qef,Bool.not_true,yB,Qac,yIf,Qch,Qbf,Qah,Qbd,uc1,Qgw,d4,Qbv,Q7,Qan,Qae,Qaj,Qt,hn]
    ·rw [decide_eq_false h4,Bool.false_or] at hn
     have d4:=decide_eq_false h4
     have e0:=Quc c 48
     rw [←str0] at e0
     simp only [Q0,Qav,Qdw,Qau,Qaz,Qg,Qk,Q1,Qb,Qa,Qy,yC1,Ql,yC2,yBi,Qax,Qv,cont,Out.opt,us9 fz,Qcw,Qas,Qai,Qar,Qaq,Qap,uc3,h1,decide_false,Qr,yBl,yOr,uc5,h2,Qca,hcomp,ub3,Option.map,Qdx,ha,h3,Qef,Bool.not_true,yB,Qac,yIf,Qch,Qbf,Qah,Qbd,uc1,Qgw,d4,us6 fz hc,uc2,e0,Qbv,Q7,Qan,Qae,Qaj,Qt,hn]
theorem Q5a {ts:List T} (h:ts.all (Qo 49)=true):eqO (.lst ts) (.lst [])=some (decide (ts=[])):=by
 show (if Qo 50 (.lst ts)=true∧Qo 50 (.lst [])=true then some (eqT (.lst ts) (.lst [])) else none)=_
 rw [if_pos ⟨h,rfl⟩]
 cases ts with
 | nil=>rfl
 | cons t ts=>rfl
theorem Qabe (x:PySem.Str) (f:T→Bool):((Qfx x).filter f).all (Qo 49)=true:=by
 rw [List.all_eq_true]
 intro t ht
 have:=(List.mem_filter.mp ht).1
 unfold Qfx at this
 obtain ⟨c,_,rfl⟩:=List.mem_map.mp this
 rfl
noncomputable def Qdj (w:PySem.Str):T:=if Qe0 w=true then .int (Qnm w) else .non
theorem Qsh (k:Nat) {w:PySem.Str} (hz:w.length≤90000):cfn (k+1) 20 [.fz (.str w)]=.ok (.fz (Qdj w)) [.non]:=by
 have es:exS (cfn k) (.setF 1 (.ite (.cmp .eq (.bi .slT (.cons (.var 0) (.cons (.int 1) .nil))) (.str "-")) (.bi .slF (.cons (.var 0) (.cons (.int 1) .nil))) (.var 0))) [.fz (.str w),.un]=.nx [.fz (.str w),.fz (.str (Qe2 w))]:=by
  have hm:=Qt9 w
  unfold Qe2
  by_cases h:(cpL w).head?=some 45
  ·have d:=decide_eq_true (hm.mpr h)
   simp only [Qam,Qji,Qau,Qaz,Qg,Qk,Q1,Qa,Qy,yC1,Qai,Ql,yC2,yBi,Qax,Qv,cont,Out.opt,us8 hz (show (1:Int).natAbs≤90000 by decide),Qas,Qbd,Qar,Qaq,Qap,uc1,Qgw,d,Qr,yBl,Qnb,us7 hz (show (1:Int).natAbs≤90000 by decide),Qac,Qbh,Qal,frz,Qad,Qbn,List.length_cons,List.length_nil,Nat.reduceAdd,Nat.reduceLT,Qb,List.set,if_true,h]
  ·have d:=decide_eq_false fun z=>h (hm.mp z)
   simp only [Qam,Qji,Qau,Qaz,Qg,Qk,Q1,Qa,Qy,yC1,Qai,Ql,yC2,yBi,Qax,Qv,cont,Out.opt,us8 hz (show (1:Int).natAbs≤90000 by decide),Qas,Qbd,Qar,Qaq,Qap,uc1,Qgw,d,Qr,yBl,Qnb,Qac,Qbh,Qal,frz,Qad,Qbn,List.length_cons,List.length_nil,Nat.reduceAdd,Nat.reduceLT,Qb,List.set,if_true,h,if_false]
 have fz:(Qe2 w).length≤90000:=Nat.le_trans Qvw hz
 have hcomp:evE (cfn k) (.comp (.seq (.bi .chs (.cons (.var 1) .nil))) [none] (.nm 0) (.cons (.bi .ninS (.cons (.var 0) (.cons (.str "0123456789") .nil))) .nil) (.var 0)) [.fz (.str w),.fz (.str (Qe2 w))]=.ok (.ow (.lst (((Qfx (Qe2 w)).filter fun t=>!dgX t).map id))) [.fz (.str w),.fz (.str (Qe2 w))] :=
  Qvj (rest:=[]) (Qsf (by simp only [Qk,Q1,Qb,Qa]) fz) rfl rfl rfl (fun x hx=>by
   unfold Qfx at hx
   obtain ⟨c,_,rfl⟩:=List.mem_map.mp hx
   show Qat (evE (cfn k) (.bi .ninS (.cons (.var 0) (.cons (.str "0123456789") .nil))) [.fz (.str ⟨#[c]⟩)])=_
   simp only [Qaz,Qg,Qk,Q1,Qa,Qy,yC1,Qbd,Ql,yC2,yBi,Qax,Qv,cont,Out.opt,usb,Qr,yBl,dgX]) (fun x hx _=>⟨.fz x,by simp only [Qk,Q1,Qa],rfl⟩) (by rw [Qm1];omega)
 rw [List.map_id] at hcomp
 have ha:=Q49 (Qe2 w)
 rw [Qgu] at ha
 have hq:=Q5a (Qabe (Qe2 w) fun t=>!dgX t)
 rw [ha] at hq
 have ec:=Qae3 (cf:=cfn k) (e:=.bi .lenT (.cons (.var 1) .nil)) (ρ:=[.fz (.str w),.fz (.str (Qe2 w))]) (l:=(Qbq (cpL w)).length) 12 (by simp only [Qaz,Qg,Qk,Q1,Qb,Qa,Qy,yC1,Ql,yC2,yBi,Qax,Qv,cont,Out.opt,us9 fz,Qcw])
 show Qbx (cfn k) ⟨1,2,Qd8⟩ _=_
 rw [Qbi rfl]
 show Qb4 _ (exS _ Qd8 [.fz (.str w),.un])=_
 rw [Q0,es,Qbf]
 have z0:(0:Nat)≤100000:=by decide
 cases hk:okF w with
 | false =>
  have hn:Qdj w=.non:=by unfold Qdj;rw [show Qe0 w=false by unfold Qe0;rw [hk];rfl];rfl
  unfold okF at hk
  cases h1:decide (1≤(Qbq (cpL w)).length)&&decide (((Qbq (cpL w)).length:Int)≤12) with
  | false=>simp only [Q0,Qav,Qdw,Qca,ec,h1,Qr,Qy,yBl,Qef,Bool.not_false,yOr,Qac,yIf,Qah,Qf1,Qbv,Qd5,Q7,Qan,Qae,Qaj,Qt,Option.map,hn]
  | true =>
   rw [Bool.and_eq_true,decide_eq_true_eq,decide_eq_true_eq] at h1
   rw [decide_eq_true h1.1,Bool.true_and,decide_eq_true (by omega:(Qbq (cpL w)).length≤12),Bool.true_and] at hk
   have h1':(decide (1≤(Qbq (cpL w)).length)&&decide (((Qbq (cpL w)).length:Int)≤12))=true:=by rw [decide_eq_true h1.1,decide_eq_true h1.2];rfl
   rw [hk] at hq
   simp only [Q0,Qav,Qdw,Qca,ec,h1',Qr,Qy,yBl,Qef,Bool.not_true,yOr,Qau,hcomp,Qas,Qcm,Ql,Qep,Qcl,List.length_nil,z0,if_true,Qar,Qaq,cont,Qap,uc2,Option.map,hq,Bool.not_false,yB,Qac,yIf,Qah,Qf1,Qbv,Qd5,Q7,Qan,Qae,Qaj,Qt,hn]
 | true =>
  have hl:=Q44 hk
  have hk':=hk
  unfold okF at hk
  rw [Bool.and_eq_true,Bool.and_eq_true,decide_eq_true_eq,decide_eq_true_eq] at hk
  obtain ⟨k1,k2,k3⟩:=hk
  have h1':(decide (1≤(Qbq (cpL w)).length)&&decide (((Qbq (cpL w)).length:Int)≤12))=true:=by rw [decide_eq_true k1,decide_eq_true (by omega)];rfl
  rw [k3] at hq
  obtain ⟨c,hc⟩:∃ c,(cpL (Qe2 w))[0]?=some c:=by
   rw [Qgu]
   exact ⟨_,List.getElem?_eq_getElem (by omega)⟩
  have hw1:1≤(cpL w).length:=Nat.le_trans k1 (Qvv _)
  obtain ⟨d,hd⟩:∃ d,(cpL w)[0]?=some d:=⟨_,List.getElem?_eq_getElem (by omega)⟩
  have hh:=Qp0 (by rw [←Qgu];exact hc) (l:=Qbq (cpL w)) 48
  have hh2:=Qp0 hd 45
  rw [hh,hh2] at hl
  have e0:=Quc c 48
  rw [←str0] at e0
  have e1:=Quc d 45
  rw [←strm] at e1
  obtain ⟨n,hn,hz6⟩:=Qvq hk'
  have hnI:Qnm w=n:=by unfold Qnm;rw [hn];rfl
  have nb:Qe0 w = !(decide (c=48)&&(decide (1<(Qbq (cpL w)).length)||decide (d=45))):=by
   unfold Qe0
   rw [hk',Bool.true_and]
   exact hl
  cases hc8:decide (c=48) with
  | false =>
   rw [hc8] at nb e0
   have hT:Qdj w=.int n:=by unfold Qdj;rw [nb,hnI];rfl
   simp only [Q0,Qav,Qdw,Qca,ec,h1',Qr,Qy,yBl,Qef,Bool.not_true,yOr,Qau,hcomp,Qas,Qcm,Ql,Qep,Qcl,List.length_nil,z0,if_true,Qar,Qaq,cont,Qap,uc2,Option.map,hq,yB,Qac,yIf,Qch,Qbf,Qjh,Qaz,Qg,Qk,Q1,Qb,Qa,yC1,Qai,yC2,yBi,Qax,Qv,Out.opt,us6 fz hc,Qbd,uc1,Qgw,e0,Qna,Qah,us2 hn hz6,Qbv,Q7,Qan,Qae,Qaj,Qt,hT]
  | true =>
   rw [hc8] at nb e0
   by_cases hl1:(1:Int)<(((Qbq (cpL w)).length:Nat):Int)
   ·rw [decide_eq_true (by omega:1<(Qbq (cpL w)).length)] at nb
    have hT:Qdj w=.non:=by unfold Qdj;rw [nb];rfl
    simp only [Q0,Qav,Qdw,Qca,ec,h1',Qr,Qy,yBl,Qef,Bool.not_true,yOr,Qau,hcomp,Qas,Qcm,Ql,Qep,Qcl,List.length_nil,z0,if_true,Qar,Qaq,cont,Qap,uc2,Option.map,hq,yB,Qac,yIf,Qch,Qbf,Qjh,Qaz,Qg,Qk,Q1,Qb,Qa,yC1,Qai,yC2,yBi,Qax,Qv,Out.opt,us6 fz hc,Qbd,uc1,Qgw,e0,Qna,us9 fz,Qcw,uc5,hl1,decide_true,Qah,Qf1,Qbv,Qd5,Q7,Qan,Qae,Qaj,Qt,hT]
   ·rw [decide_eq_false (by omega:¬ 1<(Qbq (cpL w)).length)] at nb
    cases hd5:decide (d=45) with
    | true =>
     rw [hd5] at nb e1
     have hT:Qdj w=.non:=by unfold Qdj;rw [nb];rfl
     simp only [Q0,Qav,Qdw,Qca,ec,h1',Qr,Qy,yBl,Qef,Bool.not_true,yOr,Qau,hcomp,Qas,Qcm,Ql,Qep,Qcl,List.length_nil,z0,if_true,Qar,Qaq,cont,Qap,uc2,Option.map,hq,yB,Qac,yIf,Qch,Qbf,Qjh,Qaz,Qg,Qk,Q1,Qb,Qa,yC1,Qai,yC2,yBi,Qax,Qv,Out.opt,us6 fz hc,Qbd,uc1,Qgw,e0,Qna,us9 fz,Qcw,uc5,hl1,decide_false,us6 hz hd,e1,Qah,Qf1,Qbv,Qd5,Q7,Qan,Qae,Qaj,Qt,hT]
    | false =>
     rw [hd5] at nb e1
     have hT:Qdj w=.int n:=by unfold Qdj;rw [nb,hnI];rfl
     simp only [Q0,Qav,Qdw,Qca,ec,h1',Qr,Qy,yBl,Qef,Bool.not_true,yOr,Qau,hcomp,Qas,Qcm,Ql,Qep,Qcl,List.length_nil,z0,if_true,Qar,Qaq,cont,Qap,uc2,Option.map,hq,yB,Qac,yIf,Qch,Qbf,Qjh,Qaz,Qg,Qk,Q1,Qb,Qa,yC1,Qai,yC2,yBi,Qax,Qv,Out.opt,us6 fz hc,Qbd,uc1,Qgw,e0,Qna,us9 fz,Qcw,uc5,hl1,decide_false,us6 hz hd,e1,Qah,us2 hn hz6,Qbv,Q7,Qan,Qae,Qaj,Qt,hT]
open PySem L2
noncomputable def ws (x:PySem.Str):List PySem.Str:=PySem.Txt.split x " "
noncomputable def rs (x:PySem.Str):List PySem.Str:=PySem.Txt.split x "/"
theorem Qm2 (x:PySem.Str):(ws x).length≤x.length+2:=Qhx x " "
theorem Qm3 (x:PySem.Str):(rs x).length≤x.length+2:=Qhx x "/"
theorem Qsi {x w:PySem.Str} (h:w∈ws x):w.length≤x.length:=PyProof.Rows.part_short h
theorem Qht {x w:PySem.Str} (h:w∈rs x):w.length≤x.length:=PyProof.Rows.part_short h
theorem Qsj {x:PySem.Str} (hz:x.length≤90000):Qb6 .spl [.str x,.str " "]=some (.ow (.lst ((ws x).map T.str))):=us4 (by decide) hz
theorem Qoo {x:PySem.Str} (hz:x.length≤90000):Qb6 .spl [.str x,.str "/"]=some (.ow (.lst ((rs x).map T.str))):=us4 (by decide) hz
noncomputable def Qh6 (x:PySem.Str) (m:Nat):Bool:=decide ((ws x).length=m)&&(ws x).all Qe0
noncomputable def nbX:T→Bool
 | .str w=>Qe0 w
 | _=>false
theorem Qabf (l:List PySem.Str):((l.map T.str).map nbX).all id=l.all Qe0:=by
 rw [List.map_map,List.all_map]
 rfl
theorem Qsk (k:Nat) {x:PySem.Str} {m:Nat} (hz:x.length≤90000):cfn (k+2) 8 [.fz (.str x),.fz (.int m)]=.ok (.fz (.bl (Qh6 x m))) [.non,.non]:=by
 have wl:=Qm2 x
 have hcomp:evE (cfn (k+1)) (.comp (.seq (.var 2)) [none] (.nm 0) .nil (.call 7 (.cons (.var 0) .nil))) [.fz (.str x),.fz (.int m),.fz (.lst ((ws x).map T.str))]=.ok (.ow (.lst (((ws x).map T.str).map fun t=>T.bl (nbX t)))) [.fz (.str x),.fz (.int m),.fz (.lst ((ws x).map T.str))] :=
  Qbu (rest:=[]) rfl rfl rfl rfl (fun t ht=>by
   obtain ⟨w,hw,rfl⟩:=List.mem_map.mp ht
   have e:=Qsg k (w:=w) (Nat.le_trans (Qsi hw) hz)
   exact ⟨.fz (.bl (Qe0 w)),by simp only [Q6,Qg,Qk,Q1,Qa,Qy,yC1,Ql,yC2,Qw,Qu,Q4,Qx,Qaf,Q3,e,Qa1,Qj,Qz,L2.Qi,Option.map,if_true],rfl⟩) (by rw [List.length_map];omega)
 have ha:=Qabf (ws x)
 show Qbx (cfn (k+1)) ⟨2,3,Qcp⟩ _=_
 rw [Qbi rfl]
 show Qb4 _ (exS _ Qcp [.fz (.str x),.fz (.int m),.un])=_
 by_cases hm:(ws x).length=m
 ·have er:Qh6 x m=(ws x).all Qe0:=by unfold Qh6;rw [decide_eq_true hm,Bool.true_and]
  have hm':decide ((((ws x).length:Nat):Int)=(m:Int))=true:=decide_eq_true (by omega)
  simp only [Q0,Qam,Qaz,Qg,Qk,Q1,Qa,Qy,yC1,Qbd,Ql,yC2,yBi,Qax,Qv,cont,Out.opt,Qsj hz,Qac,Qbh,Qal,frz,Qad,Qbn,List.length_cons,List.length_nil,Nat.reduceAdd,Nat.reduceLT,Qb,List.set,if_true,Qbf,Qah,Qjh,Qau,ub1,List.length_map,Qas,Qar,Qaq,Qap,uc1,Qb8,hm',Qr,yBl,Qna,hcomp,ub3,Option.map,Qdx,ha,yB,Qbv,Q7,Qan,Qae,Qaj,Qt,er]
 ·have er:Qh6 x m=false:=by unfold Qh6;rw [decide_eq_false hm,Bool.false_and]
  have hm':decide ((((ws x).length:Nat):Int)=(m:Int))=false:=decide_eq_false (by omega)
  simp only [Q0,Qam,Qaz,Qg,Qk,Q1,Qa,Qy,yC1,Qbd,Ql,yC2,yBi,Qax,Qv,cont,Out.opt,Qsj hz,Qac,Qbh,Qal,frz,Qad,Qbn,List.length_cons,List.length_nil,Nat.reduceAdd,Nat.reduceLT,Qb,List.set,if_true,Qbf,Qah,Qjh,Qau,ub1,List.length_map,Qas,Qar,Qaq,Qap,uc1,Qb8,hm',Qr,yBl,Qna,Qbv,Q7,Qan,Qae,Qaj,Qt,Option.map,er]
noncomputable def bad (x:PySem.Str) (i:Nat):Bool:=decide (3<i) || !Qh6 ((rs x).getD i "") (rs x).length
theorem Q1n {x:PySem.Str} {i:Nat} (hi:i<(rs x).length):(rs x).getD i "" = (rs x)[i]∧atI ((rs x).map T.str) (i:Int)=some (.str ((rs x)[i])) :=
 ⟨by rw [List.getD_eq_getElem?_getD,List.getElem?_eq_getElem hi];rfl,Qcb (by rw [List.getElem?_map,List.getElem?_eq_getElem hi];rfl)⟩
noncomputable def Q1o:Option Nat→T
 | some i=>.int ((i:Int)+1)
 | none=>.non
noncomputable abbrev Q5b:S:=.ite (.or (.cmp .eq (.var 2) (.int (4))) (.not (.call 8 (.cons (.ix (.var 1) (.var 2)) (.cons (.bi .len (.cons (.var 1) .nil)) .nil))))) (.ret (.bin .add (.var 2) (.int 1))) .nil
theorem Qsl (k:Nat) {x:PySem.Str} (hz:x.length≤90000):∃ o,First (bad x) (rs x).length o∧cfn (k+3) 9 [.fz (.str x)]=.ok (.fz (Q1o o)) [.non]:=by
 have rl:=Qm3 x
 have hl:(rs x).length≤100000:=by omega
 have hL:=Qit (tg:=.nm 2) (b:=exS (cfn (k+2)) Q5b) (f:=bad x) (r:=fun i=>.fz (.int ((i:Int)+1)))
  (J:=fun i ρ=>i≤4∧∃ s,Qg4 s=true∧ρ=[.fz (.str x),.fz (.lst ((rs x).map T.str)),s]) (L:=fun i ρ=>∃ s,ρ=[.fz (.str x),.fz (.lst ((rs x).map T.str)),s])
  (xs:=Qcd 0 (rs x).length) (n:=0) (ρ:=[.fz (.str x),.fz (.lst ((rs x).map T.str)),.un]) ⟨by omega,.un,rfl,rfl⟩ (by
   rintro i t ρ hx ⟨h4,s,hs,rfl⟩
   rw [Nat.zero_add] at h4 ⊢
   have hi:i<(rs x).length:=by have:=(List.getElem?_eq_some_iff.mp hx).1;rwa [Qbp] at this
   rw [Qj7 hi] at hx
   cases hx
   rw [Int.zero_add]
   obtain ⟨g1,a1⟩:=Q1n hi
   have er:=Qsk k (x:=(rs x)[i]) (m:=(rs x).length) (Nat.le_trans (Qht (List.getElem_mem hi)) hz)
   refine ⟨[.fz (.str x),.fz (.lst ((rs x).map T.str)),.fz (.int i)],[.fz (.str x),.fz (.lst ((rs x).map T.str)),.fz (.int i)],(by cases s <;> first | rfl | cases hs),?_⟩
   have hb:bad x i=(decide (3<i) || !Qh6 ((rs x)[i]) (rs x).length):=by unfold bad;rw [g1]
   by_cases hi4:i=4
   ·have d:decide ((i:Int)=4)=true:=decide_eq_true (by omega)
    rw [decide_eq_true (by omega:3<i),Bool.true_or] at hb
    refine .inr ⟨hb,?_,_,rfl⟩
    simp only [Qav,Qdw,Qau,Qk,Q1,Qb,Qa,Qy,Qas,Qai,Qar,Qaq,cont,Qap,uc1,Qb8,d,Qr,yBl,yOr,Qac,yIf,Qah,Qc6,Qct,Qcs,Qcr,Out.opt,uo1,Qbv]
   ·have d:decide ((i:Int)=4)=false:=decide_eq_false (by omega)
    rw [decide_eq_false (by omega:¬ 3<i),Bool.false_or] at hb
    cases hr:Qh6 ((rs x)[i]) (rs x).length with
    | false =>
     rw [hr] at hb er
     refine .inr ⟨hb,?_,_,rfl⟩
     simp only [Qav,Qdw,Qau,Qk,Q1,Qb,Qa,Qy,Qas,Qai,Qar,Qaq,cont,Qap,uc1,Qb8,d,Qr,yBl,yOr,Qca,Q6,Qg,Qk7,Qkb,Qka,Qj9,Qj8,ui1,a1,yC1,Qaz,Ql,yC2,yBi,Qax,Qv,Out.opt,ub1,List.length_map,Qw,Qu,Q4,Qx,Qaf,Q3,er,Qa1,Qj,Qz,L2.Qi,Option.map,if_true,Qef,Bool.not_false,yB,Qac,yIf,Qah,Qc6,Qct,Qcs,Qcr,uo1,Qbv]
    | true =>
     rw [hr] at hb er
     refine .inl ⟨hb,?_,by omega,_,rfl,rfl⟩
     simp only [Qav,Qdw,Qau,Qk,Q1,Qb,Qa,Qy,Qas,Qai,Qar,Qaq,cont,Qap,uc1,Qb8,d,Qr,yBl,yOr,Qca,Q6,Qg,Qk7,Qkb,Qka,Qj9,Qj8,ui1,a1,yC1,Qaz,Ql,yC2,yBi,Qax,Qv,Out.opt,ub1,List.length_map,Qw,Qu,Q4,Qx,Qaf,Q3,er,Qa1,Qj,Qz,L2.Qi,Option.map,if_true,Qef,Bool.not_true,yB,Qac,yIf,Qch])
 rw [Qbp] at hL
 rcases hL with ⟨i,hi,fi,lo,ρ',e,s,rfl⟩ | ⟨no,ρ',e,h4,s,hs,rfl⟩
 ·refine ⟨some i,.inl ⟨i,hi,rfl,by simpa using fi,fun j hj=>by simpa using lo j hj⟩,?_⟩
  show Qbx (cfn (k+2)) ⟨1,3,Qd1⟩ _=_
  rw [Qbi rfl]
  show Qb4 _ (exS _ Qd1 [.fz (.str x),.un,.un])=_
  rw [Nat.zero_add] at e
  simp only [Q0,Qam,Qaz,Qg,Qk,Q1,Qa,Qy,yC1,Qbd,Ql,yC2,yBi,Qax,Qv,cont,Out.opt,Qoo hz,Qac,Qbh,Qal,frz,Qad,Qbn,List.length_cons,List.length_nil,Nat.reduceAdd,Nat.reduceLT,Qb,List.set,if_true,Qbf,Qjk,Qkc,ub1,List.length_map,Q08 hl,Qmj,e,Qpe,Qd5,Q7,Qan,Qae,Qaj,Qt,Option.map,Q1o]
 ·refine ⟨none,.inr ⟨rfl,fun j hj=>by simpa using no j hj⟩,?_⟩
  show Qbx (cfn (k+2)) ⟨1,3,Qd1⟩ _=_
  rw [Qbi rfl]
  show Qb4 _ (exS _ Qd1 [.fz (.str x),.un,.un])=_
  simp only [Q0,Qam,Qaz,Qg,Qk,Q1,Qa,Qy,yC1,Qbd,Ql,yC2,yBi,Qax,Qv,cont,Out.opt,Qoo hz,Qac,Qbh,Qal,frz,Qad,Qbn,List.length_cons,List.length_nil,Nat.reduceAdd,Nat.reduceLT,Qb,List.set,if_true,Qbf,Qjk,Qkc,ub1,List.length_map,Q08 hl,Qmj,e,Qge,Qah,Qf1,Qbv,Q7,Qan,Qae,Qaj,Qt,Option.map,Q1o]
open PySem L2
noncomputable def Qiu (r:PySem.Str):List Int:=(ws r).map Qnm
noncomputable def Qp1 (x:PySem.Str):Tb:=(rs x).map Qiu
theorem Qvx {x:PySem.Str} {i:Nat} (hi:i<(rs x).length):(rs x).getD i "" = (rs x)[i]:=(Q1n hi).1
theorem Qvy {w:PySem.Str} (h:Qe0 w=true):Qdj w=.int (Qnm w):=if_pos h
theorem Q5c {w:PySem.Str} (h:Qe0 w=false):Qdj w=.non:=if_neg (by rw [h];exact Bool.false_ne_true)
theorem Q1p {r:PySem.Str} (h:(ws r).all Qe0=true):(ws r).map Qdj=(Qiu r).map T.int:=by
 unfold Qiu
 rw [List.map_map]
 exact List.map_congr_left fun w hw=>Qvy (List.all_eq_true.mp h w hw)
theorem Qabg (l:List PySem.Str):inO .non (.lst (l.map Qdj))=some (!l.all Qe0):=by
 have h1:(l.map Qdj).all (Qo 49)=true:=by
  rw [List.all_eq_true]
  intro t ht
  obtain ⟨w,_,rfl⟩:=List.mem_map.mp ht
  unfold Qdj
  split <;> rfl
 have h2:(l.map Qdj).any (fun u=>eqT u .non) = !l.all Qe0:=by
  induction l with
  | nil=>rfl
  | cons w l ih =>
   rw [List.map_cons,List.any_cons,List.all_cons,ih (by
    rw [List.map_cons,List.all_cons,Bool.and_eq_true] at h1
    exact h1.2)]
   cases hw:Qe0 w with
   | true=>rw [Qvy hw];rfl
   | false=>rw [Q5c hw];rfl
 show (if Qo 49 .non=true∧(l.map Qdj).all (Qo 49)=true then some ((l.map Qdj).any fun u=>eqT u .non) else none)=_
 rw [if_pos ⟨rfl,h1⟩,h2]
noncomputable def nmX:T→T
 | .str w=>Qdj w
 | t=>t
theorem Qabh (l:List PySem.Str):(l.map T.str).map nmX=l.map Qdj:=by rw [List.map_map];rfl
noncomputable abbrev Qp2:E:=.comp (.seq (.bi .spl (.cons (.var 4) (.cons (.str " ") .nil)))) [none] (.nm 0) .nil (.call 20 (.cons (.var 0) .nil))
noncomputable abbrev Qp3:S:=.seq (.setF 5 Qp2)
 (.seq (.ite (.or (.cmp .gt (.var 3) (.int 3)) (.or (.cmp .ne (.bi .len (.cons (.var 5) .nil)) (.bi .len (.cons (.var 1) .nil))) (.cmp .inn .non (.var 5)))) (.ret (.bin .add (.var 3) (.int 1))) .nil)
 (.app 2 (.bi .tup (.cons (.var 5) .nil))))
theorem Q63 {x y:T}:opC .inn x y=inO x y:=rfl
theorem Qabi (k:Nat) {x r:PySem.Str} {i:Nat} {R found:List T} {s5:Slot} (o5:Q46 s5=true) (hr:r.length≤90000) (hR:R.length=(rs x).length) (hf:found.length<100000) :
  ((decide (3<i) || !Qh6 r (rs x).length)=true∧∃ s,exS (cfn (k+1)) Qp3 [.fz (.str x),.fz (.lst R),.ow (.lst found),.fz (.int i),.fz (.str r),s5]=.rt (.fz (.int ((i:Int)+1))) [.fz (.str x),.fz (.lst R),.ow (.lst found),.fz (.int i),.fz (.str r),s]) ∨
  ((decide (3<i) || !Qh6 r (rs x).length)=false∧∃ s,Q46 s=true∧exS (cfn (k+1)) Qp3 [.fz (.str x),.fz (.lst R),.ow (.lst found),.fz (.int i),.fz (.str r),s5]=.nx [.fz (.str x),.fz (.lst R),.ow (.lst (found++[Qba (Qiu r)])),.fz (.int i),.fz (.str r),s]):=by
 have wl:=Qm2 r
 have hcomp:∀ s,evE (cfn (k+1)) Qp2 [.fz (.str x),.fz (.lst R),.ow (.lst found),.fz (.int i),.fz (.str r),s]=.ok (.ow (.lst ((ws r).map Qdj))) [.fz (.str x),.fz (.lst R),.ow (.lst found),.fz (.int i),.fz (.str r),s]:=fun s=>by
  rw [←Qabh]
  exact Qbu (rest:=[]) (by simp only [Qmi,Qaz,Qg,Qk,Q1,Qb,Qa,Qy,yC1,Qbd,Ql,yC2,yBi,Qax,Qv,cont,Out.opt,Qsj hr,Qrf,Qky,Qkx,Qeb,Qg3]) rfl rfl rfl (fun t ht=>by
   obtain ⟨w,hw,rfl⟩:=List.mem_map.mp ht
   have e:=Qsh k (w:=w) (Nat.le_trans (Qsi hw) hr)
   exact ⟨.fz (Qdj w),by simp only [Q6,Qg,Qk,Q1,Qa,Qy,yC1,Ql,yC2,Qw,Qu,Q4,Qx,Qaf,Q3,e,Qa1,Qj,Qz,L2.Qi,Option.map,if_true],rfl⟩) (by rw [List.length_map];omega)
 have es:exS (cfn (k+1)) (.setF 5 Qp2) [.fz (.str x),.fz (.lst R),.ow (.lst found),.fz (.int i),.fz (.str r),s5]=.nx [.fz (.str x),.fz (.lst R),.ow (.lst found),.fz (.int i),.fz (.str r),.fz (.lst ((ws r).map Qdj))]:=by
  cases s5 <;> first | (cases o5;done) | simp only [Qam,hcomp,Qac,Qbh,Qal,frz,Qad,Qbn,List.length_cons,List.length_nil,Nat.reduceAdd,Nat.reduceLT,Qb,Qa,List.set,if_true]
 have hn:=Qabg (ws r)
 by_cases h3:3<i
 ·have d:decide ((3:Int)<(i:Int))=true:=decide_eq_true (by omega)
  refine .inl ⟨by rw [decide_eq_true h3,Bool.true_or],.fz (.lst ((ws r).map Qdj)),?_⟩
  rw [Q0,es,Qbf]
  simp only [Q0,Qav,Qdw,Qau,Qk,Q1,Qb,Qa,Qy,Qas,Qai,Qar,Qaq,cont,Qap,uc5,d,Qr,yBl,yOr,Qac,yIf,Qah,Qc6,Qct,Qcs,Qcr,Out.opt,uo1,Qbv,Qd5]
 ·have d:decide ((3:Int)<(i:Int))=false:=decide_eq_false (by omega)
  rw [decide_eq_false h3,Bool.false_or]
  by_cases hm:(ws r).length=(rs x).length
  ·have er:Qh6 r (rs x).length=(ws r).all Qe0:=by unfold Qh6;rw [decide_eq_true hm,Bool.true_and]
   have dm:decide ((((ws r).length:Nat):Int)=((rs x).length:Nat))=true:=decide_eq_true (by omega)
   cases ha:(ws r).all Qe0 with
   | false =>
    rw [ha] at hn
    refine .inl ⟨by rw [er,ha];rfl,.fz (.lst ((ws r).map Qdj)),?_⟩
    rw [Q0,es,Qbf]
    simp only [Q0,Qav,Qdw,Qau,Qk,Q1,Qb,Qa,Qy,Qas,Qai,Qar,Qaq,cont,Qap,uc5,d,Qr,yBl,yOr,Qaz,Qg,yC1,Ql,yC2,yBi,Qax,Qv,Out.opt,ub1,List.length_map,hR,uc2,Option.map,Qb8,dm,Bool.not_true,Qf1,Q63,hn,Bool.not_false,yB,Qac,yIf,Qah,Qc6,Qct,Qcs,Qcr,uo1,Qbv,Qd5]
   | true =>
    rw [ha] at hn
    refine .inr ⟨by rw [er,ha];rfl,.fz (.lst ((ws r).map Qdj)),rfl,?_⟩
    rw [Q0,es,Qbf]
    have hrow:=Q1p ha
    simp only [Q0,Qav,Qdw,Qau,Qk,Q1,Qb,Qa,Qy,Qas,Qai,Qar,Qaq,cont,Qap,uc5,d,Qr,yBl,yOr,Qaz,Qg,yC1,Ql,yC2,yBi,Qax,Qv,Out.opt,ub1,List.length_map,hR,uc2,Option.map,Qb8,dm,Bool.not_true,Qf1,Q63,hn,yB,Qac,yIf,Qch,Qbf,Qin,Slot.mut,ub9,Qpd,Qk1,frz,Qk0,hf,List.set,if_true]
    rw [hrow]
  ·have er:Qh6 r (rs x).length=false:=by unfold Qh6;rw [decide_eq_false hm,Bool.false_and]
   have dm:decide ((((ws r).length:Nat):Int)=((rs x).length:Nat))=false:=decide_eq_false (by omega)
   refine .inl ⟨by rw [er];rfl,.fz (.lst ((ws r).map Qdj)),?_⟩
   rw [Q0,es,Qbf]
   simp only [Q0,Qav,Qdw,Qau,Qk,Q1,Qb,Qa,Qy,Qas,Qai,Qar,Qaq,cont,Qap,uc5,d,Qr,yBl,yOr,Qaz,Qg,yC1,Ql,yC2,yBi,Qax,Qv,Out.opt,ub1,List.length_map,hR,uc2,Option.map,Qb8,dm,Bool.not_false,yB,Qac,yIf,Qah,Qc6,Qct,Qcs,Qcr,uo1,Qbv,Qd5]
theorem Qxs {α β:Type} (f:α→β) {l:List α} {i:Nat} (hi:i<l.length):(l.take (i+1)).map f=(l.take i).map f++[f l[i]]:=by
 rw [List.take_add_one,List.getElem?_eq_getElem hi,List.map_append]
 rfl
noncomputable def Qfh (x:PySem.Str):Option Nat→T
 | some i=>.int ((i:Int)+1)
 | none=>Qbg (Qp1 x)
theorem Qud (k:Nat) {x:PySem.Str} (hz:x.length≤90000):∃ o,First (bad x) (rs x).length o∧cfn (k+2) 21 [.fz (.str x)]=.ok (.fz (Qfh x o)) [.non]:=by
 have rl:=Qm3 x
 have hl:(rs x).length≤100000:=by omega
 have hL:=Qit (tg:=.tp [3,4]) (b:=exS (cfn (k+1)) Qp3) (f:=bad x) (r:=fun i=>.fz (.int ((i:Int)+1)))
  (J:=fun i ρ=>i≤4∧∃ s3 s4 s5,Qg4 s3=true∧Qg4 s4=true∧Q46 s5=true∧ρ=[.fz (.str x),.fz (.lst ((rs x).map T.str)),.ow (.lst (((rs x).take i).map fun r=>Qba (Qiu r))),s3,s4,s5]) (L:=fun i ρ=>∃ s2 s3 s4 s5,ρ=[.fz (.str x),.fz (.lst ((rs x).map T.str)),s2,s3,s4,s5])
  (xs:=Qk5 0 ((rs x).map T.str)) (n:=0) (ρ:=[.fz (.str x),.fz (.lst ((rs x).map T.str)),.ow (.lst []),.un,.un,.un]) ⟨by omega,.un,.un,.un,rfl,rfl,rfl,rfl⟩ (by
   rintro i t ρ hx ⟨h4,s3,s4,s5,o3,o4,o5,rfl⟩
   rw [Nat.zero_add] at h4 ⊢
   have hi:i<(rs x).length:=by have:=(List.getElem?_eq_some_iff.mp hx).1;rwa [Qeo,List.length_map] at this
   rw [Qjc _ _ _ (.str ((rs x)[i])) (by rw [List.getElem?_map,List.getElem?_eq_getElem hi];rfl),Nat.zero_add] at hx
   cases hx
   have hb:bad x i=(decide (3<i) || !Qh6 ((rs x)[i]) (rs x).length):=by unfold bad;rw [Qvx hi]
   have hft:(((rs x).take i).map fun r=>Qba (Qiu r)).length<100000:=by rw [List.length_map,List.length_take];omega
   refine ⟨[.fz (.str x),.fz (.lst ((rs x).map T.str)),.ow (.lst (((rs x).take i).map fun r=>Qba (Qiu r))),.fz (.int i),.fz (.str ((rs x)[i])),s5],?_⟩
   have hs:Qha (.tp [3,4]) (.tup [.int ((i:Nat):Int),.str ((rs x)[i])]) [.fz (.str x),.fz (.lst ((rs x).map T.str)),.ow (.lst (((rs x).take i).map fun r=>Qba (Qiu r))),s3,s4,s5]=some [.fz (.str x),.fz (.lst ((rs x).map T.str)),.ow (.lst (((rs x).take i).map fun r=>Qba (Qiu r))),.fz (.int i),.fz (.str ((rs x)[i])),s5]:=by
    cases s3 <;> first | (cases o3;done) | (cases s4 <;> first | (cases o4;done) | rfl)
   rcases Qabi k (i:=i) (x:=x) (r:=(rs x)[i]) (R:=(rs x).map T.str) (found:=((rs x).take i).map fun r=>Qba (Qiu r)) o5 (Nat.le_trans (Qht (List.getElem_mem hi)) hz) (by rw [List.length_map]) hft with ⟨f1,s,e⟩ | ⟨f0,s,os,e⟩
   ·exact ⟨_,hs,.inr ⟨by rw [hb,f1],e,_,_,_,_,rfl⟩⟩
   ·refine ⟨_,hs,.inl ⟨by rw [hb,f0],e,?_,.fz (.int i),.fz (.str ((rs x)[i])),s,rfl,rfl,os,by rw [Qxs _ hi]⟩⟩
    rw [Bool.or_eq_false_iff,decide_eq_false_iff_not] at f0
    omega)
 rw [Qeo,List.length_map] at hL
 have z0:(0:Nat)≤100000:=by decide
 rcases hL with ⟨i,hi,fi,lo,ρ',e,s2,s3,s4,s5,rfl⟩ | ⟨no,ρ',e,h4,s3,s4,s5,o3,o4,o5,rfl⟩
 ·refine ⟨some i,.inl ⟨i,hi,rfl,by simpa using fi,fun j hj=>by simpa using lo j hj⟩,?_⟩
  show Qbx (cfn (k+1)) ⟨1,6,Qey⟩ _=_
  rw [Qbi rfl]
  show Qb4 _ (exS _ Qey [.fz (.str x),.un,.un,.un,.un,.un])=_
  rw [Nat.zero_add] at e
  simp only [Q0,Qam,Qaz,Qg,Qk,Q1,Qa,Qy,yC1,Qbd,Ql,yC2,yBi,Qax,Qv,cont,Out.opt,Qoo hz,Qac,Qbh,Qal,frz,Qad,Qbn,List.length_cons,List.length_nil,Nat.reduceAdd,Nat.reduceLT,Qb,List.set,if_true,Qbf,Qkz,Qcm,Qep,Qcl,z0,Ql0,Qjk,Q02,Q4p,Qvk,Qg3,Qmj,e,Qpe,Qd5,Q7,Qan,Qae,Qaj,Qt,Option.map,Qfh]
 ·refine ⟨none,.inr ⟨rfl,fun j hj=>by simpa using no j hj⟩,?_⟩
  rw [Nat.zero_add,List.take_length] at e
  show Qbx (cfn (k+1)) ⟨1,6,Qey⟩ _=_
  rw [Qbi rfl]
  show Qb4 _ (exS _ Qey [.fz (.str x),.un,.un,.un,.un,.un])=_
  have et:T.tup ((rs x).map fun r=>Qba (Qiu r))=Qbg (Qp1 x):=by unfold Qp1;rw [Qbg,List.map_map];rfl
  simp only [Q0,Qam,Qaz,Qg,Qk,Q1,Qa,Qy,yC1,Qbd,Ql,yC2,yBi,Qax,Qv,cont,Out.opt,Qoo hz,Qac,Qbh,Qal,frz,Qad,Qbn,List.length_cons,List.length_nil,Nat.reduceAdd,Nat.reduceLT,Qb,List.set,if_true,Qbf,Qkz,Qcm,Qep,Qcl,z0,Ql0,Qjk,Q02,Q4p,Qvk,Qg3,Qmj,e,Qge,Qah,Slot.prv,ub9,Qbv,Q7,Qan,Qae,Qaj,Qt,Option.map,Qfh]
  rw [et]
open PySem L2
noncomputable def Qxt:T→Bool
 | .str _=>true
 | _=>false
theorem Qvz {cf:CF} {ρ:En} {e:E} {t:T} (h:evE cf e ρ=.ok (.fz t) ρ) (hn:nc t=true):evE cf (.isI e "str") ρ=.ok (.fz (.bl (Qxt t))) ρ:=by
 simp only [Qf2,h,Qy,Qjj,Qe9,cont,Qda]
 cases t <;> first | (cases hn;done) | rfl
theorem Qsm (k:Nat) (x:PySem.Str):cfn (k+1) 10 [.fz (.str x)]=.ok (.fz .non) [.non]:=by
 have e:=Qvz (cf:=cfn k) (ρ:=[.fz (.str x)]) (e:=.var 0) (t:=.str x) (by simp only [Qk,Q1,Qa]) rfl
 show Qbx (cfn k) ⟨1,1,Qd2⟩ _=_
 rw [Qbi rfl]
 show Qb4 _ (exS _ Qd2 [.fz (.str x)])=_
 simp only [Qca,Qav,e,Qxt,Qy,Qr,Qk,Qai,Qm9,Qf1,Qrd,Qcm,Qc6,Q00,Qca,Qjh,Qdw,Qji,Qau,Qf2,Q6,Qaz,Qk7,Qre,Ql,Qg,Qmi,Qkc,Qaaj,Q02,Qaer,yZip,Q6t,Qac,Qaak,Qbf,Qd5,Qch,Q0,Qim,Qkz,Qam,Q6u,Qah,Qaao,Qav,Qjk,Qaap,Q1,Qw9,Qep,Qct,Qcs,Qcr,Q4o,yBl,Qef,yB,Qna,yOr,Qnb,Qas,Qar,Qaq,Qap,Qjj,Qe9,yBi,Qax,Qkb,Qka,Qj9,Qj8,Qxd,Qxc,Qok,Qxb,Qoj,Qxa,yC1,yC2,Qrf,Qky,Qkx,Q6s,Q4p,Qvk,Q4,Q3,Qrg,Qbh,Qal,yUnp,Qbv,yIf,Qmj,Qaj,Qan,Qa,Qb,cont,frz,Qcl,Qv,Qx,Qaf,Qeb,Qg3,Qj2,Slot.prv,Out.opt,Qae,Qt,Option.map,Ql0,Qaaq,Q4r,Qci,Q4s,Qtp,Qri,Qgd,Qtq,Qrj,Qbo,Qrk,Qrl,Q05,Q7,Qge,Qpe,if_true,if_false,reduceIte,Bool.false_eq_true,Bool.not_true,Bool.not_false,decide_true,decide_false,eq_self,Qg9,Slot.mut,Qaah,Q04,Q03,Qvm,Qrh,Qvl,Qin,Qaan,Qpd,Qk1,Qk0,yExt,Q6v,Qw,Qu,Qa1,Qj,Qz,L2.Qi,Slot.put,Qbn,Qcx,List.set,List.length_cons,List.length_nil,List.all_cons,List.all_nil,Bool.and_true,Bool.true_and,Qad,at_0,at_1,Q06,Nat.reduceAdd,Nat.reduceLT,Nat.reduceEqDiff,Nat.reduceLeDiff,Nat.reduceSub,Nat.reduceBEq,Nat.reduceBNe,Int.reduceLT,Int.reduceLE,Int.reduceNeg,Int.reduceAdd,Int.reduceSub,Int.reducePow,Int.reduceMul,Int.reduceToNat,Int.reduceEq,and_self,and_true,true_and,reduceCtorEq,Qb8,Qaat,Qaau,Qaav,Q09,Qaaw,List.getElem?_cons_zero,List.getElem?_cons_succ,uo1,uo2,uo4,uo5,uo6,uo7,uo8,uo9,uc1,uc2,uc3,uc4,uc5,uc6,uc7,uc8,ui1,ui2,ui4,ub1,ub2,ub3,ub4,ub5,ub6,ub7,ub8,ub9,Qda]
theorem Qsn (k:Nat) {t:T} (hn:nc t=true) (hs:Qxt t=false):cfn (k+1) 10 [.fz t]=.xn ⟨8,[0]⟩ [.non]:=by
 have e:=Qvz (cf:=cfn k) (ρ:=[.fz t]) (e:=.var 0) (t:=t) (by simp only [Qk,Q1,Qa]) hn
 rw [hs] at e
 show Qbx (cfn k) ⟨1,1,Qd2⟩ _=_
 rw [Qbi rfl]
 show Qb4 _ (exS _ Qd2 [.fz t])=_
 have et:Qat (evE (cfn k) (.not (.isI (.var 0) "str")) [.fz t])=.ok true [.fz t]:=by
  rw [Qca,e];rfl
 rw [Qav,et]
 simp only [Qac,yIf,Qpg,Qg,Qai,Qy,yC1,Ql,yC2,r8,Qmk,Qt,Option.map,Qhk]
noncomputable def inX:T→T
 | .str w=>.int (Qnm w)
 | t=>t
noncomputable def rowX:T→T
 | .str r=>Qba (Qiu r)
 | t=>t
theorem Qabj (l:List PySem.Str):(l.map T.str).map inX=(l.map Qnm).map T.int:=by rw [List.map_map,List.map_map];rfl
theorem Q1q (l:List PySem.Str):(l.map T.str).map rowX=(l.map Qiu).map Qba:=by rw [List.map_map,List.map_map];rfl
theorem Q1r {x:PySem.Str} (h:∀ j,j<(rs x).length→bad x j=false) {r:PySem.Str} (hr:r∈rs x):(ws r).all Qe0=true:=by
 obtain ⟨j,hj,rfl⟩:=List.mem_iff_getElem.mp hr
 have:=h j hj
 unfold bad at this
 rw [Qvx hj,Bool.or_eq_false_iff,Bool.not_eq_false'] at this
 have q:=this.2
 unfold Qh6 at q
 rw [Bool.and_eq_true] at q
 exact q.2
theorem Qp4 (k:Nat) {x:PySem.Str} (hz:x.length≤90000):∃ o,First (bad x) (rs x).length o∧cfn (k+4) 11 [.fz (.str x)]=(match o with
  | some i=>.xn ⟨8,[(i:Int)+1]⟩ [.non]
  | none=>.ok (.fz (Qbg (Qp1 x))) [.non]):=by
 obtain ⟨o,ho,ew⟩:=Qsl k hz
 have en:=Qsm (k+2) x
 have rl:=Qm3 x
 refine ⟨o,ho,?_⟩
 show Qbx (cfn (k+3)) ⟨1,2,Qdi⟩ _=_
 rw [Qbi rfl]
 show Qb4 _ (exS _ Qdi [.fz (.str x),.un])=_
 cases o with
 | some i =>
  show _=FR.xn ⟨8,[(i:Int)+1]⟩ [.non]
  simp only [Q0,Qim,Q6,Qg,Qk,Q1,Qa,Qy,yC1,Ql,yC2,Qw,Qu,Q4,Qx,Qaf,Q3,en,Qa1,Qj,Qz,L2.Qi,Option.map,if_true,Qac,Qrg,Qbf,Qam,ew,Q1o,Qbh,Qal,frz,Qad,Qbn,List.length_cons,List.length_nil,Nat.reduceAdd,Nat.reduceLT,Qb,List.set,Qav,Qau,Qas,Qf1,Qar,Qaq,cont,Qap,uc8,Qg9,Bool.not_false,Qr,yBl,yIf,Qpg,r8,q_xn,Qmk,Qt,Qhk]
 | none =>
  have good:∀ j,j<(rs x).length→bad x j=false:=by
   rcases ho with ⟨i,_,e,_⟩ | ⟨_,q⟩
   ·cases e
   ·exact q
  have hcomp:∀ s,evE (cfn (k+3)) (.comp (.seq (.bi .spl (.cons (.var 0) (.cons (.str "/") .nil)))) [none] (.nm 0) .nil (.bi .tup (.cons (.comp (.seq (.bi .spl (.cons (.var 0) (.cons (.str " ") .nil)))) [none] (.nm 0) .nil (.bi .intS (.cons (.var 0) .nil))) .nil))) [.fz (.str x),s]=.ok (.ow (.lst (((rs x).map T.str).map rowX))) [.fz (.str x),s]:=fun s =>
   Qbu (rest:=[]) (by simp only [Qmi,Qaz,Qg,Qk,Q1,Qa,Qy,yC1,Qbd,Ql,yC2,yBi,Qax,Qv,cont,Out.opt,Qoo hz,Qrf,Qky,Qkx,Qeb,Qg3]) rfl rfl rfl (fun t ht=>by
    obtain ⟨r,hr,rfl⟩:=List.mem_map.mp ht
    have hrz:=Nat.le_trans (Qht hr) hz
    have wl:=Qm2 r
    have ha:=Q1r good hr
    have hin:evE (cfn (k+3)) (.comp (.seq (.bi .spl (.cons (.var 0) (.cons (.str " ") .nil)))) [none] (.nm 0) .nil (.bi .intS (.cons (.var 0) .nil))) [.fz (.str r)]=.ok (.ow (.lst (((ws r).map T.str).map inX))) [.fz (.str r)] :=
     Qbu (rest:=[]) (by simp only [Qmi,Qaz,Qg,Qk,Q1,Qa,Qy,yC1,Qbd,Ql,yC2,yBi,Qax,Qv,cont,Out.opt,Qsj hrz,Qrf,Qky,Qkx,Qeb,Qg3]) rfl rfl rfl (fun t ht=>by
      obtain ⟨w,hw,rfl⟩:=List.mem_map.mp ht
      obtain ⟨e1,e2⟩:=Qaa9 (List.all_eq_true.mp ha w hw)
      exact ⟨.fz (.int (Qnm w)),by simp only [Qaz,Qg,Qk,Q1,Qa,Qy,yC1,Ql,yC2,yBi,Qax,Qv,cont,Out.opt,us2 e1 e2],rfl⟩) (by rw [List.length_map];omega)
    rw [Qabj] at hin
    refine ⟨.fz (Qba (Qiu r)),?_,rfl⟩
    simp only [Qaz,Qg,hin,Qy,yC1,Ql,yC2,yBi,Qax,Qv,cont,Out.opt,ub9]
    rfl) (by rw [List.length_map];omega)
  rw [Q1q] at hcomp
  show _=FR.ok (.fz (Qbg (Qp1 x))) [.non]
  simp only [Q0,Qim,Q6,Qg,Qk,Q1,Qa,Qy,yC1,Ql,yC2,Qw,Qu,Q4,Qx,Qaf,Q3,en,Qa1,Qj,Qz,L2.Qi,Option.map,if_true,Qac,Qrg,Qbf,Qam,ew,Q1o,Qbh,Qal,frz,Qad,Qbn,List.length_cons,List.length_nil,Nat.reduceAdd,Nat.reduceLT,Qb,List.set,Qav,Qau,Qas,Qf1,Qar,Qaq,cont,Qap,uc8,Qg9,Bool.not_true,Qr,yBl,yIf,Qch,Qah,Qaz,hcomp,yBi,Qax,Qv,Out.opt,ub9,Qbv,Q7,Qan,Qae,Qaj,Qt]
  rfl
theorem t8 (i:Int) (ρ:En):Q4v Qrx (.xn ⟨8,[i]⟩ ρ)=.rt (.fz (.int i)) ρ:=rfl
theorem Qabk (k:Nat) {x:PySem.Str} (hz:x.length≤90000):∃ o,First (bad x) (rs x).length o∧cfn (k+5) 22 [.fz (.str x)]=.ok (.fz (Qfh x o)) [.non]:=by
 obtain ⟨o,ho,e⟩:=Qp4 k hz
 refine ⟨o,ho,?_⟩
 show Qbx (cfn (k+4)) ⟨1,2,Qez⟩ _=_
 rw [Qbi rfl]
 show Qb4 _ (exS _ Qez [.fz (.str x),.un])=_
 rw [Q0,Qtt]
 cases o with
 | some i =>
  replace e:cfn (k+4) 11 [.fz (.str x)]=.xn ⟨8,[(i:Int)+1]⟩ [.non]:=e
  simp only [Qah,Q6,Qg,Qk,Q1,Qa,Qy,yC1,Ql,yC2,Qw,Qu,Q4,Qx,Qaf,Q3,e,Qa1,Qj,Qz,L2.Qi,Option.map,if_true,Q1a,t8,Qd5,Q7,Qan,Qae,Qaj,Qt,Qfh]
 | none =>
  replace e:cfn (k+4) 11 [.fz (.str x)]=.ok (.fz (Qbg (Qp1 x))) [.non]:=e
  simp only [Qah,Q6,Qg,Qk,Q1,Qa,Qy,yC1,Ql,yC2,Qw,Qu,Q4,Qx,Qaf,Q3,e,Qa1,Qj,Qz,L2.Qi,Option.map,if_true,Qac,Qbv,Qaaz,Qd5,Q7,Qan,Qae,Qaj,Qt,Qfh]
theorem Qabl (k:Nat) {t:T} (hn:nc t=true) (hs:Qxt t=false):cfn (k+5) 22 [.fz t]=.ok (.fz (.int 0)) [.non]:=by
 have en:=Qsn (k+2) hn hs
 have e:cfn (k+4) 11 [.fz t]=.xn ⟨8,[0]⟩ [.non]:=by
  show Qbx (cfn (k+3)) ⟨1,2,Qdi⟩ _=_
  rw [Qbi rfl]
  show Qb4 _ (exS _ Qdi [.fz t,.un])=_
  simp only [Q0,Qim,Q6,Qg,Qk,Q1,Qa,Qy,yC1,Ql,yC2,Qw,Qu,Q4,Qx,Qaf,Q3,en,Qa1,Qj,Qz,L2.Qi,Option.map,if_true,Q1a,q_xn,Qmk,Qt,Qhk]
 show Qbx (cfn (k+4)) ⟨1,2,Qez⟩ _=_
 rw [Qbi rfl]
 show Qb4 _ (exS _ Qez [.fz t,.un])=_
 rw [Q0,Qtt]
 simp only [Qah,Q6,Qg,Qk,Q1,Qa,Qy,yC1,Ql,yC2,Qw,Qu,Q4,Qx,Qaf,Q3,e,Qa1,Qj,Qz,L2.Qi,Option.map,if_true,Q1a,t8,Qd5,Q7,Qan,Qae,Qaj,Qt]
theorem Q5d (r:List Int):Qo 49 (Qba r)=true:=by
 show (r.map T.int).all (Qo 48)=true
 rw [List.all_eq_true]
 intro t ht
 obtain ⟨i,_,rfl⟩:=List.mem_map.mp ht
 rfl
theorem Q1s:∀ r:List Int,eqL (r.map T.int) (r.map T.int)=true
 | []=>Qi5
 | i::r=>by
  rw [List.map_cons,Qfv,Q1s r]
  show (i==i&&true)=true
  rw [beq_self_eq_true];rfl
theorem Qso:∀ M:Tb,eqL (M.map Qba) (M.map Qba)=true
 | []=>Qi5
 | r::M=>by
  rw [List.map_cons,Qfv,Qso M,Bool.and_true]
  show eqL (r.map T.int) (r.map T.int)=true
  exact Q1s r
theorem Q5e (M:Tb):eqO (Qbg M) (Qbg M)=some true:=by
 have h:Qo 50 (Qbg M)=true:=by
  show (M.map Qba).all (Qo 49)=true
  rw [List.all_eq_true]
  intro t ht
  obtain ⟨r,_,rfl⟩:=List.mem_map.mp ht
  exact Q5d r
 show (if Qo 50 (Qbg M)=true∧Qo 50 (Qbg M)=true then some (eqT (Qbg M) (Qbg M)) else none)=_
 rw [if_pos ⟨h,h⟩]
 show some (eqL (M.map Qba) (M.map Qba))=_
 rw [Qso]
theorem Que (k:Nat) {M:Tb} (hM:M.length≤90002) (hr:∀ r∈M,r.length≤90002):cfn (k+2) 18 [.fz (Qbg M),.fz (Qbg M)]=.ok (.fz (.bl true)) [.non,.non]:=by
 have h1:evE (cfn (k+1)) (.comp (.seq (.var 0)) [none] (.nm 0) .nil (.isI (.var 0) "tuple")) [.fz (Qbg M),.fz (Qbg M)]=.ok (.ow (.lst ((M.map Qba).map fun _=>T.bl true))) [.fz (Qbg M),.fz (Qbg M)] :=
  Qbu (rest:=[]) rfl rfl rfl rfl (fun t ht=>by
   obtain ⟨r,_,rfl⟩:=List.mem_map.mp ht
   exact ⟨.fz (.bl true),by simp only [Qf2,Qk,Q1,Qa,Qy,Qjj,Qe9,cont,Qci,Qda,Bool.not_false,Bool.and_true,Qbo,if_true],rfl⟩) (by rw [List.length_map];omega)
 have h2:evE (cfn (k+1)) (.comp (.seq (.var 0)) [none] (.nm 0) .nil (.bi .all (.cons (.comp (.seq (.var 0)) [none] (.nm 0) .nil (.call 14 (.cons (.var 0) .nil))) .nil))) [.fz (Qbg M),.fz (Qbg M)]=.ok (.ow (.lst ((M.map Qba).map fun _=>T.bl true))) [.fz (Qbg M),.fz (Qbg M)] :=
  Qbu (rest:=[]) rfl rfl rfl rfl (fun t ht=>by
   obtain ⟨r,hrm,rfl⟩:=List.mem_map.mp ht
   have h3:evE (cfn (k+1)) (.comp (.seq (.var 0)) [none] (.nm 0) .nil (.call 14 (.cons (.var 0) .nil))) [.fz (Qba r)]=.ok (.ow (.lst ((r.map T.int).map fun _=>T.bl true))) [.fz (Qba r)] :=
    Qbu (rest:=[]) rfl rfl rfl rfl (fun t ht=>by
     obtain ⟨i,_,rfl⟩:=List.mem_map.mp ht
     have e:=Qhs k (.int i)
     exact ⟨.fz (.bl true),by simp only [Q6,Qg,Qk,Q1,Qa,Qy,yC1,Ql,yC2,Qw,Qu,Q4,Qx,Qaf,Q3,e,whole,Qa1,Qj,Qz,L2.Qi,Option.map,if_true],rfl⟩) (by rw [List.length_map];have:=hr r hrm;omega)
   refine ⟨.fz (.bl true),?_,rfl⟩
   simp only [Qaz,Qg,h3,Qy,yC1,Ql,yC2,yBi,Qax,Qv,cont,Out.opt,ub3,Option.map,Qpf,Qtr]) (by rw [List.length_map];omega)
 show Qbx (cfn (k+1)) ⟨2,2,Qew⟩ _=_
 rw [Qbi rfl]
 show Qb4 _ (exS _ Qew [.fz (Qbg M),.fz (Qbg M)])=_
 have hq:=Q5e M
 simp only [Q0,Qav,Qdw,Qca,Qf2,Qk,Q1,Qa,Qy,Qjj,Qe9,cont,Qci,Qda,Bool.not_false,Bool.and_true,Qbo,if_true,Qr,yBl,Qef,Bool.not_true,yOr,Qau,Qas,Qb,Qar,Qaq,Qap,uc2,Option.map,hq,Qaz,Qg,h1,yC1,Ql,yC2,yBi,Qax,Qv,Out.opt,ub3,Qpf,Qtr,yB,Qac,yIf,Qch,Qbf,Qah,h2,Qbv,Q7,Qan,Qae,Qaj,Qt]
noncomputable abbrev Q64:S:=.setF 1 (.call 22 (.cons (.var 0) .nil))
noncomputable abbrev Q65:S:=.setF 2 (.ite (.isI (.var 0) "str") (.call 21 (.cons (.var 0) .nil)) (.int 0))
theorem Q5f (k:Nat) {x:PySem.Str} (hz:x.length≤90000):cfn (k+6) 23 [.fz (.str x)]=.ok (.fz (.bl true)) [.non]:=by
 obtain ⟨o,ho,e1⟩:=Qabk k hz
 obtain ⟨o',ho',e2⟩:=Qud (k+3) hz
 cases ho.uniq ho'
 have rl:=Qm3 x
 have es1:exS (cfn (k+5)) Q64 [.fz (.str x),.un,.un]=.nx [.fz (.str x),.fz (Qfh x o),.un]:=by simp only [Qam,Q6,Qg,Qk,Q1,Qa,Qy,yC1,Ql,yC2,Qw,Qu,Q4,Qx,Qaf,Q3,e1,Qa1,Qj,Qz,L2.Qi,Option.map,if_true,Qac,Qbh,Qal,frz,Qad,Qbn,List.length_cons,List.length_nil,Nat.reduceAdd,Nat.reduceLT,Qb,List.set]
 have es2:exS (cfn (k+5)) Q65 [.fz (.str x),.fz (Qfh x o),.un]=.nx [.fz (.str x),.fz (Qfh x o),.fz (Qfh x o)]:=by
  have ei:Qat (evE (cfn (k+5)) (.isI (.var 0) "str") [.fz (.str x),.fz (Qfh x o),.un])=.ok true [.fz (.str x),.fz (Qfh x o),.un]:=by
   rw [Qvz (t:=.str x) (by simp only [Qk,Q1,Qa]) rfl];rfl
  rw [Qam,Qji,ei]
  simp only [Qy,Qnb,Q6,Qg,Qk,Q1,Qa,yC1,Ql,yC2,Qw,Qu,Q4,Qx,Qaf,Q3,e2,Qa1,Qj,Qz,L2.Qi,Option.map,if_true,Qac,Qbh,Qal,frz,Qad,Qbn,List.length_cons,List.length_nil,Nat.reduceAdd,Nat.reduceLT,Qb,List.set]
 show Qbx (cfn (k+5)) ⟨1,3,Qd3⟩ _=_
 rw [Qbi rfl]
 show Qb4 _ (exS _ Qd3 [.fz (.str x),.un,.un])=_
 rw [Q0,es1,Qbf,Q0,es2,Qbf]
 cases o with
 | some i =>
  have ew:=Qhs (k+4) (.int ((i:Int)+1))
  simp only [Qfh,Q0,Qav,Qf2,Qk,Q1,Qb,Qa,Qy,Qjj,Qe9,cont,Qci,Qda,Bool.not_false,Bool.and_true,Qgd,if_true,Qr,yBl,Qac,yIf,Qch,Qbf,Qah,Qjh,Q6,Qg,yC1,Ql,yC2,Qw,Qu,Q4,Qx,Qaf,Q3,ew,whole,Qa1,Qj,Qz,L2.Qi,Option.map,Qna,Qau,Qas,Qar,Qaq,Qap,uc1,Qb8,decide_true,yB,Qbv,Q7,Qan,Qae,Qaj,Qt]
 | none =>
  have et:=Que (k+3) (M:=Qp1 x) (by unfold Qp1;rw [List.length_map];omega) (fun r hr=>by
   unfold Qp1 at hr
   obtain ⟨y,hy,rfl⟩:=List.mem_map.mp hr
   unfold Qiu
   rw [List.length_map]
   have:=Qm2 y
   have:=Qht hy
   omega)
  simp only [Qfh,Q0,Qav,Qf2,Qk,Q1,Qb,Qa,Qy,Qjj,Qe9,cont,Qci,Qda,Bool.not_false,Bool.and_true,Qbo,if_true,Qr,yBl,Qac,yIf,Qah,Q6,Qg,yC1,Ql,yC2,Qw,Qu,Q4,Qx,Qaf,Q3,et,Qa1,Qj,Qz,L2.Qi,Option.map,Qbv,Qd5,Q7,Qan,Qae,Qaj,Qt]
theorem Q5g (k:Nat) {t:T} (hn:nc t=true) (hs:Qxt t=false):cfn (k+6) 23 [.fz t]=.ok (.fz (.bl true)) [.non]:=by
 have e1:=Qabl k hn hs
 have es1:exS (cfn (k+5)) Q64 [.fz t,.un,.un]=.nx [.fz t,.fz (.int 0),.un]:=by simp only [Qam,Q6,Qg,Qk,Q1,Qa,Qy,yC1,Ql,yC2,Qw,Qu,Q4,Qx,Qaf,Q3,e1,Qa1,Qj,Qz,L2.Qi,Option.map,if_true,Qac,Qbh,Qal,frz,Qad,Qbn,List.length_cons,List.length_nil,Nat.reduceAdd,Nat.reduceLT,Qb,List.set]
 have es2:exS (cfn (k+5)) Q65 [.fz t,.fz (.int 0),.un]=.nx [.fz t,.fz (.int 0),.fz (.int 0)]:=by
  have ei:Qat (evE (cfn (k+5)) (.isI (.var 0) "str") [.fz t,.fz (.int 0),.un])=.ok false [.fz t,.fz (.int 0),.un]:=by
   rw [Qvz (t:=t) (by simp only [Qk,Q1,Qa]) hn,hs];rfl
  rw [Qam,Qji,ei]
  simp only [Qy,Qnb,Qai,Qac,Qbh,Qal,frz,Qad,Qbn,List.length_cons,List.length_nil,Nat.reduceAdd,Nat.reduceLT,Qb,Qa,List.set,if_true]
 have ew:=Qhs (k+4) (.int 0)
 show Qbx (cfn (k+5)) ⟨1,3,Qd3⟩ _=_
 rw [Qbi rfl]
 show Qb4 _ (exS _ Qd3 [.fz t,.un,.un])=_
 rw [Q0,es1,Qbf,Q0,es2,Qbf]
 simp only [Q0,Qav,Qf2,Qk,Q1,Qb,Qa,Qy,Qjj,Qe9,cont,Qci,Qda,Bool.not_false,Bool.and_true,Qgd,if_true,Qr,yBl,Qac,yIf,Qch,Qbf,Qah,Qjh,Q6,Qg,yC1,Ql,yC2,Qw,Qu,Q4,Qx,Qaf,Q3,ew,whole,Qa1,Qj,Qz,L2.Qi,Option.map,Qna,Qau,Qas,Qar,Qaq,Qap,uc1,Qb8,decide_true,yB,Qbv,Q7,Qan,Qae,Qaj,Qt]
open PySem L2
noncomputable def StrL (ts:List T) (B:Nat):Prop:=∃ ss:List PySem.Str,ts=ss.map T.str∧wt ss≤B
theorem StrL.cut {ts:List T} {B:Nat} (h:StrL ts B) (lo hi:Option Int):StrL (Qbb ts lo hi) B:=by
 obtain ⟨ss,rfl,hw⟩:=h
 unfold Qbb
 rw [←List.map_drop,←List.map_take]
 exact ⟨_,rfl,Nat.le_trans (Qaa7 _ _) hw⟩
theorem StrL.app {ts us:List T} {A B:Nat} (h:StrL ts A) (h2:StrL us B):StrL (ts++us) (A+B):=by
 obtain ⟨ss,rfl,hw⟩:=h
 obtain ⟨rr,rfl,hv⟩:=h2
 exact ⟨ss++rr,by rw [List.map_append],by rw [Qt7];omega⟩
theorem StrL.one {x:PySem.Str} {B:Nat} (h:x.length+1≤B):StrL [.str x] B:=⟨[x],rfl,by show x.length+1+0≤B;omega⟩
theorem StrL.mono {ts:List T} {A B:Nat} (h:StrL ts A) (z:A≤B):StrL ts B:=by
 obtain ⟨ss,e,hw⟩:=h
 exact ⟨ss,e,Nat.le_trans hw z⟩
theorem StrL.len {ts:List T} {B:Nat} (h:StrL ts B):ts.length≤B:=by
 obtain ⟨ss,rfl,hw⟩:=h
 rw [List.length_map]
 exact Nat.le_trans Qaa8 hw
theorem StrL.join {ts:List T} {B:Nat} (h:StrL ts B) {sep:PySem.Str} (h1:sep.length=1) (hB:B≤16777216):∃ y,Qb6 .joi [.str sep,.lst ts]=some (.fz (.str y))∧y.length≤B:=by
 obtain ⟨ss,rfl,hw⟩:=h
 exact ⟨_,us5 (Qaew h1 (by omega)),Nat.le_trans (Q41 h1 ss) hw⟩
noncomputable def Qv0:T→Bool
 | .str w=>decide (w.length≤13)
 | _=>false
theorem Q1t {t:T} (h:Qv0 t=true):∃ w,t=.str w∧w.length≤13:=by
 cases t <;> first | (cases h;done) | exact ⟨_,rfl,of_decide_eq_true h⟩
noncomputable abbrev sp_L:E:=.lst (.cons (.str "") (.cons (.str "00") (.cons (.str "-0") (.cons (.str "01") (.cons (.str "-") (.cons (.str "--1") (.cons (.str "+1") (.cons (.str "a") (.cons (.bi .repS (.cons (.str "1") (.cons (.int 13) .nil))) (.cons (.bi .repS (.cons (.str "9") (.cons (.int 12) .nil))) (.cons (.bi .catS (.cons (.str "-") (.cons (.bi .repS (.cons (.str "9") (.cons (.int 12) .nil))) .nil))) (.cons (.str "1.0") (.cons (.str "- 1") (.cons (.str "0") (.cons (.str "-7") .nil)))))))))))))))
noncomputable abbrev s13:PySem.Str:=⟨(List.replicate 13 49).toArray⟩
noncomputable abbrev s12:PySem.Str:=⟨(List.replicate 12 57).toArray⟩
noncomputable abbrev Qnp:List T:=[.str "",.str "00",.str "-0",.str "01",.str "-",.str "--1",.str "+1",.str "a",.str s13,.str s12,.str ("-" ++ s12),.str "1.0",.str "- 1",.str "0",.str "-7"]
theorem Qae7:Qb6 .repS [.str "1",.int 13]=some (.fz (.str s13)):=by
 show (if (1:Int)≤13∧(13:Int)≤1000∧("1" : PySem.Str).length=1 then some (PV.fz (.str ⟨(List.replicate (13:Int).toNat (("1" : PySem.Str).cps.getD 0 0)).toArray⟩)) else none)=_
 rw [if_pos (by decide)]
 rfl
theorem Qae8:Qb6 .repS [.str "9",.int 12]=some (.fz (.str s12)):=by
 show (if (1:Int)≤12∧(12:Int)≤1000∧("9" : PySem.Str).length=1 then some (PV.fz (.str ⟨(List.replicate (12:Int).toNat (("9" : PySem.Str).cps.getD 0 0)).toArray⟩)) else none)=_
 rw [if_pos (by decide)]
 rfl
theorem Qabm {cf:CF} {ρ:En}:evE cf sp_L ρ=.ok (.ow (.lst Qnp)) ρ:=by
 have z15:(15:Nat)≤100000:=by decide
 simp only [Qcm,Qg,Qbd,Qy,yC1,Qaz,Qai,Ql,yC2,yBi,Qax,Qv,cont,Out.opt,Qae7,Qae8,usc (x := "-") (y:=s12) (by decide),Qep,Qcl,frz,List.length_cons,List.length_nil,Nat.reduceAdd,z15,if_true]
theorem Qxu:Qnp.all Qv0=true:=by decide +kernel
section
variable {cf:CF} {q:T} {x:PySem.Str} {R W:List T} {a b:Int} {w:PySem.Str} {s6 s9 s10:Slot}
noncomputable abbrev Qv1:S:=.setF 8 (.lst (.cons (.bin .add (.slc (.var 2) .nil (.cons (.var 3) .nil)) (.slc (.var 2) (.cons (.bin .add (.var 3) (.int 1)) .nil) .nil)) (.cons (.bin .add (.slc (.var 2) .nil (.cons (.bin .add (.var 3) (.int 1)) .nil)) (.slc (.var 2) (.cons (.var 3) .nil) .nil)) (.cons (.bin .add (.var 2) (.lst (.cons (.str "0") .nil))) (.cons (.bin .add (.bin .add (.slc (.var 2) .nil (.cons (.var 3) .nil)) (.lst (.cons (.str "") .nil))) (.slc (.var 2) (.cons (.bin .add (.var 3) (.int 1)) .nil) .nil)) .nil)))))
noncomputable abbrev Qsp:S:=.set 9 (.lst (.cons (.bin .add (.slc (.var 4) .nil (.cons (.var 5) .nil)) (.slc (.var 4) (.cons (.bin .add (.var 5) (.int 1)) .nil) .nil)) (.cons (.bin .add (.slc (.var 4) .nil (.cons (.bin .add (.var 5) (.int 1)) .nil)) (.slc (.var 4) (.cons (.var 5) .nil) .nil)) (.cons (.bin .add (.bin .add (.slc (.var 4) .nil (.cons (.var 5) .nil)) (.lst (.cons (.var 7) .nil))) (.slc (.var 4) (.cons (.bin .add (.var 5) (.int 1)) .nil) .nil)) .nil))))
noncomputable abbrev Qv2:S:=.app 9 (.bin .add (.bin .add (.slc (.var 4) .nil (.cons (.var 5) .nil)) (.lst (.cons (.var 7) .nil))) (.slc (.var 4) (.cons (.var 5) .nil) .nil))
theorem Qae9 {B:Nat} (hR:StrL R B) (hB:B≤1000):∃ O:List T,O.length=4∧(∀ o∈O,∃ ts,o=.lst ts∧StrL ts (2*B+2))∧exS cf Qv1 [.ml q,.fz (.str x),.fz (.lst R),.fz (.int a),.fz (.lst W),.fz (.int b),s6,.fz (.str w),.un,.un,.un]=.nx [.ml q,.fz (.str x),.fz (.lst R),.fz (.int a),.fz (.lst W),.fz (.int b),s6,.fz (.str w),.fz (.lst O),.un,.un]:=by
 have lR:=hR.len
 have c1:=Qb3 R none (some a)
 have c2:=Qb3 R (some (a+1)) none
 have c3:=Qb3 R none (some (a+1))
 have c4:=Qb3 R (some a) none
 have k1:opB .add (.lst (Qbb R none (some a))) (.lst (Qbb R (some (a+1)) none))=_:=Qfg (by omega)
 have k2:opB .add (.lst (Qbb R none (some (a+1)))) (.lst (Qbb R (some a) none))=_:=Qfg (by omega)
 have k3:opB .add (.lst R) (.lst [.str "0"])=_:=Qfg (by rw [List.length_singleton];omega)
 have k4:opB .add (.lst (Qbb R none (some a))) (.lst [.str ""])=_:=Qfg (by rw [List.length_singleton];omega)
 have k5:opB .add (.lst (Qbb R none (some a)++[.str ""])) (.lst (Qbb R (some (a+1)) none))=_:=Qfg (by rw [List.length_append,List.length_singleton];omega)
 have z1:(1:Nat)≤100000:=by decide
 have z4:(4:Nat)≤100000:=by decide
 refine ⟨[.lst (Qbb R none (some a)++Qbb R (some (a+1)) none),.lst (Qbb R none (some (a+1))++Qbb R (some a) none),.lst (R++[.str "0"]),.lst (Qbb R none (some a)++[.str ""]++Qbb R (some (a+1)) none)],rfl,fun o ho=>?_,?_⟩
 ·rcases List.mem_cons.mp ho with rfl | ho
  ·exact ⟨_,rfl,((hR.cut _ _).app (hR.cut _ _)).mono (by omega)⟩
  rcases List.mem_cons.mp ho with rfl | ho
  ·exact ⟨_,rfl,((hR.cut _ _).app (hR.cut _ _)).mono (by omega)⟩
  rcases List.mem_cons.mp ho with rfl | ho
  ·exact ⟨_,rfl,(hR.app (StrL.one (B:=2) (by decide))).mono (by omega)⟩
  rcases List.mem_cons.mp ho with rfl | ho
  ·exact ⟨_,rfl,(((hR.cut _ _).app (StrL.one (B:=1) (by decide))).app (hR.cut _ _)).mono (by omega)⟩
  ·cases ho
 ·simp only [Qam,Qcm,Qg,Qc6,Qre,Qk,Q1,Qb,Qa,Qy,Qxd,Ql,Qxc,Qok,Qj2,yC1,yC2,Qxb,Qoj,Qxa,cont,Out.opt,ui3,Qct,Qai,Qcs,Qcr,uo1,k1,k2,Qbd,Qep,Qcl,frz,List.length_cons,List.length_nil,Nat.reduceAdd,z1,if_true,k3,k4,k5,z4,Qac,Qbh,Qal,Qad,Qbn,Nat.reduceLT,List.set]
theorem Qafa {B:Nat} {s8:Slot} (hW:StrL W B) (hB:B≤1000) (hw:w.length≤13):∃ O:List T,O.length=4∧(∀ o∈O,∃ ts,o=.lst ts∧StrL ts (2*B+14))∧∀ k:S,exS cf (.seq Qsp (.seq Qv2 k)) [.ml q,.fz (.str x),.fz (.lst R),.fz (.int a),.fz (.lst W),.fz (.int b),s6,.fz (.str w),s8,.un,.un]=exS cf k [.ml q,.fz (.str x),.fz (.lst R),.fz (.int a),.fz (.lst W),.fz (.int b),s6,.fz (.str w),s8,.ow (.lst O),.un]:=by
 have lW:=hW.len
 have c1:=Qb3 W none (some b)
 have c2:=Qb3 W (some (b+1)) none
 have c3:=Qb3 W none (some (b+1))
 have c4:=Qb3 W (some b) none
 have k1:opB .add (.lst (Qbb W none (some b))) (.lst (Qbb W (some (b+1)) none))=_:=Qfg (by omega)
 have k2:opB .add (.lst (Qbb W none (some (b+1)))) (.lst (Qbb W (some b) none))=_:=Qfg (by omega)
 have k4:opB .add (.lst (Qbb W none (some b))) (.lst [.str w])=_:=Qfg (by rw [List.length_singleton];omega)
 have k5:opB .add (.lst (Qbb W none (some b)++[.str w])) (.lst (Qbb W (some (b+1)) none))=_:=Qfg (by rw [List.length_append,List.length_singleton];omega)
 have k6:opB .add (.lst (Qbb W none (some b)++[.str w])) (.lst (Qbb W (some b) none))=_:=Qfg (by rw [List.length_append,List.length_singleton];omega)
 have z1:(1:Nat)≤100000:=by decide
 have z3:(3:Nat)≤100000:=by decide
 have z3':(3:Nat)<100000:=by decide
 refine ⟨[.lst (Qbb W none (some b)++Qbb W (some (b+1)) none),.lst (Qbb W none (some (b+1))++Qbb W (some b) none),.lst (Qbb W none (some b)++[.str w]++Qbb W (some (b+1)) none),.lst (Qbb W none (some b)++[.str w]++Qbb W (some b) none)],rfl,fun o ho=>?_,fun k=>?_⟩
 ·rcases List.mem_cons.mp ho with rfl | ho
  ·exact ⟨_,rfl,((hW.cut _ _).app (hW.cut _ _)).mono (by omega)⟩
  rcases List.mem_cons.mp ho with rfl | ho
  ·exact ⟨_,rfl,((hW.cut _ _).app (hW.cut _ _)).mono (by omega)⟩
  rcases List.mem_cons.mp ho with rfl | ho
  ·exact ⟨_,rfl,(((hW.cut _ _).app (StrL.one (B:=14) (by omega))).app (hW.cut _ _)).mono (by omega)⟩
  rcases List.mem_cons.mp ho with rfl | ho
  ·exact ⟨_,rfl,(((hW.cut _ _).app (StrL.one (B:=14) (by omega))).app (hW.cut _ _)).mono (by omega)⟩
  ·cases ho
 ·simp only [Q0,Qkz,Qcm,Qg,Qc6,Qre,Qk,Q1,Qb,Qa,Qy,Qxd,Ql,Qxc,Qok,Qj2,yC1,yC2,Qxb,Qoj,Qxa,cont,Out.opt,ui3,Qct,Qai,Qcs,Qcr,uo1,k1,k2,Qep,Qcl,frz,List.length_cons,List.length_nil,Nat.reduceAdd,z1,if_true,k4,k5,z3,Qac,Ql0,Qad,Qbn,Nat.reduceLT,List.set,Qbf,Qin,Slot.mut,k6,Qpd,Qk1,Qk0,z3',List.cons_append,List.nil_append]
end
theorem Q5h (x:PySem.Str):StrL ((rs x).map T.str) (x.length+1):=⟨_,rfl,Nat.le_of_eq (Qr8 (by decide))⟩
theorem Q5i (x:PySem.Str):StrL ((ws x).map T.str) (x.length+1):=⟨_,rfl,Nat.le_of_eq (Qr8 (by decide))⟩
open PySem L2
theorem Qabn {L:List T} {r:Int} (h0:0≤r) (h1:r<(L.length:Int)):∃ j:Nat,r=j∧j<L.length:=by
 obtain ⟨j,rfl⟩:=Int.eq_ofNat_of_zero_le h0
 exact ⟨j,rfl,by omega⟩
noncomputable abbrev Q1u:S:=.seq (.setF 10 (.call 13 (.cons (.var 0) (.cons (.int 12) .nil))))
 (.seq (.ite (.cmp .lt (.var 10) (.int 4)) (.ret (.bi .joi (.cons (.str "/") (.cons (.ix (.var 8) (.var 10)) .nil)))) .nil)
 (.ret (.bi .joi (.cons (.str "/") (.cons (.bin .add (.bin .add (.slc (.var 2) .nil (.cons (.var 3) .nil)) (.lst (.cons (.bi .joi (.cons (.str " ") (.cons (.ix (.var 9) (.bin .mod (.var 10) (.int 4))) .nil))) .nil))) (.slc (.var 2) (.cons (.bin .add (.var 3) (.int 1)) .nil) .nil)) .nil)))))
theorem Q5j (k:Nat) {x w:PySem.Str} {R W O P:List T} {a b:Int} {B:Nat} {s6:Slot} {q:T} (hq:Qea q) (hR:StrL R B) (hB:B≤400) (lO:O.length=4) (hO:∀ o∈O,∃ ts,o=.lst ts∧StrL ts (2*B+2)) (lP:P.length=4) (hP:∀ o∈P,∃ ts,o=.lst ts∧StrL ts (2*B+14)) :
  ∃ y q' s,y.length≤90000∧Qea q'∧exS (cfn (k+1)) Q1u [.ml q,.fz (.str x),.fz (.lst R),.fz (.int a),.fz (.lst W),.fz (.int b),s6,.fz (.str w),.fz (.lst O),.ow (.lst P),.un]=.rt (.fz (.str y)) [.ml q',.fz (.str x),.fz (.lst R),.fz (.int a),.fz (.lst W),.fz (.int b),s6,.fz (.str w),.fz (.lst O),.ow (.lst P),s]:=by
 obtain ⟨r,q1,r0,r1,p1,e1⟩:=Qe1 k (m:=12) (by decide) (by decide) hq
 by_cases h4:r<4
 ·obtain ⟨o,eo,mo⟩:=Qpw (L:=O) r0 (by rw [lO];exact h4)
  obtain ⟨ts,rfl,ht⟩:=hO o mo
  obtain ⟨y,ey,ly⟩:=ht.join (sep := "/") (by decide) (by omega)
  refine ⟨y,q1,.fz (.int r),by omega,p1,?_⟩
  simp only [Q0,Qam,Q6,Qg,Qk,Q1,Qa,Qy,yC1,Qai,Ql,yC2,Qw,Qu,List.all_cons,List.all_nil,Bool.and_true,Q4,Qx,Qaf,Q3,e1,Qa1,Qj,Qz,L2.Qi,Option.map,if_true,List.getElem?_cons_zero,Slot.put,Nat.reduceAdd,reduceCtorEq,if_false,Qac,Qbh,Qal,frz,Qad,Qbn,List.length_cons,List.length_nil,Nat.reduceLT,Qb,List.set,Qbf,Qav,Qau,Qas,Qar,Qaq,cont,Qap,uc3,h4,decide_true,Qr,yBl,yIf,Qah,Qaz,Qbd,Qk7,Qkb,Qka,Qj9,Qj8,ui1,eo,yBi,Qax,Qv,Out.opt,ey,Qbv,Qd5]
 ·have m0:0≤r%4:=Int.emod_nonneg _ (by decide)
  have m1:r%4<4:=Int.emod_lt_of_pos _ (by decide)
  obtain ⟨o,eo,mo⟩:=Qpw (L:=P) m0 (by rw [lP];exact m1)
  obtain ⟨ts,rfl,ht⟩:=hP o mo
  obtain ⟨y,ey,ly⟩:=ht.join (sep := " ") (by decide) (by omega)
  have lR:=hR.len
  have c1:=Qb3 R none (some a)
  have c2:=Qb3 R (some (a+1)) none
  have k1:opB .add (.lst (Qbb R none (some a))) (.lst [.str y])=_:=Qfg (by rw [List.length_singleton];omega)
  have k2:opB .add (.lst (Qbb R none (some a)++[.str y])) (.lst (Qbb R (some (a+1)) none))=_:=Qfg (by rw [List.length_append,List.length_singleton];omega)
  obtain ⟨z,ez,lz⟩:=(((hR.cut none (some a)).app (StrL.one (x:=y) (Nat.le_refl _))).app (hR.cut (some (a+1)) none)).join (sep := "/") (by decide) (by omega)
  have z1:(1:Nat)≤100000:=by decide
  refine ⟨z,q1,.fz (.int r),by omega,p1,?_⟩
  simp only [Q0,Qam,Q6,Qg,Qk,Q1,Qa,Qy,yC1,Qai,Ql,yC2,Qw,Qu,List.all_cons,List.all_nil,Bool.and_true,Q4,Qx,Qaf,Q3,e1,Qa1,Qj,Qz,L2.Qi,Option.map,if_true,List.getElem?_cons_zero,Slot.put,Nat.reduceAdd,reduceCtorEq,if_false,Qac,Qbh,Qal,frz,Qad,Qbn,List.length_cons,List.length_nil,Nat.reduceLT,Qb,List.set,Qbf,Qav,Qau,Qas,Qar,Qaq,cont,Qap,uc3,h4,decide_false,Qr,yBl,yIf,Qch,Qah,Qaz,Qbd,Qc6,Qre,Qxd,Qxc,Qok,Qj2,Qxb,Qoj,Qxa,Out.opt,ui3,Qct,Qcm,Qk7,Qkb,Qcs,Qcr,uo8,Int.reduceLT,Qka,Qj9,Slot.prv,Qj8,ui1,eo,yBi,Qax,Qv,ey,Qep,Qcl,z1,k1,uo1,k2,ez,Qbv]
noncomputable abbrev sp_1:S:=.setF 2 (.bi .spl (.cons (.var 1) (.cons (.str "/") .nil)))
noncomputable abbrev sp_2:S:=.setF 3 (.call 13 (.cons (.var 0) (.cons (.bi .len (.cons (.var 2) .nil)) .nil)))
noncomputable abbrev sp_3:S:=.setF 4 (.bi .spl (.cons (.ix (.var 2) (.var 3)) (.cons (.str " ") .nil)))
noncomputable abbrev sp_4:S:=.setF 5 (.call 13 (.cons (.var 0) (.cons (.bi .len (.cons (.var 4) .nil)) .nil)))
noncomputable abbrev sp_5:S:=.setF 6 sp_L
noncomputable abbrev sp_6:S:=.setF 7 (.ix (.var 6) (.call 13 (.cons (.var 0) (.cons (.int 15) .nil))))
theorem Qv3 {l:List PySem.Str} (h:l≠[]):0<((l.length:Nat):Int):=by
 cases l with
 | nil=>exact absurd rfl h
 | cons x l=>rw [List.length_cons];omega
theorem Q1v (k:Nat) {x:PySem.Str} (hx:x.length≤300) {q:T} (hq:Qea q):∃ y q',y.length≤90000∧Qea q'∧cfn (k+2) 24 [.ml q,.fz (.str x)]=.ok (.fz (.str y)) [q',.non]:=by
 have hz:x.length≤90000:=by omega
 have rl:=Qm3 x
 obtain ⟨a,q1,a0,a1,p1,e1⟩:=Qe1 k (m:=(((rs x).length:Nat):Int)) (Qv3 (Qmz _ _)) (by omega) hq
 obtain ⟨j,rfl,hj⟩:=Qabn (L:=(rs x).map T.str) a0 (by rw [List.length_map];exact a1)
 rw [List.length_map] at hj
 obtain ⟨_,ej⟩:=Q1n hj
 have hr:=Qht (List.getElem_mem hj)
 generalize (rs x)[j]=r at ej hr
 have wl:=Qm2 r
 obtain ⟨b,q2,b0,b1,p2,e2⟩:=Qe1 k (m:=(((ws r).length:Nat):Int)) (Qv3 (Qmz _ _)) (by omega) p1
 obtain ⟨c,q3,c0,c1,p3,e3⟩:=Qe1 k (m:=15) (by decide) (by decide) p2
 obtain ⟨o,eo,mo⟩:=Qpw (L:=Qnp) c0 c1
 obtain ⟨w,rfl,hw⟩:=Q1t (List.all_eq_true.mp Qxu o mo)
 have hR:=(Q5h x).mono (show x.length+1≤301 by omega)
 have hW:=(Q5i r).mono (show r.length+1≤301 by omega)
 have g1:exS (cfn (k+1)) sp_1 [.ml q,.fz (.str x),.un,.un,.un,.un,.un,.un,.un,.un,.un]=.nx [.ml q,.fz (.str x),.fz (.lst ((rs x).map T.str)),.un,.un,.un,.un,.un,.un,.un,.un]:=by
  simp only [Qam,Qaz,Qg,Qk,Q1,Qb,Qa,Qy,yC1,Qbd,Ql,yC2,yBi,Qax,Qv,cont,Out.opt,Qoo hz,Qac,Qbh,Qal,frz,Qad,Qbn,List.length_cons,List.length_nil,Nat.reduceAdd,Nat.reduceLT,List.set,if_true]
 have lR:((rs x).map T.str).length=(rs x).length:=List.length_map ..
 have lW:((ws r).map T.str).length=(ws r).length:=List.length_map ..
 have sw:=Qsj (x:=r) (by omega)
 generalize (rs x).map T.str=R at g1 ej hR lR
 generalize (ws r).map T.str=W at hW lW sw
 obtain ⟨O,lO,hO,g7⟩:=Qae9 (cf:=cfn (k+1)) (q:=q3) (x:=x) (W:=W) (a:=(j:Int)) (b:=b) (w:=w) (s6:=.fz (.lst Qnp)) hR (by decide)
 obtain ⟨P,lP,hP,g8⟩:=Qafa (cf:=cfn (k+1)) (q:=q3) (x:=x) (R:=R) (a:=(j:Int)) (b:=b) (w:=w) (s6:=.fz (.lst Qnp)) (s8:=.fz (.lst O)) hW (by decide) hw
 obtain ⟨y,q4,s,hy,p4,g9⟩:=Q5j k (x:=x) (w:=w) (W:=W) (a:=(j:Int)) (b:=b) (s6:=.fz (.lst Qnp)) p3 hR (by decide) lO hO lP hP
 have g2:exS (cfn (k+1)) sp_2 [.ml q,.fz (.str x),.fz (.lst R),.un,.un,.un,.un,.un,.un,.un,.un]=.nx [.ml q1,.fz (.str x),.fz (.lst R),.fz (.int j),.un,.un,.un,.un,.un,.un,.un]:=by
  simp only [Qam,Q6,Qg,Qk,Q1,Qa,Qy,yC1,Qaz,Qb,Ql,yC2,yBi,Qax,Qv,cont,Out.opt,ub1,lR,Qw,Qu,List.all_cons,List.all_nil,Bool.and_true,Q4,Qx,Qaf,Q3,e1,Qa1,Qj,Qz,L2.Qi,Option.map,if_true,List.getElem?_cons_zero,Slot.put,Nat.reduceAdd,reduceCtorEq,if_false,Qac,Qbh,Qal,frz,Qad,Qbn,List.length_cons,List.length_nil,Nat.reduceLT,List.set]
 have g3:exS (cfn (k+1)) sp_3 [.ml q1,.fz (.str x),.fz (.lst R),.fz (.int j),.un,.un,.un,.un,.un,.un,.un]=.nx [.ml q1,.fz (.str x),.fz (.lst R),.fz (.int j),.fz (.lst W),.un,.un,.un,.un,.un,.un]:=by
  simp only [Qam,Qaz,Qg,Qk7,Qk,Q1,Qb,Qa,Qy,Qkb,Qka,Qj9,cont,Qj8,ui1,ej,yC1,Qbd,Ql,yC2,yBi,Qax,Qv,Out.opt,sw,Qac,Qbh,Qal,frz,Qad,Qbn,List.length_cons,List.length_nil,Nat.reduceAdd,Nat.reduceLT,List.set,if_true]
 have g4:exS (cfn (k+1)) sp_4 [.ml q1,.fz (.str x),.fz (.lst R),.fz (.int j),.fz (.lst W),.un,.un,.un,.un,.un,.un]=.nx [.ml q2,.fz (.str x),.fz (.lst R),.fz (.int j),.fz (.lst W),.fz (.int b),.un,.un,.un,.un,.un]:=by
  simp only [Qam,Q6,Qg,Qk,Q1,Qa,Qy,yC1,Qaz,Qb,Ql,yC2,yBi,Qax,Qv,cont,Out.opt,ub1,lW,Qw,Qu,List.all_cons,List.all_nil,Bool.and_true,Q4,Qx,Qaf,Q3,e2,Qa1,Qj,Qz,L2.Qi,Option.map,if_true,List.getElem?_cons_zero,Slot.put,Nat.reduceAdd,reduceCtorEq,if_false,Qac,Qbh,Qal,frz,Qad,Qbn,List.length_cons,List.length_nil,Nat.reduceLT,List.set]
 have g5:exS (cfn (k+1)) sp_5 [.ml q2,.fz (.str x),.fz (.lst R),.fz (.int j),.fz (.lst W),.fz (.int b),.un,.un,.un,.un,.un]=.nx [.ml q2,.fz (.str x),.fz (.lst R),.fz (.int j),.fz (.lst W),.fz (.int b),.fz (.lst Qnp),.un,.un,.un,.un]:=by
  rw [Qam,Qabm]
  rfl
 have g6:exS (cfn (k+1)) sp_6 [.ml q2,.fz (.str x),.fz (.lst R),.fz (.int j),.fz (.lst W),.fz (.int b),.fz (.lst Qnp),.un,.un,.un,.un]=.nx [.ml q3,.fz (.str x),.fz (.lst R),.fz (.int j),.fz (.lst W),.fz (.int b),.fz (.lst Qnp),.fz (.str w),.un,.un,.un]:=by
  generalize Qnp=OS at eo ⊢
  simp only [Qam,Qk7,Qk,Q1,Qb,Qa,Qy,Qkb,Q6,Qg,yC1,Qai,Ql,yC2,Qw,Qu,List.all_cons,List.all_nil,Bool.and_true,Q4,Qx,Qaf,Q3,e3,Qa1,Qj,Qz,L2.Qi,Option.map,if_true,List.getElem?_cons_zero,Slot.put,Nat.reduceAdd,reduceCtorEq,if_false,Qka,Qj9,cont,Qj8,ui1,eo,Qac,Qbh,Qal,frz,Qad,Qbn,List.length_cons,List.length_nil,Nat.reduceLT,List.set]
 refine ⟨y,q4,hy,p4,?_⟩
 show Qbx (cfn (k+1)) ⟨2,11,Qjp⟩ _=_
 rw [Qbi rfl]
 show Qb4 _ (exS _ (.seq sp_1 (.seq sp_2 (.seq sp_3 (.seq sp_4 (.seq sp_5 (.seq sp_6 (.seq Qv1 (.seq Qsp (.seq Qv2 Q1u))))))))) [.ml q,.fz (.str x),.un,.un,.un,.un,.un,.un,.un,.un,.un])=_
 rw [Q0,g1,Qbf,Q0,g2,Qbf,Q0,g3,Qbf,Q0,g4,Qbf,Q0,g5,Qbf,Q0,g6,Qbf,Q0,g7,Qbf,g8,g9]
 rfl
theorem t0 (ρ:En):Q4v Qmr (.xn ⟨0,[]⟩ ρ)=.rt (.fz (.bl true)) ρ:=rfl
theorem Qxv (k:Nat) {m:Nat} {t:T} (hg:gd (m+2) t=true) (h:Qig t=false):cfn (k+6) 25 [.fz t]=.ok (.fz (.bl true)) [.non]:=by
 have e:=Qno k hg h
 show Qbx (cfn (k+5)) ⟨1,2,Qfo⟩ _=_
 rw [Qbi rfl]
 show Qb4 _ (exS _ Qfo [.fz t,.un])=_
 rw [Q0,Qtt]
 simp only [Qim,Q6,Qg,Qk,Q1,Qa,Qy,yC1,Ql,yC2,Qw,Qu,Q4,Qx,Qaf,Q3,e,Qa1,Qj,Qz,L2.Qi,Option.map,if_true,Q1a,t0,Qd5,Q7,Qan,Qae,Qaj,Qt]
open PySem L2
noncomputable def Qsq (t:T):Prop:=(∃ x,t=.str x∧x.length≤90000)∨(nc t=true∧Qxt t=false)
theorem Qop {t:T} (h:Qsq t):cfn 14 23 [.fz t]=.ok (.fz (.bl true)) [.non]:=by
 rcases h with ⟨x,rfl,hz⟩ | ⟨hn,hs⟩
 ·exact Q5f 8 hz
 ·exact Q5g 8 hn hs
noncomputable abbrev w1:S:=.ite (.not (.call 23 (.cons (.var 1) .nil))) (.ret (.bl false)) .nil
theorem Qsr {s0 s2 s3 s4 s5 s6 s7:Slot}:∀ {xs:List T},(∀ t∈xs,Qsq t)→∀ {s1:Slot},Qg4 s1=true→∃ s',Qg4 s'=true∧Qd4 (.nm 1) (exS (cfn 14) w1) xs [s0,s1,s2,s3,s4,s5,s6,s7]=.nx [s0,s',s2,s3,s4,s5,s6,s7]
 | [],_,s1,o1=>⟨s1,o1,rfl⟩
 | x::xs,h,s1,o1=>by
  have e:=Qop (h x List.mem_cons_self)
  have ew:exS (cfn 14) w1 [s0,.fz x,s2,s3,s4,s5,s6,s7]=.nx [s0,.fz x,s2,s3,s4,s5,s6,s7]:=by simp only [Qav,Qca,Q6,Qg,Qk,Q1,Qb,Qa,Qy,yC1,Ql,yC2,Qw,Qu,Q4,Qx,Qaf,Q3,e,Qa1,Qj,Qz,L2.Qi,Option.map,if_true,Qr,yBl,Qef,Bool.not_true,Qac,yIf,Qch]
  obtain ⟨s',o',q⟩:=Qsr (s0:=s0) (s2:=s2) (s3:=s3) (s4:=s4) (s5:=s5) (s6:=s6) (s7:=s7) (xs:=xs) (fun y hy=>h y (List.mem_cons_of_mem _ hy)) (s1:=.fz x) rfl
  refine ⟨s',o',?_⟩
  have st:Qha (.nm 1) x [s0,s1,s2,s3,s4,s5,s6,s7]=some [s0,.fz x,s2,s3,s4,s5,s6,s7]:=by cases s1 <;> first | rfl | cases o1
  rw [Qd4]
  simp only [st,ew]
  exact q
noncomputable def Odd (t:T):Prop:=gd 3 t=true∧Qig t=false
noncomputable abbrev w2:S:=.ite (.not (.call 25 (.cons (.var 7) .nil))) (.ret (.bl false)) .nil
theorem Qss {s0 s1 s2 s3 s4 s5 s6:Slot}:∀ {xs:List T},(∀ t∈xs,Odd t)→∀ {s7:Slot},Qg4 s7=true→∃ s',Qg4 s'=true∧Qd4 (.nm 7) (exS (cfn 14) w2) xs [s0,s1,s2,s3,s4,s5,s6,s7]=.nx [s0,s1,s2,s3,s4,s5,s6,s']
 | [],_,s7,o7=>⟨s7,o7,rfl⟩
 | x::xs,h,s7,o7=>by
  obtain ⟨hg,hb⟩:=h x List.mem_cons_self
  have e:cfn 14 25 [.fz x]=.ok (.fz (.bl true)) [.non]:=Qxv 8 hg hb
  have ew:exS (cfn 14) w2 [s0,s1,s2,s3,s4,s5,s6,.fz x]=.nx [s0,s1,s2,s3,s4,s5,s6,.fz x]:=by simp only [Qav,Qca,Q6,Qg,Qk,Q1,Qb,Qa,Qy,yC1,Ql,yC2,Qw,Qu,Q4,Qx,Qaf,Q3,e,Qa1,Qj,Qz,L2.Qi,Option.map,if_true,Qr,yBl,Qef,Bool.not_true,Qac,yIf,Qch]
  obtain ⟨s',o',q⟩:=Qss (s0:=s0) (s1:=s1) (s2:=s2) (s3:=s3) (s4:=s4) (s5:=s5) (s6:=s6) (xs:=xs) (fun y hy=>h y (List.mem_cons_of_mem _ hy)) (s7:=.fz x) rfl
  refine ⟨s',o',?_⟩
  have st:Qha (.nm 7) x [s0,s1,s2,s3,s4,s5,s6,s7]=some [s0,s1,s2,s3,s4,s5,s6,.fz x]:=by cases s7 <;> first | rfl | cases o7
  rw [Qd4]
  simp only [st,ew]
  exact q
noncomputable abbrev Q1w:W:=.seq (.lst (.cons (.str "") (.cons (.str "0") (.cons (.str "-0") (.cons (.str "1 2") (.cons (.str "1 2/3 4") (.cons (.str "1/2") (.cons (.str "1 2/3 4/") (.cons (.str "/") (.cons (.str " 1") (.cons (.str "1 ") (.cons .non (.cons (.int 7) (.cons (.lst (.cons (.str "1") .nil)) (.cons (.tup (.cons (.tup (.cons (.int 1) .nil)) .nil)) .nil)))))))))))))))
noncomputable abbrev Qp5:List T:=[.str "",.str "0",.str "-0",.str "1 2",.str "1 2/3 4",.str "1/2",.str "1 2/3 4/",.str "/",.str " 1",.str "1 ",.non,.int 7,.lst [.str "1"],.tup [.tup [.int 1]]]
noncomputable def Q1x:T→Bool
 | .str x=>decide (x.length≤90000)
 | .clo _ _=>false
 | _=>true
theorem Qv4 {t:T} (h:Q1x t=true):Qsq t:=by
 cases t <;> first | (cases h;done) | exact .inl ⟨_,rfl,of_decide_eq_true h⟩ | exact .inr ⟨rfl,rfl⟩
theorem Q1y:∀ t∈Qp5,Qsq t:=fun t ht=>Qv4 (List.all_eq_true.mp (show Qp5.all Q1x=true by decide +kernel) t ht)
theorem Q5k:∀ a:Addr,∃ ρ',exS (cfn 14) Q6y (.pin a::uns (8-1))=.nx (.pin a::ρ')∧ρ'.length=8-1:=fun a=>by
 obtain ⟨s',_,e⟩:=Qsr (s0:=.pin a) (s2:=.un) (s3:=.un) (s4:=.un) (s5:=.un) (s6:=.un) (s7:=.un) Q1y (s1:=.un) rfl
 refine ⟨[s',.un,.un,.un,.un,.un,.un],?_,rfl⟩
 have hw:evW (cfn 14) Q1w [.pin a,.un,.un,.un,.un,.un,.un,.un]=.ok (Qp5,none) [.pin a,.un,.un,.un,.un,.un,.un,.un]:=by
  have z14:(14:Nat)≤100000:=by decide
  have z1:(1:Nat)≤100000:=by decide
  simp only [Qmi,Qcm,Qg,Qbd,Qy,yC1,Qf1,Qai,Ql,yC2,Qep,Qcl,frz,List.length_cons,List.length_nil,Nat.reduceAdd,z1,if_true,Qrd,Qw9,z14,Qrf,Qky,cont,Qkx,Qeb,Qg3]
 show exS (cfn 14) (.for_ Q1w (.nm 1) w1) [.pin a,.un,.un,.un,.un,.un,.un,.un]=_
 generalize Q1w=W0 at hw ⊢
 generalize w1=B0 at e ⊢
 generalize Qp5=P0 at hw e
 simp only [Qjk,hw,Qac,Qmj,e,Qge]
theorem Q5l {R:List T} (h:1≤R.length):(Qbb R none (some 1)).length=1:=by
 unfold Qbb
 rw [List.length_take,List.length_drop]
 have e0:HT.sIx R.length 0 none=0:=rfl
 have e1:HT.sIx R.length R.length (some 1)=1:=by
  unfold HT.sIx
  simp
  omega
 rw [e0,e1]
 omega
noncomputable abbrev Q5m:W:=.seq (.lst (.cons .non (.cons (.bi .list (.cons (.var 4) .nil)) (.cons (.bin .add (.var 4) (.slc (.var 4) .nil (.cons (.int 1) .nil))) (.cons (.tup (.cons (.var 4) .nil)) (.cons (.tup (.cons (.tup (.cons (.bl true) .nil)) .nil)) (.cons (.tup .nil) (.cons (.int 0) (.cons (.var 1) .nil)))))))))
noncomputable abbrev rfL (R:List T) (x:PySem.Str):List T:=[.non,.lst R,.tup (R++Qbb R none (some 1)),.tup [.tup R],.tup [.tup [.bl true]],.tup [],.int 0,.str x]
theorem Q5n {cf:CF} {R:List T} {x:PySem.Str} {s0 s2 s3 s5 s6 s7:Slot} (hl:R.length≤4):evW cf Q5m [s0,.fz (.str x),s2,s3,.fz (.tup R),s5,s6,s7]=.ok (rfL R x,none) [s0,.fz (.str x),s2,s3,.fz (.tup R),s5,s6,s7]:=by
 have c1:=Qb3 R none (some 1)
 have k1:opB .add (.tup R) (.tup (Qbb R none (some 1)))=_:=Qae2 (by omega)
 have b1:Qb6 .list [.tup R]=some (.ow (.lst R)):=rfl
 have z8:(8:Nat)≤100000:=by decide
 have z1:(1:Nat)≤100000:=by decide
 have z0:(0:Nat)≤100000:=by decide
 simp only [Qmi,Qcm,Qg,Qf1,Qy,yC1,Qaz,Qk,Q1,Qb,Qa,Ql,yC2,yBi,Qax,Qv,cont,Out.opt,b1,Qc6,Qct,Qre,Qxd,Qxc,Qok,Qj2,Qai,Qxb,Qoj,Qxa,ui4,Qcs,Qcr,k1,Qrd,Qw9,Qcl,frz,List.length_cons,List.length_nil,Nat.reduceAdd,z1,if_true,Qm9,z0,Qep,z8,Qrf,Qky,Qkx,Qeb,Qg3]
theorem Qabo {n:Nat} {M:Tb} (h:Sq n M) (h1:1≤n) (h4:n≤4) (x:PySem.Str):∀ t∈rfL (M.map Qba) x,Odd t:=by
 have hl:=h.len
 have lR:(M.map Qba).length=n:=by rw [List.length_map,hl]
 have gR:=Q1k h h4
 have gR2:AllG 2 (M.map Qba):=fun y hy=>Qae1 (gR y hy)
 have c1:=Q5l (R:=M.map Qba) (by omega)
 have rows:∀ y∈M.map Qba,∃ r:List Int,y=Qba r∧r.length=n:=fun y hy=>by
  obtain ⟨r,hr,rfl⟩:=List.mem_map.mp hy
  exact ⟨r,rfl,h.row r hr⟩
 obtain ⟨y0,hy0⟩:∃ y,y∈M.map Qba:=⟨_,List.getElem_mem (show 0<(M.map Qba).length by omega)⟩
 obtain ⟨r0,rfl,l0⟩:=rows y0 hy0
 generalize M.map Qba=R at *
 intro t ht
 rcases List.mem_cons.mp ht with rfl | ht
 ·exact ⟨rfl,rfl⟩
 rcases List.mem_cons.mp ht with rfl | ht
 ·exact ⟨gdL (by omega) gR2,rfl⟩
 rcases List.mem_cons.mp ht with rfl | ht
 ·refine ⟨gdT (by rw [List.length_append];omega) (gR2.app gR2.cut),?_⟩
  show (decide (1≤(R++Qbb R none (some 1)).length∧(R++Qbb R none (some 1)).length≤4)&&(R++Qbb R none (some 1)).all (Qld (R++Qbb R none (some 1)).length))=false
  have hall:(R++Qbb R none (some 1)).all (Qld (R++Qbb R none (some 1)).length)=false:=by
   rw [List.all_eq_false]
   refine ⟨Qba r0,List.mem_append_left _ hy0,?_⟩
   show ¬ (decide ((r0.map T.int).length=(R++Qbb R none (some 1)).length)&&_)=true
   rw [List.length_map,List.length_append,decide_eq_false (by omega)]
   simp
  rw [hall,Bool.and_false]
 rcases List.mem_cons.mp ht with rfl | ht
 ·refine ⟨gdT (by show 1≤1000;decide) (AllG.cons (gdT (by omega) gR) AllG.nil),?_⟩
  show (decide (1≤1∧1≤4)&&((decide (R.length=1)&&R.all whole)&&true))=false
  have hall:R.all whole=false:=by
   rw [List.all_eq_false]
   exact ⟨Qba r0,hy0,by show ¬ false=true;simp⟩
  rw [hall,Bool.and_false]
  simp
 rcases List.mem_cons.mp ht with rfl | ht
 ·exact ⟨rfl,rfl⟩
 rcases List.mem_cons.mp ht with rfl | ht
 ·exact ⟨rfl,rfl⟩
 rcases List.mem_cons.mp ht with rfl | ht
 ·exact ⟨rfl,rfl⟩
 rcases List.mem_cons.mp ht with rfl | ht
 ·exact ⟨rfl,rfl⟩
 ·cases ht
noncomputable def Tx (_ y:T):Prop:=∃ x:PySem.Str,y=.str x∧x.length≤90000
noncomputable abbrev b_6:S:=.setF 6 (.bin .add (.lst (.cons (.var 1) (.cons (.call 15 (.cons (.var 3) .nil)) .nil))) (.comp (.rng1 (.int 4)) [none,some 3,some 1] (.nm 0) .nil (.call 24 (.cons (.var 1) (.cons (.var 2) .nil)))))
theorem Qabp {x:PySem.Str} (hx:x.length≤300) {q:T} (hq:Qea q) {m:Int} {t4 t5:T}:∃ L q',(∀ t∈L,Qsq t)∧L.length≤100000∧Qea q'∧exS (cfn 14) b_6 [.un,.fz (.str x),.fz (.int m),.ow q,.fz t4,.fz t5,.un,.un]=.nx [.un,.fz (.str x),.fz (.int m),.ow q',.fz t4,.fz t5,.fz (.lst L),.un]:=by
 obtain ⟨t,q1,gt,p1,e1⟩:=Qaey 12 hq
 have hw:evW (cfn 14) (.rng1 (.int 4)) [.un,.fz (.str x),.fz (.int m),.ow q1,.fz t4,.fz t5,.un,.un]=.ok (Qcd 0 4,none) [.un,.fz (.str x),.fz (.int m),.ow q1,.fz t4,.fz t5,.un,.un]:=rfl
 obtain ⟨ys,q2,e2,p2,f⟩:=Q07 (cf:=cfn 14) (P:=Qea) (F:=Tx) (rest:=fun q=>[.ml q,.fz (.str x)]) (w:=.rng1 (.int 4)) (js:=[none,some 3,some 1]) (e:=.call 24 (.cons (.var 1) (.cons (.var 2) .nil))) (ρ:=[.un,.fz (.str x),.fz (.int m),.ow q1,.fz t4,.fz t5,.un,.un])
  (ρ':=fun q'=>[.un,.fz (.str x),.fz (.int m),.ow q',.fz t4,.fz t5,.un,.un]) p1 hw rfl (fun s q'=>rfl) rfl (fun s q' _=>rfl) (fun u hu q hq=>by
   obtain ⟨y,q3,hy,p3,e3⟩:=Q1v 12 hx hq
   refine ⟨.fz (.str y),_,q3,?_,rfl,p3,y,rfl,hy⟩
   simp only [Q6,Qg,Qk,Q1,Qb,Qa,Qy,yC1,Ql,yC2,Qw,Qu,List.all_cons,List.all_nil,Bool.and_true,Q4,Qx,Qaf,Q3,e3,Qa1,Qj,Qz,L2.Qi,reduceCtorEq,Option.map,if_false,Nat.reduceAdd,if_true,List.getElem?_cons_zero,Slot.put,Nat.reduceEqDiff]) (by rw [Qbp];decide)
 have ly:ys.length=4:=by
  have:∀ {xs ys:List T},All2 Tx xs ys→ys.length=xs.length:=fun h=>by
   induction h with
   | nil=>rfl
   | cons _ _ ih=>rw [List.length_cons,List.length_cons,ih]
  rw [this f,Qbp]
 have fy:∀ y∈ys,Qsq y:=by
  have:∀ {xs ys:List T},All2 Tx xs ys→∀ y∈ys,Qsq y:=fun h=>by
   induction h with
   | nil=>intro y hy;cases hy
   | cons f _ ih =>
    intro y hy
    rcases List.mem_cons.mp hy with rfl | hy
    ·exact .inl f
    ·exact ih y hy
  exact this f
 have ft:Qsq t:=Qv4 (List.all_eq_true.mp (show (Qsa++[T.tup [.bl true]]).all Q1x=true by decide +kernel) t gt.2)
 have ka:opB .add (.lst [.str x,t]) (.lst ys)=_:=Qfg (by rw [ly];show 2+4≤100000;decide)
 have z2:(2:Nat)≤100000:=by decide
 refine ⟨[.str x,t]++ys,q2,fun u hu=>?_,by rw [List.length_append,ly];show 2+4≤100000;decide,p2,?_⟩
 ·rcases List.mem_append.mp hu with hu | hu
  ·rcases List.mem_cons.mp hu with rfl | hu
   ·exact .inl ⟨x,rfl,by omega⟩
   ·rw [List.mem_singleton.mp hu];exact ft
  ·exact fy u hu
 ·simp only [Qam,Qc6,Qcm,Qg,Qk,Q1,Qb,Qa,Qy,yC1,Q6,Ql,yC2,Qw,Qu,List.all_nil,Bool.and_true,Q4,Qx,Qaf,Q3,e1,Qa1,Qj,Qz,L2.Qi,reduceCtorEq,Option.map,if_false,Nat.reduceAdd,Nat.reduceEqDiff,if_true,List.getElem?_cons_zero,Slot.put,Qep,Qcl,frz,List.length_cons,List.length_nil,z2,Qct,e2,Qcs,Qcr,cont,Out.opt,ka,Qac,Qbh,Qal,Qad,Qbn,Nat.reduceLT,List.set]
theorem Q1z:∀ m:Int,∃ ρ',exS (cfn 14) Q1e ((uns 8).set 2 (.fz (.int m)))=.nx ρ'∧ρ'.length=8:=by
 intro m
 obtain ⟨q,hq,e0⟩:=Qaex 13 m
 obtain ⟨d,q1,d0,d1,p1,e1⟩:=Qe1 13 (m:=4) (by decide) (by decide) hq
 obtain ⟨n,hn⟩:=Int.eq_ofNat_of_zero_le (show 0≤1+d by omega)
 obtain ⟨Ms,q2,hT,p2,e2⟩:=Q1j 11 (n:=n) (by omega) (by omega) (w:=1) (by decide) (by decide) p1
 have m1:=hT.m1
 obtain ⟨ea,hM⟩:=Q4y hT (show 0<Ms.length by omega)
 generalize Ms[0]=M at ea hM
 have n1:=hT.n1
 have n4:=hT.n4
 have ea':atI (Ms.map Qbg) 0=some (Qbg M):=ea
 have e2':cfn 14 16 [.ml q1,.fz (.int n),.fz (.int 1)]=.ok (.ow (Q6z Ms)) [q2,.non,.non]:=e2
 have e3:=Qub 13 hM n4
 have e4:=Qnn 9 hM n1 n4
 have lx:=Q1m hM n4
 obtain ⟨L,q3,fL,lL,p3,e5⟩:=Qabp (x:=Qfr M) (by omega) p2 (m:=m) (t4:=Qbg M) (t5:=.str (Qfr M))
 have h7:evE (cfn 14) (.comp (.seq (.var 6)) [none] (.nm 0) .nil (.call 23 (.cons (.var 0) .nil))) [.un,.fz (.str (Qfr M)),.fz (.int m),.ow q3,.fz (Qbg M),.fz (.str (Qfr M)),.fz (.lst L),.un]=.ok (.ow (.lst (L.map fun _=>T.bl true))) [.un,.fz (.str (Qfr M)),.fz (.int m),.ow q3,.fz (Qbg M),.fz (.str (Qfr M)),.fz (.lst L),.un] :=
  Qbu (rest:=[]) rfl rfl rfl rfl (fun t ht=>by
   have e:=Qop (fL t ht)
   exact ⟨.fz (.bl true),by simp only [Q6,Qg,Qk,Q1,Qa,Qy,yC1,Ql,yC2,Qw,Qu,Q4,Qx,Qaf,Q3,e,Qa1,Qj,Qz,L2.Qi,Option.map,if_true],rfl⟩) lL
 obtain ⟨s',_,e8⟩:=Qss (s0:=.un) (s1:=.fz (.str (Qfr M))) (s2:=.fz (.int m)) (s3:=.ow q3) (s4:=.fz (Qbg M)) (s5:=.fz (.str (Qfr M))) (s6:=.fz (.lst L)) (Qabo hM n1 n4 (Qfr M)) (s7:=.un) rfl
 have hw8:evW (cfn 14) Q5m [.un,.fz (.str (Qfr M)),.fz (.int m),.ow q3,.fz (Qbg M),.fz (.str (Qfr M)),.fz (.lst L),.un]=.ok (rfL (M.map Qba) (Qfr M),none) [.un,.fz (.str (Qfr M)),.fz (.int m),.ow q3,.fz (Qbg M),.fz (.str (Qfr M)),.fz (.lst L),.un]:=Q5n (by rw [List.length_map,hM.len];exact n4)
 have ts:Qic "str" = true:=by decide
 have is:∀ y,Qe3 (tyT (.str y)) "str" = true:=fun _=>rfl
 have z0:(0:Nat)≤100000:=by decide
 refine ⟨[.un,.fz (.str (Qfr M)),.fz (.int m),.ow q3,.fz (Qbg M),.fz (.str (Qfr M)),.fz (.lst L),s'],?_,rfl⟩
 show exS (cfn 14) (.seq _ (.seq _ (.seq _ (.seq _ (.seq _ (.seq b_6 (.seq _ (.for_ Q5m (.nm 7) w2)))))))) [.un,.un,.fz (.int m),.un,.un,.un,.un,.un]=_
 generalize b_6=B6 at e5 ⊢
 generalize Q5m=W8 at hw8 ⊢
 generalize w2=B8 at e8 ⊢
 generalize Qfr M=X at *
 generalize rfL (M.map Qba) X=RF at hw8 e8
 generalize Qbg M=TM at *
 simp only [Q0,Qkz,Q6,Qg,Qk,Q1,Qb,Qa,Qy,yC1,Ql,yC2,Qw,Qu,Q4,Qx,Qaf,Q3,e0,Qa1,Qj,Qz,L2.Qi,Option.map,if_true,Qac,Ql0,Qad,Qbn,List.length_cons,List.length_nil,Nat.reduceAdd,Nat.reduceLT,List.set,Qbf,Qam,Qk7,Qc6,Qai,Qct,List.all_cons,List.all_nil,Bool.and_true,e1,reduceCtorEq,if_false,Nat.reduceEqDiff,List.getElem?_cons_zero,Slot.put,Qcs,Qcr,cont,Out.opt,uo1,hn,e2',Qkb,Qka,Qj9,Qj8,ui1,ea',Qbh,Qal,frz,e3,e4,Qav,Qdw,Qca,Qf2,Qjj,Qe9,ts,Qda,Bool.not_false,is,Qr,yBl,Qef,Bool.not_true,yOr,Qau,Qas,Qar,Qaq,Qap,uc2,Qgw,decide_true,yB,yIf,Qch,e5,Qaz,h7,yBi,Qax,Qv,ub3,Qpf,Qtr,Qjk,hw8,Qmj,e8,Qge]
open PySem L2
section
variable {P:Program} {w:World} {K:PySem.W.Frag} {mg:Str→Option Value} {base:Heap}
theorem ok_q {x:Str} {st:Stmt} {f:Addr} {fd:FuncData} {N ps:List Str} {k:Nat} {sp:Sp} (F:Fun K x x st f fd) (S:FnScope N ps (Qf st)) (len:∀ vs H Q E,sp vs H Q E→vs.length=ps.length)
  (hbody:∀ (cdv:Value) (A:Around) (outer:List Env) (s:Shared) (H:Hp) (vs:List V) (Q:VK) (E:XK),Room k (A.deeper (PyProof.Rows.envOfC x (Qf st) s.heap.objs.size f cdv))→sp vs H Q E →
   ∃ t,QB (Qh2 (fun _=>true) CX0 P w K mg base N x (Qf st) f cdv A outer s H E).nox (Qaa st) t∧t { nx:=fun _ H'=>Q .non H',rt:=Q } (Qbs N vs) H):FnOk P w K mg base CX0 (k+1) f fd ps sp :=
 F.ok S len fun cdv A outer s H vs Q E hr hs=>let ⟨t,a,b⟩:=hbody cdv A outer s H vs Q E hr hs;⟨t,a.h,b⟩
theorem Qp6 {h:Heap} {x:Str} {st:Stmt} {f:Addr} {oc:Value} {od an:Option Addr} {osl:Array (Option Value)} {kV doc pm cdv ct:Value} (X:K.In h) (G:h.Ns mainGlobals mg) (a:PySem.W.nsIn K mainGlobals x=some (some (.ref f)))
  (l:K.lookup f=some ⟨oc,od,.func (PySem.W.fnOf x x (Qbe st) (Qaa st) (Qf st) .none kV doc pm an cdv ct),osl⟩) (c:PySem.W.codeIn K cdv x=true) (k:PySem.W.keepIn K (.ref f)=true):Dfn K mg x st:=⟨⟨f,_,Qyq l c k,PySem.W.mg_of X G a⟩⟩
theorem Q10 {h:Heap} {x:Str} {i:Int} {t:Tok} (X:K.In h) (G:h.Ns mainGlobals mg) (a:PySem.W.nsIn K mainGlobals x=some (some (.int i t))):∃ u,mg x=some u∧RelV (.int i) u:=⟨_,PySem.W.mg_of X G a,t,rfl⟩
theorem Q5o {lf:Addr} {lfd:FuncData} (F:Fun K "law" "law" Qk3 lf lfd) (s:Shared) (v:Value):BindsTo s lfd ⟨[v],[]⟩ [("_law_script",v)]:=by
 obtain ⟨oc,od,kV,doc,pm,an,cdv,ct,osl,rfl,lk,hcd⟩:=F.ex
 exact .of_eq (Qaa0 _ _ _ _ _ _ [v] rfl)
theorem Qbj {xs:List Df} {d:Df} (i:Nat) (h:xs[i]?=some d):d∈xs:=List.mem_of_getElem? h
theorem Qabq {l:PySem.W.OpenLaw} {fa:Addr} (hfa:mg "law" = some (.ref fa)) (tx:Txt K mg) (dl:Dfn K mg "law" Qk3) (dc:Dfn K mg "_law_cell" Qer) (D:∀ d∈ds,Dfn K mg d.x d.st) :
  ∃ fd:FuncData,(∀ (s:Shared) (v:Value),BindsTo s fd ⟨[v],[]⟩ [("_law_script",v)])∧∀ base:Heap,K.In base→base.Ns mainGlobals mg→FnOk l.prog w K mg base CX0 30 fa fd ["_law_script"] (Qto K):=by
 obtain ⟨f,fd,F,m⟩:=dl.ex
 have e:=hfa.symm.trans m
 cases e
 refine ⟨fd,Q5o F,fun base _ _=>?_⟩
 have A:Q4n (fun d=>DfOk K mg d∧Qa9 l.prog w K mg base ds d) ds:=⟨⟨⟨D _ (Qbj 0 rfl),Qrn,Qro,rfl,rfl⟩,Qt0 tx⟩,⟨⟨D _ (Qbj 1 rfl),Qxe,Qxf,rfl,rfl⟩,Q1d tx⟩,⟨⟨D _ (Qbj 2 rfl),Qtv,Qtw,rfl,rfl⟩,Qxj tx⟩,⟨⟨D _ (Qbj 3 rfl),Qnc,Qnd,rfl,rfl⟩,Qpp tx⟩,⟨⟨D _ (Qbj 4 rfl),Qcy,Qk8,rfl,rfl⟩,Qmw tx⟩,⟨⟨D _ (Qbj 5 rfl),Qkd,Qke,rfl,rfl⟩,Qlb tx⟩,⟨⟨D _ (Qbj 6 rfl),Qml,Qmm,rfl,rfl⟩,Qnk tx⟩,⟨⟨D _ (Qbj 7 rfl),Qjm,Qph,rfl,rfl⟩,Qr1 tx⟩,⟨⟨D _ (Qbj 8 rfl),Qdy,Qhl,rfl,rfl⟩,Qh5 tx⟩,⟨⟨D _ (Qbj 9 rfl),Qgg,Qpi,rfl,rfl⟩,Qr2 tx⟩,⟨⟨D _ (Qbj 10 rfl),Qpj,Qpk,rfl,rfl⟩,Qr3 tx⟩,⟨⟨D _ (Qbj 11 rfl),Qif,Qne,rfl,rfl⟩,Qpq tx⟩,⟨⟨D _ (Qbj 12 rfl),Qmn,Qtx,rfl,rfl⟩,Qxk tx⟩,⟨⟨D _ (Qbj 13 rfl),Qdz,Qrr,rfl,rfl⟩,Qt1 tx⟩,⟨⟨D _ (Qbj 14 rfl),Qjn,Qjo,rfl,rfl⟩,Qr4 tx⟩,⟨⟨D _ (Qbj 15 rfl),Qmo,Qty,rfl,rfl⟩,Qxl tx⟩,⟨⟨D _ (Qbj 16 rfl),Qb0,Qnf,rfl,rfl⟩,Qpr tx⟩,⟨⟨D _ (Qbj 17 rfl),Qng,Qnh,rfl,rfl⟩,Qps tx⟩,⟨⟨D _ (Qbj 18 rfl),Qk9,Qla,rfl,rfl⟩,Qmx tx⟩,⟨⟨D _ (Qbj 19 rfl),Qrt,Qru,rfl,rfl⟩,Qt2 tx⟩,⟨⟨D _ (Qbj 20 rfl),Qf3,Qkf,rfl,rfl⟩,Qlc tx⟩,⟨⟨D _ (Qbj 21 rfl),Qc8,Qrv,rfl,rfl⟩,Qt3 tx⟩,⟨⟨D _ (Qbj 22 rfl),Qk2,Qrw,rfl,rfl⟩,Qt4 tx⟩,⟨⟨D _ (Qbj 23 rfl),Qgl,Qpl,rfl,rfl⟩,Qr5 tx⟩,⟨⟨D _ (Qbj 24 rfl),Qa3,Qni,rfl,rfl⟩,Qpt tx⟩,⟨⟨D _ (Qbj 25 rfl),Qhm,Qmp,rfl,rfl⟩,Qnl tx⟩,trivial⟩
 have hc:=Qoc (Qpc A) 14
 refine ok_q (k:=29) F Qgm (fun vs H Q E h=>?_) (fun cdv A outer s H vs Q E hr h=>?_)
 ·obtain ⟨a,ns,rfl,_⟩:=h
  rfl
 ·exact ⟨_,Qaev tx hc (Qpu dc tx) hr,Q4u h (by decide) (by decide) Q5k Q1z⟩
end
end My
noncomputable def PySem.W.Fast.tw848000211243150771:Unit:=()
noncomputable def PySem.W.Fast.tw15797151811196254399:Unit:=()
noncomputable def PySem.W.Fast.tw1120196528060972778:Unit:=()
noncomputable def PySem.W.Fast.tw3792967880200175984:Unit:=()
noncomputable def PySem.W.Fast.tw14307950086853343591:Unit:=()
noncomputable def PySem.W.Fast.tw7923450701992961961:Unit:=()
noncomputable def PySem.W.Fast.tw13554395505825507322:Unit:=()
noncomputable def PySem.W.Fast.tw17406053910911101207:Unit:=()
noncomputable def PySem.W.Fast.tw8829496866566031403:Unit:=()
noncomputable def PySem.W.Fast.tw2530320990490340338:Unit:=()
noncomputable def PySem.W.Fast.tw15308726164722441150:Unit:=()
noncomputable def PySem.W.Fast.tw16812090911170614310:Unit:=()
noncomputable def PySem.W.Fast.tw8762888481940968388:Unit:=()
noncomputable def PySem.W.Fast.tw4739397045286362682:Unit:=()
noncomputable def PySem.W.Fast.tw8945177240444813092:Unit:=()
noncomputable def PySem.W.Fast.tw6459363688335360953:Unit:=()
noncomputable def PySem.W.Fast.tw18132012783773861250:Unit:=()
noncomputable def PySem.W.Fast.tw2716039458893809356:Unit:=()
noncomputable def PySem.W.Fast.tw9647153332758014610:Unit:=()
noncomputable def PySem.W.Fast.tw5104265225938982552:Unit:=()
noncomputable def PySem.W.Fast.tw5853404243136655314:Unit:=()
noncomputable def PySem.W.Fast.tw16782614475987461418:Unit:=()
noncomputable def PySem.W.Fast.tw2888077322078237456:Unit:=()
noncomputable def PySem.W.Fast.tw12918930916663974871:Unit:=()
noncomputable def PySem.W.Fast.tw10270187058132716785:Unit:=()
noncomputable def PySem.W.Fast.tw56877778569240941:Unit:=()
noncomputable def PySem.W.Fast.tw9795392699789989134:Unit:=()
noncomputable def PySem.W.Fast.tw6913212099209804613:Unit:=()
noncomputable def PySem.W.Fast.tw2326286947016702828:Unit:=()
noncomputable def PySem.W.Fast.tw8538493624873287991:Unit:=()
noncomputable def PySem.W.Fast.tw1640127316013036981:Unit:=()
noncomputable def PySem.W.Fast.tw11182287128059678959:Unit:=()
noncomputable def PySem.W.Fast.tw14520043144371252113:Unit:=()
noncomputable def PySem.W.Fast.tw2394348324268942432:Unit:=()
noncomputable def PySem.W.Fast.tw1774109117461495375:Unit:=()
noncomputable def PySem.W.Fast.tw12566799454126446182:Unit:=()
noncomputable def PySem.W.Fast.tw12739472680397891514:Unit:=()
noncomputable def PySem.W.Fast.tw7286255884308956652:Unit:=()
noncomputable def PySem.W.Fast.tw3340483019479473739:Unit:=()
noncomputable def PySem.W.Fast.tw4440894955397964332:Unit:=()
noncomputable def PySem.W.Fast.tw8120913054734772111:Unit:=()
noncomputable def PySem.W.Fast.tw12436571507044628233:Unit:=()
noncomputable def PySem.W.Fast.tw7351478812492534198:Unit:=()
noncomputable def PySem.W.Fast.tw12211055444379000879:Unit:=()
noncomputable def PySem.W.Fast.tw17408433982043006573:Unit:=()
noncomputable def PySem.W.Fast.tw11396598970093218596:Unit:=()
noncomputable def PySem.W.Fast.tw9389359749303463861:Unit:=()
noncomputable def PySem.W.Fast.tw11458552097151164378:Unit:=()
noncomputable def PySem.W.Fast.tw18124107506546061330:Unit:=()
noncomputable def PySem.W.Fast.tw5732386230242535965:Unit:=()
noncomputable def PySem.W.Fast.tw11100734816110791180:Unit:=()
noncomputable def PySem.W.Fast.tw12787382817084786281:Unit:=()
noncomputable def PySem.W.Fast.tw15940202698383770822:Unit:=()
noncomputable def PySem.W.Fast.tw5103485335230586691:Unit:=()
noncomputable def PySem.W.Fast.tw18114976094963119752:Unit:=()
noncomputable def PySem.W.Fast.tw4371090682198688411:Unit:=()
noncomputable def PySem.W.Fast.tw16869978070862686594:Unit:=()
noncomputable def PySem.W.Fast.tw8032069872207045578:Unit:=()
noncomputable def PySem.W.Fast.tw5483543576188322129:Unit:=()
noncomputable def PySem.W.Fast.tw11526692656164054054:Unit:=()
noncomputable def PySem.W.Fast.tw12632757482303338480:Unit:=()
noncomputable def PySem.W.Fast.tw6990716071146365912:Unit:=()
noncomputable def PySem.W.Fast.tw15057613873713733393:Unit:=()
noncomputable def PySem.W.Fast.tw13622009577078276419:Unit:=()
noncomputable def PySem.W.Fast.tw11465539319290871985:Unit:=()
noncomputable def PySem.W.Fast.tw11758880403874953292:Unit:=()
noncomputable def PySem.W.Fast.tw15227648154158224075:Unit:=()
noncomputable def PySem.W.Fast.tw9385151378405236361:Unit:=()
noncomputable def PySem.W.Fast.tw16211259673403569131:Unit:=()
noncomputable def PySem.W.Fast.tw7609092726634190922:Unit:=()
noncomputable def PySem.W.Fast.tw17829192975275600395:Unit:=()
noncomputable def PySem.W.Fast.tw18357240536768561577:Unit:=()
noncomputable def PySem.W.Fast.tw6260051288836996740:Unit:=()
noncomputable def PySem.W.Fast.tw15469575907564841223:Unit:=()
noncomputable def PySem.W.Fast.tw16352988330211745564:Unit:=()
noncomputable def PySem.W.Fast.tw13212246063651428364:Unit:=()
noncomputable def PySem.W.Fast.tw11456639631755176538:Unit:=()
noncomputable def PySem.W.Fast.tw1256171232624771235:Unit:=()
noncomputable def PySem.W.Fast.tw13331125800905807674:Unit:=()
noncomputable def PySem.W.Fast.tw856134928941298276:Unit:=()
noncomputable def PySem.W.Fast.tw1210049606816744162:Unit:=()
noncomputable def PySem.W.Fast.tw13156626817840073588:Unit:=()
noncomputable def PySem.W.Fast.tw16566880513293175908:Unit:=()
noncomputable def PySem.W.Fast.tw3198215716138545784:Unit:=()
noncomputable def PySem.W.Fast.tw11977805549274496486:Unit:=()
noncomputable def PySem.W.Fast.tw7779146967409583015:Unit:=()
noncomputable def PySem.W.Fast.tw14094039193858929553:Unit:=()
noncomputable def PySem.W.Fast.tw8529815991087351644:Unit:=()
noncomputable def PySem.W.Fast.tw4134498504924110280:Unit:=()
noncomputable def PySem.W.Fast.tw6445287126907898249:Unit:=()
noncomputable def PySem.W.Fast.tw6804490873693743217:Unit:=()
noncomputable def PySem.W.Fast.tw4007513014812412080:Unit:=()
noncomputable def PySem.W.Fast.tw4548740310517871003:Unit:=()
noncomputable def PySem.W.Fast.tw11859729961251880627:Unit:=()
noncomputable def PySem.W.Fast.tw16756459987818816915:Unit:=()
noncomputable def PySem.W.Fast.tw16589053853216684539:Unit:=()
noncomputable def PySem.W.Fast.tw10792993641478931443:Unit:=()
noncomputable def PySem.W.Fast.tw17336321086581875564:Unit:=()
noncomputable def PySem.W.Fast.tw1854430992609442352:Unit:=()
noncomputable def PySem.W.Fast.tw3051875618705938149:Unit:=()
noncomputable def PySem.W.Fast.tw9443750637989637211:Unit:=()
noncomputable def PySem.W.Fast.tw7355789766353011104:Unit:=()
noncomputable def PySem.W.Fast.tw9426056961661894484:Unit:=()
noncomputable def PySem.W.Fast.tw9398526145206394257:Unit:=()
noncomputable def PySem.W.Fast.tw5001062581790077836:Unit:=()
noncomputable def PySem.W.Fast.tw4774373707452295965:Unit:=()
noncomputable def PySem.W.Fast.tw842707269548170600:Unit:=()
noncomputable def PySem.W.Fast.tw14485609722225357698:Unit:=()
noncomputable def PySem.W.Fast.tw8797300218889703359:Unit:=()
noncomputable def PySem.W.Fast.tw4354152660241668547:Unit:=()
noncomputable def PySem.W.Fast.tw3286173891248565083:Unit:=()
noncomputable def PySem.W.Fast.tw8535359329572970520:Unit:=()
noncomputable def PySem.W.Fast.tw4252213526767073374:Unit:=()
noncomputable def PySem.W.Fast.tw8993283646544628925:Unit:=()
noncomputable def PySem.W.Fast.tw4734929160820264716:Unit:=()
noncomputable def PySem.W.Fast.tw4007375076659084545:Unit:=()
noncomputable def PySem.W.Fast.tw16819932335117779916:Unit:=()
noncomputable def PySem.W.Fast.tw16157700968455437629:Unit:=()
noncomputable def PySem.W.Fast.tw13622884578095971297:Unit:=()
noncomputable def PySem.W.Fast.tw5364364824994474179:Unit:=()
noncomputable def PySem.W.Fast.tw11381006948378245587:Unit:=()
noncomputable def PySem.W.Fast.tw11464690335804495272:Unit:=()
noncomputable def PySem.W.Fast.tw15330221811700481555:Unit:=()
noncomputable def PySem.W.Fast.tw8315894769095013682:Unit:=()
noncomputable def PySem.W.Fast.tw4019945128330032745:Unit:=()
noncomputable def PySem.W.Fast.tw7811439555167474763:Unit:=()
noncomputable def PySem.W.Fast.tw13568912012829219307:Unit:=()
noncomputable def PySem.W.Fast.tw17765276609484103411:Unit:=()
noncomputable def PySem.W.Fast.tw9654842539782754776:Unit:=()
noncomputable def PySem.W.Fast.tw10182100735759646577:Unit:=()
noncomputable def PySem.W.Fast.tw15466216204664934539:Unit:=()
noncomputable def PySem.W.Fast.tw18308601227746266840:Unit:=()
noncomputable def PySem.W.Fast.tw7581033589861761575:Unit:=()
noncomputable def PySem.W.Fast.tw8315392525121543652:Unit:=()
noncomputable def PySem.W.Fast.tw7688312120249300613:Unit:=()
noncomputable def PySem.W.Fast.tw10075555715471030761:Unit:=()
noncomputable def PySem.W.Fast.tw13269794570403798222:Unit:=()
noncomputable def PySem.W.Fast.tw3056198610770327291:Unit:=()
noncomputable def PySem.W.Fast.tw11289079927584753491:Unit:=()
noncomputable def PySem.W.Fast.tw2341024972123932540:Unit:=()
noncomputable def PySem.W.Fast.tw4726908035097294886:Unit:=()
noncomputable def PySem.W.Fast.tw15364865153271617717:Unit:=()
noncomputable def PySem.W.Fast.tw11045158749124218416:Unit:=()
noncomputable def PySem.W.Fast.tw6211322394978634307:Unit:=()
noncomputable def PySem.W.Fast.tw15010060010627956842:Unit:=()
noncomputable def PySem.W.Fast.tw14395804655467428688:Unit:=()
noncomputable def PySem.W.Fast.tw14936945495067744026:Unit:=()
noncomputable def PySem.W.Fast.tw4312077610780265786:Unit:=()
noncomputable def PySem.W.Fast.tw10408132702690259399:Unit:=()
noncomputable def PySem.W.Fast.tw17756379605024642627:Unit:=()
noncomputable def PySem.W.Fast.tw12393891797320451880:Unit:=()
noncomputable def PySem.W.Fast.tw8815808091159765549:Unit:=()
noncomputable def PySem.W.Fast.tw8105587657993245610:Unit:=()
noncomputable def PySem.W.Fast.tw10961269460366495012:Unit:=()
noncomputable def PySem.W.Fast.tw3526935173876267854:Unit:=()
noncomputable def PySem.W.Fast.tw15782576032792279059:Unit:=()
noncomputable def PySem.W.Fast.tw2413112118440865146:Unit:=()
noncomputable def PySem.W.Fast.tw3725620026384402322:Unit:=()
noncomputable def PySem.W.Fast.tw9909654089942698801:Unit:=()
noncomputable def PySem.W.Fast.tw16300714642283386116:Unit:=()
noncomputable def PySem.W.Fast.tw12742561314071627826:Unit:=()
noncomputable def PySem.W.Fast.tw7254734543233216021:Unit:=()
noncomputable def PySem.W.Fast.tw11693942280258310771:Unit:=()
noncomputable def PySem.W.Fast.tw5325532078086195191:Unit:=()
noncomputable def PySem.W.Fast.tw706879468929547455:Unit:=()
noncomputable def PySem.W.Fast.tw17784381433549333627:Unit:=()
noncomputable def PySem.W.Fast.tw1099613837412251331:Unit:=()
noncomputable def PySem.W.Fast.tw42092942631810000:Unit:=()
noncomputable def PySem.W.Fast.tw4466803623139850636:Unit:=()
noncomputable def PySem.W.Fast.tw14232699338323830267:Unit:=()
noncomputable def PySem.W.Fast.tw14445889077850056210:Unit:=()
noncomputable def PySem.W.Fast.tw16804126215402235974:Unit:=()
noncomputable def PySem.W.Fast.tw14497601179628820139:Unit:=()
noncomputable def PySem.W.Fast.tw4631953583137656718:Unit:=()
noncomputable def PySem.W.Fast.tw11721897998491137510:Unit:=()
noncomputable def PySem.W.Fast.tw8085380848166337879:Unit:=()
noncomputable def PySem.W.Fast.tw12468861187292102032:Unit:=()
noncomputable def PySem.W.Fast.tw13097366976780722452:Unit:=()
noncomputable def PySem.W.Fast.tw2264185366211170421:Unit:=()
noncomputable def PySem.W.Fast.tw3776948539500575778:Unit:=()
noncomputable def PySem.W.Fast.tw5228618562497768653:Unit:=()
noncomputable def PySem.W.Fast.tw3810158209637159442:Unit:=()
noncomputable def PySem.W.Fast.tw11834202583481224244:Unit:=()
noncomputable def PySem.W.Fast.tw18240845228579654592:Unit:=()
noncomputable def PySem.W.Fast.tw5824763625999491372:Unit:=()
noncomputable def PySem.W.Fast.tw8366544093951619093:Unit:=()
noncomputable def PySem.W.Fast.tw1131687920475246582:Unit:=()
noncomputable def PySem.W.Fast.tw2495641316487707129:Unit:=()
noncomputable def PySem.W.Fast.tw12850163930998866896:Unit:=()
noncomputable def PySem.W.Fast.tw18322651541811882103:Unit:=()
noncomputable def PySem.W.Fast.tw18094707260892675172:Unit:=()
noncomputable def PySem.W.Fast.tw10856905064732536965:Unit:=()
noncomputable def PySem.W.Fast.tw13663578210010289471:Unit:=()
noncomputable def PySem.W.Fast.tw12974035018187122137:Unit:=()
noncomputable def PySem.W.Fast.tw2971322576479492178:Unit:=()
noncomputable def PySem.W.Fast.tw10862146666245681612:Unit:=()
noncomputable def PySem.W.Fast.tw15405251190861356752:Unit:=()
noncomputable def PySem.W.Fast.tw1560262201524223779:Unit:=()
noncomputable def PySem.W.Fast.tw13854188156604057862:Unit:=()
noncomputable def PySem.W.Fast.tw14667968413715005946:Unit:=()
noncomputable def PySem.W.Fast.tw3611979550858553254:Unit:=()
noncomputable def PySem.W.Fast.tw10260924168907652605:Unit:=()
noncomputable def PySem.W.Fast.tw430177871648416754:Unit:=()
noncomputable def PySem.W.Fast.tw12406690624158098386:Unit:=()
noncomputable def PySem.W.Fast.tw12345098346971647045:Unit:=()
noncomputable def PySem.W.Fast.tw12805224974930204941:Unit:=()
noncomputable def PySem.W.Fast.tw14746876238018781156:Unit:=()
noncomputable def PySem.W.Fast.tw13264506301506565199:Unit:=()
noncomputable def PySem.W.Fast.tw186252858432744331:Unit:=()
noncomputable def PySem.W.Fast.tw4382330563939548658:Unit:=()
noncomputable def PySem.W.Fast.tw9577145601685795570:Unit:=()
noncomputable def PySem.W.Fast.tw7707710411191389884:Unit:=()
noncomputable def PySem.W.Fast.tw7054511784984021302:Unit:=()
noncomputable def PySem.W.Fast.tw13225110202229146082:Unit:=()
noncomputable def PySem.W.Fast.tw7151185319843146193:Unit:=()
noncomputable def PySem.W.Fast.tw4723375813054841451:Unit:=()
noncomputable def PySem.W.Fast.tw13329097477027798582:Unit:=()
noncomputable def PySem.W.Fast.tw7800503145962640439:Unit:=()
noncomputable def PySem.W.Fast.tw1608530314437064878:Unit:=()
noncomputable def PySem.W.Fast.tw338274412258107848:Unit:=()
noncomputable def PySem.W.Fast.tw16674938942843740442:Unit:=()
noncomputable def PySem.W.Fast.tw15564077970569066118:Unit:=()
noncomputable def PySem.W.Fast.tw12812215204580814776:Unit:=()
noncomputable def PySem.W.Fast.tw5071775319920707409:Unit:=()
open PySem PySem.W PyProof.Rows
set_option maxRecDepth 100000 in
set_option maxHeartbeats 0 in
theorem PySem.Challenge.cw_noughtways_k73_tables_written_and_read_holds : PySem.Challenge.rw_noughtways_k73_tables_written_and_read.Holds := by
 w_on;o_law;k_head;(case hw=>w_witness2)
 k_fill
 refine L2.Qyp (l:=PySem.Challenge.rw_noughtways_k73_tables_written_and_read) (n:=63) (k:=30) (x := "_law_script") (CX:=L2.CX0) (sp:=L2.Qto) rfl (by decide) rfl ⟨rfl,by decide,by decide,rfl⟩ (fun w h Y=>PySem.W.kIn_of Y) ?F ?S ?C ?T
 case F =>
  intro w mg fa h KX G hmg
  have d0:L2.Dfn (L2.KOf KX) mg "law" My.Qk3:=by(dsimp only [L2.KOf];refine' My.Qp6 KX G ?a ?l ?c ?k;(case a=>k_is);(case l=>k_is);(case c=>k_is);(case k=>k_is))
  have d1:L2.Dfn (L2.KOf KX) mg "_law_cell" My.Qer:=by(dsimp only [L2.KOf];refine' My.Qp6 KX G ?a ?l ?c ?k;(case a=>k_is);(case l=>k_is);(case c=>k_is);(case k=>k_is))
  have D:L2.Q4n (fun d=>L2.Dfn (L2.KOf KX) mg d.x d.st) My.ds:=by
   refine ⟨(?_:L2.Dfn (L2.KOf KX) mg "is_whole" My.Qgf),(?_:L2.Dfn (L2.KOf KX) mg "is_row" My.Qjl),(?_:L2.Dfn (L2.KOf KX) mg "is_grid" My.Qhy),(?_:L2.Dfn (L2.KOf KX) mg "need_table" My.Qeg),(?_:L2.Dfn (L2.KOf KX) mg "number_shown" My.Qdf),(?_:L2.Dfn (L2.KOf KX) mg "numbers_shown" My.Qcz),(?_:L2.Dfn (L2.KOf KX) mg "table_shown" My.Qdp),(?_:L2.Dfn (L2.KOf KX) mg "is_number" My.Qfa),(?_:L2.Dfn (L2.KOf KX) mg "is_row_of_numbers" My.Qb1),(?_:L2.Dfn (L2.KOf KX) mg "wrong_row" My.Qfb),(?_:L2.Dfn (L2.KOf KX) mg "need_text" My.Qfc),(?_:L2.Dfn (L2.KOf KX) mg "table_read" My.Qeh),(?_:L2.Dfn (L2.KOf KX) mg "_law_pen" My.Qhz),(?_:L2.Dfn (L2.KOf KX) mg "_law_draw" My.Qgh),(?_:L2.Dfn (L2.KOf KX) mg "_law_whole" My.Qc7),(?_:L2.Dfn (L2.KOf KX) mg "_law_odd" My.Qh0),(?_:L2.Dfn (L2.KOf KX) mg "_law_tables" My.Qei),(?_:L2.Dfn (L2.KOf KX) mg "_law_number" My.Qej),(?_:L2.Dfn (L2.KOf KX) mg "_law_table_is" My.Qdg),(?_:L2.Dfn (L2.KOf KX) mg "_law_text" My.Qgi),(?_:L2.Dfn (L2.KOf KX) mg "_law_number_in" My.Qc0),(?_:L2.Dfn (L2.KOf KX) mg "_law_read" My.Qgj),(?_:L2.Dfn (L2.KOf KX) mg "_law_told" My.Qgk),(?_:L2.Dfn (L2.KOf KX) mg "_law_right" My.Qfd),(?_:L2.Dfn (L2.KOf KX) mg "_law_spoilt" My.Qek),(?_:L2.Dfn (L2.KOf KX) mg "_law_refused" My.Qdq),trivial⟩ <;> (dsimp only [L2.KOf];refine' My.Qp6 KX G ?a ?l ?c ?k;(case a=>k_is);(case l=>k_is);(case c=>k_is);(case k=>k_is))
  have y0:∃ u,mg "FIGURES" = some u∧L2.RelV (L2.V.str "0123456789") u:=by
   refine' L2.Qaad (K:=L2.KOf KX) KX G ?a
   (case a=>(try dsimp only [L2.KOf]);k_is)
  have y1:∃ u,mg "MOST_FIGURES" = some u∧L2.RelV (L2.V.int (12)) u:=by
   refine' My.Q10 (K:=L2.KOf KX) KX G ?a
   (case a=>(try dsimp only [L2.KOf]);k_is)
  have y2:∃ u,mg "MOST_ROWS" = some u∧L2.RelV (L2.V.int (4)) u:=by
   refine' My.Q10 (K:=L2.KOf KX) KX G ?a
   (case a=>(try dsimp only [L2.KOf]);k_is)
  have zx:L2.Exs (L2.KOf KX) mg:=by
   dsimp only [L2.KOf]
   refine' L2.Q84 KX G ?e0 ?e1 ?e2 ?e3 ?e4 ?e5 ?e6 ?e7 ?e8 ?e9 ?e10 ?ok
   (case e0=>k_is);(case e1=>k_is);(case e2=>k_is);(case e3=>k_is);(case e4=>k_is);(case e5=>k_is);(case e6=>k_is);(case e7=>k_is);(case e8=>k_is);(case e9=>k_is);(case e10=>k_is)
   (case ok=>kernel_rfl)
  have zi_NoText:L2.Ini (L2.KOf KX) (L2.cad mg "NoughtError") (L2.cad mg "NoText"):=by
   dsimp only [L2.KOf]
   refine' L2.Q88 (st:=My.Qcu) (x := "NoText") KX G ?e0 ?e1 ?lc ?fi ?l ?c ?k My.Qms (by rfl) (by rfl) My.Qmt (by rfl) ?ok
   (case e0=>k_is);(case e1=>k_is);(case lc=>k_is);(case fi=>(dsimp only;k_is));(case l=>k_is);(case c=>k_is);(case k=>k_is)
   (case ok=>kernel_rfl)
  have dk:L2.Dfn (L2.KOf KX) mg "_law_kind" My.Qes:=by
   dsimp only [L2.KOf]
   refine' My.Qp6 KX G ?a ?l ?c ?k
   (case a=>k_is);(case l=>k_is);(case c=>k_is);(case k=>k_is)
  have tx:My.Txt (L2.KOf KX) mg:=⟨(by refine PySem.W.mg_none_of KX G ?_;(try dsimp only [L2.KOf]);k_is),(by refine PySem.W.mg_none_of KX G ?_;(try dsimp only [L2.KOf]);k_is),(by refine PySem.W.mg_none_of KX G ?_;(try dsimp only [L2.KOf]);k_is),(by refine PySem.W.mg_none_of KX G ?_;(try dsimp only [L2.KOf]);k_is),(by refine PySem.W.mg_none_of KX G ?_;(try dsimp only [L2.KOf]);k_is),(by refine PySem.W.mg_none_of KX G ?_;(try dsimp only [L2.KOf]);k_is),(by refine PySem.W.mg_none_of KX G ?_;(try dsimp only [L2.KOf]);k_is),(by refine PySem.W.mg_none_of KX G ?_;(try dsimp only [L2.KOf]);k_is),(by refine PySem.W.mg_none_of KX G ?_;(try dsimp only [L2.KOf]);k_is),(by refine PySem.W.mg_none_of KX G ?_;(try dsimp only [L2.KOf]);k_is),(by refine PySem.W.mg_none_of KX G ?_;(try dsimp only [L2.KOf]);k_is),(by refine PySem.W.mg_none_of KX G ?_;(try dsimp only [L2.KOf]);k_is),(by refine PySem.W.mg_none_of KX G ?_;(try dsimp only [L2.KOf]);k_is),(by refine PySem.W.mg_none_of KX G ?_;(try dsimp only [L2.KOf]);k_is),y0,y1,y2,zx,zi_NoText,dk,(L2.Qpc D 14 _ rfl)⟩
  refine My.Qabq hmg tx d0 d1 fun d hd=>?_
  obtain ⟨n,e⟩:=List.mem_iff_getElem?.mp hd
  exact (L2.Qpc D n d e)
 case S=>exact fun K H a ns hl _ hS=>⟨a,ns,rfl,hS,hl,fun _=>rfl⟩
 case C=>exact fun _ _ _ _ z=>z
 case T=>exact fun w a q=>L2.Qaeu (by first | kernel_rfl | exact rfl | decide) a q
