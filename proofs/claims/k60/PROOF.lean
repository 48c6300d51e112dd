import PyProof.Rows.All
import Wide.All
import OpenK.AllK
import Wide.FinOn
import PyProof.DictFindH
import PyProof.DictRoadsH
import Lean
import PyProof.EqAt
import PyProof.EqKinds
import PyProof.TupleCall
import PyProof.NeKinds
import PyProof.ListRange
import PyProof.TupleOfSeq
import KE.KSortTup
import PyProof.TupleKey
import PyProof.Rows.SetFrom
import PyProof.SetRoads
import KE.KDictList
import KE.KDictOf
import PyProof.AttrMiss
import PyProof.IsiH_list
import PyProof.AutoListH
import PySem.Challenge.RW_noughtways_k60_tables_changed
set_option Elab.async false
set_option linter.all false
set_option maxRecDepth 100000
open List (all_cons all_eq_true all_map all_nil any_cons append_assoc append_nil forIn_nil getD_eq_getElem?_getD getElem?_cons_succ getElem?_cons_zero getElem?_eq_getElem getElem?_map getElem?_replicate getElem?_set_ne getElem?_set_self getElem_mem length_append length_cons length_drop length_map length_nil length_range length_replicate length_set length_singleton length_take length_zip length_zipWith map_append map_congr_left map_cons map_map map_nil map_set mem_append mem_append_right mem_cons mem_cons_of_mem mem_cons_self mem_map mem_of_getElem? mem_of_mem_drop mem_of_mem_take mem_or_eq_of_mem_set mem_range mem_singleton nodup_cons not_mem_nil replicate_succ size_toArray)
namespace L2
open PySem
section
variable {prog:Program} {w:World} {K:Type} [DecidableEq K] {knd:HeapKind prog w K} {A:Around} {E:Value→Shared→Prop} {s:Shared}
end
open PySem PySem.Spec PyProof.Rows
noncomputable abbrev Key:=Sum Int Str
noncomputable def Qnr:Key→Value→Bool
 | .inl k,v=>Value.isInt k v
 | .inr x,v=>Value.isStrOf x v
noncomputable def keyH (w:World):Key→Int
 | .inl k=>hashInt k
 | .inr x=>hashStr w x
theorem Qby:∀ {k:Key} {v:Value},Qnr k v=true→(∃ i t,k=Sum.inl i∧v=Value.int i t)∨(∃ x t,k=Sum.inr x∧v=Value.str x t)
 | .inl i,v,h=>by
  obtain ⟨t,e⟩:=Value.isInt_shape (k:=i) (v:=v) h
  exact .inl ⟨i,t,rfl,e⟩
 | .inr x,v,h=>by
  obtain ⟨t,e⟩:=Value.isStrOf_shape (x:=x) (v:=v) h
  exact .inr ⟨x,t,rfl,e⟩
theorem Qvt (i:Int) (t:Tok):Qnr (.inl i) (.int i t)=true:=by simp [Qnr,Value.isInt]
theorem Qvu (x:Str) (t:Tok):Qnr (.inr x) (.str x t)=true:=by simp [Qnr,Value.isStrOf]
theorem Q5f (a b:Int):decide ((Sum.inl a:Key)=Sum.inl b)=(a==b):=by
 by_cases e:a=b
 ·subst e;simp
 ·have h:¬ (Sum.inl a:Key)=Sum.inl b:=fun q=>e (Sum.inl.inj q)
  rw [decide_eq_false h]
  exact (beq_eq_false_iff_ne.mpr e).symm
theorem Q5g (a b:Str):decide ((Sum.inr a:Key)=Sum.inr b)=decide (a=b):=by
 by_cases e:a=b
 ·subst e;simp
 ·have h:¬ (Sum.inr a:Key)=Sum.inr b:=fun q=>e (Sum.inr.inj q)
  rw [decide_eq_false h,decide_eq_false e]
theorem Q5h (a:Int) (b:Str):decide ((Sum.inl a:Key)=Sum.inr b)=false:=decide_eq_false (fun q=>nomatch q)
theorem Q5i (a:Str) (b:Int):decide ((Sum.inr a:Key)=Sum.inl b)=false:=decide_eq_false (fun q=>nomatch q)
noncomputable def Qd1 (prog:Program) (w:World):PySem.KeyKind prog w Key where
 is:=Qnr
 hash:=keyH w
 inj:=fun v a b ha hb=>by
  rcases Qby ha with ⟨i,t,rfl,rfl⟩ | ⟨x,t,rfl,rfl⟩
  ·rcases Qby hb with ⟨j,u,rfl,e⟩ | ⟨y,u,rfl,e⟩
   ·injection e with e1 _;rw [e1]
   ·exact nomatch e
  ·rcases Qby hb with ⟨j,u,rfl,e⟩ | ⟨y,u,rfl,e⟩
   ·exact nomatch e
   ·injection e with e1 _;rw [e1]
 byValue:=fun k v h=>by
  rcases Qby h with ⟨i,t,rfl,rfl⟩ | ⟨x,t,rfl,rfl⟩ <;> rfl
 pyHash:=fun hv h=>by
  rcases Qby hv with ⟨i,t,rfl,rfl⟩ | ⟨x,t,rfl,rfl⟩
  ·exact wpAny_pyHash_int h
  ·exact wpAny_pyHash_str h
 eqBool:=fun hu hv h=>by
  rcases Qby hu with ⟨i,t,rfl,rfl⟩ | ⟨x,t,rfl,rfl⟩
  ·rcases Qby hv with ⟨j,u,rfl,rfl⟩ | ⟨y,u,rfl,rfl⟩
   ·rw [Q5f] at h;exact wpAny_eqBool_int h
   ·rw [Q5h] at h;exact SeqAt.EqAt.int_str i t y u _ _ _ _ h
  ·rcases Qby hv with ⟨j,u,rfl,rfl⟩ | ⟨y,u,rfl,rfl⟩
   ·rw [Q5i] at h;exact SeqAt.EqAt.str_int x t j u _ _ _ _ h
   ·rw [Q5g] at h;exact wpAny_eqBool_str h
 «strs»:=fun k x t v h=>by
  rcases Qby h with ⟨i,u,rfl,e⟩ | ⟨y,u,rfl,e⟩
  ·exact nomatch e
  ·injection e with e1 _
   subst e1
   cases v <;> rfl
theorem Qqd (prog:Program) (w:World) (i:Int) (t:Tok):(Qd1 prog w).is (.inl i) (.int i t)=true:=Qvt i t
theorem Qqe (prog:Program) (w:World) (x:Str) (t:Tok):(Qd1 prog w).is (.inr x) (.str x t)=true:=Qvu x t
inductive V where
 | non | bl (b:Bool) | int (i:Int) | str (x:Str) | byt (b:Array UInt8) | flt (b:UInt64) | ref (a:Addr) | ty (n:String)
 deriving DecidableEq
def RelV:V→Value→Prop
 | .non,u=>u=Value.none
 | .bl b,u=>u=Value.bool b
 | .int i,u=>∃ t,u=Value.int i t
 | .str x,u=>∃ t,u=Value.str x t
 | .byt b,u=>∃ t,u=Value.bytes b t
 | .flt b,u=>∃ t,u=Value.float b t
 | .ref a,u=>u=Value.ref a
 | .ty n,u=>u=Value.type n
abbrev Vals:List V→List Value→Prop:=Paired RelV
theorem Vals.length {xs:List V} {us:List Value} (r:Vals xs us):xs.length=us.length:=Paired.length r
theorem Vals.get:∀ {xs:List V} {us:List Value} {i:Nat} {x:V},Vals xs us→xs[i]?=some x→∃ u,us[i]?=some u∧RelV x u
 | _,_,_,_,.nil,e=>by simp at e
 | _,_,0,_,.cons r _,e=>by simp at e;subst e;exact ⟨_,rfl,r⟩
 | _,_,i+1,x,.cons _ t,e=>by
  obtain ⟨u,h1,h2⟩:=Vals.get (i:=i) (x:=x) t (by simpa using e)
  exact ⟨u,by simpa using h1,h2⟩
theorem Vals.set {x:V} {u:Value} (r:RelV x u):∀ {xs:List V} {us:List Value} (i:Nat),Vals xs us→Vals (xs.set i x) (us.set i u)
 | _,_,_,.nil=>.nil
 | _,_,0,.cons _ t=>.cons r t
 | _,_,i+1,.cons q t=>.cons q (Vals.set r i t)
theorem Vals.append:∀ {xs ys:List V} {us ws:List Value},Vals xs us→Vals ys ws→Vals (xs++ys) (us++ws)
 | _,_,_,_,.nil,s=>s
 | _,_,_,_,.cons r t,s=>.cons r (Vals.append t s)
theorem Vals.take:∀ {xs:List V} {us:List Value} (n:Nat),Vals xs us→Vals (xs.take n) (us.take n)
 | _,_,0,_=>.nil
 | _,_,_+1,.nil=>.nil
 | _,_,n+1,.cons r t=>.cons r (Vals.take n t)
theorem Vals.drop:∀ {xs:List V} {us:List Value} (n:Nat),Vals xs us→Vals (xs.drop n) (us.drop n)
 | _,_,0,r=>r
 | _,_,_+1,.nil=>.nil
 | _,_,n+1,.cons _ t=>Vals.drop n t
def RelO:Option V→Option Value→Prop
 | some v,some u=>RelV v u
 | none,none=>True
 | _,_=>False
def KV {κ:Type}:List (κ×V)→List (κ×Value)→Prop:=Paired fun (p:κ×V) (q:κ×Value)=>p.1=q.1∧RelV p.2 q.2
noncomputable def kV:Key→V
 | .inl i=>.int i
 | .inr x=>.str x
inductive HO where
  | lst (xs:List V)
  | tup (xs:List V)
  | dK (kvs:List (Key×V)) | dT (kvs:List (List Key×V))
  | set (S:Int→Bool) (n:Nat)
  | ins (C dx:Addr) (fs:List (Str×V))
  | own (x:Addr)
  | xd (fs:List (Str×V))
  | met (f x:Addr)
  | rng (lo hi:Int)
  | frz (o:Obj) (u:HO)
  | tbl (q:Str)
 | cod (q:Str)
  | ext (φ:Heap→Prop)
noncomputable abbrev Hp:=Addr→Option HO
noncomputable def upd (H:Hp) (a:Addr) (o:HO):Hp:=fun b=>if b=a then some o else H b
theorem Qp {H:Hp} {a:Addr} {o:HO}:upd H a o a=some o:=by unfold upd;rw [if_pos rfl]
theorem Q6 {H:Hp} {a b:Addr} {o:HO} (h:b≠a):upd H a o b=H b:=by unfold upd;rw [if_neg h]
theorem Qbs {H:Hp} {a b:Addr} {o:HO} (h:H a=some o) (h':H b=none):a≠b:=by
 intro e;subst e;rw [h] at h';cases h'
def IsTupD (h:Heap) (a:Addr) (its:Array Value):Prop:=∃ o,h.get? a=some o∧o.cls=.type "tuple" ∧ ∃ n,o.data=.seq its n∧o.dict=none
theorem IsTupD.tup {h:Heap} {a:Addr} {its:Array Value} (x:IsTupD h a its):IsTup h a its:=let ⟨o,e,c,n,d,_⟩:=x;⟨o,e,c,n,d⟩
theorem IsTupD.new (h:Heap) (its:Array Value):IsTupD (h.push { cls:=.type "tuple",data:=.seq its }) h.objs.size its:=⟨_,Heap.get?_push_size _ rfl,rfl,_,rfl,rfl⟩
section
variable (P:Program) (w:World)
def ObjOk (H:Hp) (h:Heap) (a:Addr):HO→Prop
 | .lst xs=>xs.length≤sizeLine∧∃ (its:List Value) (n:Nat),Vals xs its∧h.get? a=some { cls:=.type "list",data:=.seq its.toArray n }
 | .tup xs=>xs.length≤sizeLine∧∃ its:List Value,Vals xs its∧IsTupD h a its.toArray
 | .dK kvs=>kvs.length≤sizeLine∧(a==sysModules)=false∧∃ vs,KV kvs vs∧h.DictOf (Qd1 P w) a vs
 | .dT kvs=>kvs.length≤sizeLine∧(a==sysModules)=false∧∃ xs:List (List Key×Addr×Value),
   Paired (fun (p:List Key×V) (q:List Key×Addr×Value)=>p.1=q.1∧H q.2.1=some (.tup (p.1.map kV))∧RelV p.2 q.2.2) kvs xs ∧
   ∃ o es ep,h.get? a=some o∧o.ExactDict∧o.data=.dict es ep∧es.toList=xs.map (entryOfKey (tupleKind (Qd1 P w)))∧(xs.map (·.1)).Nodup∧ep=es.size
 | .set S n=>h.SetOf (intKind P w) a S n
 | .ins C dx fs=>H dx=some (.own a)∧fs.length≤1000∧dx≠a∧h.get? a=some (PySem.W.instObj C dx) ∧
   ∃ mA,h.Ns1 dx mA∧(∀ f,RelO (fs.lookup f) (mA f))∧PySem.Within mA (fs.map (·.1))
 | .own _=>∃ o,h.get? a=some o
 | .xd fs=>∃ mA,h.Ns1 a mA∧∀ f,RelO (fs.lookup f) (mA f)
 | .rng lo hi=>∃ t u v,h.get? a=some { cls:=.type "range",data:=.fields #[.int lo t,.int hi u,.int 1 v] }
 | .frz o u=>h.get? a=some o∧ObjOk H h a u
 | .tbl q=>∃ ps:Array Value,h.get? a=some { cls:=.none,data:=.fields ps }∧TriplesOk ps.toList∧∀ pos cv,codeAmong pos ps.toList=some cv→∃ c,cv=.ref c∧H c=some (.cod q)
 | .cod q=>h.CodeRec (.ref a) q
 | .met f x=>h.get? a=some (PySem.W.methodObj (.ref f) (.ref x))
 | .ext φ=>φ h∧(∃ o,h.get? a=some o)∧∀ h1 h2:Heap,φ h1→(∀ o,h1.get? a=some o→h2.get? a=some o)→φ h2
def HOk (H:Hp) (h:Heap):Prop:=∀ a o,H a=some o→ObjOk P w H h a o
end
section
variable {P:Program} {w:World} {H H':Hp} {h h':Heap} {a:Addr} {o:HO}
theorem ObjOk.lt (x:ObjOk P w H h a o):a<h.objs.size:=by
 cases o with
 | lst xs=>obtain ⟨_,_,_,_,e⟩:=x;exact Heap.lt_size e
 | tup xs=>obtain ⟨_,_,_,p⟩:=x;exact p.tup.lt
 | dK kvs=>obtain ⟨_,_,_,_,o,_,_,e,_⟩:=x;exact Heap.lt_size e
 | dT kvs=>obtain ⟨_,_,_,_,o,_,_,e,_⟩:=x;exact Heap.lt_size e
 | set S n=>obtain ⟨o,_,_,_,e,_⟩:=x;exact Heap.lt_size e
 | ins C dx fs=>obtain ⟨_,_,_,e,_⟩:=x;exact Heap.lt_size e
 | own y=>obtain ⟨_,e⟩:=x;exact Heap.lt_size e
 | xd fs=>obtain ⟨_,⟨_,_,_,e,_⟩,_⟩:=x;exact Heap.lt_size e
 | rng lo hi=>obtain ⟨_,_,_,e⟩:=x;exact Heap.lt_size e
 | frz ob u=>obtain ⟨e,_⟩:=x;exact Heap.lt_size e
 | tbl q=>obtain ⟨_,e,_⟩:=x;exact Heap.lt_size e
 | cod q=>obtain ⟨_,_,_,_,e,e1,_⟩:=x;cases e;exact Heap.lt_size e1
 | met f y=>exact Heap.lt_size (show h.get? a=some _ from x)
 | ext φ=>obtain ⟨_,⟨_,e⟩,_⟩:=x;exact Heap.lt_size e
theorem Paired.mapP {α β:Type} {F G:α→β→Prop}:∀ {l₁:List α} {l₂:List β},Paired F l₁ l₂→(∀ a b,F a b→G a b)→Paired G l₁ l₂
 | _,_,.nil,_=>.nil
 | _,_,.cons r t,f=>.cons (f _ _ r) (Paired.mapP t f)
theorem ObjOk.stay (x:ObjOk P w H h a o) (k:∀ b u,(b=a∨H b=some (.own a))→h.get? b=some u→h'.get? b=some u)
  (ho:∀ b,H b=some (.own a)→H' b=some (.own a)) (ht:∀ b xs,H b=some (.tup xs)→H' b=some (.tup xs)) (hcod:∀ b q,H b=some (.cod q)→H' b=some (.cod q):=by exact fun _ _ q=>q):ObjOk P w H' h' a o:=by
 induction o with
 | lst xs=>obtain ⟨z,its,n,r,e⟩:=x;exact ⟨z,its,n,r,k _ _ (.inl rfl) e⟩
 | tup xs=>obtain ⟨z,its,r,ob,e,c⟩:=x;exact ⟨z,its,r,ob,k _ _ (.inl rfl) e,c⟩
 | dK kvs=>obtain ⟨z,y,vs,r,ob,es,ep,e,c⟩:=x;exact ⟨z,y,vs,r,ob,es,ep,k _ _ (.inl rfl) e,c⟩
 | dT kvs =>
  obtain ⟨z,y,xs,r,ob,es,ep,e,c⟩:=x
  exact ⟨z,y,xs,Paired.mapP r fun p q z=>⟨z.1,ht _ _ z.2.1,z.2.2⟩,ob,es,ep,k _ _ (.inl rfl) e,c⟩
 | set S n=>obtain ⟨ob,es,ep,t,e,c⟩:=x;exact ⟨ob,es,ep,t,k _ _ (.inl rfl) e,c⟩
 | ins C dx fs =>
  obtain ⟨d,z,ne,e,mA,⟨od,es,ep,e2,c⟩,r⟩:=x
  exact ⟨ho _ d,z,ne,k _ _ (.inl rfl) e,mA,⟨od,es,ep,k _ _ (.inr d) e2,c⟩,r⟩
 | own y=>obtain ⟨ob,e⟩:=x;exact ⟨ob,k _ _ (.inl rfl) e⟩
 | xd fs=>obtain ⟨mA,⟨od,es,ep,e,c⟩,r⟩:=x;exact ⟨mA,⟨od,es,ep,k _ _ (.inl rfl) e,c⟩,r⟩
 | rng lo hi=>obtain ⟨t,u,v,e⟩:=x;exact ⟨t,u,v,k _ _ (.inl rfl) e⟩
 | frz ob u ih=>obtain ⟨e,q⟩:=x;exact ⟨k _ _ (.inl rfl) e,ih q⟩
 | tbl q =>
  obtain ⟨ps,e,tr,al⟩:=x
  refine ⟨ps,k _ _ (.inl rfl) e,tr,fun pos cv hc=>?_⟩
  obtain ⟨c,ec,hH⟩:=al pos cv hc
  exact ⟨c,ec,hcod _ _ hH⟩
 | cod q =>
  obtain ⟨c,o,vs,t,e,e1,r⟩:=x
  cases e
  exact ⟨_,o,vs,t,rfl,k _ _ (.inl rfl) e1,r⟩
 | met f y =>
  have e:h.get? a=some (PySem.W.methodObj (.ref f) (.ref y)):=x
  show h'.get? a=some (PySem.W.methodObj (.ref f) (.ref y))
  exact k a _ (.inl rfl) e
 | ext φ=>obtain ⟨p,⟨o,e⟩,st⟩:=x;exact ⟨st _ _ p fun o q=>k _ _ (.inl rfl) q,⟨o,k _ _ (.inl rfl) e⟩,st⟩
theorem HOk.lt (x:HOk P w H h) (e:H a=some o):a<h.objs.size:=(x a o e).lt
theorem HOk.fresh (x:HOk P w H h) (e:h.objs.size≤a):H a=none:=by
 cases q:H a with
 | none=>rfl
 | some u=>exact absurd (Nat.lt_of_lt_of_le (x.lt q) e) (Nat.lt_irrefl _)
theorem HOk.kept (x:HOk P w H h) (k:∀ b u,h.get? b=some u→h'.get? b=some u):HOk P w H h':=fun a o e =>
 (x a o e).stay (fun b u _ q=>k b u q) (fun _ q=>q) fun _ _ q=>q
theorem HOk.laid (x:HOk P w H h) (k:∀ b u,h.get? b=some u→h'.get? b=some u) (hp:h.objs.size≤a) (new:ObjOk P w (upd H a o) h' a o):HOk P w (upd H a o) h':=fun b u e=>by
 have hn:=x.fresh hp
 by_cases hb:b=a
 ·subst hb;rw [Qp] at e;cases e;exact new
 ·rw [Q6 hb] at e
  exact (x b u e).stay (fun c v _ q=>k c v q) (fun c q=>by rw [Q6 (Qbs q hn)];exact q) (fun c xs q=>by rw [Q6 (Qbs q hn)];exact q) fun c xs q=>by rw [Q6 (Qbs q hn)];exact q
end
def Rd (H:Hp) (a:Addr) (u:HO):Prop:=H a=some u∨∃ o,H a=some (.frz o u)
theorem Rd.ok {P:Program} {w:World} {H:Hp} {h:Heap} {a:Addr} {u:HO} (r:Rd H a u) (x:HOk P w H h):ObjOk P w H h a u:=by
 rcases r with r | ⟨o,r⟩
 ·exact x a u r
 ·obtain ⟨_,q⟩:=x a _ r
  exact q
def Mut:Option HO→Prop
 | some (.lst _)=>True
 | some (.dK _)=>True
 | some (.dT _)=>True
 | some (.set _ _)=>True
 | some (.ins _ _ _)=>True
 | some (.ext _)=>True
 | _=>False
section
variable {P:Program} {w:World} {H:Hp} {h h':Heap} {x e:Addr} {o':HO}
theorem HOk.write (ok:HOk P w H h) (mu:Mut (H x)) (he:e=x∨H e=some (.own x)) (k:∀ b u,b≠e→h.get? b=some u→h'.get? b=some u) (heo:∃ u,h'.get? e=some u)
  (new:ObjOk P w (upd H x o') h' x o'):HOk P w (upd H x o') h':=fun b u q=>by
 have nown:∀ c y,H c=some (.own y)→c≠x:=fun c y r z=>by subst z;rw [r] at mu;exact mu
 have ntup:∀ c xs,H c=some (.tup xs)→c≠x:=fun c xs r z=>by subst z;rw [r] at mu;exact mu
 by_cases hb:b=x
 ·subst hb;rw [Qp] at q;cases q;exact new
 ·rw [Q6 hb] at q
  by_cases hbe:b=e
  ·have q':H b=some (.own x):=by
    rcases he with z | z
    ·exact absurd (hbe.trans z) hb
    ·rw [hbe];exact z
   rw [q] at q';cases q'
   obtain ⟨v,hv⟩:=heo
   exact ⟨v,by rw [hbe];exact hv⟩
  ·refine (ok b u q).stay (fun c v hc r=>k c v ?_ r) (fun c r=>by rw [Q6 (nown c b r)];exact r) (fun c xs r=>by rw [Q6 (ntup c xs r)];exact r) fun c y r=>by rw [Q6 (fun z=>by subst z;rw [r] at mu;exact mu)];exact r
   rcases hc with rfl | hc
   ·exact hbe
   ·rintro rfl
    rcases he with z | z
    ·exact nown c b hc z
    ·rw [hc] at z;cases z;exact hb rfl
end
structure Un (fs ex:List Addr) (H H':Hp) (h h':Heap):Prop where
 keep:∀ b o,h.get? b=some o→H b=none→b∉fs→b∉ex→h'.get? b=some o
 slot:∀ b o,h.get? b=some o→H b=none→b∈fs→b∉ex→∃ sl,h'.get? b=some { o with slots:=sl }
 free:∀ b o,h.get? b=some o→H b=none→b∉ex→H' b=none
 there:∀ b o,h.get? b=some o→b∉ex→∃ o',h'.get? b=some o'
 tups:∀ b xs,H b=some (.tup xs)→H' b=some (.tup xs)
 frzs:∀ b o u,H b=some (.frz o u)→H' b=some (.frz o u)
 tbls:∀ b q,H b=some (.tbl q)→H' b=some (.tbl q)
section
variable {fs fs' ex ex':List Addr} {H H1 H2:Hp} {h h1 h2 h':Heap} {a x e:Addr} {o:HO}
theorem Un.any (u:Un fs ex H H1 h h1) {b:Addr} {ob:Obj} (q:h.get? b=some ob) (n:H b=none) (hx:b∉ex):∃ sl,h1.get? b=some { ob with slots:=sl }:=by
 by_cases hb:b∈fs
 ·exact u.slot b ob q n hb hx
 ·exact ⟨ob.slots,u.keep b ob q n hb hx⟩
theorem Un.kept (k:∀ b u,h.get? b=some u→h'.get? b=some u):Un fs ex H H h h' :=
 ⟨fun b ob q _ _ _=>k b ob q,fun b ob q _ _ _=>⟨ob.slots,k b ob q⟩,fun _ _ _ n _=>n,fun b ob q _=>⟨ob,k b ob q⟩,fun _ _ q=>q,fun _ _ _ q=>q,fun _ _ q=>q⟩
theorem Un.refl:Un fs ex H H h h:=Un.kept fun _ _ q=>q
theorem Un.laid (k:∀ b u,h.get? b=some u→h'.get? b=some u) (hp:h.objs.size≤a) (hn:H a=none):Un fs ex H (upd H a o) h h' where
 keep:=fun b u q _ _ _=>k b u q
 slot:=fun b u q _ _ _=>⟨u.slots,k b u q⟩
 free:=fun b u q n _=>by rw [Q6 (Nat.ne_of_lt (Nat.lt_of_lt_of_le (Heap.lt_size q) hp))];exact n
 there:=fun b u q _=>⟨u,k b u q⟩
 tups:=fun b xs q=>by rw [Q6 (Qbs q hn)];exact q
 frzs:=fun b u xs q=>by rw [Q6 (Qbs q hn)];exact q
 tbls:=fun b ps q=>by rw [Q6 (Qbs q hn)];exact q
theorem Un.write (mu:Mut (H x)) (he:e=x∨H e=some (.own x)) (k:∀ b u,b≠e→h.get? b=some u→h'.get? b=some u) (heo:∃ u,h'.get? e=some u):Un fs ex H (upd H x o) h h':=by
 have hx:∀ b,H b=none→b≠x:=fun b n z=>by subst z;rw [n] at mu;exact mu
 have hb:∀ b,H b=none→b≠e:=fun b n z=>by
  subst z
  rcases he with r | r
  ·exact hx b n r
  ·rw [n] at r;cases r
 have hm:∀ b u,H b=some u→¬ Mut (some u)→b≠x:=fun b u q nm z=>by subst z;rw [q] at mu;exact nm mu
 refine ⟨fun b u q n _ _=>k b u (hb b n) q,fun b u q n _ _=>⟨u.slots,k b u (hb b n) q⟩,fun b u q n _=>by rw [Q6 (hx b n)];exact n,fun b u q _=>?_,
  fun b xs q=>by rw [Q6 (hm b _ q fun z=>z)];exact q,fun b u xs q=>by rw [Q6 (hm b _ q fun z=>z)];exact q,fun b ps q=>by rw [Q6 (hm b _ q fun z=>z)];exact q⟩
 by_cases hbe:b=e
 ·subst hbe;exact heo
 ·exact ⟨u,k b u hbe q⟩
end
noncomputable def trk (h:Heap) (H:Hp):List Addr:=(List.range h.objs.size).filter fun a=>(H a).isSome
noncomputable def Qow (h:Heap) (H:Hp):Heap:=PySem.W.hideAll h (trk h H)
theorem Qvv (h:Heap) (H:Hp):(Qow h H).objs.size=h.objs.size:=PySem.W.hideAll_size _ _
theorem Qxg {h:Heap} {H:Hp} {b:Addr} {o:Obj} (e:h.get? b=some o) (n:H b=none):(Qow h H).get? b=some o :=
 PySem.W.hideAll_get _ e fun hm=>by
  have q:(H b).isSome=true:=(List.mem_filter.mp hm).2
  rw [n] at q;simp at q
theorem Q1h {h:Heap} {H:Hp} {b:Addr} {o:Obj} (e:(Qow h H).get? b=some o):h.get? b=some o∧H b=none:=by
 have e':h.get? b=some o:=PySem.W.of_hideAll (trk h H) e
 refine ⟨e',?_⟩
 cases q:H b with
 | none=>rfl
 | some x =>
  have hm:b∈trk h H:=List.mem_filter.mpr ⟨mem_range.mpr (Heap.lt_size e'),by simp [q]⟩
  have z:(Qow h H).get? b=none:=PySem.W.hideAll_none (trk h H) hm
  rw [z] at e;cases e
noncomputable def Q1i (g h:Heap) (L:Addr):List (Addr×Obj):=(List.range h.objs.size).filterMap fun a=>if a=L∨(g.get? a).isSome=true then none else (h.get? a).map fun o=>(a,o)
noncomputable def rest (g h:Heap) (L d:Addr):List (Addr×Obj):=(Q1i g h L).filter fun p=>decide (p.1≠d)
structure Mod (K:PySem.W.Frag) (mg:Str→Option Value) (base:Heap):Prop where
 kin:K.In base
 glob:base.Ns mainGlobals mg
 blt:∃ mb,base.Ns builtinsNs mb∧∀ x:Str,x ≠ "__name__" → mb x=bootBuiltins x
 nolimit:base.NoLimit
 bm:∃ bm ob,mg "__builtins__" = some (.ref bm)∧bm≠builtinsNs∧base.get? bm=some ob∧ob.cls=.type "module" ∧ ob.dict=some builtinsNs∧ob.data=.plain
def Qxh (K:PySem.W.Frag) (a:Addr) (q:Str):Prop:=∃ b t,K.getLast?=some (b,{ cls:=.none,data:=.fields #[.ref a,.str q t] })
def Qxi (K:PySem.W.Frag) (H:Hp):Prop:=∀ a q,Qxh K a q→H a=some (.tbl q)
structure Cx where
 prog:Program
 w:World
 K:PySem.W.Frag
 mg:Str→Option Value
 base:Heap
 A:Around
 N:List Str
 s₀:Shared
 H₀:Hp
 env:Env
 outer:List Env
 stack:List Env
 ex:List Addr
 fn:Str→Bool
 calm:Bool
 pn:List (Addr×Obj)
 xe:Value→Shared→Prop
noncomputable def frs (l:List Env):List Addr:=l.filterMap (·.frame)
noncomputable abbrev Cx.fs (X:Cx):List Addr:=frs X.outer
def Vis (sc:Scope) (x:Str):Prop:=sc.names.lookup x=some .local∨sc.names.lookup x=some .cell∨sc.names.lookup x=some .free
def Loc (sc:Scope) (x:Str):Prop:=sc.names.lookup x=some .local∨sc.names.lookup x=some .cell
def Look (env:Env) (h:Heap) (m:Str→Option Value) (x:Str) (u:Value):Prop :=
 (env.kindOf x=some .local∧m x=some u)∨((env.kindOf x=some .cell∨env.kindOf x=some .free)∧∃ c,env.cells.lookup x=some c∧h.IsCell c (some u))
structure Cx.Ok (X:Cx):Prop where
 mod:Mod X.K X.mg X.base
 kind:X.env.scope.kind=.function
 glob:X.env.globals=mainGlobals
 blt:X.env.builtins=builtinsNs
 above:X.s₀.heap.objs.size≤X.env.locals
 inj:∀ x y c,X.env.cells.lookup x=some c→X.env.cells.lookup y=some c→x=y
 has:∀ x,(X.env.kindOf x=some .cell∨X.env.kindOf x=some .free)→∃ c,X.env.cells.lookup x=some c
 cab:∀ x c,X.fn x=true→X.env.cells.lookup x=some c→X.s₀.heap.objs.size≤c
 hd:X.calm=true→X.A.handled=none
 frames:X.A.frames=some X.stack
 stk:X.stack=X.outer∨(X.stack=X.env::X.outer∧X.env.frame=some X.env.locals)
 exf:∀ b∈X.ex,b≠X.env.locals∧∀ x c,X.env.cells.lookup x=some c→c≠b
 bs:∀ b o,X.base.get? b=some o→X.s₀.heap.get? b=some o∧X.H₀ b=none
 bsz:X.base.objs.size≤X.s₀.heap.objs.size
 noex:∀ b o,X.base.get? b=some o→b∉X.ex
 exfs:∀ b∈X.ex,b∉X.fs
 funs:X.s₀.heap.FunFrames X.base X.outer
 frf:(∀ b∈X.fs,X.H₀ b=none)∧Qxi X.K X.H₀
structure Inv (X:Cx) (pins:List (Addr×Obj)) (σ:List (Option V)) (H:Hp) (s:Shared):Prop where
 ok:X.Ok
 os:s.os=X.s₀.os
 bare:AllBare s.gens
 base:Un X.fs X.ex X.H₀ H X.s₀.heap s.heap
 loc:∃ m,s.heap.Ns X.env.locals m∧∀ (i:Nat) (x:Str) (v:V),X.N[i]?=some x→σ[i]?=some (some v)→Vis X.env.scope x→∃ u,RelV v u∧Look X.env s.heap m x u
 cell:∀ x c,X.env.cells.lookup x=some c→∃ v,s.heap.IsCell c v
 free:H X.env.locals=none
 freeC:∀ x c,X.env.cells.lookup x=some c→H c=none∨(X.fn x=false∧∃ o u,H c=some (.frz o u))
 pin:∀ p∈X.pn++pins,s.heap.get? p.1=some p.2∧H p.1=none∧p.1≠X.env.locals∧p.1∉X.fs∧∀ v,p.2.data≠.cell v
 hok:HOk X.prog X.w H s.heap
 len:σ.length=X.N.length
section
variable {X:Cx} {pins:List (Addr×Obj)} {σ:List (Option V)} {H H':Hp} {s:Shared} {h':Heap}
theorem Cx.Ok.nofr (ok:X.Ok) {b:Addr} {o:Obj} (e:X.base.get? b=some o):b∉X.fs:=fun hb=>by
 have:=(ok.funs.mem hb).1
 rw [e] at this;cases this
theorem Inv.bs (I:Inv X pins σ H s):∀ b o,X.base.get? b=some o→s.heap.get? b=some o∧H b=none:=fun b o e =>
 ⟨I.base.keep b o (I.ok.bs b o e).1 (I.ok.bs b o e).2 (I.ok.nofr e) (I.ok.noex b o e),I.base.free b o (I.ok.bs b o e).1 (I.ok.bs b o e).2 (I.ok.noex b o e)⟩
theorem Inv.bk (I:Inv X pins σ H s):∀ b o,X.base.get? b=some o→s.heap.get? b=some o:=fun b o e=>(I.bs b o e).1
theorem Inv.mod (I:Inv X pins σ H s):Mod X.K X.mg X.base:=I.ok.mod
theorem Inv.kIn (I:Inv X pins σ H s):X.K.In s.heap:=I.ok.mod.kin.keeps I.bk
theorem Inv.nolimit (I:Inv X pins σ H s):s.heap.NoLimit:=I.ok.mod.nolimit.keeps I.bk
theorem Inv.lt (I:Inv X pins σ H s):X.env.locals<s.heap.objs.size:=let ⟨_,hn,_⟩:=I.loc;hn.lt
theorem Inv.sz (I:Inv X pins σ H s):X.s₀.heap.objs.size≤s.heap.objs.size:=Nat.le_trans I.ok.above (Nat.le_of_lt I.lt)
theorem Inv.nofs (I:Inv X pins σ H s) {a:Addr} (h:s.heap.objs.size≤a):a∉X.fs:=fun hb=>by
 obtain ⟨_,o,ho,_⟩:=I.ok.funs.mem hb
 exact absurd (Nat.lt_of_lt_of_le (Heap.lt_size ho) (Nat.le_trans I.sz h)) (Nat.lt_irrefl _)
theorem Inv.cne (I:Inv X pins σ H s):∀ x c,X.env.cells.lookup x=some c→c≠X.env.locals:=fun x c e z=>by
 obtain ⟨v,o,ho,hd⟩:=I.cell x c e
 obtain ⟨m,⟨o',es,ep,ho',hd',_⟩,_⟩:=I.loc
 rw [z,ho'] at ho;cases ho;rw [hd'] at hd;cases hd
theorem Inv.funs (I:Inv X pins σ H s):s.heap.FunFrames X.base X.outer:=by
 have all:∀ (l:List Env),(∀ b∈frs l,b∈X.fs)→X.s₀.heap.FunFrames X.base l→s.heap.FunFrames X.base l:=by
  intro l
  induction l with
  | nil=>intro _ _;trivial
  | cons env r ih =>
   intro hs hl
   obtain ⟨hk,⟨L,o,hf,hn,ho,hd⟩,hr⟩:=hl
   have hL:L∈X.fs:=hs L (by unfold frs;rw [List.filterMap_cons,hf];exact mem_cons_self)
   obtain ⟨sl,e⟩:=I.base.slot L o ho (I.ok.frf.1 L hL) hL fun z=>I.ok.exfs L z hL
   exact ⟨hk,⟨L,_,hf,hn,e,hd⟩,ih (fun b hb=>hs b (by unfold frs;rw [List.filterMap_cons,hf];exact mem_cons_of_mem _ hb)) hr⟩
 exact all X.outer (fun _ hb=>hb) I.ok.funs
theorem Inv.stack (I:Inv X pins σ H s):s.heap.FunFrames X.base X.stack:=by
 rcases I.ok.stk with e | ⟨e,hf⟩
 ·rw [e];exact I.funs
 ·rw [e]
  obtain ⟨m,hn,_⟩:=I.loc
  refine .cons (by rw [I.ok.kind];decide) hf hn ?_ I.funs
  exact Heap.get?_none_of_le (Nat.le_trans I.ok.bsz I.ok.above)
theorem Inv.stkSub (I:Inv X pins σ H s):∀ b∈frs X.stack,b∈X.env.locals::X.fs:=fun b hb=>by
 rcases I.ok.stk with e | ⟨e,hf⟩
 ·rw [e] at hb;exact mem_cons_of_mem _ hb
 ·rw [e] at hb
  unfold frs at hb
  rw [List.filterMap_cons,hf] at hb
  exact hb
theorem Inv.stkFree (I:Inv X pins σ H s):∀ b∈frs X.stack,H b=none:=fun b hb=>by
 rcases mem_cons.mp (I.stkSub b hb) with e | hb
 ·rw [e];exact I.free
 ·obtain ⟨_,o,ho,_⟩:=I.ok.funs.mem hb
  exact I.base.free b o ho (I.ok.frf.1 b hb) fun z=>I.ok.exfs b z hb
theorem Inv.tab (I:Inv X pins σ H s):Qxi X.K H:=fun a q h=>I.base.tbls a q (I.ok.frf.2 a q h)
theorem Inv.step {g':Array GenState} {t':Nat} {d':Drawn} {ch:List Addr} (I:Inv X pins σ H s)
  (hch:∀ b∈ch,(b∈X.ex∨X.s₀.heap.objs.size≤b)∧b≠X.env.locals∧(∀ x c,X.env.cells.lookup x=some c→c≠b)∧∀ p∈X.pn++pins,p.1≠b)
  (keep:∀ b o,b≠X.env.locals→b∉X.fs→b∉ch→s.heap.get? b=some o→H b=none→h'.get? b=some o)
  (slot:∀ b o,b≠X.env.locals→b∈X.fs→b∉ch→s.heap.get? b=some o→H b=none→∃ sl,h'.get? b=some { o with slots:=sl }) (free:∀ b o,b∉ch→s.heap.get? b=some o→H b=none→H' b=none)
  (there:∀ b o,b∉ch→s.heap.get? b=some o→∃ o',h'.get? b=some o')
  (tups:∀ b xs,H b=some (.tup xs)→H' b=some (.tup xs)) (frzs:∀ b o u,H b=some (.frz o u)→H' b=some (.frz o u)) (tbls:∀ b q,H b=some (.tbl q)→H' b=some (.tbl q))
  (ns:∀ m,s.heap.Ns X.env.locals m→h'.Ns X.env.locals m) (hok:HOk X.prog X.w H' h') (hg:AllBare g') :
  Inv X pins σ H' { s with heap:=h',gens:=g',drawn:=d',toks:=t' }:=by
 have neL:∀ b o,X.s₀.heap.get? b=some o→b≠X.env.locals:=fun b o e=>Nat.ne_of_lt (Nat.lt_of_lt_of_le (Heap.lt_size e) I.ok.above)
 have neC:∀ b o,X.s₀.heap.get? b=some o→b∉X.ex→b∉ch:=fun b o e hx hb=>by
  rcases (hch b hb).1 with z | z
  ·exact hx z
  ·exact absurd (Nat.lt_of_lt_of_le (Heap.lt_size e) z) (Nat.lt_irrefl _)
 have cellK:∀ x c,X.env.cells.lookup x=some c→∀ v,s.heap.IsCell c v→h'.IsCell c v:=fun x c e v ⟨o,ho,hd⟩=>by
  have nch:c∉ch:=fun z=>(hch c z).2.2.1 x c e rfl
  rcases I.freeC x c e with fc | ⟨_,of,u,fc⟩
  ·by_cases hc:c∈X.fs
   ·obtain ⟨sl,q⟩:=slot c o (I.cne x c e) hc nch ho fc
    exact ⟨_,q,hd⟩
   ·exact ⟨o,keep c o (I.cne x c e) hc nch ho fc,hd⟩
  ·have e1:=(I.hok c _ fc).1
   rw [ho] at e1
   cases e1
   exact ⟨_,(hok c _ (frzs c _ _ fc)).1,hd⟩
 refine ⟨I.ok,I.os,hg,⟨fun b o e n hb hx=>?_,fun b o e n hb hx=>?_,fun b o e n hx=>?_,fun b o e hx=>?_,fun b xs e=>tups b xs (I.base.tups b xs e),fun b o xs e=>frzs b o xs (I.base.frzs b o xs e),fun b ps e=>?_⟩,?_,fun x c e=>?_,?_,fun x c e=>?_,fun p hp=>?_,hok,I.len⟩
 ·exact keep b o (neL b o e) hb (neC b o e hx) (I.base.keep b o e n hb hx) (I.base.free b o e n hx)
 ·obtain ⟨sl,e1⟩:=I.base.slot b o e n hb hx
  obtain ⟨sl',e2⟩:=slot b _ (neL b o e) hb (neC b o e hx) e1 (I.base.free b o e n hx)
  exact ⟨sl',e2⟩
 ·obtain ⟨o',e1⟩:=I.base.there b o e hx
  exact free b o' (neC b o e hx) e1 (I.base.free b o e n hx)
 ·obtain ⟨o',e1⟩:=I.base.there b o e hx
  exact there b o' (neC b o e hx) e1
 ·exact tbls b ps (I.base.tbls b ps e)
 ·obtain ⟨m,hn,hl⟩:=I.loc
  refine ⟨m,ns m hn,fun i x v e1 e2 e3=>?_⟩
  obtain ⟨u,r,l⟩:=hl i x v e1 e2 e3
  refine ⟨u,r,?_⟩
  rcases l with l | ⟨k,c,e,z⟩
  ·exact .inl l
  ·exact .inr ⟨k,c,e,cellK x c e _ z⟩
 ·obtain ⟨v,z⟩:=I.cell x c e
  exact ⟨v,cellK x c e v z⟩
 ·obtain ⟨m,⟨o,_,_,ho,_⟩,_⟩:=I.loc
  exact free _ o (fun z=>(hch _ z).2.1 rfl) ho I.free
 ·obtain ⟨v,o,ho,hd⟩:=I.cell x c e
  rcases I.freeC x c e with fc | ⟨fn,of,u,fc⟩
  ·exact .inl (free c o (fun z=>(hch c z).2.2.1 x c e rfl) ho fc)
  ·exact .inr ⟨fn,of,u,frzs c _ _ fc⟩
 ·obtain ⟨e,n,ne,nf,d⟩:=I.pin p hp
  have nch:p.1∉ch:=fun z=>(hch p.1 z).2.2.2 p hp rfl
  exact ⟨keep p.1 p.2 ne nf nch e n,free p.1 p.2 nch e n,ne,nf,d⟩
theorem Inv.un {t':Nat} (I:Inv X pins σ H s) (u:Un X.fs [] H H' s.heap h') (hok:HOk X.prog X.w H' h'):Inv X pins σ H' { s with heap:=h',toks:=t' }:=by
 obtain ⟨m,⟨o,es,ep,ho,r⟩,_⟩:=id I.loc
 obtain ⟨sl,hL⟩:=u.any ho I.free (by simp)
 exact I.step (g':=s.gens) (d':=s.drawn) (ch:=[]) (fun _ z=>nomatch z) (fun b o _ hb _ e n=>u.keep b o e n hb (by simp)) (fun b o _ hb _ e n=>u.slot b o e n hb (by simp)) (fun b o _ e n=>u.free b o e n (by simp)) (fun b o _ e=>u.there b o e (by simp)) u.tups u.frzs u.tbls (fun m' hm=>by
  obtain ⟨o',es',ep',ho',r'⟩:=hm
  rw [ho] at ho';cases ho'
  exact ⟨_,es',ep',hL,r'⟩) hok I.bare
theorem Inv.call {g':Array GenState} {t':Nat} {d':Drawn} {ch:List Addr} (I:Inv X pins σ H s) (u:Un (frs X.stack) ch H H' s.heap h') (hok:HOk X.prog X.w H' h') (hg:AllBare g')
  (hch:∀ b∈ch,(b∈X.ex∨X.s₀.heap.objs.size≤b)∧b≠X.env.locals∧(∀ x c,X.env.cells.lookup x=some c→c≠b)∧∀ p∈X.pn++pins,p.1≠b) :
  Inv X pins σ H' { s with heap:=h',gens:=g',drawn:=d',toks:=t' }:=by
 obtain ⟨m,⟨o,es,ep,ho,r⟩,_⟩:=id I.loc
 obtain ⟨sl,hL⟩:=u.any ho I.free fun z=>(hch _ z).2.1 rfl
 exact I.step (ch:=ch) hch (fun b o hL hb hc e n=>u.keep b o e n (fun z=>(mem_cons.mp (I.stkSub b z)).elim hL hb) hc) (fun b o _ _ hc e n=>u.any e n hc) (fun b o hc e n=>u.free b o e n hc) (fun b o hc e=>u.there b o e hc) u.tups u.frzs u.tbls (fun m' hm=>by
  obtain ⟨o',es',ep',ho',r'⟩:=hm
  rw [ho] at ho';cases ho'
  exact ⟨_,es',ep',hL,r'⟩) hok hg
theorem Inv.turned {t':Nat} {it:Addr} (I:Inv X pins σ H s) (k:∀ b o,b≠it→s.heap.get? b=some o→h'.get? b=some o) (hn:H it=none) (hL:it≠X.env.locals)
  (h1:it∈X.ex∨X.s₀.heap.objs.size≤it) (h2:∀ x c,X.env.cells.lookup x=some c→c≠it) (h3:∀ p∈X.pn++pins,p.1≠it):Inv X pins σ H { s with heap:=h',toks:=t' }:=by
 have nit:∀ b u,H b=some u→b≠it:=fun b u e z=>by rw [z,hn] at e;cases e
 refine I.step (g':=s.gens) (d':=s.drawn) (ch:=[it]) (fun b hb=>?_) (fun b o _ _ hc e _=>k b o (fun z=>hc (by simp [z])) e) (fun b o _ _ hc e _=>⟨o.slots,k b o (fun z=>hc (by simp [z])) e⟩) (fun _ _ _ _ n=>n)
  (fun b o hc e=>⟨o,k b o (fun z=>hc (by simp [z])) e⟩) (fun _ _ e=>e) (fun _ _ _ e=>e) (fun _ _ e=>e) (fun m hm=>?_) (fun b u e=>?_) I.bare
 ·have e:b=it:=by simpa using hb
  subst e
  exact ⟨h1,hL,h2,h3⟩
 ·obtain ⟨o,es,ep,ho,r⟩:=hm
  exact ⟨o,es,ep,k _ o (Ne.symm hL) ho,r⟩
 ·refine (I.hok b u e).stay (fun c v hc q=>k c v ?_ q) (fun _ q=>q) fun _ _ q=>q
  rcases hc with z | z
  ·rw [z];exact nit b u e
  ·exact nit c _ z
theorem Inv.tok (I:Inv X pins σ H s) (t:Nat):Inv X pins σ H { s with toks:=t }:=I.un (h':=s.heap) (t':=t) Un.refl I.hok
theorem Inv.kept {t':Nat} (I:Inv X pins σ H s) (k:∀ b u,s.heap.get? b=some u→h'.get? b=some u):Inv X pins σ H { s with heap:=h',toks:=t' }:=I.un (Un.kept k) (I.hok.kept k)
theorem Inv.laid {a:Addr} {o:HO} {t':Nat} (I:Inv X pins σ H s) (k:∀ b u,s.heap.get? b=some u→h'.get? b=some u) (hp:s.heap.objs.size≤a) (new:ObjOk X.prog X.w (upd H a o) h' a o) :
  Inv X pins σ (upd H a o) { s with heap:=h',toks:=t' }:=I.un (Un.laid k hp (I.hok.fresh hp)) (I.hok.laid k hp new)
theorem Inv.write {x e:Addr} {o:HO} {t':Nat} (I:Inv X pins σ H s) (mu:Mut (H x)) (he:e=x∨H e=some (.own x)) (k:∀ b u,b≠e→s.heap.get? b=some u→h'.get? b=some u) (heo:∃ u,h'.get? e=some u)
  (new:ObjOk X.prog X.w (upd H x o) h' x o):Inv X pins σ (upd H x o) { s with heap:=h',toks:=t' }:=I.un (Un.write mu he k heo) (I.hok.write mu he k heo new)
theorem Inv.pins_of {pins':List (Addr×Obj)} (I:Inv X pins σ H s) (h:∀ p∈pins',s.heap.get? p.1=some p.2∧H p.1=none∧p.1≠X.env.locals∧p.1∉X.fs∧∀ v,p.2.data≠.cell v):Inv X pins' σ H s :=
 ⟨I.ok,I.os,I.bare,I.base,I.loc,I.cell,I.free,I.freeC,fun p hp=>(mem_append.mp hp).elim (fun z=>I.pin p (List.mem_append_left _ z)) (h p),I.hok,I.len⟩
theorem Qlm {N:List Str} (hN:N.Nodup) {i j:Nat} {x:Str} (a:N[i]?=some x) (b:N[j]?=some x):i=j:=by
 obtain ⟨h1,e1⟩:=List.getElem?_eq_some_iff.mp a
 obtain ⟨h2,e2⟩:=List.getElem?_eq_some_iff.mp b
 exact (List.getElem_inj hN).mp (e1.trans e2.symm)
theorem Qvw {M:Model} {A:Around} {E:Value→Shared→Prop} {i:Nat} {x:Str} {v:V} {u:Value} {Q:Unit→Shared→Prop} (I:Inv X pins σ H s) (hN:X.N.Nodup) (hi:X.N[i]?=some x) (hx:Loc X.env.scope x) (r:RelV v u)
  (h:∀ s',Inv X pins (σ.set i (some v)) H s'→(∃ a,Heap.SameBut a s.heap s'.heap∧(a=X.env.locals∨X.env.cells.lookup x=some a))→Q () s') (hf:X.fn x=true∨X.env.scope.names.lookup x=some .local:=by first | exact .inl rfl | exact .inr rfl | assumption):wpAny M A (storeName X.env x u) Q E s:=by
 obtain ⟨m,hn,hl⟩:=id I.loc
 have hcls:(X.env.scope.kind==.class||(X.env.scope.kind==.module&&X.env.locals != X.env.globals))=false:=by rw [I.ok.kind];rfl
 have hiσ:i<σ.length:=by rw [I.len];exact (List.getElem?_eq_some_iff.mp hi).1
 have cne:=I.cne
 have tracked:∀ {a:Addr} {h':Heap},(∃ o,s.heap.get? a=some o∧H a=none)→Heap.SameBut a s.heap h'→HOk X.prog X.w H h':=fun {a h'} ha hs b ob e=>by
  obtain ⟨_,_,hfree⟩:=ha
  refine (I.hok b ob e).stay (fun c w' hc q=>(hs.2 c ?_).trans q) (fun _ q=>q) fun _ _ q=>q
  rintro rfl
  rcases hc with rfl | hc
  ·rw [hfree] at e;cases e
  ·rw [hfree] at hc;cases hc
 rcases hx with hk | hk
 ·refine wpAny_storeName_local hk hn (fun h' hn' hs=>?_) hcls
  obtain ⟨oL,_,_,hoL,_⟩:=id hn
  refine h _ ⟨I.ok,I.os,I.bare,⟨fun b o e n hb hx=>?_,fun b o e n hb hx=>?_,I.base.free,fun b o e hx=>?_,I.base.tups,I.base.frzs,I.base.tbls⟩,⟨_,hn',fun j y v' e1 e2 e3=>?_⟩,fun y c e=>?_,I.free,I.freeC,fun p hp=>?_,tracked ⟨oL,hoL,I.free⟩ hs,by simpa using I.len⟩ ⟨_,hs,.inl rfl⟩
  ·exact (hs.2 b (Nat.ne_of_lt (Nat.lt_of_lt_of_le (Heap.lt_size e) I.ok.above))).trans (I.base.keep b o e n hb hx)
  ·obtain ⟨sl,e1⟩:=I.base.slot b o e n hb hx
   exact ⟨sl,(hs.2 b (Nat.ne_of_lt (Nat.lt_of_lt_of_le (Heap.lt_size e) I.ok.above))).trans e1⟩
  ·obtain ⟨o',e1⟩:=I.base.there b o e hx
   exact ⟨o',(hs.2 b (Nat.ne_of_lt (Nat.lt_of_lt_of_le (Heap.lt_size e) I.ok.above))).trans e1⟩
  ·by_cases hj:j=i
   ·subst hj
    rw [hi] at e1;cases e1
    rw [getElem?_set_self hiσ] at e2
    cases e2
    exact ⟨u,r,.inl ⟨hk,by simp⟩⟩
   ·rw [getElem?_set_ne (Ne.symm hj)] at e2
    obtain ⟨u',r',q⟩:=hl j y v' e1 e2 e3
    refine ⟨u',r',?_⟩
    rcases q with ⟨k,e⟩ | ⟨k,c,e,z⟩
    ·refine .inl ⟨k,?_⟩
     have:y≠x:=fun e=>hj (Qlm hN e1 (e ▸ hi))
     simp [this,e]
    ·exact .inr ⟨k,c,e,z.sameBut hs (cne y c e)⟩
  ·obtain ⟨w',z⟩:=I.cell y c e
   exact ⟨w',z.sameBut hs (cne y c e)⟩
  ·obtain ⟨e,n,ne,nf,d⟩:=I.pin p hp
   exact ⟨(hs.2 p.1 ne).trans e,n,ne,nf,d⟩
 ·have hfn:X.fn x=true:=by
   rcases hf with z | z
   ·exact z
   ·rw [z] at hk;cases hk
  obtain ⟨c,hc⟩:=I.ok.has x (.inl hk)
  obtain ⟨w',z⟩:=I.cell x c hc
  refine wpAny_storeName_cell I.ok.kind hk hc z (fun h' hc' hs=>?_)
  obtain ⟨oc,hoc,hocd⟩:=id z
  refine h { s with heap:=h' } ⟨I.ok,I.os,I.bare,⟨fun b o e n hb hx=>?_,fun b o e n hb hx=>?_,I.base.free,fun b o e hx=>?_,I.base.tups,I.base.frzs,I.base.tbls⟩,⟨m,hn.sameBut hs (Ne.symm (cne x c hc)),fun j y v' e1 e2 e3=>?_⟩,fun y c' e=>?_,I.free,I.freeC,fun p hp=>?_,tracked ⟨oc,hoc,(I.freeC x c hc).resolve_right fun z=>by rw [hfn] at z;cases z.1⟩ hs,by simpa using I.len⟩ ⟨c,hs,.inr hc⟩
  ·exact (hs.2 b (Nat.ne_of_lt (Nat.lt_of_lt_of_le (Heap.lt_size e) (I.ok.cab x c hfn hc)))).trans (I.base.keep b o e n hb hx)
  ·obtain ⟨sl,e1⟩:=I.base.slot b o e n hb hx
   exact ⟨sl,(hs.2 b (Nat.ne_of_lt (Nat.lt_of_lt_of_le (Heap.lt_size e) (I.ok.cab x c hfn hc)))).trans e1⟩
  ·obtain ⟨o',e1⟩:=I.base.there b o e hx
   exact ⟨o',(hs.2 b (Nat.ne_of_lt (Nat.lt_of_lt_of_le (Heap.lt_size e) (I.ok.cab x c hfn hc)))).trans e1⟩
  ·by_cases hj:j=i
   ·subst hj
    rw [hi] at e1;cases e1
    rw [getElem?_set_self hiσ] at e2
    cases e2
    exact ⟨u,r,.inr ⟨.inl hk,c,hc,hc'⟩⟩
   ·rw [getElem?_set_ne (Ne.symm hj)] at e2
    obtain ⟨u',r',q⟩:=hl j y v' e1 e2 e3
    refine ⟨u',r',?_⟩
    rcases q with q | ⟨k,c',e,z'⟩
    ·exact .inl q
    ·refine .inr ⟨k,c',e,z'.sameBut hs ?_⟩
     rintro rfl
     exact hj (Qlm hN e1 (I.ok.inj _ _ _ e hc ▸ hi))
  ·by_cases hcc:c'=c
   ·subst hcc;exact ⟨_,hc'⟩
   ·obtain ⟨w2,z2⟩:=I.cell y c' e
    exact ⟨w2,z2.sameBut hs hcc⟩
  ·obtain ⟨e,n,ne,nf,d⟩:=I.pin p hp
   refine ⟨(hs.2 p.1 ?_).trans e,n,ne,nf,d⟩
   intro q
   rw [q,hoc] at e
   have q':oc=p.2:=Option.some.inj e
   exact d w' (by rw [←q'];exact hocd)
theorem Qi2 {M:Model} {A:Around} {E:Value→Shared→Prop} {i:Nat} {x:Str} {v:V} {u:Value} {Q:Unit→Shared→Prop} (I:Inv X pins σ H s) (hN:X.N.Nodup) (hi:X.N[i]?=some x) (hx:Loc X.env.scope x) (r:RelV v u)
  (h:∀ s',Inv X pins (σ.set i (some v)) H s'→Q () s') (hf:X.fn x=true∨X.env.scope.names.lookup x=some .local:=by first | exact .inl rfl | exact .inr rfl | assumption):wpAny M A (storeName X.env x u) Q E s :=
 Qvw I hN hi hx r (fun s' I' _=>h s' I') hf
theorem Inv.call' {s':Shared} {ch:List Addr} (I:Inv X pins σ H s) (ho:s'.os=s.os) (u:Un (frs X.stack) ch H H' s.heap s'.heap) (hok:HOk X.prog X.w H' s'.heap) (hg:AllBare s'.gens)
  (hch:∀ b∈ch,(b∈X.ex∨X.s₀.heap.objs.size≤b)∧b≠X.env.locals∧(∀ x c,X.env.cells.lookup x=some c→c≠b)∧∀ p∈X.pn++pins,p.1≠b):Inv X pins σ H' s':=by
 obtain ⟨h',g',d',t',o'⟩:=s'
 have e:o'=s.os:=ho
 subst e
 exact I.call (g':=g') (t':=t') (d':=d') u hok hg hch
end
noncomputable abbrev XK:=Value→Option Addr→Hp→Prop
noncomputable abbrev St:=List (Option V)
noncomputable abbrev VK:=V→Hp→Prop
noncomputable abbrev TE:=St→Hp→VK→Prop
noncomputable abbrev TT:=St→Hp→(Bool→Hp→Prop)→Prop
noncomputable abbrev TA:=St→Hp→(List V→Hp→Prop)→Prop
structure Ends where
 nx:St→Hp→Prop
 rt:VK
 bk:St→Hp→Prop:=fun _ _=>False
 ct:St→Hp→Prop:=fun _ _=>False
noncomputable abbrev TS:=Ends→St→Hp→Prop
def EP (X:Cx) (pins:List (Addr×Obj)) (σ:St) (Q:VK) (u:Value) (s':Shared):Prop:=∃ v H',Inv X pins σ H' s'∧RelV v u∧Q v H'
def TP (X:Cx) (pins:List (Addr×Obj)) (σ:St) (Q:Bool→Hp→Prop) (b:Bool) (s':Shared):Prop:=∃ H',Inv X pins σ H' s'∧Q b H'
def AP (X:Cx) (pins:List (Addr×Obj)) (σ:St) (Q:List V→Hp→Prop) (us:List Value) (s':Shared):Prop:=∃ vs H',Inv X pins σ H' s'∧Vals vs us∧Q vs H'
def SP (X:Cx) (pins:List (Addr×Obj)) (D:Ends) (f:Flow) (s':Shared):Prop :=
 match f with
 | .next=>∃ σ' H',Inv X pins σ' H' s'∧D.nx σ' H'
 | .brk=>∃ σ' H',Inv X pins σ' H' s'∧D.bk σ' H'
 | .cont=>∃ σ' H',Inv X pins σ' H' s'∧D.ct σ' H'
 | .ret u=>∃ v σ' H',Inv X pins σ' H' s'∧RelV v u∧D.rt v H'
def PE (X:Cx) (e:Expr) (t:TE):Prop :=
 ∀ (pins:List (Addr×Obj)) (s:Shared) (σ:St) (H:Hp) (Q:VK),Inv X pins σ H s→t σ H Q→wpAny (model X.prog X.w) X.A (eval e X.env) (EP X pins σ Q) X.xe s
def PT (X:Cx) (e:Expr) (t:TT):Prop :=
 ∀ (pins:List (Addr×Obj)) (s:Shared) (σ:St) (H:Hp) (Q:Bool→Hp→Prop),Inv X pins σ H s→t σ H Q→wpAny (model X.prog X.w) X.A (isTrue e X.env (eval e X.env)) (TP X pins σ Q) X.xe s
def PW (X:Cx) (e:Expr) (t:TT):Prop :=
 ∀ (whole:Sem Value) (pins:List (Addr×Obj)) (s:Shared) (σ:St) (H:Hp) (Q:Bool→Hp→Prop),Inv X pins σ H s→t σ H Q→wpAny (model X.prog X.w) X.A (isTrue e X.env whole) (TP X pins σ Q) X.xe s
theorem PW.pt {X:Cx} {e:Expr} {t:TT} (h:PW X e t):PT X e t:=h _
def PA (X:Cx) (es:List Expr) (t:TA):Prop :=
 ∀ (pos:Pos) (pins:List (Addr×Obj)) (s:Shared) (σ:St) (H:Hp) (Q:List V→Hp→Prop),Inv X pins σ H s→t σ H Q→wpAny (model X.prog X.w) X.A (spliced (backTo pos (starEach es X.env))) (AP X pins σ Q) X.xe s
def PS (X:Cx) (st:Stmt) (t:TS):Prop :=
 ∀ (pins:List (Addr×Obj)) (s:Shared) (σ:St) (H:Hp) (D:Ends),Inv X pins σ H s→t D σ H→wpAny (model X.prog X.w) X.A (exec st X.env) (SP X pins D) X.xe s
def PSs (X:Cx) (st:List Stmt) (t:TS):Prop :=
 ∀ (pins:List (Addr×Obj)) (s:Shared) (σ:St) (H:Hp) (D:Ends),Inv X pins σ H s→t D σ H→wpAny (model X.prog X.w) X.A (execs st X.env) (SP X pins D) X.xe s
theorem thn {α:Type} {t:Sem α} {Q Q':α→Shared→Prop} {M:Model} {A:Around} {E:Value→Shared→Prop} {s:Shared} (h:wpAny M A t Q E s) (hQ:∀ a s,Q a s→Q' a s):wpAny M A t Q' E s:=wpAny_mono h hQ fun _ _ x=>x
section
variable {X:Cx}
theorem bin {a b:Expr} {ta tb:TE} (ha:PE X a ta) (hb:PE X b tb) {pins:List (Addr×Obj)} {s:Shared} {σ:St} {H:Hp} {R:V→V→Hp→Prop} (I:Inv X pins σ H s) (h:ta σ H fun x H1=>tb σ H1 fun y H2=>R x y H2)
  {α:Type} {Q:α→Shared→Prop} {f:Value→Value→Sem α}
  (hf:∀ v u s2 x y H2,Inv X pins σ H2 s2→RelV x v→RelV y u→R x y H2→wpAny (model X.prog X.w) X.A (f v u) Q X.xe s2) :
  wpAny (model X.prog X.w) X.A (eval a X.env) (fun v s₁=>wpAny (model X.prog X.w) X.A (eval b X.env) (fun u s₂=>wpAny (model X.prog X.w) X.A (f v u) Q X.xe s₂) X.xe s₁) X.xe s:=by
 refine thn (ha pins s σ H _ I h) fun v s1 ⟨x,H1,I1,r1,q1⟩=>?_
 refine thn (hb pins s1 σ H1 _ I1 q1) fun u s2 ⟨y,H2,I2,r2,q2⟩=>?_
 exact hf v u s2 x y H2 I2 r1 r2 q2
abbrev Qh4 (i:Nat):TE:=fun σ H Q=>∃ v,σ[i]?=some (some v)∧Q v H
abbrev tC (v:V):TE:=fun _ H Q=>Q v H
theorem Q5j {i:Nat} {x:Str} {pos:Pos} (hN:X.N[i]?=some x) (hv:Vis X.env.scope x) (hd:(x==("__debug__" : Str))=false:=by decide) (hcd:(x==("__classdict__" : Str))=false:=by decide):PE X (.Name x pos) (Qh4 i):=by
 intro pins s σ H Q I h
 obtain ⟨v,e,h⟩:=h
 obtain ⟨m,hn,hl⟩:=I.loc
 obtain ⟨u,r,l⟩:=hl i x v hN e hv
 have fin:EP X pins σ Q u s:=⟨v,H,I,r,h⟩
 rcases l with ⟨hk,hm⟩ | ⟨hk,c,hc,hcell⟩
 ·exact wpAny_Name (wpAny_loadName_local I.ok.kind hk hn hm fin) hd
 ·rcases hk with hk | hk
  ·exact wpAny_Name (wpAny_loadName_cell I.ok.kind hk hc hcell fin) hd
  ·exact wpAny_Name (wpAny_loadName_free I.ok.kind hk hc hcell fin hcd) hd
theorem Qxj {i j pos}:PE X (.Constant (.int i) j pos) (tC (.int i)):=fun _ _ _ H _ I h=>wpAny_Constant_int ⟨.int i,H,I.tok _,⟨_,rfl⟩,h⟩
theorem Q9a {b j pos}:PE X (.Constant (.bool b) j pos) (tC (.bl b)):=fun _ _ _ H _ I h=>Constant_bool ⟨.bl b,H,I,rfl,h⟩
theorem Q5k {j pos}:PE X (.Constant .none j pos) (tC .non):=fun _ _ _ H _ I h=>Constant_none ⟨.non,H,I,rfl,h⟩
theorem Qsp {x j pos}:PE X (.Constant (.str x) j pos) (tC (.str x)):=fun _ _ _ H _ I h=>Calls.Constant_str ⟨.str x,H,I.tok _,⟨_,rfl⟩,h⟩
def Gl (X:Cx) (x:Str):Prop:=X.env.kindOf x=some .globalImplicit
theorem Qfz {E:Value→Shared→Prop} {pins:List (Addr×Obj)} {s:Shared} {σ:St} {H:Hp} {x:Str} {u:Value} {pos:Pos} {Q:Value→Shared→Prop} (I:Inv X pins σ H s) (hg:Gl X x) (hm:X.mg x=some u) (h:Q u s)
  (hd:(x==("__debug__" : Str))=false:=by decide):wpAny (model X.prog X.w) X.A (eval (.Name x pos) X.env) Q E s :=
 Calls.Name_function_global I.ok.kind hg (Calls.loadGlobal_global (by rw [I.ok.glob];exact I.mod.glob.keeps I.bk) hm h) hd
theorem Qln {E:Value→Shared→Prop} {pins:List (Addr×Obj)} {s:Shared} {σ:St} {H:Hp} {x:Str} {u:Value} {pos:Pos} {Q:Value→Shared→Prop} (I:Inv X pins σ H s) (hg:Gl X x) (hm:X.mg x=none) (hv:bootBuiltins x=some u) (h:Q u s)
  (hn:x ≠ "__name__" := by decide) (hd:(x==("__debug__" : Str))=false:=by decide):wpAny (model X.prog X.w) X.A (eval (.Name x pos) X.env) Q E s:=by
 obtain ⟨mb,h1,h2⟩:=I.mod.blt
 exact Calls.Name_function_global I.ok.kind hg (Calls.loadGlobal_builtin (by rw [I.ok.glob];exact I.mod.glob.keeps I.bk) hm (by rw [I.ok.blt];exact h1.keeps I.bk) ((h2 x hn).trans hv) h) hd
theorem Qt9 {x:Str} {v:V} {u:Value} {pos:Pos} (hg:Gl X x) (hm:X.mg x=some u) (r:RelV v u) (hd:(x==("__debug__" : Str))=false:=by decide):PE X (.Name x pos) (tC v) :=
 fun _ _ _ H _ I h=>Qfz I hg hm ⟨v,H,I,r,h⟩ hd
theorem Q1j {x:Str} {v:V} {u:Value} {pos:Pos} (hg:Gl X x) (hm:X.mg x=none) (hv:bootBuiltins x=some u) (r:RelV v u) (hn:x ≠ "__name__" := by decide) (hd:(x==("__debug__" : Str))=false:=by decide):PE X (.Name x pos) (tC v) :=
 fun _ _ _ H _ I h=>Qln I hg hm hv ⟨v,H,I,r,h⟩ hn hd
variable {a b:Expr} {ta tb:TE} {pos:Pos}
def PC (X:Cx) (op:CmpOp) (a b:Expr) (t:TE):Prop :=
 ∀ (pins:List (Addr×Obj)) (s:Shared) (σ:St) (H:Hp) (Q:VK),Inv X pins σ H s→t σ H Q →
  wpAny (model X.prog X.w) X.A (eval a X.env) (fun v s₁=>wpAny (model X.prog X.w) X.A (eval b X.env) (fun u s₂=>wpAny (model X.prog X.w) X.A (compareOp op v u) (EP X pins σ Q) X.xe s₂) X.xe s₁) X.xe s
theorem Qxk (b:Expr) {op:CmpOp} (h:op≠.In) (h2:op≠.NotIn):behindInMarks op b=false:=by
 have e1:(op==CmpOp.In)=false:=by cases op <;> first | rfl | exact absurd rfl h
 have e2:(op==CmpOp.NotIn)=false:=by cases op <;> first | rfl | exact absurd rfl h2
 cases b <;> simp [behindInMarks,e1,e2]
abbrev tB (t:TE):TT:=fun σ H Q=>t σ H fun x H1=>∃ c,x=.bl c∧Q c H1
theorem pt_cmp {op:CmpOp} {t:TE} (h:PC X op a b t) (h1:behindInMarks op b=false:=by first | exact Qxk _ (by decide) (by decide) | rfl):PT X (.Compare a [op] [b] pos) (tB t):=by
 intro pins s σ H Q I hw
 refine wpAny_isTrue_Compare1 (thn (h pins s σ H _ I hw) fun v s1 h1=>thn h1 fun u s2 h2=>thn h2 fun c s3 ⟨x,H1,I1,r1,q1⟩=>?_) h1
 obtain ⟨d,rfl,q⟩:=q1
 cases r1
 exact wpAny_truthy_bool ⟨H1,I1,q⟩
theorem Q5l {e:Expr} {t:TE} (h:PE X e t) (he:∀ whole,isTrue e X.env whole=(do let v ← whole;standAt e.pos;holding [v] (truthy v)):=by intro _;rfl):PT X e (tB t):=by
 intro pins s σ H Q I hw
 refine isTrue_plain (thn (h pins s σ H _ I hw) fun v s1 ⟨x,H1,I1,r1,q1⟩=>?_) (he _)
 obtain ⟨d,rfl,q⟩:=q1
 cases r1
 exact wpAny_truthy_bool ⟨H1,I1,q⟩
variable {tA tB':TT} {rest:List Expr}
abbrev Q9b (t u:TT):TT:=fun σ H Q=>t σ H fun c H1=>if c=true then u σ H1 Q else Q false H1
abbrev tOr (t u:TT):TT:=fun σ H Q=>t σ H fun c H1=>if c=true then Q true H1 else u σ H1 Q
abbrev Q9c (t:TT):TT:=fun σ H Q=>t σ H fun c H1=>Q (!c) H1
theorem Q1k (ha:PT X a tA):PW X (.BoolOp .And [a] pos) tA:=by
 intro wh pins s σ H Q I h
 refine isTrue_and (thn (ha pins s σ H Q I h) fun c s1 e=>?_)
 cases c with
 | true=>exact isTrue_and_nil e
 | false=>exact e
theorem Q5m (ha:PT X a tA):PW X (.BoolOp .Or [a] pos) tA:=by
 intro wh pins s σ H Q I h
 refine isTrue_or (thn (ha pins s σ H Q I h) fun c s1 e=>?_)
 cases c with
 | false=>exact isTrue_or_nil e
 | true=>exact e
theorem Q5n (ha:PT X a tA) (hb:PW X (.BoolOp .And (b::rest) pos) tB'):PW X (.BoolOp .And (a::b::rest) pos) (Q9b tA tB'):=by
 intro wh pins s σ H Q I h
 refine isTrue_and (thn (ha pins s σ H _ I h) fun c s1 ⟨H1,I1,q1⟩=>?_)
 cases c with
 | true=>exact hb wh pins s1 σ H1 Q I1 q1
 | false=>exact ⟨H1,I1,q1⟩
theorem Q9d (ha:PT X a tA) (hb:PW X (.BoolOp .Or (b::rest) pos) tB'):PW X (.BoolOp .Or (a::b::rest) pos) (tOr tA tB'):=by
 intro wh pins s σ H Q I h
 refine isTrue_or (thn (ha pins s σ H _ I h) fun c s1 ⟨H1,I1,q1⟩=>?_)
 cases c with
 | true=>exact ⟨H1,I1,q1⟩
 | false=>exact hb wh pins s1 σ H1 Q I1 q1
theorem Q5o (ha:PT X a tA):PT X (.UnaryOp .Not a pos) (Q9c tA):=by
 intro pins s σ H Q I h
 exact isTrue_not (ha pins s σ H (fun c H1=>Q (!c) H1) I h)
abbrev Q4c (ta tb:TE):TE:=fun σ H Q=>ta σ H fun x H1=>∃ c,x=.bl c∧if c=true then tb σ H1 Q else Q (.bl false) H1
abbrev Q4d (ta:TE):TE:=fun σ H Q=>ta σ H fun x H1=>∃ c,x=.bl c∧Q (.bl (!c)) H1
theorem Q5p {op} {t:TE} (h:PE X a t):PE X (.BoolOp op [a] pos) t:=fun pins s σ H Q I hw=>BoolOp_one (h pins s σ H Q I hw)
theorem Q5q (ha:PE X a ta) (hb:PE X (.BoolOp .And (b::rest) pos) tb):PE X (.BoolOp .And (a::b::rest) pos) (Q4c ta tb):=by
 intro pins s σ H Q I h
 refine BoolOp_and (thn (ha pins s σ H _ I h) fun v s1 ⟨x,H1,I1,r1,q1⟩=>?_)
 obtain ⟨c,rfl,q1⟩:=q1
 cases r1
 refine wpAny_truthy_bool ?_
 cases c with
 | true=>exact hb pins s1 σ H1 Q I1 q1
 | false=>exact ⟨.bl false,H1,I1,rfl,q1⟩
theorem Q5r (ha:PE X a ta):PE X (.UnaryOp .Not a pos) (Q4d ta):=by
 intro pins s σ H Q I h
 refine UnaryOp_ (thn (ha pins s σ H _ I h) fun v s1 ⟨x,H1,I1,r1,q1⟩=>?_)
 obtain ⟨c,rfl,q1⟩:=q1
 cases r1
 exact not_of (wpAny_truthy_bool ⟨.bl (!c),H1,I1,rfl,q1⟩)
abbrev tIf (t:TT) (ta tb:TE):TE:=fun σ H Q=>t σ H fun c H1=>if c=true then ta σ H1 Q else tb σ H1 Q
theorem Qxl {c:Expr} (hc:PT X c tA) (ha:PE X a ta) (hb:PE X b tb):PE X (.IfExp c a b pos) (tIf tA ta tb):=by
 intro pins s σ H Q I h
 refine wpAny_IfExp (thn (hc pins s σ H _ I h) fun d s1 ⟨H1,I1,q1⟩=>?_)
 cases d with
 | true=>exact ha pins s1 σ H1 Q I1 q1
 | false=>exact hb pins s1 σ H1 Q I1 q1
end
def SqL (K:PySem.W.Frag) (H:Hp) (a:Addr) (xs:List V):Prop :=
 Rd H a (.lst xs) ∨
  ∃ (o:Obj) (its:Array Value) (n:Nat),K.lookup a=some o∧o.cls=.type "list" ∧ o.dict=none∧o.data=.seq its n∧its.size≤sizeLine∧Vals xs its.toList
def SqT (K:PySem.W.Frag) (H:Hp) (a:Addr) (xs:List V):Prop :=
 Rd H a (.tup xs) ∨
  ∃ (o:Obj) (its:Array Value) (n:Nat),K.lookup a=some o∧o.cls=.type "tuple" ∧ o.data=.seq its n∧its.size≤sizeLine∧Vals xs its.toList
noncomputable def absV:Value→Option V
 | .none=>some .non
 | .bool b=>some (.bl b)
 | .int i _=>some (.int i)
 | .str x _=>some (.str x)
 | .bytes b _=>some (.byt b)
 | .float b _=>some (.flt b)
 | .ref a=>some (.ref a)
 | .type n=>some (.ty n)
 | _=>none
theorem RelV.abs {x:V} {u:Value} (r:RelV x u):absV u=some x:=by
 cases x with
 | non=>cases r;rfl
 | bl _=>cases r;rfl
 | int _=>obtain ⟨t,rfl⟩:=r;rfl
 | str _=>obtain ⟨t,rfl⟩:=r;rfl
 | byt _=>obtain ⟨t,rfl⟩:=r;rfl
 | flt _=>obtain ⟨t,rfl⟩:=r;rfl
 | ref _=>cases r;rfl
 | ty _=>cases r;rfl
theorem RelV.inj {x y:V} {u:Value} (r:RelV x u) (q:RelV y u):x=y:=Option.some.inj (r.abs.symm.trans q.abs)
theorem Vals.inj:∀ {xs ys:List V} {us:List Value},Vals xs us→Vals ys us→xs=ys
 | _,_,_,.nil,.nil=>rfl
 | _,_,_,.cons r t,.cons r' t'=>by rw [r.inj r',Vals.inj t t']
section
variable {X:Cx} {pins:List (Addr×Obj)} {σ:St} {H:Hp} {s:Shared} {a:Addr} {xs ys:List V}
theorem SqL.of {K:PySem.W.Frag} (h:H a=some (.lst xs)):SqL K H a xs:=.inl (.inl h)
theorem SqT.of {K:PySem.W.Frag} (h:H a=some (.tup xs)):SqT K H a xs:=.inl (.inl h)
theorem Inv.list (I:Inv X pins σ H s) (h:SqL X.K H a xs):∃ its:List Value,Vals xs its∧PlainL s.heap a its.toArray∧xs.length≤sizeLine:=by
 rcases h with h | ⟨o,its,n,hk,hc,hd,hs,hz,r⟩
 ·obtain ⟨z,its,n,r,e⟩:=h.ok I.hok
  exact ⟨its,r,⟨_,n,e,rfl,rfl,rfl⟩,z⟩
 ·refine ⟨its.toList,r,⟨o,n,I.kIn a o hk,hc,hd,by simpa using hs⟩,?_⟩
  have e:=r.length
  simp only [Array.length_toList] at e
  omega
theorem Inv.tuple (I:Inv X pins σ H s) (h:SqT X.K H a xs):∃ its:List Value,Vals xs its∧IsTup s.heap a its.toArray∧xs.length≤sizeLine:=by
 rcases h with h | ⟨o,its,n,hk,hc,hs,hz,r⟩
 ·obtain ⟨z,its,r,p⟩:=h.ok I.hok
  exact ⟨its,r,p.tup,z⟩
 ·refine ⟨its.toList,r,⟨o,I.kIn a o hk,hc,n,by simpa using hs⟩,?_⟩
  have e:=r.length
  simp only [Array.length_toList] at e
  omega
theorem Inv.list_inj (I:Inv X pins σ H s) (h:SqL X.K H a xs) (h':SqL X.K H a ys):xs=ys:=by
 obtain ⟨its,r,⟨o,n,e,_,_,d⟩,_⟩:=I.list h
 obtain ⟨its',r',⟨o',n',e',_,_,d'⟩,_⟩:=I.list h'
 rw [e] at e';cases e'
 rw [d] at d'
 injection d' with d1 _
 have:its=its':=by simpa using congrArg Array.toList d1
 subst this
 exact r.inj r'
theorem Inv.tuple_inj (I:Inv X pins σ H s) (h:SqT X.K H a xs) (h':SqT X.K H a ys):xs=ys:=by
 obtain ⟨its,r,⟨o,e,_,n,d⟩,_⟩:=I.tuple h
 obtain ⟨its',r',⟨o',e',_,n',d'⟩,_⟩:=I.tuple h'
 rw [e] at e';cases e'
 rw [d] at d'
 injection d' with d1 _
 have:its=its':=by simpa using congrArg Array.toList d1
 subst this
 exact r.inj r'
end
noncomputable abbrev Cx.wish (X:Cx) (E:Value→Shared→Prop):Cx:={ X with xe:=E }
noncomputable abbrev Cx.nox (X:Cx):Cx:=X.wish fun _ _=>False
theorem Cx.Ok.wish {X:Cx} (ok:X.Ok) (E:Value→Shared→Prop):(X.wish E).Ok :=
 ⟨ok.mod,ok.kind,ok.glob,ok.blt,ok.above,ok.inj,ok.has,ok.cab,ok.hd,ok.frames,ok.stk,ok.exf,ok.bs,ok.bsz,ok.noex,ok.exfs,ok.funs,ok.frf⟩
theorem Cx.Ok.unwish {X:Cx} {E:Value→Shared→Prop} (ok:(X.wish E).Ok):X.Ok :=
 ⟨ok.mod,ok.kind,ok.glob,ok.blt,ok.above,ok.inj,ok.has,ok.cab,ok.hd,ok.frames,ok.stk,ok.exf,ok.bs,ok.bsz,ok.noex,ok.exfs,ok.funs,ok.frf⟩
section
variable {X:Cx} {pins:List (Addr×Obj)} {σ:St} {H:Hp} {s:Shared} {E:Value→Shared→Prop}
theorem Inv.wish (I:Inv X pins σ H s) (E:Value→Shared→Prop):Inv (X.wish E) pins σ H s:=⟨I.ok.wish E,I.os,I.bare,I.base,I.loc,I.cell,I.free,I.freeC,I.pin,I.hok,I.len⟩
theorem Inv.unwish (I:Inv (X.wish E) pins σ H s):Inv X pins σ H s:=⟨I.ok.unwish,I.os,I.bare,I.base,I.loc,I.cell,I.free,I.freeC,I.pin,I.hok,I.len⟩
theorem SP.unwish {D:Ends} {f:Flow} {s':Shared} (h:SP (X.wish E) pins D f s'):SP X pins D f s':=by
 cases f with
 | next=>obtain ⟨σ',H',I,q⟩:=h;exact ⟨σ',H',I.unwish,q⟩
 | brk=>obtain ⟨σ',H',I,q⟩:=h;exact ⟨σ',H',I.unwish,q⟩
 | cont=>obtain ⟨σ',H',I,q⟩:=h;exact ⟨σ',H',I.unwish,q⟩
 | ret u=>obtain ⟨v,σ',H',I,r,q⟩:=h;exact ⟨v,σ',H',I.unwish,r,q⟩
theorem PSs.nox {st:List Stmt} {t:TS} (h:PSs X.nox st t):PSs X st t:=fun pins s σ H D I hw =>
 wpAny_mono (h pins s σ H D (I.wish _) hw) (fun _ _ q=>q.unwish) fun _ _ z=>False.elim z
end
section
variable {X:Cx} {st:Stmt} {rest:List Stmt} {t u:TS} {e:Expr} {te:TE} {pos:Pos}
abbrev Qxm:TS:=fun D σ H=>D.nx σ H
abbrev Qxn (t u:TS):TS:=fun D σ H=>t { D with nx:=u D } σ H
theorem Q1l:PSs X [] Qxm:=fun _ _ σ H _ I h=>wpAny_execs_nil ⟨σ,H,I,h⟩
theorem Qxo (h1:PS X st t) (h2:PSs X rest u):PSs X (st::rest) (Qxn t u):=by
 intro pins s σ H D I h
 refine wpAny_execs_cons (thn (h1 pins s σ H { D with nx:=u D } I h) fun f s1 q=>?_)
 cases f with
 | next =>
  obtain ⟨σ',H',I',q⟩:=q
  exact h2 pins s1 σ' H' D I' q
 | ret v=>exact q
 | brk=>exact q
 | cont=>exact q
theorem Q1m (h1:PS X st t):PSs X [st] t:=by
 intro pins s σ H D I h
 refine wpAny_execs_cons (thn (h1 pins s σ H D I h) fun f s1 q=>?_)
 cases f with
 | next=>exact wpAny_execs_nil q
 | ret v=>exact q
 | brk=>exact q
 | cont=>exact q
theorem Inv.quiet {pins:List (Addr×Obj)} {σ:St} {H:Hp} {s:Shared} (I:Inv X pins σ H s):interactive X.env=false:=by simp [interactive,I.ok.kind]
abbrev Qua (te:TE):TS:=fun D σ H=>te σ H fun _ H1=>D.nx σ H1
theorem Q1n (he:PE X e te) (hs:swapsWith e none pos.line X.env=pure false:=by rfl):PS X (.Expr e pos) (Qua te):=by
 intro pins s σ H D I h
 exact wpAny_Expr_any (thn (he pins s σ H _ I h) fun v s1 ⟨x,H1,I1,r1,q1⟩=>⟨σ,H1,I1,q1⟩) I.quiet hs
abbrev Q5s (te:TE):TS:=fun D σ H=>te σ H D.rt
theorem Q5t (he:PE X e te):PS X (.Return (some e) pos) (Q5s te):=by
 intro pins s σ H D I h
 exact wpAny_Return_some (thn (he pins s σ H _ I h) fun v s1 ⟨x,H1,I1,r1,q1⟩=>⟨x,σ,H1,I1,r1,q1⟩)
abbrev Q5u (c:TT) (t u:TS):TS:=fun D σ H=>c σ H fun b H1=>if b=true then t D σ H1 else u D σ H1
theorem Q9e {c:Expr} {a b:List Stmt} {tc:TT} (hc:PT X c tc) (ha:PSs X a t) (hb:PSs X b u):PS X (.If c a b pos) (Q5u tc t u):=by
 intro pins s σ H D I h
 refine wpAny_If (thn (hc pins s σ H _ I h) fun d s1 ⟨H1,I1,q1⟩=>?_)
 cases d with
 | true=>exact ha pins s1 σ H1 D I1 q1
 | false=>exact hb pins s1 σ H1 D I1 q1
end
noncomputable abbrev TG:=V→St→Hp→(St→Hp→Prop)→Prop
noncomputable abbrev TGs:=List V→St→Hp→(St→Hp→Prop)→Prop
def PG (X:Cx) (target:Expr) (t:TG):Prop :=
 ∀ (pins:List (Addr×Obj)) (s:Shared) (σ:St) (H:Hp) (v:V) (u:Value) (Q:St→Hp→Prop),Inv X pins σ H s→RelV v u→t v σ H Q →
  wpAny (model X.prog X.w) X.A (assign target X.env u) (fun _ s'=>∃ σ' H',Inv X pins σ' H' s'∧Q σ' H') X.xe s
def PGs (X:Cx) (ts:List Expr) (t:TGs):Prop :=
 ∀ (pins:List (Addr×Obj)) (s:Shared) (σ:St) (H:Hp) (vs:List V) (us:List Value) (Q:St→Hp→Prop),Inv X pins σ H s→Vals vs us→t vs σ H Q →
  wpAny (model X.prog X.w) X.A (assignInOrder ((assignEach ts X.env).map (·.2)) us) (fun _ s'=>∃ σ' H',Inv X pins σ' H' s'∧Q σ' H') X.xe s
noncomputable abbrev Q5v:=V→V→V→Hp→(Hp→Prop)→Prop
def Q9f (X:Cx) (t:Q5v):Prop :=
 ∀ (pins:List (Addr×Obj)) (s:Shared) (σ:St) (H:Hp) (o i v:V) (ov iv u:Value) (Q:Hp→Prop),Inv X pins σ H s→RelV o ov→RelV i iv→RelV v u→t o i v H Q →
  wpAny (model X.prog X.w) X.A (setItem ov iv u) (fun _ s'=>∃ H',Inv X pins σ H' s'∧Q H') X.xe s
section
variable {X:Cx} {pos:Pos}
abbrev Qgo (i:Nat):TG:=fun v σ H Q=>Q (σ.set i (some v)) H
theorem Q1o {i:Nat} {x:Str} (hN:X.N.Nodup) (hi:X.N[i]?=some x) (hx:Loc X.env.scope x) (hf:X.fn x=true∨X.env.scope.names.lookup x=some .local:=by first | exact .inl rfl | exact .inr rfl | assumption):PG X (.Name x pos) (Qgo i):=by
 intro pins s σ H v u Q I r h
 exact wpAny_assign_Name (Qi2 I hN hi hx r (fun s' I'=>⟨_,H,I',h⟩) hf)
abbrev Q1p:TGs:=fun vs σ H Q=>vs=[]∧Q σ H
abbrev Qqf (t:TG) (u:TGs):TGs:=fun vs σ H Q=>∃ v r,vs=v::r∧t v σ H fun σ' H'=>u r σ' H' Q
theorem Q1q:PGs X [] Q1p:=by
 intro pins s σ H vs us Q I r h
 obtain ⟨e,h⟩:=h
 subst e
 cases r
 exact assignInOrder_nil ⟨σ,H,I,h⟩
theorem Qxp {e:Expr} {es:List Expr} {t:TG} {u:TGs} (h1:PG X e t) (h2:PGs X es u)
  (hs:(assignEach (e::es) X.env).map (·.2)=assign e X.env::(assignEach es X.env).map (·.2):=by rfl):PGs X (e::es) (Qqf t u):=by
 intro pins s σ H vs us Q I r h
 obtain ⟨v,vr,e1,h⟩:=h
 subst e1
 cases r with
 | cons r rr =>
  rw [hs]
  refine assignInOrder_cons (thn (h1 pins s σ H _ _ _ I r h) fun _ s1 ⟨σ1,H1,I1,q1⟩=>?_)
  exact h2 pins s1 σ1 H1 _ _ Q I1 rr q1
def Qxq (K:PySem.W.Frag) (n:Nat) (t:TGs):TG:=fun v σ H Q=>∃ a xs,v=.ref a∧SqT K H a xs∧xs.length=n∧t xs σ H Q
theorem Q5w {es:List Expr} {k:Nat} {t:TGs} {n:Nat} (hc:X.calm=true) (h:PGs X es t)
  (hn:(assignEach es X.env).length=n:=by rfl) (hst:(assignEach es X.env).findIdx? (·.1)=none:=by rfl):PG X (.Tuple es k pos) (Qxq X.K n t):=by
 intro pins s σ H v u Q I r hw
 obtain ⟨a,xs,e1,hq,hl,hw⟩:=hw
 subst e1
 cases r
 obtain ⟨its,rv,ht,hz⟩:=I.tuple hq
 refine assign_Tuple_tuple (I.ok.hd hc) ht (by simp [hn,←hl,rv.length]) hst fun h' hx=>?_
 have I1:Inv X pins σ H { s with heap:=h' }:=I.kept (t':=s.toks) fun b o e=>hx b o (Nat.ne_of_lt (Heap.lt_size e)) e
 exact h pins _ σ H xs _ Q I1 (by simpa using rv) hw
abbrev Qxr (to ti:TE) (t:Q5v):TG:=fun v σ H Q=>to σ H fun o H1=>ti σ H1 fun i H2=>t o i v H2 fun H3=>Q σ H3
theorem Q5x {o i:Expr} {to ti:TE} {t:Q5v} (ho:PE X o to) (hi:PE X i ti) (hs:Q9f X t)
  (ha:∀ v,assign (.Subscript o i pos) X.env v=(do
   let ov ← holding [v] (eval o X.env)
   let iv ← holding [v,ov] (eval i X.env)
   standAt pos
   holding [v,ov,iv] (setItem ov iv v)
   release [v,ov,iv] []):=by intro _;rfl):PG X (.Subscript o i pos) (Qxr to ti t):=by
 intro pins s σ H v u Q I r h
 rw [ha]
 refine wpAny_bind (wpAny_holding (thn (ho pins s σ H _ I h) fun ov s1 ⟨x,H1,I1,r1,q1⟩=>?_))
 refine wpAny_bind (wpAny_holding (thn (hi pins s1 σ H1 _ I1 q1) fun iv s2 ⟨y,H2,I2,r2,q2⟩=>?_))
 refine wpAny_bind (wpAny_standAt (wpAny_bind (wpAny_holding (thn (hs pins s2 σ H2 x y v ov iv u _ I2 r1 r2 r q2) fun _ s3 ⟨H3,I3,q3⟩=>?_))))
 exact wpAny_release ⟨σ,H3,I3,q3⟩
abbrev Qlo (te:TE) (g:TG):TS:=fun D σ H=>te σ H fun x H1=>g x σ H1 D.nx
theorem Q5y {tg e:Expr} {te:TE} {g:TG} (he:PE X e te) (hg:PG X tg g) (hs:swapsWithSole [tg] e pos.line X.env=pure false:=by rfl) (hw:swappedStores [tg] e X.env=pure none:=by rfl)
  (h1:(assignEach [tg] X.env).map (·.2)=[assign tg X.env]:=by rfl):PS X (.Assign [tg] e pos) (Qlo te g):=by
 intro pins s σ H D I h
 refine wpAny_Assign_stores (thn (he pins s σ H _ I h) fun v s1 ⟨x,H1,I1,r1,q1⟩=>?_) hs hw
 rw [h1]
 exact thn (hg pins s1 σ H1 x v _ I1 r1 q1) fun _ s2 q=>q
theorem Q5z {i:Nat} {x:Str} {e:Expr} {te:TE} {pos':Pos} (hN:X.N.Nodup) (hi:X.N[i]?=some x) (hx:Loc X.env.scope x) (he:PE X e te) (hs:swapsWith e (some (.Name x pos')) pos.line X.env=pure false:=by rfl) (hf:X.fn x=true∨X.env.scope.names.lookup x=some .local:=by first | exact .inl rfl | exact .inr rfl | assumption) :
  PS X (.Assign [.Name x pos'] e pos) (Qlo te (Qgo i)):=by
 intro pins s σ H D I h
 refine wpAny_Assign_Name (thn (he pins s σ H _ I h) fun v s1 ⟨y,H1,I1,r1,q1⟩=>?_) hs
 exact Qi2 I1 hN hi hx r1 (fun s2 I2=>⟨_,H1,I2,q1⟩) hf
end
section
variable {X:Cx} {pos:Pos}
def Qxs (c:TT) (tb:TS):TS:=fun D σ H=>∃ W:Nat→St→Hp→Prop,(∃ m,W m σ H)∧∀ m σ H,W m σ H →
 c σ H fun b H1=>if b=true then ∃ N:St→Hp→Prop,(∀ σ' H',N σ' H'→∃ m',m'<m∧W m' σ' H')∧tb { D with nx:=N,ct:=N,bk:=D.nx } σ H1 else D.nx σ H1
theorem Qxt {c:Expr} {body:List Stmt} {tc:TT} {tb:TS} (hp:PassesOwn (model X.prog X.w) X.A X.env X.xe) (hc:PT X c tc) (hb:PSs X body tb):PS X (.While c body [] pos) (Qxs tc tb):=by
 intro pins s σ H D I h
 obtain ⟨W,⟨m0,w0⟩,turn⟩:=h
 refine wpAny_While (codeAny_whileLoop (fun n s'=>∃ σ' H',Inv X pins σ' H' s'∧W n σ' H') ?_ m0 ⟨σ,H,I,w0⟩)
 rintro n s1 ⟨σ1,H1,I1,w1⟩
 refine wpAny_passesOwn hp (thn (hc pins s1 σ1 H1 _ I1 (turn n σ1 H1 w1)) fun b s2 ⟨H2,I2,q2⟩=>?_)
 cases b with
 | true =>
  obtain ⟨N,hN,q2⟩:=q2
  rw [if_pos rfl]
  refine wpAny_passesOwn hp (thn (hb pins s2 σ1 H2 _ I2 q2) fun f s3 q3=>?_)
  cases f with
  | next =>
   obtain ⟨σ3,H3,I3,n3⟩:=q3
   obtain ⟨m',hm,w3⟩:=hN σ3 H3 n3
   exact ⟨m',hm,σ3,H3,I3,w3⟩
  | cont =>
   obtain ⟨σ3,H3,I3,n3⟩:=q3
   obtain ⟨m',hm,w3⟩:=hN σ3 H3 n3
   exact ⟨m',hm,σ3,H3,I3,w3⟩
  | brk=>exact q3
  | ret v=>exact q3
 | false =>
  rw [if_neg Bool.false_ne_true]
  exact wpAny_execs_nil ⟨σ1,H2,I2,q2⟩
end
structure It where
 go:Nat→Hp→Prop
 yld:Nat→Hp→V→Hp→Prop
 stop:Nat→Hp→Prop
def Qih (X:Cx) (pins:List (Addr×Obj)) (H:Hp) (b:Addr):Prop :=
 H b=none∧b≠X.env.locals∧b∉X.fs∧(b∈X.ex∨X.s₀.heap.objs.size≤b)∧(∀ x c,X.env.cells.lookup x=some c→c≠b)∧∀ p∈X.pn++pins,p.1≠b
theorem Inv.fpOk {X:Cx} {pins:List (Addr×Obj)} {σ:St} {H H':Hp} {s:Shared} {b:Addr} (I:Inv X pins σ H s) (hb:s.heap.objs.size≤b) (hn:H' b=none):Qih X pins H' b:=by
 refine ⟨hn,Nat.ne_of_gt (Nat.lt_of_lt_of_le I.lt hb),I.nofs hb,.inr (Nat.le_trans I.sz hb),fun x c e z=>?_,fun p hp z=>?_⟩
 ·obtain ⟨v,q⟩:=I.cell x c e
  exact absurd (Nat.lt_of_lt_of_le q.lt (by rw [z];exact hb)) (Nat.lt_irrefl _)
 ·exact absurd (Nat.lt_of_lt_of_le (Heap.lt_size (I.pin p hp).1) (by rw [z];exact hb)) (Nat.lt_irrefl _)
structure Turn (P:Program) (w:World) (K:PySem.W.Frag) (tg:Expr) (J:It) (fp:List Addr) (it:Addr) (tn:Nat→Heap→Prop):Prop where
 mem:it∈fp
 obj:∀ i h,tn i h→∀ b∈fp,∃ o,h.get? b=some o∧∀ v,o.data≠.cell v
 keep:∀ i h h',tn i h→(∀ b∈fp,∀ o,h.get? b=some o→h'.get? b=some o)→tn i h'
 item:∀ (X:Cx),X.prog=P→X.w=w→X.K=K→X.calm=true→∀ (i:Nat) (pins:List (Addr×Obj)) (s:Shared) (σ:St) (H:Hp) (E:Value→Shared→Prop),Inv X pins σ H s→(∀ b∈fp,Qih X pins H b)→tn i s.heap→J.go i H →
  wpAny (model P w) X.A (pyNext (.ref it)) (fun r s1=>∃ u,r=some u ∧
   wpAny (model P w) X.A (letOwnedTupleGo tg (.ref it) u) (fun _ s2=>∃ x H',Inv X pins σ H' s2∧RelV x u∧J.yld i H x H'∧tn (i+1) s2.heap∧∀ b∈fp,H' b=none) E s1) E s
 done:∀ (X:Cx),X.prog=P→X.w=w→X.K=K→X.calm=true→∀ (i:Nat) (pins:List (Addr×Obj)) (s:Shared) (σ:St) (H:Hp) (E:Value→Shared→Prop),Inv X pins σ H s→(∀ b∈fp,Qih X pins H b)→tn i s.heap→J.stop i H →
  wpAny (model P w) X.A (pyNext (.ref it)) (fun r s1=>r=none∧Inv X pins σ H s1) E s
 self:∀ (A:Around) (i:Nat) (s:Shared) (Q:Value→Shared→Prop) (E:Value→Shared→Prop),tn i s.heap→Q (.ref it) s→wpAny (model P w) A (pyIter (.ref it)) Q E s
noncomputable abbrev TI:=St→Hp→(It→Hp→Prop)→Prop
def PIE (X:Cx) (pins:List (Addr×Obj)) (σ:St) (tg:Expr) (R:It→Hp→Prop) (itv:Value) (s2:Shared):Prop :=
 ∃ (it:Addr) (fp:List Addr) (tn:Nat→Heap→Prop) (J:It) (H':Hp),itv=.ref it∧Inv X pins σ H' s2∧Turn X.prog X.w X.K tg J fp it tn∧tn 0 s2.heap∧(∀ b∈fp,Qih X pins H' b)∧R J H'
def PI (X:Cx) (tg iter:Expr) (wi:TI):Prop :=
 ∀ (pins:List (Addr×Obj)) (s:Shared) (σ:St) (H:Hp) (R:It→Hp→Prop),Inv X pins σ H s→wi σ H R →
  wpAny (model X.prog X.w) X.A (eval iter X.env) (fun v s1=>wpAny (model X.prog X.w) X.A (pyIter v) (PIE X pins σ tg R) X.xe s1) X.xe s
theorem Qxu {M:Model} {A:Around} {E:Value→Shared→Prop} {s:Shared} {tg:Expr} {it:Addr} {u:Value} {o:Obj} {n:String} {vs:Array Value} {Q:Unit→Shared→Prop} (ho:s.heap.get? it=some o) (hc:o.cls=.type n) (hd:o.data=.fields vs)
  (hn:["enumerate","zip","dict_itemiterator","dict_reverseitemiterator","odict_iterator","itertools.zip_longest","itertools.pairwise"].contains n=false) (hQ:Q () s):wpAny M A (letOwnedTupleGo tg (.ref it) u) Q E s:=by
 unfold letOwnedTupleGo
 cases tg <;> first
  | exact wpAny_pure hQ
  | (cases u <;> first
    | exact wpAny_pure hQ
    | (refine wpAny_bind (wpAny_load ho ?_)
       rw [hc,hd]
       show wpAny M A (if (["enumerate","zip","dict_itemiterator","dict_reverseitemiterator","odict_iterator","itertools.zip_longest","itertools.pairwise"].contains n&&vs[0]?==some (rawInt _))=true then _ else _) Q E s
       rw [if_neg (by intro h;rw [hn,Bool.false_and] at h;cases h)]
       exact wpAny_pure hQ))
noncomputable def Itl (K:PySem.W.Frag) (a:Addr):It :=
 ⟨fun i H=>∃ xs x,SqL K H a xs∧xs[i]?=some x,fun i H x H'=>H'=H∧∀ xs,SqL K H a xs→xs[i]?=some x,fun i H=>∃ xs,SqL K H a xs∧xs.length≤i⟩
noncomputable def Itt (K:PySem.W.Frag) (a:Addr):It :=
 ⟨fun i H=>∃ xs x,SqT K H a xs∧xs[i]?=some x,fun i H x H'=>H'=H∧∀ xs,SqT K H a xs→xs[i]?=some x,fun i H=>∃ xs,SqT K H a xs∧xs.length≤i⟩
noncomputable def Itr (lo:Int) (n:Nat):It:=⟨fun i _=>i<n,fun i H x H'=>H'=H∧x=.int (lo+i),fun i _=>n≤i⟩
theorem Qvx {P:Program} {w:World} {K:PySem.W.Frag} {tg:Expr} (a it:Addr):Turn P w K tg (Itl K a) [it] it (fun i h=>h.IsListIter it a i) where
 mem:=by simp
 obj:=fun i h st b hb=>by
  have e:b=it:=by simpa using hb
  subst e
  obtain ⟨o,e,c,d⟩:=st
  exact ⟨o,e,fun v z=>by rw [d] at z;cases z⟩
 keep:=fun i h h' st k=>st.at fun o e=>k it (by simp) o e
 item:=by
  intro X hP hw hK hc i pins s σ H E I hf st hg
  subst hP hw hK
  obtain ⟨xs,x,hq,hx⟩:=hg
  obtain ⟨its,rv,p,hz⟩:=I.list hq
  obtain ⟨u,hu,ru⟩:=rv.get hx
  obtain ⟨f0,f1,f2,f3,f4,f5⟩:=hf it (by simp)
  refine wpAny_pyNext_list_item st p.isList (x:=u) (by simpa using hu) fun h' st' sb=>?_
  have I1:Inv X pins σ H { s with heap:=h' }:=I.turned (t':=s.toks) (fun b o hb e=>(sb.2 b hb).trans e) f0 f1 f3 f4 f5
  obtain ⟨o,e,c,d⟩:=id st'
  exact ⟨u,rfl,Qxu (s:={ s with heap:=h' }) e c d (by decide) ⟨x,H,I1,ru,⟨rfl,fun ys hy=>by rw [I.list_inj hy hq];exact hx⟩,st',fun b hb=>(hf b hb).1⟩⟩
 done:=by
  intro X hP hw hK hc i pins s σ H E I hf st hg
  subst hP hw hK
  obtain ⟨xs,hq,hx⟩:=hg
  obtain ⟨its,rv,p,hz⟩:=I.list hq
  obtain ⟨f0,f1,f2,f3,f4,f5⟩:=hf it (by simp)
  have hl:=rv.length
  exact wpAny_pyNext_list_end (I.ok.hd hc) st p.isList (by simp;omega) fun h' eb=>⟨rfl,I.turned (t':=s.toks) (fun b o hb e=>eb b o hb e) f0 f1 f3 f4 f5⟩
 self:=fun _ _ _ _ _ st h=>wpAny_pyIter_listiter st h
theorem Qsq {P:Program} {w:World} {K:PySem.W.Frag} {tg:Expr} (a it:Addr):Turn P w K tg (Itt K a) [it] it (fun i h=>h.IsTupleIter it a i) where
 mem:=by simp
 obj:=fun i h st b hb=>by
  have e:b=it:=by simpa using hb
  subst e
  obtain ⟨o,e,c,d⟩:=st
  exact ⟨o,e,fun v z=>by rw [d] at z;cases z⟩
 keep:=fun i h h' st k=>st.at fun o e=>k it (by simp) o e
 item:=by
  intro X hP hw hK hc i pins s σ H E I hf st hg
  subst hP hw hK
  obtain ⟨xs,x,hq,hx⟩:=hg
  obtain ⟨its,rv,p,hz⟩:=I.tuple hq
  obtain ⟨u,hu,ru⟩:=rv.get hx
  obtain ⟨f0,f1,f2,f3,f4,f5⟩:=hf it (by simp)
  refine wpAny_pyNext_tuple_item st (show s.heap.IsTuple a its.toArray from p) (x:=u) (by simpa using hu) fun h' st' sb=>?_
  have I1:Inv X pins σ H { s with heap:=h' }:=I.turned (t':=s.toks) (fun b o hb e=>(sb.2 b hb).trans e) f0 f1 f3 f4 f5
  obtain ⟨o,e,c,d⟩:=id st'
  exact ⟨u,rfl,Qxu (s:={ s with heap:=h' }) e c d (by decide) ⟨x,H,I1,ru,⟨rfl,fun ys hy=>by rw [I.tuple_inj hy hq];exact hx⟩,st',fun b hb=>(hf b hb).1⟩⟩
 done:=by
  intro X hP hw hK hc i pins s σ H E I hf st hg
  subst hP hw hK
  obtain ⟨xs,hq,hx⟩:=hg
  obtain ⟨its,rv,p,hz⟩:=I.tuple hq
  obtain ⟨f0,f1,f2,f3,f4,f5⟩:=hf it (by simp)
  have hl:=rv.length
  exact wpAny_pyNext_tuple_end (I.ok.hd hc) st (show s.heap.IsTuple a its.toArray from p) (by simp;omega) fun h' eb=>⟨rfl,I.turned (t':=s.toks) (fun b o hb e=>eb b o hb e) f0 f1 f3 f4 f5⟩
 self:=fun _ _ _ _ _ st h=>wpAny_pyIter_tupleiter st h
theorem Qsr {P:Program} {w:World} {K:PySem.W.Frag} {tg:Expr} (it:Addr) (lo:Int) (n:Nat):Turn P w K tg (Itr lo n) [it] it (fun i h=>IsRangeIter h it (lo+(i:Nat)*1) ((n:Int)-(i:Nat)) 1) where
 mem:=by simp
 obj:=fun i h st b hb=>by
  have e:b=it:=by simpa using hb
  subst e
  exact ⟨_,st,fun v z=>by
   have z':Data.fields _=Data.cell v:=z
   cases z'⟩
 keep:=fun i h h' st k=>k it (by simp) _ st
 item:=by
  intro X hP hw hK hc i pins s σ H E I hf st hg
  subst hP hw hK
  obtain ⟨f0,f1,f2,f3,f4,f5⟩:=hf it (by simp)
  have W:=Walks.range (prog:=X.prog) (w:=X.w) (I.ok.hd hc) it lo 1 n
  refine W.item i s _ _ hg st fun v h' tk hv st' kk=>?_
  obtain ⟨t,rfl⟩:=hv
  have I1:Inv X pins σ H { s with heap:=h',toks:=tk }:=I.turned (fun b o hb e=>kk b o (by simpa using hb) e) f0 f1 f3 f4 f5
  refine ⟨_,rfl,Qxu (s:={ s with heap:=h',toks:=tk }) (n := "range_iterator") st' rfl rfl (by decide) ⟨.int (lo+i),H,I1,⟨t,?_⟩,⟨rfl,rfl⟩,st',fun b hb=>(hf b hb).1⟩⟩
  rw [Int.mul_one]
 done:=by
  intro X hP hw hK hc i pins s σ H E I hf st hg
  subst hP hw hK
  obtain ⟨f0,f1,f2,f3,f4,f5⟩:=hf it (by simp)
  exact wpAny_pyNext_range_end (I.ok.hd hc) st (by have:n≤i:=hg;omega) fun h' eb=>⟨rfl,I.turned (t':=s.toks) (fun b o hb e=>eb b o hb e) f0 f1 f3 f4 f5⟩
 self:=fun _ _ _ _ _ st h=>wpAny_pyIter_rangeiter st h
section
variable {X:Cx} {tg:Expr}
theorem Qxv {pins:List (Addr×Obj)} {σ:St} {H:Hp} {s:Shared} {R:It→Hp→Prop} {E:Value→Shared→Prop} {lo hi:Int} {t u v:Tok} {tk:Nat} (I:Inv X pins σ H s) (h1:-(2^62)≤lo) (h2:lo<2^62) (h3:-(2^62)≤hi) (h4:hi<2^62)
  (q:R (Itr lo (hi-lo).toNat) H):wpAny (model X.prog X.w) X.A (pyIter (.ref s.heap.objs.size)) (PIE X pins σ tg R) E { s with heap:=s.heap.push { cls:=.type "range",data:=.fields #[.int lo t,.int hi u,.int 1 v] },toks:=tk }:=by
 refine wpAny_pyIter_range (IsRange.new ..) (small_one h1 h2 h3 h4) ?_
 have I1:Inv X pins σ H { s with heap:=s.heap.push { cls:=.type "range",data:=.fields #[.int lo t,.int hi u,.int 1 v] },toks:=tk }:=I.kept fun b o e=>Heap.get?_push_of_some _ e
 refine ⟨(s.heap.push { cls:=.type "range",data:=.fields #[.int lo t,.int hi u,.int 1 v] }).objs.size,[(s.heap.push { cls:=.type "range",data:=.fields #[.int lo t,.int hi u,.int 1 v] }).objs.size],_,_,H,rfl,
  I1.kept (t':=tk) fun b o e=>Heap.get?_push_of_some _ e,Qsr _ lo (hi-lo).toNat,?_,fun b hb=>?_,q⟩
 ·have e1:lo+((0:Nat):Int)*1=lo:=by simp
  have e2:(((hi-lo).toNat:Nat):Int)-((0:Nat):Int)=Builtin.Range.rangeSize lo hi 1:=by rw [rangeSize_one];split <;> omega
  show IsRangeIter _ _ (lo+((0:Nat):Int)*1) ((((hi-lo).toNat:Nat):Int)-((0:Nat):Int)) 1
  rw [e1,e2]
  exact Heap.get?_push_size _ rfl
 ·have e:b=(s.heap.push { cls:=.type "range",data:=.fields #[.int lo t,.int hi u,.int 1 v] }).objs.size:=by simpa using hb
  subst e
  exact I1.fpOk (Nat.le_refl _) (I1.hok.fresh (Nat.le_refl _))
def Q4e (ta:TA):TI:=fun σ H R=>ta σ H fun vs H1=>∃ j:Int,vs=[.int j] ∧ -(2^62)≤j∧j<2^62∧R (Itr 0 j.toNat) H1
theorem Qvy {a:Expr} {ta:TA} {p pos:Pos} (hg:Gl X "range") (hm:X.mg "range" = none) (ha:PA X [a] ta) (hs:starEach [a] X.env=[(false,eval a X.env)]:=by rfl):PI X tg (.Call (.Name "range" p) [a] [] pos) (Q4e ta):=by
 intro pins s σ H R I h
 refine Call_ (Qln I hg hm boot_range (PyProof.Rows.callWith_type1 (thn (ha pos pins s σ H _ I h) fun us s1 ⟨vs,H1,I1,r1,q1⟩=>?_) hs rfl))
 obtain ⟨j,e,q1,q2,q⟩:=q1
 subst e
 cases r1 with
 | cons r rr =>
  cases rr
  obtain ⟨t,rfl⟩:=r
  exact call_range_1 (Qxv I1 (by omega) (by omega) q1 q2 (by simpa using q))
def Q1r (wi:TI) (g:TG) (tb:TS):TS:=fun D σ H=>wi σ H fun J H1=>∃ W:Nat→Nat→St→Hp→Prop,(∃ m,W 0 m σ H1)∧∀ i m σ H,W i m σ H →
 (J.stop i H∧D.nx σ H)∨(J.go i H∧∃ N:St→Hp→Prop,(∀ σ' H',N σ' H'→∃ m',m'<m∧W (i+1) m' σ' H')∧∀ x H',J.yld i H x H'→g x σ H' fun σ2 H2=>tb { D with nx:=N,ct:=N,bk:=D.nx } σ2 H2)
noncomputable def Qj0 (fp:List Addr) (h:Heap):List (Addr×Obj):=fp.filterMap fun b=>(h.get? b).map fun o=>(b,o)
theorem Qdb {fp:List Addr} {h:Heap} {b:Addr} {o:Obj} (hb:b∈fp) (e:h.get? b=some o):(b,o)∈Qj0 fp h:=List.mem_filterMap.mpr ⟨b,hb,by rw [e];rfl⟩
theorem Qvz {fp:List Addr} {h:Heap} {p:Addr×Obj} (hp:p∈Qj0 fp h):p.1∈fp∧h.get? p.1=some p.2:=by
 obtain ⟨b,hb,e⟩:=List.mem_filterMap.mp hp
 cases q:h.get? b with
 | none=>rw [q] at e;cases e
 | some o =>
  rw [q] at e
  have e':(b,o)=p:=Option.some.inj e
  subst e'
  exact ⟨hb,q⟩
theorem Inv.pinned {pins:List (Addr×Obj)} {σ:St} {H:Hp} {s:Shared} {fp:List Addr} (I:Inv X pins σ H s) (hf:∀ b∈fp,Qih X pins H b) (ho:∀ b∈fp,∃ o,s.heap.get? b=some o∧∀ v,o.data≠.cell v):Inv X (pins++Qj0 fp s.heap) σ H s :=
 I.pins_of fun p hp=>(mem_append.mp hp).elim (fun z=>I.pin p (mem_append_right _ z)) fun z=>by
  obtain ⟨hb,e⟩:=Qvz z
  obtain ⟨f0,f1,f2,_⟩:=hf p.1 hb
  obtain ⟨o,e',d⟩:=ho p.1 hb
  rw [e] at e';cases e'
  exact ⟨e,f0,f1,f2,d⟩
theorem Inv.unpinned {pins pl:List (Addr×Obj)} {σ:St} {H:Hp} {s:Shared} (I:Inv X (pins++pl) σ H s):Inv X pins σ H s:=I.pins_of fun p hp=>I.pin p (mem_append_right _ (List.mem_append_left _ hp))
theorem Q50 {iter:Expr} {body:List Stmt} {wi:TI} {g:TG} {tb:TS} {pos:Pos} (hp:PassesOwn (model X.prog X.w) X.A X.env X.xe) (hc:X.calm=true) (hi:PI X tg iter wi) (hg:PG X tg g) (hb:PSs X body tb)
  (hs:∀ x,foldedSetIterable iter X.env x=pure x:=by intro _;rfl):PS X (.For tg iter body [] pos) (Q1r wi g tb):=by
 intro pins s σ H D I h
 refine wpAny_For (thn (hi pins s σ H _ I h) fun v s1 h1=>thn h1 fun itv s2 h2=>?_) hs
 obtain ⟨it,fp,tn,J,H2,e,I2,T,st2,f2,W,⟨m0,w0⟩,turn⟩:=h2
 subst e
 -- what stays true of the iterator's objects through the loop
 have stat:∀ {H':Hp},(∀ b∈fp,H' b=none)→∀ b∈fp,Qih X pins H' b:=fun hn b hb=>⟨hn b hb,(f2 b hb).2⟩
 refine codeAny_forLoop_any (fun n s'=>∃ i σ' H',Inv X pins σ' H' s'∧tn i s'.heap∧(∀ b∈fp,H' b=none)∧W i n σ' H') ?_ m0 ⟨0,σ,H2,I2,st2,fun b hb=>(f2 b hb).1,w0⟩
 rintro n s3 ⟨i,σ3,H3,I3,st3,fr3,w3⟩
 rcases turn i n σ3 H3 w3 with ⟨stop,qn⟩ | ⟨go,N,hN,step⟩
 ·refine wpAny_passesOwn hp (thn (T.done X rfl rfl rfl hc i pins s3 σ3 H3 X.xe I3 (stat fr3) st3 stop) fun r s4 ⟨hr,I4⟩=>?_)
  subst hr
  exact wpAny_execs_nil ⟨σ3,H3,I4,qn⟩
 ·refine wpAny_passesOwn hp (thn (T.item X rfl rfl rfl hc i pins s3 σ3 H3 X.xe I3 (stat fr3) st3 go) fun r s4 ⟨u,hr,h4⟩=>?_)
  subst hr
  refine wpAny_passesOwn hp (thn h4 fun _ s5 ⟨x,H5,I5,r5,y5,st5,fr5⟩=>?_)
  have I5':=I5.pinned (stat fr5) (T.obj _ _ st5)
  refine wpAny_passesOwn hp (thn (hg _ s5 σ3 H5 x u _ I5' r5 (step x H5 y5)) fun _ s6 ⟨σ6,H6,I6,q6⟩=>?_)
  refine wpAny_passesOwn hp (thn (hb _ s6 σ6 H6 _ I6 q6) fun f s7 q7=>?_)
  have again:∀ {σ7:St} {H7:Hp},Inv X (pins++Qj0 fp s5.heap) σ7 H7 s7→N σ7 H7→∃ m,m<n∧∃ i σ' H',Inv X pins σ' H' s7∧tn i s7.heap∧(∀ b∈fp,H' b=none)∧W i m σ' H':=fun {σ7 H7} I7 n7=>by
   obtain ⟨m',hm,w7⟩:=hN σ7 H7 n7
   refine ⟨m',hm,i+1,σ7,H7,I7.unpinned,T.keep _ _ _ st5 fun b hb o e=>(I7.pin (b,o) (mem_append_right _ (mem_append_right _ (Qdb hb e)))).1,fun b hb=>?_,w7⟩
   obtain ⟨o,e,d⟩:=T.obj _ _ st5 b hb
   exact (I7.pin (b,o) (mem_append_right _ (mem_append_right _ (Qdb hb e)))).2.1
  cases f with
  | next=>obtain ⟨σ7,H7,I7,n7⟩:=q7;exact again I7 n7
  | cont=>obtain ⟨σ7,H7,I7,n7⟩:=q7;exact again I7 n7
  | brk=>obtain ⟨σ7,H7,I7,q7⟩:=q7;exact ⟨σ7,H7,I7.unpinned,q7⟩
  | ret v=>obtain ⟨x7,σ7,H7,I7,r7,q7⟩:=q7;exact ⟨x7,σ7,H7,I7.unpinned,r7,q7⟩
end
theorem Qxw {K:PySem.W.Frag} {a:Addr} {xs:List V} {g:TG} {tb:TS} {D:Ends} {σ:St} {H:Hp} (Pv:Nat→St→Hp→Prop) (h0:Pv 0 σ H) (hl:∀ i σ H,i≤xs.length→Pv i σ H→SqL K H a xs)
  (hs:∀ i x σ H,xs[i]?=some x→Pv i σ H→g x σ H fun σ2 H2=>tb { D with nx:=Pv (i+1),ct:=Pv (i+1),bk:=D.nx } σ2 H2) (hd:∀ σ H,Pv xs.length σ H→D.nx σ H) :
  ∃ W:Nat→Nat→St→Hp→Prop,(∃ m,W 0 m σ H)∧∀ i m σ H,W i m σ H →
   ((Itl K a).stop i H∧D.nx σ H)∨((Itl K a).go i H∧∃ N:St→Hp→Prop,(∀ σ' H',N σ' H'→∃ m',m'<m∧W (i+1) m' σ' H')∧∀ x H',(Itl K a).yld i H x H'→g x σ H' fun σ2 H2=>tb { D with nx:=N,ct:=N,bk:=D.nx } σ2 H2):=by
 refine ⟨fun i m σ H=>m=xs.length-i∧i≤xs.length∧Pv i σ H,⟨xs.length,by simp,Nat.zero_le _,h0⟩,?_⟩
 rintro i m σ H ⟨rfl,hi,p⟩
 have q:=hl i σ H hi p
 by_cases hlt:i<xs.length
 ·refine .inr ⟨⟨xs,xs[i],q,by simp [hlt]⟩,Pv (i+1),fun σ' H' p'=>⟨xs.length-(i+1),by omega,rfl,hlt,p'⟩,fun x H' y=>?_⟩
  obtain ⟨e,y⟩:=y
  subst e
  exact hs i x σ _ (y xs q) p
 ·have e:i=xs.length:=by omega
  subst e
  exact .inl ⟨⟨xs,q,Nat.le_refl _⟩,hd σ H p⟩
noncomputable abbrev R2:=V→V→Hp→VK→Prop
def OpR (X:Cx) (f:Value→Value→Sem Value) (r:R2):Prop :=
 ∀ (pins:List (Addr×Obj)) (s:Shared) (σ:St) (H:Hp) (x y:V) (v u:Value) (Q:VK),Inv X pins σ H s→RelV x v→RelV y u→r x y H Q →
  wpAny (model X.prog X.w) X.A (f v u) (EP X pins σ Q) X.xe s
def UnR (X:Cx) (f:Value→Sem Value) (r:V→Hp→VK→Prop):Prop :=
 ∀ (pins:List (Addr×Obj)) (s:Shared) (σ:St) (H:Hp) (x:V) (v:Value) (Q:VK),Inv X pins σ H s→RelV x v→r x H Q →
  wpAny (model X.prog X.w) X.A (f v) (EP X pins σ Q) X.xe s
def CallR (X:Cx) (f:Value) (r:List V→Hp→VK→Prop):Prop :=
 ∀ (pins:List (Addr×Obj)) (s:Shared) (σ:St) (H:Hp) (xs:List V) (us:List Value) (Q:VK),Inv X pins σ H s→Vals xs us→r xs H Q →
  wpAny (model X.prog X.w) X.A (call f us) (EP X pins σ Q) X.xe s
abbrev tOp (r:R2) (ta tb:TE):TE:=fun σ H Q=>ta σ H fun x H1=>tb σ H1 fun y H2=>r x y H2 Q
abbrev tUn (r:V→Hp→VK→Prop) (ta:TE):TE:=fun σ H Q=>ta σ H fun x H1=>r x H1 Q
def rI (C:Int→Int→Prop) (g:Int→Int→V):R2:=fun x y H Q=>∃ i j,x=.int i∧y=.int j∧C i j∧Q (g i j) H
def rI0 (g:Int→Int→V):R2:=fun x y H Q=>∃ i j,x=.int i∧y=.int j∧Q (g i j) H
def rU (g:Int→V):V→Hp→VK→Prop:=fun x H Q=>∃ i,x=.int i∧Q (g i) H
section
variable {X:Cx} {a b c:Expr} {ta tb tc:TE} {pos:Pos}
theorem Q51 (ha:PE X a ta) (hb:PE X b tb) {pins:List (Addr×Obj)} {s:Shared} {σ:St} {H:Hp} {R:V→V→Hp→Prop} (I:Inv X pins σ H s)
  (h:ta σ H fun x H1=>tb σ H1 fun y H2=>R x y H2) {Q:Value→Shared→Prop} {f:Value→Value→Sem Value}
  (hf:∀ v u s2 x y H2,Inv X pins σ H2 s2→RelV x v→RelV y u→R x y H2→wpAny (model X.prog X.w) X.A (f v u) Q X.xe s2) :
  wpAny (model X.prog X.w) X.A (eval a X.env) (fun v s₁=>wpAny (model X.prog X.w) X.A (eval b X.env) (fun u s₂=>wpAny (model X.prog X.w) X.A (f v u) Q X.xe s₂) X.xe s₁) X.xe s:=by
 refine thn (ha pins s σ H _ I h) fun v s1 ⟨x,H1,I1,r1,q1⟩=>?_
 refine thn (hb pins s1 σ H1 _ I1 q1) fun u s2 ⟨y,H2,I2,r2,q2⟩=>?_
 exact hf v u s2 x y H2 I2 r1 r2 q2
theorem Q9g {op:Operator} {r:R2} (ho:OpR X (binaryOp op) r) (ha:PE X a ta) (hb:PE X b tb):PE X (.BinOp a op b pos) (tOp r ta tb):=by
 intro pins s σ H Q I h
 exact wpAny_BinOp (Q51 ha hb I h fun v u s2 x y H2 I2 rx ry q=>ho pins s2 σ H2 x y v u Q I2 rx ry q)
theorem Q9h {op:UnaryOp} {r:V→Hp→VK→Prop} (ho:UnR X (unaryOp op) r) (ha:PE X a ta):PE X (.UnaryOp op a pos) (tUn r ta):=by
 intro pins s σ H Q I h
 exact UnaryOp_ (thn (ha pins s σ H _ I h) fun v s1 ⟨x,H1,I1,r1,q1⟩=>ho pins s1 σ H1 x v Q I1 r1 q1)
theorem opI {f:Value→Value→Sem Value} {C:Int→Int→Prop} {g:Int→Int→Int}
  (rule:∀ (i j:Int) (t u:Tok) (s:Shared) (Q:Value→Shared→Prop) (E:Value→Shared→Prop),C i j→Q (.int (g i j) s.toks) { s with toks:=s.toks+1 }→wpAny (model X.prog X.w) X.A (f (.int i t) (.int j u)) Q E s) :
  OpR X f (rI C fun i j=>.int (g i j)):=by
 intro pins s σ H x y v u Q I rx ry h
 obtain ⟨i,j,rfl,rfl,hc,q⟩:=h
 obtain ⟨t,rfl⟩:=rx
 obtain ⟨t',rfl⟩:=ry
 exact rule i j t t' s _ _ hc ⟨.int (g i j),H,I.tok _,⟨_,rfl⟩,q⟩
theorem Q9i {f:Value→Value→Sem Value} {g:Int→Int→Int}
  (rule:∀ (i j:Int) (t u:Tok) (s:Shared) (Q:Value→Shared→Prop) (E:Value→Shared→Prop),Q (.int (g i j) s.toks) { s with toks:=s.toks+1 }→wpAny (model X.prog X.w) X.A (f (.int i t) (.int j u)) Q E s) :
  OpR X f (rI0 fun i j=>.int (g i j)):=by
 intro pins s σ H x y v u Q I rx ry h
 obtain ⟨i,j,rfl,rfl,q⟩:=h
 obtain ⟨t,rfl⟩:=rx
 obtain ⟨t',rfl⟩:=ry
 exact rule i j t t' s _ _ ⟨.int (g i j),H,I.tok _,⟨_,rfl⟩,q⟩
theorem Q52 {f:Value→Value→Sem Value} {g:Int→Int→Bool}
  (rule:∀ (i j:Int) (t u:Tok) (s:Shared) (Q:Value→Shared→Prop) (E:Value→Shared→Prop),Q (.bool (g i j)) s→wpAny (model X.prog X.w) X.A (f (.int i t) (.int j u)) Q E s) :
  OpR X f (rI0 fun i j=>.bl (g i j)):=by
 intro pins s σ H x y v u Q I rx ry h
 obtain ⟨i,j,rfl,rfl,q⟩:=h
 obtain ⟨t,rfl⟩:=rx
 obtain ⟨t',rfl⟩:=ry
 exact rule i j t t' s _ _ ⟨.bl (g i j),H,I,rfl,q⟩
def Q53 (i j:Int):Prop:=0≤j∧j≤1000000∧i.natAbs<2^64
def CMul (i j:Int):Prop:=(-(2^64)<i∧i<2^64)∨(-(2^64)<j∧j<2^64)
theorem CMul.ok {i j:Int} (h:CMul i j):IntMulOk i j:=by
 rcases h with ⟨h1,h2⟩ | ⟨h1,h2⟩
 ·exact .of_left (intBits_le_64 h1 h2)
 ·exact .of_right (intBits_le_64 h1 h2)
theorem Q54:OpR X (binaryOp .Add) (rI0 fun i j=>.int (i+j)):=Q9i fun _ _ _ _ _ _ _ q=>add_int q
theorem Q55:OpR X (binaryOp .Sub) (rI0 fun i j=>.int (i-j)):=Q9i fun _ _ _ _ _ _ _ q=>sub_int q
theorem Q56:OpR X (binaryOp .Mult) (rI CMul fun i j=>.int (i*j)):=opI fun _ _ _ _ _ _ _ hc q=>mul_int q hc.ok
theorem Q1s:OpR X (binaryOp .Mod) (rI (fun _ j=>j≠0) fun i j=>.int (i.fmod j)):=opI fun _ _ _ _ _ _ _ hc q=>mod_int' hc q
theorem Q57:OpR X (binaryOp .Pow) (rI Q53 fun i j=>.int (i^j.toNat)):=opI fun _ _ _ _ _ _ _ hc q=>pow_int_small hc.1 hc.2.1 hc.2.2 q
theorem unI {f:Value→Sem Value} {g:Int→Int}
  (rule:∀ (i:Int) (t:Tok) (s:Shared) (Q:Value→Shared→Prop) (E:Value→Shared→Prop),Q (.int (g i) s.toks) { s with toks:=s.toks+1 }→wpAny (model X.prog X.w) X.A (f (.int i t)) Q E s) :
  UnR X f (rU fun i=>.int (g i)):=by
 intro pins s σ H x v Q I rx h
 obtain ⟨i,rfl,q⟩:=h
 obtain ⟨t,rfl⟩:=rx
 exact rule i t s _ _ ⟨.int (g i),H,I.tok _,⟨_,rfl⟩,q⟩
theorem Q58:UnR X (unaryOp .USub) (rU fun i=>.int (-i)):=unI fun _ _ _ _ _ q=>neg_int q
end
noncomputable def Q59:V→V→Bool
 | .non,.non=>true | .non,.int _=>true | .int _,.non=>true | .non,.bl _=>true | .bl _,.non=>true | .non,.str _=>true | .str _,.non=>true
 | .int _,.int _=>true | .bl _,.bl _=>true | .str _,.str _=>true | .byt _,.byt _=>true
 | .int _,.str _=>true | .str _,.int _=>true | .bl _,.str _=>true | .str _,.bl _=>true
 | _,_=>false
def rEq:R2:=fun x y H Q=>Q59 x y=true∧Q (.bl (decide (x=y))) H
def rNe:R2:=fun x y H Q=>Q59 x y=true∧Q (.bl (!decide (x=y))) H
theorem Qub {i j:Int}:decide (V.int i=V.int j)=(i==j):=by
 rw [Bool.eq_iff_iff]
 simp
theorem Qxx {i j:Bool}:decide (V.bl i=V.bl j)=(i==j):=by
 rw [Bool.eq_iff_iff]
 simp
theorem Quc {i j:Str}:decide (V.str i=V.str j)=(i==j):=by
 rw [Bool.eq_iff_iff]
 simp
theorem Qud {i j:Array UInt8}:decide (V.byt i=V.byt j)=(i.toList==j.toList):=by
 rw [Bool.eq_iff_iff]
 cases i
 cases j
 simp
section
variable {X:Cx} {a b c:Expr} {ta tb tc:TE} {pos:Pos}
theorem Qaw {pins:List (Addr×Obj)} {σ:St} {H:Hp} {s:Shared} {Q:VK} {k k':Bool} (I:Inv X pins σ H s) (q:Q (.bl k) H) (e:k=k'):EP X pins σ Q (.bool k') s:=by
 subst e
 exact ⟨.bl k,H,I,rfl,q⟩
theorem Q9j:OpR X (compareOp .Eq) rEq:=by
 intro pins s σ H x y v u Q I rx ry h
 obtain ⟨hs,q⟩:=h
 cases x with
 | non =>
  cases rx
  cases y with
  | non=>cases ry;exact PySem.EqNone.eq_none_none (Qaw I q (by simp))
  | bl j=>cases ry;exact PySem.EqNone.eq_none_bool (Qaw I q (by simp))
  | int j=>obtain ⟨t',rfl⟩:=ry;exact PySem.EqNone.eq_none_int (Qaw I q (by simp))
  | str j=>obtain ⟨t',rfl⟩:=ry;exact PySem.EqNone.eq_none_str (Qaw I q (by simp))
  | _=>exact absurd (show false=true from hs) Bool.false_ne_true
 | bl i =>
  cases rx
  cases y with
  | non=>cases ry;exact PySem.EqNone.eq_bool_none (Qaw I q (by simp))
  | bl j=>cases ry;exact eq_bool (Qaw I q Qxx)
  | str j=>obtain ⟨t',rfl⟩:=ry;exact PySem.EqMixed.eq_bool_str (Qaw I q (by simp))
  | _=>exact absurd (show false=true from hs) Bool.false_ne_true
 | int i =>
  obtain ⟨t,rfl⟩:=rx
  cases y with
  | non=>cases ry;exact PySem.EqNone.eq_int_none (Qaw I q (by simp))
  | int j=>obtain ⟨t',rfl⟩:=ry;exact eq_int (Qaw I q Qub)
  | str j=>obtain ⟨t',rfl⟩:=ry;exact PySem.EqMixed.eq_int_str (Qaw I q (by simp))
  | _=>exact absurd (show false=true from hs) Bool.false_ne_true
 | str i =>
  obtain ⟨t,rfl⟩:=rx
  cases y with
  | non=>cases ry;exact PySem.EqNone.eq_str_none (Qaw I q (by simp))
  | bl j=>cases ry;exact PySem.EqMixed.eq_str_bool (Qaw I q (by simp))
  | int j=>obtain ⟨t',rfl⟩:=ry;exact PySem.EqMixed.eq_str_int (Qaw I q (by simp))
  | str j=>obtain ⟨t',rfl⟩:=ry;exact eq_str (Qaw I q Quc)
  | _=>exact absurd (show false=true from hs) Bool.false_ne_true
 | byt i =>
  obtain ⟨t,rfl⟩:=rx
  cases y with
  | byt j=>obtain ⟨t',rfl⟩:=ry;exact PySem.W.eq_bytes (Qaw I q Qud)
  | _=>exact absurd (show false=true from hs) Bool.false_ne_true
 | _=>cases y <;> exact absurd (show false=true from hs) Bool.false_ne_true
theorem Q9k:OpR X (compareOp .NotEq) rNe:=by
 intro pins s σ H x y v u Q I rx ry h
 obtain ⟨hs,q⟩:=h
 cases x with
 | non =>
  cases rx
  cases y with
  | non=>cases ry;exact PySem.EqNone.ne_none_none (Qaw I q (by simp))
  | bl j=>cases ry;exact PySem.EqNone.ne_none_bool (Qaw I q (by simp))
  | int j=>obtain ⟨t',rfl⟩:=ry;exact PySem.EqNone.ne_none_int (Qaw I q (by simp))
  | str j=>obtain ⟨t',rfl⟩:=ry;exact PySem.EqNone.ne_none_str (Qaw I q (by simp))
  | _=>exact absurd (show false=true from hs) Bool.false_ne_true
 | bl i =>
  cases rx
  cases y with
  | non=>cases ry;exact PySem.EqNone.ne_bool_none (Qaw I q (by simp))
  | bl j=>cases ry;exact ne_bool (Qaw I q (congrArg not Qxx))
  | str j=>obtain ⟨t',rfl⟩:=ry;exact PySem.EqMixed.ne_bool_str (Qaw I q (by simp))
  | _=>exact absurd (show false=true from hs) Bool.false_ne_true
 | int i =>
  obtain ⟨t,rfl⟩:=rx
  cases y with
  | non=>cases ry;exact PySem.EqNone.ne_int_none (Qaw I q (by simp))
  | int j=>obtain ⟨t',rfl⟩:=ry;exact ne_int (Qaw I q (congrArg not Qub))
  | str j=>obtain ⟨t',rfl⟩:=ry;exact PySem.EqMixed.ne_int_str (Qaw I q (by simp))
  | _=>exact absurd (show false=true from hs) Bool.false_ne_true
 | str i =>
  obtain ⟨t,rfl⟩:=rx
  cases y with
  | non=>cases ry;exact PySem.EqNone.ne_str_none (Qaw I q (by simp))
  | bl j=>cases ry;exact PySem.EqMixed.ne_str_bool (Qaw I q (by simp))
  | int j=>obtain ⟨t',rfl⟩:=ry;exact PySem.EqMixed.ne_str_int (Qaw I q (by simp))
  | str j=>obtain ⟨t',rfl⟩:=ry;exact ne_str (Qaw I q (congrArg not Quc))
  | _=>exact absurd (show false=true from hs) Bool.false_ne_true
 | byt i =>
  obtain ⟨t,rfl⟩:=rx
  cases y with
  | byt j=>obtain ⟨t',rfl⟩:=ry;exact PySem.W.ne_bytes (Qaw I q (congrArg not Qud))
  | _=>exact absurd (show false=true from hs) Bool.false_ne_true
 | _=>cases y <;> exact absurd (show false=true from hs) Bool.false_ne_true
theorem Q9l:OpR X (compareOp .Lt) (rI0 fun i j=>.bl (decide (i<j))):=Q52 fun _ _ _ _ _ _ _ q=>lt_int q
theorem Q9m:OpR X (compareOp .Gt) (rI0 fun i j=>.bl (decide (j<i))):=Q52 fun _ _ _ _ _ _ _ q=>gt_int q
theorem Q9n:OpR X (compareOp .GtE) (rI0 fun i j=>.bl (decide (j≤i))):=Q52 fun _ _ _ _ _ _ _ q=>ge_int q
theorem Q6a:OpR X (compareOp .Is) (fun x y H Q=>y=.non∧Q (.bl (decide (x=.non))) H):=by
 intro pins s σ H x y v u Q I rx ry h
 obtain ⟨rfl,q⟩:=h
 cases ry
 refine is_none_gen (Qaw I q ?_)
 cases x <;> first
  | (cases rx;rfl)
  | (obtain ⟨t,rfl⟩:=rx;rfl)
theorem Q1t:OpR X (compareOp .IsNot) (fun x y H Q=>y=.non∧Q (.bl (!decide (x=.non))) H):=by
 intro pins s σ H x y v u Q I rx ry h
 obtain ⟨rfl,q⟩:=h
 cases ry
 refine isnot_none_gen (Qaw I q ?_)
 cases x <;> first
  | (cases rx;rfl)
  | (obtain ⟨t,rfl⟩:=rx;rfl)
theorem OpR.or {f:Value→Value→Sem Value} {r r':R2} (h:OpR X f r) (h':OpR X f r'):OpR X f (fun x y H Q=>r x y H Q∨r' x y H Q):=by
 intro pins s σ H x y v u Q I rx ry q
 rcases q with q | q
 ·exact h pins s σ H x y v u Q I rx ry q
 ·exact h' pins s σ H x y v u Q I rx ry q
theorem Qxy (b:Expr) {op:CmpOp} (h:op≠.In:=by decide) (h2:op≠.NotIn:=by decide):behindInMarks op b=false:=by
 have e1:(op==CmpOp.In)=false:=by cases op <;> first | rfl | exact absurd rfl h
 have e2:(op==CmpOp.NotIn)=false:=by cases op <;> first | rfl | exact absurd rfl h2
 cases b <;> simp [behindInMarks,e1,e2]
theorem Q1u {op:CmpOp} {r:R2} (ho:OpR X (compareOp op) r) (ha:PE X a ta) (hb:PE X b tb) (hm:behindInMarks op b=false):PE X (.Compare a [op] [b] pos) (tOp r ta tb):=by
 intro pins s σ H Q I h
 exact wpAny_Compare1 (Q51 ha hb I h fun v u s2 x y H2 I2 rx ry q=>ho pins s2 σ H2 x y v u Q I2 rx ry q) hm
abbrev Q4f (t:TE):TT:=fun σ H Q=>t σ H fun x H'=>∃ k,x=.bl k∧Q k H'
theorem Q1v {op:CmpOp} {r:R2} (ho:OpR X (compareOp op) r) (ha:PE X a ta) (hb:PE X b tb) (hm:behindInMarks op b=false):PT X (.Compare a [op] [b] pos) (Q4f (tOp r ta tb)):=by
 intro pins s σ H Q I h
 refine wpAny_isTrue_Compare1 (thn (ha pins s σ H _ I h) fun v s1 ⟨x,H1,I1,r1,q1⟩=>thn (hb pins s1 σ H1 _ I1 q1) fun u s2 ⟨y,H2,I2,r2,q2⟩ =>
  thn (ho pins s2 σ H2 x y v u _ I2 r1 r2 q2) fun c s3 ⟨z,H3,I3,r3,k,e,q3⟩=>?_) hm
 subst e
 cases r3
 exact wpAny_truthy_bool ⟨H3,I3,q3⟩
theorem Qlp:(sizeLine:Nat)<2^63:=by rw [sizeLine_eq];decide
theorem Qi3 {x:V} {us:List Value} (r:Vals [x] us):∃ u,us=[u]∧RelV x u:=by
 cases r with
 | cons r1 r2=>cases r2;exact ⟨_,rfl,r1⟩
theorem Que {x y:V} {us:List Value} (r:Vals [x,y] us):∃ u w',us=[u,w']∧RelV x u∧RelV y w':=by
 cases r with
 | cons r1 r2 =>
  cases r2 with
  | cons r3 r4=>cases r4;exact ⟨_,_,rfl,r1,r3⟩
theorem Qxz:CallR X (.builtin "abs") (fun xs H Q=>∃ i,xs=[.int i]∧Q (.int (if i<0 then -i else i)) H):=by
 intro pins s σ H xs us Q I r h
 obtain ⟨i,rfl,q⟩:=h
 obtain ⟨u,rfl,t,rfl⟩:=Qi3 r
 exact call_abs_int fun u tk=>⟨.int (if i<0 then -i else i),H,I.tok _,⟨_,rfl⟩,q⟩
theorem Qv0 (hc:X.calm=true):CallR X (.builtin "max") (fun xs H Q=>∃ i j,xs=[.int i,.int j]∧Q (.int (if j>i then j else i)) H):=by
 intro pins s σ H xs us Q I r h
 obtain ⟨i,j,rfl,q⟩:=h
 obtain ⟨u,w',rfl,⟨t,rfl⟩,⟨t',rfl⟩⟩:=Que r
 refine max_two_ints (I.ok.hd hc) fun h' tk k=>⟨_,H,I.kept k,?_,q⟩
 by_cases hj:j>i
 ·rw [if_pos hj,if_pos hj];exact ⟨_,rfl⟩
 ·rw [if_neg hj,if_neg hj];exact ⟨_,rfl⟩
theorem Qv1:CallR X (.type "int") (fun xs H Q=>(∃ i,xs=[.int i]∧Q (.int i) H)∨∃ k,xs=[.bl k]∧Q (.int (if k then 1 else 0)) H):=by
 intro pins s σ H xs us Q I r h
 rcases h with ⟨i,rfl,q⟩ | ⟨k,rfl,q⟩
 ·obtain ⟨u,rfl,t,rfl⟩:=Qi3 r
  exact call_int_int ⟨.int i,H,I,⟨_,rfl⟩,q⟩
 ·obtain ⟨u,rfl,r1⟩:=Qi3 r
  cases r1
  exact call_int_bool ⟨.int (if k then 1 else 0),H,I.tok _,⟨_,rfl⟩,q⟩
end
structure ObjM (h:Heap) (x dx C:Addr) (mA:Str→Option Value):Prop where
 obj:h.get? x=some (PySem.W.instObj C dx)
 ns:h.Ns1 dx mA
 ne:dx≠x
theorem Qv2 {h:Heap} {dx:Addr} {mA:Str→Option Value} (n:h.Ns1 dx mA):∃ od,h.get? dx=some od∧∀ name,PySem.W.lookIn name od=some (mA name):=by
 obtain ⟨o,es,ep,ho,hd,hk,_,hm⟩:=n
 refine ⟨o,ho,fun name=>?_⟩
 have e:=hm name
 unfold nsFind findBy at e
 rw [←Array.find?_toList] at e
 unfold PySem.W.lookIn
 rw [hd]
 dsimp only
 split
 ·rename_i y q
  rw [q] at e
  exact congrArg some e
 ·rename_i q
  rw [q] at e
  have a:es.toList.any (·.refKey)=false:=by
   rw [List.any_eq_false]
   intro y hy
   obtain ⟨z,t,hkey⟩:=hk y (Array.mem_toList_iff.mp hy)
   simp [DictEntry.refKey,hkey]
  have a':¬ es.toList.any (·.refKey)=true:=by rw [a];exact Bool.false_ne_true
  rw [if_neg a']
  exact congrArg some e
theorem ObjM.look {h:Heap} {x dx C:Addr} {mA:Str→Option Value} (I:ObjM h x dx C mA):∃ od,PySem.W.InstAt h x (PySem.W.instObj C dx) C (some od)∧∀ name,PySem.W.lookIn name od=some (mA name) :=
 let ⟨od,ho,hl⟩:=Qv2 I.ns
 ⟨od,⟨I.obj,rfl,rfl,ho⟩,hl⟩
section
variable {prog:Program} {w:World} {A:Around} {E:Value→Shared→Prop} {s:Shared} {K:PySem.W.Frag} {x dx C f:Addr} {mA:Str→Option Value} {name:Str} {v:Value}
end
section
variable {P:Program} {w:World} {H H':Hp} {h h':Heap} {a C dx:Addr} {fs fs':List (Str×V)}
theorem Q1w (hok:HOk P w H h) (e:H a=some (.ins C dx fs)):∃ mA,ObjM h a dx C mA∧(∀ f,RelO (fs.lookup f) (mA f))∧PySem.Within mA (fs.map (·.1))∧fs.length≤1000∧H dx=some (.own a):=by
 obtain ⟨d,z,ne,ob,mA,n,r,q⟩:=(show ObjOk P w H h a (.ins C dx fs) from hok a _ e)
 exact ⟨mA,⟨ob,n,ne⟩,r,q,z,d⟩
end
structure Cls (K:PySem.W.Frag) (C:Addr):Prop where
 pg:PySem.W.plainGet K C Str.empty=true
 hd:PySem.W.hasDictIn K C=true
 po:PySem.W.plainOver K C=true
 sa:PySem.W.findIn K (.ref C) "__setattr__" = some (some (.builtin "object.__setattr__"))
theorem Cls.get {K:PySem.W.Frag} {C:Addr} (c:Cls K C) (f:Str):PySem.W.plainGet K C f=true:=c.pg
structure Con (K:PySem.W.Frag) (C:Addr) (f:Str) (v:V) (u:Value):Prop where
 at_:PySem.W.findIn K (.ref C) f=some (some u)
 rel:RelV v u
 get:PySem.W.specialIn K u "__get__" = some none
 cp:PySem.W.copiedNames.contains f=false
structure Meth (K:PySem.W.Frag) (C:Addr) (m:Str) (f:Addr):Prop where
 at_:PySem.W.findIn K (.ref C) m=some (some (.ref f))
 fn:PySem.W.isFn K (.ref f)=true
 kp:PySem.W.keepIn K (.ref f)=true
section
variable {X:Cx} {pins:List (Addr×Obj)} {σ:St} {H:Hp} {s:Shared} {a C dx:Addr} {fs:List (Str×V)} {f:Str} {v:V} {A:Around} {E:Value→Shared→Prop}
end
section
variable {X:Cx} {o e value:Expr} {f:Str} {pos pos' tpos:Pos} {ta tv:TE}
end
section
variable {X:Cx} {pins:List (Addr×Obj)} {σ:St} {H:Hp} {s:Shared} {A:Around} {E:Value→Shared→Prop} {Q:Value→Shared→Prop} {c:Value} {b:Bool}
inductive TyOf (K:PySem.W.Frag) (H:Hp):V→Value→Prop where
 | non:TyOf K H .non (.type "NoneType")
 | bl (x:Bool):TyOf K H (.bl x) (.type "bool")
 | int (i:Int):TyOf K H (.int i) (.type "int")
 | str (x:Str):TyOf K H (.str x) (.type "str")
 | flt (x:UInt64):TyOf K H (.flt x) (.type "float")
 | lst {a:Addr} {xs:List V} (e:H a=some (.lst xs)):TyOf K H (.ref a) (.type "list")
 | frz {a:Addr} {o:Obj} {xs:List V} (e:H a=some (.frz o (.lst xs))):TyOf K H (.ref a) (.type "list")
 | tup {a:Addr} {xs:List V} (e:H a=some (.tup xs)):TyOf K H (.ref a) (.type "tuple")
 | dK {a:Addr} {kvs:List (Key×V)} (e:H a=some (.dK kvs)):TyOf K H (.ref a) (.type "dict")
 | dT {a:Addr} {kvs:List (List Key×V)} (e:H a=some (.dT kvs)):TyOf K H (.ref a) (.type "dict")
 | ins {a C dx:Addr} {fs:List (Str×V)} (e:H a=some (.ins C dx fs)) (cl:Cls K C) (ha:PySem.W.findIn K (.ref C) "__class__" = some (some (.builtin "object.__class__")))
   (hn:PySem.W.specialIn K (.builtin "object.__class__") "__get__" = some (some (.builtin "getset_descriptor.__get__"))) (htk:PySem.W.takesIn K (.builtin "object.__class__")=some true)
   (hm:PySem.W.mroIn K C (.type "object")=some true):TyOf K H (.ref a) (.ref C)
theorem Qv3 {x:V} {u t:Value} (I:Inv X pins σ H s) (rx:RelV x u) (ty:TyOf X.K H x t) (e:PySem.W.kitOne X.K t c=some b) (h:∀ tk,Q (.bool b) { s with toks:=tk }) :
  wpAny (model X.prog X.w) A (call (.builtin "isinstance") [u,c]) Q E s:=by
 cases ty with
 | non=>cases (show u=Value.none from rx);exact PySem.W.kia_one PySem.W.kitx_none I.kIn True.intro e (fun z=>nomatch z) h
 | bl y=>cases (show u=Value.bool y from rx);exact PySem.W.kia_one PySem.W.kitx_bool I.kIn True.intro e (fun z=>nomatch z) h
 | int i=>obtain ⟨t,q⟩:=(show ∃ t,u=Value.int i t from rx);cases q;exact PySem.W.kia_one PySem.W.kitx_int I.kIn True.intro e (fun z=>nomatch z) h
 | str y=>obtain ⟨t,q⟩:=(show ∃ t,u=Value.str y t from rx);cases q;exact PySem.W.kia_one PySem.W.kitx_str I.kIn True.intro e (fun z=>nomatch z) h
 | flt y=>obtain ⟨t,q⟩:=(show ∃ t,u=Value.float y t from rx);cases q;exact PySem.W.kia_one PySem.W.kitx_float I.kIn True.intro e (fun z=>nomatch z) h
 | @lst a xs ea =>
  cases (show u=Value.ref a from rx)
  obtain ⟨_,_,n,_,h1⟩:=(show ObjOk X.prog X.w H s.heap a (.lst xs) from I.hok a _ ea)
  exact PySem.W.kia_one PySem.W.kitx_list I.kIn ⟨_,h1,rfl⟩ e (fun z=>nomatch z) h
 | @frz a ob xs ea =>
  cases (show u=Value.ref a from rx)
  obtain ⟨_,_,_,n,_,h1⟩:=(show ObjOk X.prog X.w H s.heap a (.frz ob (.lst xs)) from I.hok a _ ea)
  exact PySem.W.kia_one PySem.W.kitx_list I.kIn ⟨_,h1,rfl⟩ e (fun z=>nomatch z) h
 | @tup a xs ea =>
  cases (show u=Value.ref a from rx)
  obtain ⟨_,_,_,p⟩:=(show ObjOk X.prog X.w H s.heap a (.tup xs) from I.hok a _ ea)
  obtain ⟨o,h1,h2,_⟩:=p
  exact PySem.W.kia_one PySem.W.kitx_tuple I.kIn ⟨o,h1,h2⟩ e (fun z=>nomatch z) h
 | @dK a kvs ea =>
  cases (show u=Value.ref a from rx)
  obtain ⟨_,_,vs,_,p⟩:=(show ObjOk X.prog X.w H s.heap a (.dK kvs) from I.hok a _ ea)
  obtain ⟨o,es,ep,h1,h2,_⟩:=p
  exact PySem.W.kia_one PySem.W.kitx_dict I.kIn ⟨o,h1,h2.1⟩ e (fun z=>nomatch z) h
 | @dT a kvs ea =>
  cases (show u=Value.ref a from rx)
  obtain ⟨_,_,xs,_,o,es,ep,h1,h2,_⟩:=(show ObjOk X.prog X.w H s.heap a (.dT kvs) from I.hok a _ ea)
  exact PySem.W.kia_one PySem.W.kitx_dict I.kIn ⟨o,h1,h2.1⟩ e (fun z=>nomatch z) h
 | @ins a C dx fs ea cl ha hn htk hm =>
  cases (show u=Value.ref a from rx)
  obtain ⟨mA,O,_⟩:=Q1w I.hok ea
  obtain ⟨od,J,_⟩:=O.look
  exact PySem.W.kia_one (PySem.W.kitx_own (cl.get _) cl.hd ha hn htk hm) I.kIn J e (fun z=>nomatch z) h
end
structure Room (k:Nat) (A:Around):Prop where
 hd:A.handled=none
 dp:A.depth+3*k+5<recursionLimit
 un:A.units+16*k+200<cLine
 gd:A.guards=some []
theorem Room.mono {j k:Nat} {A:Around} (r:Room k A) (h:j≤k):Room j A:=⟨r.hd,by have:=r.dp;omega,by have:=r.un;omega,r.gd⟩
theorem Room.deeper {k:Nat} {A:Around} (r:Room (k+1) A) (env:Env):Room k (A.deeper env) :=
 ⟨r.hd,by have:=r.dp;show A.depth+1+3*k+5<_;omega,by have:=r.un;show A.units+3+16*k+200<_;omega,r.gd⟩
theorem Room.depth {k:Nat} {A:Around} (r:Room k A):A.depth<recursionLimit:=by have:=r.dp;omega
theorem Room.units {k:Nat} {A:Around} (r:Room k A):A.units+64<cLine:=by have:=r.un;omega
abbrev Qv4:TA:=fun _ H Q=>Q [] H
abbrev Qku (ta:TE) (tr:TA):TA:=fun σ H Q=>ta σ H fun x H1=>tr σ H1 fun xs H2=>Q (x::xs) H2
section
variable {X:Cx} {e:Expr} {es:List Expr} {te:TE} {t:TA} {pos:Pos}
theorem Qx0:PA X [] Qv4:=fun _ _ _ _ H Q I h=>Calls.spliced_nil ⟨[],H,I,.nil,h⟩
theorem Q1x (ha:PE X e te) (hr:PA X es t) (hs:starEach (e::es) X.env=(false,eval e X.env)::starEach es X.env:=by rfl):PA X (e::es) (Qku te t):=by
 intro pos pins s σ H Q I h
 rw [hs]
 show wpAny _ _ (spliced ((false,eval e X.env)::backTo pos (starEach es X.env))) _ _ s
 refine Calls.spliced_cons (thn (ha pins s σ H _ I h) fun u s1 ⟨x,H1,I1,r1,q1⟩=>?_)
 exact thn (hr pos pins s1 σ H1 _ I1 q1) fun us s2 ⟨xs,H2,I2,r2,q2⟩=>⟨x::xs,H2,I2,.cons r1 r2,q2⟩
abbrev tTup (t:TA):TE:=fun σ H Q=>t σ H fun xs H1=>xs.length≤sizeLine∧∀ p,H1 p=none→Q (.ref p) (upd H1 p (.tup xs))
abbrev tLst (t:TA):TE:=fun σ H Q=>t σ H fun xs H1=>xs.length≤sizeLine∧∀ p,H1 p=none→Q (.ref p) (upd H1 p (.lst xs))
theorem Qx1 {x1} (h:PA X es t):PE X (.Tuple es x1 pos) (tTup t):=by
 intro pins s σ H Q I hq
 refine wpAny_Tuple_spliced (thn (h pos pins s σ H _ I hq) fun us s1 ⟨xs,H1,I1,r,z,q⟩=>⟨by rw [←r.length];exact z,?_⟩)
 have hf:H1 s1.heap.objs.size=none:=I1.hok.fresh (Nat.le_refl _)
 refine ⟨.ref s1.heap.objs.size,upd H1 s1.heap.objs.size (.tup xs),I1.laid (t':=s1.toks) (fun b u e=>Heap.get?_push_of_some _ e) (Nat.le_refl _) ?_,rfl,q _ hf⟩
 exact ⟨z,us,r,⟨_,Heap.get?_push_size _ rfl,rfl,_,rfl,rfl⟩⟩
theorem Qx2 (h:PA X es t):PE X (.List es pos) (tLst t):=by
 intro pins s σ H Q I hq
 refine wpAny_List_spliced (thn (h pos pins s σ H _ I hq) fun us s1 ⟨xs,H1,I1,r,z,q⟩=>⟨by rw [←r.length];exact z,?_⟩)
 have hf:H1 s1.heap.objs.size=none:=I1.hok.fresh (Nat.le_refl _)
 refine ⟨.ref s1.heap.objs.size,upd H1 s1.heap.objs.size (.lst xs),I1.laid (t':=s1.toks) (fun b u e=>Heap.get?_push_of_some _ e) (Nat.le_refl _) ?_,rfl,q _ hf⟩
 exact ⟨z,us,0,r,Heap.get?_push_size _ rfl⟩
end
noncomputable abbrev Sp:=List V→Hp→VK→XK→Prop
noncomputable abbrev CXT:=List Env→Hp→Shared→XK→Value→Shared→Prop
structure Env0 (P:Program) (w:World) (K:PySem.W.Frag) (mg:Str→Option Value) (base:Heap) (A:Around) (outer:List Env) (s:Shared) (H:Hp):Prop where
 frames:A.frames=some outer
 mod:Mod K mg base
 bs:∀ b o,base.get? b=some o→s.heap.get? b=some o∧H b=none
 bsz:base.objs.size≤s.heap.objs.size
 funs:s.heap.FunFrames base outer
 frf:(∀ b∈frs outer,H b=none)∧Qxi K H
 hok:HOk P w H s.heap
 bare:AllBare s.gens
def CE (outer:List Env) (P:Program) (w:World) (H:Hp) (s:Shared) (Q:VK) (u:Value) (s':Shared):Prop :=
 ∃ v H',s'.os=s.os∧AllBare s'.gens∧Un (frs outer) [] H H' s.heap s'.heap∧HOk P w H' s'.heap∧RelV v u∧Q v H'
def CR (CX:CXT) (outer:List Env) (P:Program) (w:World) (H:Hp) (s:Shared) (Q:VK) (E:XK) (r:Result) (s':Shared):Prop :=
 match r with
 | .ok (.ret u)=>CE outer P w H s Q u s'
 | .ok _=>False
 | .error e=>CX outer H s E e s'
structure FnOk (P:Program) (w:World) (K:PySem.W.Frag) (mg:Str→Option Value) (base:Heap) (CX:CXT) (k:Nat) (f:Addr) (fd:FuncData) (ps:List Str) (sp:Sp):Prop where
 len:∀ vs H Q E,sp vs H Q E→vs.length=ps.length
 run:∀ (A:Around) (outer:List Env) (s:Shared) (H:Hp) (args:Args) (us:List Value) (vs:List V) (Q:VK) (E:XK),Room k A→Env0 P w K mg base A outer s H→BindsTo s fd args (ps.zip us)→Vals vs us→sp vs H Q E →
  codeAny (model P w) A (.call (.ref f) args) (CR CX outer P w H s Q E) s
section
variable {X:Cx} {pins:List (Addr×Obj)} {σ:St} {H:Hp} {s s':Shared}
theorem Inv.env0 (I:Inv X pins σ H s):Env0 X.prog X.w X.K X.mg X.base X.A X.stack s H :=
 ⟨I.ok.frames,I.ok.mod,I.bs,Nat.le_trans I.ok.bsz I.sz,I.stack,⟨I.stkFree,I.tab⟩,I.hok,I.bare⟩
theorem Inv.after {Q:VK} {u:Value} (I:Inv X pins σ H s) (h:CE X.stack X.prog X.w H s Q u s'):EP X pins σ Q u s':=by
 obtain ⟨v,H',os,bare,un,hok,r,q⟩:=h
 obtain ⟨hh,g,d,t,os'⟩:=s'
 obtain rfl:os'=s.os:=os
 exact ⟨v,H',I.call (h':=hh) (g':=g) (d':=d) (t':=t) (ch:=[]) un hok bare (fun b z=>absurd z (by simp)),r,q⟩
end
abbrev Qqg (sp:Sp) (dvs:List V) (E:XK) (t:TA):TE:=fun σ H Q=>t σ H fun vs H1=>sp (vs++dvs) H1 Q E
def Binds (K:PySem.W.Frag) (fd:FuncData) (ps:List Str) (ds:List Value):Prop :=
 ∀ (s:Shared) (us:List Value),K.In s.heap→(us++ds).length=ps.length→BindsTo s fd ⟨us,[]⟩ (ps.zip (us++ds))
theorem Binds.all {K:PySem.W.Frag} {fd:FuncData} {ps:List Str} (h:∀ us:List Value,us.length=ps.length→bindArgs fd ⟨us,[]⟩=pure (ps.zip us)):Binds K fd ps []:=fun s us _ hl=>by
 rw [append_nil] at hl ⊢
 exact .of_eq (h us hl)
def Qss (CX:CXT) (X:Cx) (E:XK):Prop:=∀ (pins:List (Addr×Obj)) (σ:St) (H:Hp) (s:Shared) (e:Value) (s':Shared),Inv X pins σ H s→CX X.stack H s E e s'→X.xe e s'
section
variable {X:Cx} {CX:CXT} {k:Nat} {f C:Addr} {fd:FuncData} {ps:List Str} {sp:Sp} {dvs:List V} {ds:List Value} {E:XK} {x m:Str} {p pos apos:Pos} {e o:Expr} {es:List Expr} {ta:TE} {t:TA}
theorem Q6b {pins:List (Addr×Obj)} {σ:St} {H:Hp} {s:Shared} {Q:VK} {us:List Value} {vs:List V} (F:FnOk X.prog X.w X.K X.mg X.base CX k f fd ps sp) (hr:Room k X.A) (hb:Binds X.K fd ps ds) (hd:Vals dvs ds) (hx:Qss CX X E)
  (I:Inv X pins σ H s) (r:Vals vs us) (h:sp (vs++dvs) H Q E):wpAny (model X.prog X.w) X.A (call (.ref f) us) (EP X pins σ Q) X.xe s:=by
 have r2:Vals (vs++dvs) (us++ds):=r.append hd
 have hl:(us++ds).length=ps.length:=by rw [←r2.length];exact F.len _ _ _ _ h
 refine wpAny_call (codeAny_mono (F.run X.A X.stack s H ⟨us,[]⟩ (us++ds) (vs++dvs) Q E hr I.env0 (hb s us I.kIn hl) r2 h) fun r s' hq=>?_)
 cases r with
 | error e=>exact hx pins σ H s e s' I hq
 | ok fl =>
  cases fl with
  | ret u=>exact I.after hq
  | next=>exact False.elim hq
  | brk=>exact False.elim hq
  | cont=>exact False.elim hq
theorem Q1y (F:FnOk X.prog X.w X.K X.mg X.base CX k f fd ps sp) (hr:Room k X.A) (hg:Gl X x) (hm:X.mg x=some (.ref f)) (hk:PySem.W.keepIn X.K (.ref f)=true) (hb:Binds X.K fd ps ds) (hd:Vals dvs ds) (hx:Qss CX X E)
  (ha:PA X (e::es) t) (hdb:(x==("__debug__" : Str))=false:=by decide) (he:starEach (e::es) X.env=(false,eval e X.env)::starEach es X.env:=by rfl) (hpl:(backTo pos (starEach es X.env)).any (·.1)=false:=by rfl) :
  PE X (.Call (.Name x p) (e::es) [] pos) (Qqg sp dvs E t):=by
 intro pins s σ H Q I h
 refine wpAny_Call_Name_kw (Qfz I hg hm ?_ hdb)
 refine PySem.W.callWith_K (h₀:=X.base) I.ok.mod.kin hk (thn (ha pos pins s σ H _ I h) fun us s1 ⟨vs,H1,I1,r,q⟩=>⟨I1.kIn,?_⟩) he hpl
 exact Q6b F hr hb hd hx I1 r q
structure Mk (K:PySem.W.Frag) (C f:Addr):Prop where
 makes:PySem.W.makesIn K C=true
 init:PySem.W.findIn K (.ref C) "__init__" = some (some (.ref f))
 fn:PySem.W.isFn K (.ref f)=true
 kp:PySem.W.keepIn K (.ref C)=true
end
section
variable {X:Cx} {CX:CXT} {k:Nat} {f C:Addr} {fd:FuncData} {ps ks:List Str} {sp:Sp} {E:XK} {x m:Str} {p pos apos kpos:Pos} {e o:Expr} {es:List Expr} {kws:List Keyword} {te ta:TE} {t tk:TA} {nm:Option Str}
structure KBinds (K:PySem.W.Frag) (fd:FuncData) (ps ks:List Str) (g:List Value→List Value→List Value) (gV:List V→List V→List V):Prop where
 to:∀ (s:Shared) (us ws:List Value),K.In s.heap→(g us ws).length=ps.length→BindsTo s fd ⟨us,ks.zip ws⟩ (ps.zip (g us ws))
 rel:∀ {vs:List V} {us:List Value} {zs:List V} {ws:List Value},Vals vs us→Vals zs ws→Vals (gV vs zs) (g us ws)
variable {g:List Value→List Value→List Value} {gV:List V→List V→List V}
end
structure FnScope (N P:List Str) (sc:Scope):Prop where
 kind:sc.kind=.function
 co:sc.isCoroutine=false
 gen:sc.isGenerator=false
 nd:N.Nodup
 pre:N.take P.length=P
 par:∀ x∈P,sc.names.lookup x=some .local∨sc.names.lookup x=some .cell
 nofree:∀ y∈sc.names,y.2≠.free
theorem Qns {kindOf:Str→Option NameKind} {x:Str}:∀ {binds:List (Str×Value)} {m:Str→Option Value},(∀ v,(x,v)∉binds)→bindL kindOf binds m x=m x
 | [],_,_=>rfl
 | (n,v)::r,m,h=>by
  unfold bindL
  rw [Qns fun w hw=>h w (mem_cons_of_mem _ hw)]
  split
  ·have:x≠n:=by rintro rfl;exact h v mem_cons_self
   simp [this]
  ·rfl
theorem Qnt {kindOf:Str→Option NameKind} {x:Str}:∀ {binds:List (Str×Value)} {m:Str→Option Value},(∀ v,(x,v)∉binds)→bindC kindOf binds m x=m x
 | [],_,_=>rfl
 | (n,v)::r,m,h=>by
  unfold bindC
  rw [Qnt fun w hw=>h w (mem_cons_of_mem _ hw)]
  split
  ·rfl
  ·have:x≠n:=by rintro rfl;exact h v mem_cons_self
   simp [this]
theorem Qfs {kindOf:Str→Option NameKind} {x:Str} {v:Value}:∀ {P:List Str} {vs:List Value} {i:Nat} {m:Str→Option Value},P.Nodup→P[i]?=some x→vs[i]?=some v→kindOf x=some .local →
  bindL kindOf (P.zip vs) m x=some v
 | [],_,_,_,_,h,_,_=>by simp at h
 | _::_,[],_,_,_,_,h,_=>by simp at h
 | p::P,w::vs,0,m,nd,h1,h2,hk=>by
  simp at h1 h2;subst h1;subst h2
  show bindL kindOf ((p,w)::P.zip vs) m p=_
  unfold bindL
  rw [Qns fun v hv=>(nodup_cons.mp nd).1 (List.of_mem_zip hv).1,if_pos hk]
  simp
 | p::P,w::vs,i+1,m,nd,h1,h2,hk=>by
  show bindL kindOf ((p,w)::P.zip vs) m x=_
  unfold bindL
  exact Qfs (i:=i) (nodup_cons.mp nd).2 (by simpa using h1) (by simpa using h2) hk
theorem Qj1 {kindOf:Str→Option NameKind} {x:Str} {v:Value}:∀ {P:List Str} {vs:List Value} {i:Nat} {m:Str→Option Value},P.Nodup→P[i]?=some x→vs[i]?=some v→kindOf x≠some .local →
  bindC kindOf (P.zip vs) m x=some v
 | [],_,_,_,_,h,_,_=>by simp at h
 | _::_,[],_,_,_,_,h,_=>by simp at h
 | p::P,w::vs,0,m,nd,h1,h2,hk=>by
  simp at h1 h2;subst h1;subst h2
  show bindC kindOf ((p,w)::P.zip vs) m p=_
  unfold bindC
  rw [Qnt fun v hv=>(nodup_cons.mp nd).1 (List.of_mem_zip hv).1,if_neg hk]
  simp
 | p::P,w::vs,i+1,m,nd,h1,h2,hk=>by
  show bindC kindOf ((p,w)::P.zip vs) m x=_
  unfold bindC
  exact Qj1 (i:=i) (nodup_cons.mp nd).2 (by simpa using h1) (by simpa using h2) hk
noncomputable def Qbt (N:List Str) (vs:List V):St:=vs.map some++List.replicate (N.length-vs.length) none
noncomputable def Qh5 (g:Str→Bool) (CX:CXT) (P:Program) (w:World) (K:PySem.W.Frag) (mg:Str→Option Value) (base:Heap) (N:List Str) (qual:Str) (scope:Scope) (f:Addr) (cd:Value) (A:Around) (outer:List Env) (s:Shared) (H:Hp) (E:XK):Cx where
 prog:=P
 w:=w
 K:=K
 mg:=mg
 base:=base
 A:=A.deeper (envOfC qual scope s.heap.objs.size f cd)
 N:=N
 s₀:=s
 H₀:=H
 env:=envOfC qual scope s.heap.objs.size f cd
 outer:=outer
 stack:=envOfC qual scope s.heap.objs.size f cd::outer
 ex:=[]
 calm:=true
 fn:=g
 pn:=[]
 xe:=fun e s'=>wpAny (model P w) (A.deeper (envOfC qual scope s.heap.objs.size f cd)) (leaving (envOfC qual scope s.heap.objs.size f cd) e) (fun _ s''=>CX outer H s E e s'') (fun e' s''=>CX outer H s E e' s'') s'
theorem Qi4 {sc:Scope} {n:Nat} {x:Str} (h:sc.names.lookup x=some .cell):∃ c,(cellsFrom n sc.names []).lookup x=some c:=by
 have q:=PySem.W.cellsFrom_some sc.names n [] (.inl h)
 exact Option.isSome_iff_exists.mp q
theorem Qv5 {g:Str→Bool} {CX:CXT} {P:Program} {w:World} {K:PySem.W.Frag} {mg:Str→Option Value} {base:Heap} {N ps:List Str} {qual:Str} {scope:Scope} {f:Addr} {cd:Value} {A:Around} {outer:List Env} {s s1:Shared} {H:Hp} {E:XK} {us:List Value} {vs:List V}
  (S:FnScope N ps scope) (hd:A.handled=none) (e0:Env0 P w K mg base A outer s H) (hl:vs.length=ps.length) (r:Vals vs us)
  (x:InCallC s s.heap.objs.size (bindL (envOfC qual scope s.heap.objs.size f cd).kindOf (ps.zip us) fun _=>none) (cellsFrom (s.heap.objs.size+1) scope.names []) (bindC (envOfC qual scope s.heap.objs.size f cd).kindOf (ps.zip us) fun _=>none) s1) :
  Inv (Qh5 g CX P w K mg base N qual scope f cd A outer s H E) [] (Qbt N vs) H s1:=by
 have hpl:ps.length≤N.length:=by have:=congrArg List.length S.pre;rw [length_take] at this;omega
 obtain ⟨h1,tk,rfl,hk⟩:=x.done
 have noA:∀ b:Addr,b∉(Qh5 g CX P w K mg base N qual scope f cd A outer s H E).ex:=fun b z=>absurd (show b∈([]:List Addr) from z) (by simp)
 refine ⟨⟨e0.mod,S.kind,rfl,rfl,Nat.le_refl _,fun y z c h1 h2=>?_,fun y hy=>?_,fun y c _ h=>?_,fun _=>hd,Around.frames_deeper e0.frames,.inr ⟨rfl,rfl⟩,fun b z=>absurd z (noA b),e0.bs,e0.bsz,fun b _ _=>noA b,fun b z=>absurd z (noA b),e0.funs,e0.frf⟩,
  rfl,e0.bare,Un.kept hk,⟨_,x.toInCall.ns,fun i y v h1 h2 h3=>?_⟩,fun y c h=>⟨_,x.cell y c h⟩,e0.hok.fresh (Nat.le_refl _),fun y c h=>?_,fun p hp=>absurd (show p∈([]:List (Addr×Obj)) from hp) (by simp),e0.hok.kept hk,?_⟩
 ·exact name_of_addr x.apart (PySem.mem_of_lookup h1) (PySem.mem_of_lookup h2)
 ·have hy:scope.names.lookup y=some .cell∨scope.names.lookup y=some .free:=hy
  rcases hy with hy | hy
  ·exact Qi4 hy
  ·exact absurd rfl (S.nofree _ (PySem.mem_of_lookup hy))
 ·exact Nat.le_of_lt (x.above y c (PySem.mem_of_lookup h))
 ·have hi:i<vs.length:=by
   unfold Qbt at h2
   by_cases hi:i<vs.length
   ·exact hi
   ·rw [List.getElem?_append_right (by simpa using hi)] at h2
    rw [getElem?_replicate] at h2
    split at h2 <;> cases h2
  have ha:vs[i]?=some v:=by
   unfold Qbt at h2
   rw [List.getElem?_append_left (by simpa using hi),getElem?_map] at h2
   cases e:vs[i]? with
   | none=>rw [e] at h2;cases h2
   | some a=>rw [e] at h2;cases h2;rfl
  obtain ⟨u,hu,rv⟩:=r.get ha
  have hp:ps[i]?=some y:=by
   rw [←S.pre,List.getElem?_take_of_lt (by omega)];exact h1
  have ndP:ps.Nodup:=by rw [←S.pre];exact S.nd.sublist (List.take_sublist _ _)
  refine ⟨u,rv,?_⟩
  rcases S.par y (mem_of_getElem? hp) with k | k
  ·exact .inl ⟨k,Qfs ndP hp hu k⟩
  ·obtain ⟨c,e⟩:=Qi4 (n:=s.heap.objs.size+1) k
   refine .inr ⟨.inl k,c,e,?_⟩
   have q:=x.cell y c e
   rw [Qj1 ndP hp hu (by show scope.names.lookup y≠_;rw [k];decide)] at q
   exact q
 ·exact .inl (e0.hok.fresh (Nat.le_of_lt (x.above y c (PySem.mem_of_lookup h))))
 ·unfold Qbt
  show _=N.length
  rw [length_append,length_map,length_replicate]
  omega
theorem Q4g {g:Str→Bool} {CX:CXT} {P:Program} {w:World} {K:PySem.W.Frag} {mg:Str→Option Value} {base:Heap} {k:Nat} {f:Addr} {name qual:Str} {params:Arguments} {body:List Stmt} {scope:Scope} {dV kV doc pm cdv ct oc:Value} {an od:Option Addr}
  {osl:Array (Option Value)} {N ps:List Str} {sp:Sp} (lk:K.lookup f=some ⟨oc,od,.func (PySem.W.fnOf name qual params body scope dV kV doc pm an cdv ct),osl⟩) (hcd:PySem.W.codeIn K cdv qual=true) (S:FnScope N ps scope)
  (len:∀ vs H Q E,sp vs H Q E→vs.length=ps.length)
  (hbody:∀ (A:Around) (outer:List Env) (s:Shared) (H:Hp) (vs:List V) (Q:VK) (E:XK),Room k (A.deeper (envOfC qual scope s.heap.objs.size f cdv))→sp vs H Q E →
   ∃ t,PSs (Qh5 g CX P w K mg base N qual scope f cdv A outer s H E) body t∧t { nx:=fun _ H'=>Q .non H',rt:=Q } (Qbt N vs) H) :
  FnOk P w K mg base CX (k+1) f (PySem.W.fnOf name qual params body scope dV kV doc pm an cdv ct) ps sp:=by
 refine ⟨len,fun A outer s H args us vs Q E hr e0 hb r hsp=>?_⟩
 have hl:=len _ _ _ _ hsp
 have KX:K.In s.heap:=e0.mod.kin.keeps fun b o e=>(e0.bs b o e).1
 have lim:s.heap.NoLimit:=e0.mod.nolimit.keeps fun b o e=>(e0.bs b o e).1
 have hkind:∀ y∈ps.zip us,scope.names.lookup y.1=some .local∨(scope.names.lookup y.1=some .cell∧((cellsFrom (s.heap.objs.size+1) scope.names []).lookup y.1).isSome=true):=fun ⟨n,v⟩ hy=>by
  rcases S.par n (List.of_mem_zip hy).1 with q | q
  ·exact .inl q
  ·exact .inr ⟨q,PySem.W.cellsFrom_some _ _ _ (.inl q)⟩
 refine codeAny_call_function hr.depth (KX _ _ lk) rfl S.co S.gen rfl (PySem.W.codeRec_of KX hcd) (hb _ _ _ _ ?_)
 refine wpAny_newFunctionEnv_cells S.kind hkind fun env he s1 x=>?_
 subst he
 refine ⟨lim.keeps x.toInCall.keep,codeAny_func ?_⟩
 obtain ⟨t,ht,hq⟩:=hbody A outer s H vs Q E (hr.deeper _) hsp
 have I:Inv (Qh5 g CX P w K mg base N qual scope f cdv A outer s H E) [] (Qbt N vs) H s1:=Qv5 S hr.hd e0 hl r x
 refine wpAny_mono (ht [] s1 (Qbt N vs) H _ I hq) (fun fl s' hs=>?_) fun e s' hs=>hs
 have fin:∀ {σ':St} {H':Hp} {v:V} {u:Value},Inv (Qh5 g CX P w K mg base N qual scope f cdv A outer s H E) [] σ' H' s'→RelV v u→Q v H'→CE outer P w H s Q u s' :=
  fun {σ' H' v u} J rv q=>⟨v,H',J.os,J.bare,J.base,J.hok,rv,q⟩
 cases fl with
 | ret u =>
  obtain ⟨v,σ',H',J,rv,q⟩:=hs
  exact fin J rv q
 | next =>
  obtain ⟨σ',H',J,q⟩:=hs
  exact fin (v:=V.non) (u:=Value.none) J rfl q
 | brk =>
  obtain ⟨_,_,_,q⟩:=hs
  exact False.elim q
 | cont =>
  obtain ⟨_,_,_,q⟩:=hs
  exact False.elim q
section
variable {X:Cx} {x:Str} {p pos:Pos} {e:Expr} {es:List Expr} {t:TA} {id T:String} {r:List V→Hp→VK→Prop}
abbrev tCB (r:List V→Hp→VK→Prop) (t:TA):TE:=fun σ H Q=>t σ H fun vs H1=>r vs H1 Q
theorem Qx3 (hc:CallR X (.builtin id) r) (hg:Gl X x) (hm:X.mg x=none) (hv:bootBuiltins x=some (.builtin id)) (ha:PA X (e::es) t) (hn:x ≠ "__name__" := by decide) (hdb:(x==("__debug__" : Str))=false:=by decide)
  (he:starEach (e::es) X.env=(false,eval e X.env)::starEach es X.env:=by rfl) (hpl:(backTo pos (starEach es X.env)).any (·.1)=false:=by rfl):PE X (.Call (.Name x p) (e::es) [] pos) (tCB r t):=by
 intro pins s σ H Q I h
 refine wpAny_Call_Name_kw (Qln I hg hm hv ?_ hn hdb)
 exact PyProof.Rows.callWith_builtin1 (thn (ha pos pins s σ H _ I h) fun us s1 ⟨vs,H1,I1,r1,q1⟩=>hc pins s1 σ H1 vs us Q I1 r1 q1) he hpl
theorem Qv6 (hc:CallR X (.type T) r) (hg:Gl X x) (hm:X.mg x=none) (hv:bootBuiltins x=some (.type T)) (ha:PA X (e::es) t) (hn:x ≠ "__name__" := by decide) (hdb:(x==("__debug__" : Str))=false:=by decide)
  (he:starEach (e::es) X.env=(false,eval e X.env)::starEach es X.env:=by rfl) (hpl:(backTo pos (starEach es X.env)).any (·.1)=false:=by rfl):PE X (.Call (.Name x p) (e::es) [] pos) (tCB r t):=by
 intro pins s σ H Q I h
 refine wpAny_Call_Name_kw (Qln I hg hm hv ?_ hn hdb)
 exact PyProof.Rows.callWith_type1 (thn (ha pos pins s σ H _ I h) fun us s1 ⟨vs,H1,I1,r1,q1⟩=>hc pins s1 σ H1 vs us Q I1 r1 q1) he hpl
end
end L2
namespace HT
open PySem PyProof.Rows
noncomputable def lexLt:List Int→List Int→Bool
 | [],[]=>false
 | [],_::_=>true
 | _::_,[]=>false
 | x::xs,y::ys=>if x=y then lexLt xs ys else decide (x<y)
section
open PySem.SeqAt
open PySem.AutoSeq1 (wpAny_loadPart')
open PySem.MeetsSeq PySem.MeetsSeq2 PySem.MeetsSeq3
end
section
variable {prog:Program} {w:World} {A:Around} {E:Value→Shared→Prop} {s:Shared}
theorem cat_tup {t b:Addr} {vs ws:List Value} {Q:Value→Shared→Prop} (ht:IsTup s.heap t vs.toArray) (hb:IsTup s.heap b ws.toArray) (hv:vs≠[])
  (h1:ws=[]→Q (.ref t) s) (h2:ws≠[]→Q (.ref s.heap.objs.size) { s with heap:=s.heap.push { cls:=.type "tuple",data:=.seq (vs++ws).toArray } })
  (hsz:vs.length+ws.length≤sizeLine):wpAny (model prog w) A (binaryOp .Add (.ref t) (.ref b)) Q E s:=by
 obtain ⟨⟨cls,dd,data,sl⟩,ho,hc,n,hd⟩:=id ht
 obtain ⟨⟨cls2,dd2,data2,sl2⟩,ho2,hc2,n2,hd2⟩:=id hb
 simp only at hc hd hc2 hd2
 subst hc hd hc2 hd2
 have e:vs.toArray++ws.toArray=(vs++ws).toArray:=by simp
 by_cases hw:ws=[]
 ·exact concat_meets ⟨_,ho,rfl⟩ ⟨_,ho2,rfl⟩ noFill_tuple_add seq_tuple_add PySem.F.slot_tuple_add PySem.F.entry_tuple_add (PySem.F.args_tuple_add_2 _ _)
   (tuple_addW1 t b vs.toArray ws.toArray n n2 dd dd2 sl sl2 (by simpa using hv) (by simp [hw])) ⟨ho,ho2,h1 hw⟩
 ·refine concat_meets ⟨_,ho,rfl⟩ ⟨_,ho2,rfl⟩ noFill_tuple_add seq_tuple_add PySem.F.slot_tuple_add PySem.F.entry_tuple_add (PySem.F.args_tuple_add_2 _ _)
   (tuple_addW2 t b vs.toArray ws.toArray n n2 dd dd2 sl sl2 (by simpa using hv) (by simpa using hw) (by rw [size_toArray,size_toArray];exact hsz)) ⟨ho,ho2,?_⟩
  rw [e]
  exact h2 hw
noncomputable def sIx (n d:Nat):Option Int→Nat
 | none=>d
 | some v=>if v<0 then (v+(n:Int)).toNat else min v.toNat n
theorem sIx_none (n d:Nat):sIx n d none=d:=rfl
theorem sIx_nat (n d k:Nat):sIx n d (some (k:Int))=min k n:=by
 show (if (k:Int)<0 then ((k:Int)+(n:Int)).toNat else min (k:Int).toNat n)=min k n
 rw [if_neg (by omega),Int.toNat_natCast]
theorem sIx_le (n d:Nat) (hd:d≤n) (o:Option Int):sIx n d o≤n:=by
 cases o with
 | none=>exact hd
 | some v =>
  show (if v<0 then (v+(n:Int)).toNat else min v.toNat n)≤n
  by_cases hv:v<0
  ·rw [if_pos hv];omega
  ·rw [if_neg hv];exact Nat.min_le_right _ _
theorem clip_eq (v:Int) (n d:Nat):(if v<0 then max (v+(n:Int)) 0 else min v (n:Int))=((sIx n d (some v):Nat):Int):=by
 show (if v<0 then max (v+(n:Int)) 0 else min v (n:Int))=(((if v<0 then (v+(n:Int)).toNat else min v.toNat n):Nat):Int)
 by_cases hv:v<0
 ·simp only [if_pos hv];omega
 ·simp only [if_neg hv];omega
theorem adjust_gen (lo hi:Option Int) (n:Nat):Builtin.Slice.sliceAdjust lo hi 1 (n:Int)=(((sIx n 0 lo:Nat):Int),((sIx n n hi:Nat):Int)):=by
 have h1:¬ ((1:Int)<0):=by omega
 unfold Builtin.Slice.sliceAdjust
 simp only [h1,if_false]
 refine Prod.ext ?_ ?_
 ·cases lo with
  | none=>rfl
  | some v=>exact clip_eq v n 0
 ·cases hi with
  | none=>rfl
  | some v=>exact clip_eq v n n
theorem places_gen (i j:Nat):Builtin.Slice.slicePlaces (i:Int) (j:Int) 1=j-i:=by
 unfold Builtin.Slice.slicePlaces
 have h1:(1:Int)>0:=by omega
 simp only [h1,if_true,Int.ediv_one]
 split <;> omega
theorem slicePart_ {v:Value} {o:Option Int} {Q:Option Int→Shared→Prop} (p:IsPart v o) (h:Q o s):wpAny (model prog w) A (Builtin.Slice.slicePartIndex v) Q E s:=by
 cases p with
 | none=>exact slicePart_none h
 | int i t=>exact slicePart_int h
theorem sliceApplied_gen {sl:Addr} {vl vu:Value} {lo hi:Option Int} {n:Nat} {Q:Int×Int×Nat→Shared→Prop} (hs:s.heap.IsSliceOf sl vl vu .none) (pl:IsPart vl lo) (pu:IsPart vu hi)
  (h:Q (((sIx n 0 lo:Nat):Int),1,sIx n n hi-sIx n 0 lo) s):wpAny (model prog w) A (Builtin.Slice.sliceApplied (.ref sl) (pure (n:Int))) Q E s:=by
 obtain ⟨os,hos,hcs,hds⟩:=id hs
 unfold Builtin.Slice.sliceApplied Builtin.Slice.sliceFields
 refine wpAny_bind (wpAny_bind (wpAny_field hos hds (x:=vl) rfl (wpAny_bind (wpAny_field hos hds (x:=vu) rfl (wpAny_bind (wpAny_field hos hds (x:=.none) rfl (wpAny_pure ?_)))))))
 refine wpAny_bind (slicePart_none ?_)
 show wpAny _ _ (if ((1:Int)==0)=true then _ else _) _ _ s
 rw [if_neg (by decide)]
 refine wpAny_bind (slicePart_ pl (wpAny_bind (slicePart_ pu (wpAny_bind (wpAny_pure ?_)))))
 show wpAny _ _ (match Builtin.Slice.sliceAdjust lo hi 1 (n:Int) with | (lo,hi)=>pure (lo,(1:Int),Builtin.Slice.slicePlaces lo hi 1)) _ _ s
 rw [adjust_gen lo hi n]
 show wpAny _ _ (pure (((sIx n 0 lo:Nat):Int),(1:Int),Builtin.Slice.slicePlaces ((sIx n 0 lo:Nat):Int) ((sIx n n hi:Nat):Int) 1)) _ _ s
 rw [places_gen]
 exact wpAny_pure h
theorem pick_gen (xs:Array Value) (i k:Nat):((List.range k).filterMap fun (m:Nat)=>xs[((i:Int)+(m:Int)*1).toNat]?).toArray=((xs.toList.drop i).take k).toArray:=by
 have e:(fun (m:Nat)=>xs[((i:Int)+(m:Int)*1).toNat]?)=fun m=>xs[i+m]?:=by
  funext m
  have:((i:Int)+(m:Int)*1).toNat=i+m:=by omega
  rw [this]
 rw [e]
 have:=pick_run xs i k
 rw [List.filterMap_map] at this
 have e2:((fun x=>xs[x]?) ∘ fun x=>i+x)=fun m=>xs[i+m]?:=rfl
 rw [e2] at this
 rw [this]
theorem getItem_tuple_cut {t sl:Addr} {items:Array Value} {vl vu:Value} {lo hi:Option Int} {Q:Value→Shared→Prop} (ht:IsTup s.heap t items) (hs:s.heap.IsSliceOf sl vl vu .none) (pl:IsPart vl lo) (pu:IsPart vu hi)
  (hw:¬ (sIx items.size 0 lo=0∧sIx items.size items.size hi=items.size))
  (h:Q (.ref s.heap.objs.size) { s with heap:=s.heap.push { cls:=.type "tuple",data:=.seq ((items.toList.drop (sIx items.size 0 lo)).take (sIx items.size items.size hi-sIx items.size 0 lo)).toArray } })
  (hsz:items.size≤sizeLine):wpAny (model prog w) A (getItem (.ref t) (.ref sl)) Q E s:=by
 have htake:sizeOk (.seq ((items.toList.drop (sIx items.size 0 lo)).take (sIx items.size items.size hi-sIx items.size 0 lo)).toArray):=by
  show ((items.toList.drop (sIx items.size 0 lo)).take (sIx items.size items.size hi-sIx items.size 0 lo)).toArray.size≤sizeLine
  rw [size_toArray,length_take,length_drop,Array.length_toList]
  omega
 have hj:sIx items.size items.size hi≤items.size:=sIx_le _ _ (Nat.le_refl _) hi
 obtain ⟨os,hos,hcs,hds⟩:=id hs
 have hTs:s.TypeIs (.ref sl) "slice" := ⟨os,hos,hcs⟩
 unfold getItem
 try with_reducible refine wpAny_holding ?_
 first | refine wpAny_bind (wpAny_pure ?_) | skip
 refine wpAny_bind (wpAny_sequenceKey ht.typeIs (by decide) ?_)
 refine wpAny_bind (wpAny_callSpecial?_slot (name:=Str.ofString "__getitem__") ht.typeIs PyProof.Rows.slot_tuple_getitem
  (wpAny_call_entry PyProof.Rows.slot_tuple_getitem ht.typeIs entry_tuple_getitem ?_ (args_tuple_getitem _ _)))
 show wpAny _ _ (Builtin.Tuple.tupleItemsOf (.ref t) >>= _) _ _ s
 refine wpAny_bind (tupleItemsOf_ ht ?_)
 refine wpAny_bind (wpAny_typeOf hTs ?_)
 rw [if_pos (by decide)]
 refine wpAny_bind (sliceApplied_gen hs pl pu ?_)
 have hno:¬ ((((sIx items.size 0 lo:Nat):Int)==0&&(1:Int)==1&&(sIx items.size items.size hi-sIx items.size 0 lo)==items.size)=true):=by
  intro q
  rw [Bool.and_eq_true,Bool.and_eq_true] at q
  have q1:((sIx items.size 0 lo:Nat):Int)=0:=eq_of_beq q.1.1
  have q2:sIx items.size items.size hi-sIx items.size 0 lo=items.size:=eq_of_beq q.2
  exact hw ⟨by omega,by omega⟩
 show wpAny _ _ (if (((sIx items.size 0 lo:Nat):Int)==0&&(1:Int)==1&&(sIx items.size items.size hi-sIx items.size 0 lo)==items.size)=true then _ else _) _ _ s
 rw [if_neg hno,pick_gen]
 first
  | exact wpAny_bind (m:=Builtin.Tuple.tupleExact _) (wpAny_newObj_type (wpAny_pure ⟨_,rfl,wpAny_pure h⟩) htake)
  | exact wpAny_bind (m:=Builtin.Tuple.tupleExact _) (wpAny_newObj_type (wpAny_bind (wpAny_pure (wpAny_pure ⟨_,rfl,wpAny_pure h⟩))) htake)
  | exact wpAny_bind (wpAny_bind (m:=Builtin.Tuple.tupleExact _) (wpAny_newObj_type (wpAny_pure (wpAny_pure ⟨_,rfl,wpAny_pure h⟩)) htake))
  | exact wpAny_bind (wpAny_bind (m:=Builtin.Tuple.tupleExact _) (wpAny_newObj_type (wpAny_pure ⟨_,rfl,wpAny_pure h⟩) htake))
end
end HT
namespace L2
open PySem PySem.Spec PyProof.Rows
noncomputable abbrev TO:=St→Hp→(Option Int→Hp→Prop)→Prop
def PO (X:Cx) (e:Option Expr) (t:TO):Prop :=
 ∀ (pins:List (Addr×Obj)) (s:Shared) (σ:St) (H:Hp) (Q:Option Int→Hp→Prop),Inv X pins σ H s→t σ H Q →
  wpAny (model X.prog X.w) X.A (evalPart e X.env) (fun u s'=>∃ o H',Inv X pins σ H' s'∧IsPart u o∧Q o H') X.xe s
abbrev Quf:TO:=fun _ H Q=>Q none H
abbrev Qug (t:TE):TO:=fun σ H Q=>t σ H fun x H1=>∃ i,x=.int i∧Q (some i) H1
theorem Qlq {ns:List Int}:∀ {us:List Value},Vals (ns.map V.int) us→IntsAre us ns:=by
 induction ns with
 | nil=>intro us r;rw [map_nil] at r;cases r;exact .nil
 | cons n ns ih =>
  intro us r
  rw [map_cons] at r
  cases r with
  | cons r1 r2 =>
   obtain ⟨t,e⟩:=r1
   subst e
   exact .cons n t (ih r2)
section
variable {X:Cx} {e:Expr} {te:TE} {lo hi:Option Expr} {tl th:TO} {pos p2:Pos}
theorem Q1z:PO X none Quf:=by
 intro pins s σ H Q I h
 rw [evalPart_none]
 exact wpAny_pure ⟨none,H,I,.none,h⟩
theorem Q10 (h:PE X e te):PO X (some e) (Qug te):=by
 intro pins s σ H Q I hw
 rw [evalPart_some]
 refine thn (h pins s σ H _ I hw) fun u s1 ⟨x,H1,I1,r1,q1⟩=>?_
 obtain ⟨i,rfl,q⟩:=q1
 obtain ⟨t,rfl⟩:=r1
 exact ⟨some i,H1,I1,.int i t,q⟩
def SlR (X:Cx) (r:V→Option Int→Option Int→Hp→VK→Prop):Prop :=
 ∀ (pins:List (Addr×Obj)) (s:Shared) (σ:St) (H:Hp) (x:V) (v vl vu:Value) (lo hi:Option Int) (sl:Addr) (Q:VK),Inv X pins σ H s→RelV x v→s.heap.IsSliceOf sl vl vu .none→IsPart vl lo→IsPart vu hi→r x lo hi H Q →
  ∃ T id,typeLookup (.type T) "__getitem__" = pure (some (.builtin id))∧s.TypeIs v T∧wpAny (model X.prog X.w) X.A (getItem v (.ref sl)) (EP X pins σ Q) X.xe s
theorem SlR.or {r r':V→Option Int→Option Int→Hp→VK→Prop} (h:SlR X r) (h':SlR X r'):SlR X (fun x lo hi H Q=>r x lo hi H Q∨r' x lo hi H Q):=by
 intro pins s σ H x v vl vu lo hi sl Q I rx hs pl pu q
 rcases q with q | q
 ·exact h pins s σ H x v vl vu lo hi sl Q I rx hs pl pu q
 ·exact h' pins s σ H x v vl vu lo hi sl Q I rx hs pl pu q
abbrev tSl (r:V→Option Int→Option Int→Hp→VK→Prop) (te:TE) (tl th:TO):TE:=fun σ H Q=>te σ H fun x H1=>tl σ H1 fun l H2=>th σ H2 fun u H3=>r x l u H3 Q
theorem Qx4 {r:V→Option Int→Option Int→Hp→VK→Prop} (hr:SlR X r) (he:PE X e te) (hl:PO X lo tl) (hu:PO X hi th):PE X (.Subscript e (.Slice lo hi none p2) pos) (tSl r te tl th):=by
 intro pins s σ H Q I h
 refine Subscript_ (thn (he pins s σ H _ I h) fun v s1 ⟨x,H1,I1,r1,q1⟩=>?_)
 refine wpAny_Slice (thn (hl pins s1 σ H1 _ I1 q1) fun vl s2 ⟨l,H2,I2,pl,q2⟩=>thn (hu pins s2 σ H2 _ I2 q2) fun vu s3 ⟨u,H3,I3,pu,q3⟩=>?_)
 rw [evalPart_none]
 refine wpAny_pure ?_
 have I4:Inv X pins σ H3 { s3 with heap:=s3.heap.push { cls:=.type "slice",data:=.fields #[vl,vu,.none] } }:=I3.kept (t':=s3.toks) fun b ob q=>Heap.get?_push_of_some _ q
 obtain ⟨T,id,hT,ht,hg⟩:=hr pins { s3 with heap:=s3.heap.push { cls:=.type "slice",data:=.fields #[vl,vu,.none] } } σ H3 x v vl vu l u s3.heap.objs.size Q I4 r1 (Heap.IsSliceOf.new ..) pl pu q3
 show wpAny (model X.prog X.w) X.A (subscriptTail e (.Slice lo hi none p2) v (.ref s3.heap.objs.size)) (EP X pins σ Q) X.xe { s3 with heap:=s3.heap.push { cls:=.type "slice",data:=.fields #[vl,vu,.none] } }
 exact tail_any (ops:=[.ref s3.heap.objs.size,v]) ht hT hg (by with_unfolding_all rfl)
noncomputable def Qgz (xs:List V) (lo hi:Option Int):List V:=(xs.drop (HT.sIx xs.length 0 lo)).take (HT.sIx xs.length xs.length hi-HT.sIx xs.length 0 lo)
theorem Qg0 (xs:List V) (lo hi:Option Int):(Qgz xs lo hi).length≤xs.length:=by
 unfold Qgz
 rw [length_take,length_drop]
 omega
def rSlT (K:PySem.W.Frag):V→Option Int→Option Int→Hp→VK→Prop:=fun x lo hi H Q=>∃ a xs,x=.ref a∧SqT K H a xs ∧
 ¬ (HT.sIx xs.length 0 lo=0∧HT.sIx xs.length xs.length hi=xs.length)∧∀ p,H p=none→Q (.ref p) (upd H p (.tup (Qgz xs lo hi)))
theorem Q6c:SlR X (rSlT X.K):=by
 intro pins s σ H x v vl vu lo hi sl Q I rx hs pl pu h
 obtain ⟨a,xs,rfl,hx,hw,q⟩:=h
 cases rx
 obtain ⟨its,r,ht,hz⟩:=I.tuple hx
 have hlen:its.toArray.size=xs.length:=by rw [size_toArray];exact r.length.symm
 refine ⟨"tuple",_,PyProof.Rows.slot_tuple_getitem.lookup,ht.typeIs,?_⟩
 refine HT.getItem_tuple_cut ht hs pl pu (by rw [hlen];exact hw) ?_ (by rw [hlen];exact hz)
 rw [hlen]
 refine ⟨.ref s.heap.objs.size,_,I.laid (t':=s.toks) (o:=.tup (Qgz xs lo hi)) (fun b ob q=>Heap.get?_push_of_some _ q) (Nat.le_refl _) ?_,rfl,q _ (I.hok.fresh (Nat.le_refl _))⟩
 exact ⟨Nat.le_trans (Qg0 xs lo hi) hz,_,(r.drop (HT.sIx xs.length 0 lo)).take (HT.sIx xs.length xs.length hi-HT.sIx xs.length 0 lo),IsTupD.new _ _⟩
def Q9o (K:PySem.W.Frag):R2:=fun x y H Q=>∃ a b xs ys,x=.ref a∧y=.ref b∧SqT K H a xs∧SqT K H b ys∧xs≠[]∧xs.length+ys.length≤sizeLine ∧
 (ys=[]→Q (.ref a) H)∧(ys≠[]→∀ p,H p=none→Q (.ref p) (upd H p (.tup (xs++ys))))
theorem Vals.nil_iff {xs:List V} {us:List Value} (r:Vals xs us):us=[]↔xs=[]:=by
 cases r with
 | nil=>simp
 | cons _ _=>simp
theorem Q11:OpR X (binaryOp .Add) (Q9o X.K):=by
 intro pins s σ H x y v u Q I rx ry h
 obtain ⟨a,b,xs,ys,rfl,rfl,ha,hb,hx,hz,q1,q2⟩:=h
 cases rx
 cases ry
 obtain ⟨its,r1,p1,_⟩:=I.tuple ha
 obtain ⟨its2,r2,p2,_⟩:=I.tuple hb
 refine HT.cat_tup p1 p2 (fun z=>hx (r1.nil_iff.mp z)) (fun z=>⟨.ref a,H,I,rfl,q1 (r2.nil_iff.mp z)⟩) (fun z=>?_) (by rw [←r1.length,←r2.length];exact hz)
 refine ⟨.ref s.heap.objs.size,_,I.laid (t':=s.toks) (o:=.tup (xs++ys)) (fun b ob q=>Heap.get?_push_of_some _ q) (Nat.le_refl _) ?_,rfl,q2 (fun w=>z (r2.nil_iff.mpr w)) _ (I.hok.fresh (Nat.le_refl _))⟩
 exact ⟨by rw [length_append];exact hz,_,r1.append r2,IsTupD.new _ _⟩
end
noncomputable def ixN (n:Nat) (i:Int):Option Nat:=if 0≤i then (if i<n then some i.toNat else none) else if -(n:Int)≤i then some (i+n).toNat else none
noncomputable def atI {α:Type} (xs:List α) (i:Int):Option α:=(ixN xs.length i).bind fun j=>xs[j]?
theorem Quh {n:Nat} {i:Int} {j:Nat} (h:ixN n i=some j):seqIndex? i n=some j∧j<n ∧ -(n:Int)≤i∧i<n:=by
 unfold ixN at h
 by_cases h0:0≤i
 ·rw [if_pos h0] at h
  by_cases h1:i<n
  ·rw [if_pos h1] at h
   have e:i.toNat=j:=Option.some.inj h
   exact ⟨by rw [seqIndex_of h0 h1,e],by omega,by omega,h1⟩
  ·rw [if_neg h1] at h;cases h
 ·rw [if_neg h0] at h
  by_cases h1:-(n:Int)≤i
  ·rw [if_pos h1] at h
   have e:(i+n).toNat=j:=Option.some.inj h
   exact ⟨by rw [seqIndex_neg (by omega) h1,e],by omega,h1,by omega⟩
  ·rw [if_neg h1] at h;cases h
theorem Qox {α:Type} {xs:List α} {i:Int} {v:α} (h:atI xs i=some v):∃ j,seqIndex? i xs.length=some j∧xs[j]?=some v∧j<xs.length ∧ -(xs.length:Int)≤i∧i<xs.length:=by
 unfold atI at h
 cases e:ixN xs.length i with
 | none=>rw [e] at h;cases h
 | some j =>
  rw [e] at h
  obtain ⟨h1,h2,h3,h4⟩:=Quh e
  exact ⟨j,h1,h,h2,h3,h4⟩
theorem Qcl {α:Type} {xs:List α} {j:Nat} {v:α} (h:xs[j]?=some v):atI xs (j:Int)=some v:=by
 have hj:j<xs.length:=(List.getElem?_eq_some_iff.mp h).1
 have e:ixN xs.length (j:Int)=some j:=by
  unfold ixN
  rw [if_pos (by omega),if_pos (by omega)];simp
 unfold atI;rw [e];exact h
def Qlb (b:Expr):Prop:=∀ o i,subscripted b false o i=operate [o,i] (getItem o i)
def IxR (X:Cx) (r:R2):Prop :=
 ∀ (value slice:Expr) (pins:List (Addr×Obj)) (s:Shared) (σ:St) (H:Hp) (x y:V) (v u:Value) (Q:VK),Inv X pins σ H s→RelV x v→RelV y u→r x y H Q →
  subscripted slice false v u=operate [v,u] (getItem v u)→wpAny (model X.prog X.w) X.A (subscriptTail value slice v u) (EP X pins σ Q) X.xe s
def MtR (X:Cx) (id:String) (r:V→List V→Hp→VK→Prop):Prop :=
 ∀ (pins:List (Addr×Obj)) (s:Shared) (σ:St) (H:Hp) (x:V) (xs:List V) (v:Value) (us:List Value) (Q:VK),Inv X pins σ H s→RelV x v→Vals xs us→r x xs H Q →
  wpAny (model X.prog X.w) X.A (call (.builtin id) (v::us)) (EP X pins σ Q) X.xe s
section
variable {X:Cx} {a b:Expr} {ta tb:TE} {pos:Pos}
theorem IxR.or {r r':R2} (h:IxR X r) (h':IxR X r'):IxR X (fun x y H Q=>r x y H Q∨r' x y H Q):=by
 intro value slice pins s σ H x y v u Q I rx ry q hs
 rcases q with q | q
 ·exact h value slice pins s σ H x y v u Q I rx ry q hs
 ·exact h' value slice pins s σ H x y v u Q I rx ry q hs
theorem Q9p {r:R2} (hr:IxR X r) (ha:PE X a ta) (hb:PE X b tb) (hs:Qlb b):PE X (.Subscript a b pos) (tOp r ta tb):=by
 intro pins s σ H Q I h
 exact Subscript_ (Q51 ha hb I h fun v u s2 x y H2 I2 rx ry q=>hr a b pins s2 σ H2 x y v u Q I2 rx ry q (hs _ _))
def Q9q (K:PySem.W.Frag):R2:=fun x y H Q=>∃ p xs i v,x=.ref p∧y=.int i∧SqL K H p xs∧atI xs i=some v∧Q v H
def Q9r (K:PySem.W.Frag):R2:=fun x y H Q=>∃ p xs i v,x=.ref p∧y=.int i∧SqT K H p xs∧atI xs i=some v∧Q v H
def Q9s:R2:=fun x y H Q=>∃ z i c,x=.str z∧y=.int i∧z.length≤sizeLine∧atI z.cps.toList i=some c∧Q (.str ⟨#[c]⟩) H
theorem Q12:IxR X (Q9q X.K):=by
 intro value slice pins s σ H x y v u Q I rx ry h hs
 obtain ⟨p,xs,i,z,rfl,rfl,hq,he,q⟩:=h
 cases rx
 obtain ⟨t,rfl⟩:=ry
 obtain ⟨its,r,pl,hz⟩:=I.list hq
 obtain ⟨j,h1,h2,h3,h4,h5⟩:=Qox he
 obtain ⟨w,ew,rw'⟩:=r.get h2
 have hl:=r.length
 have hn:=Qlp
 have fin:EP X pins σ Q w s:=⟨z,H,I,rw',q⟩
 by_cases h0:0≤i
 ·have hj:i.toNat=j:=by
   rw [seqIndex_of h0 h5] at h1
   exact Option.some.inj h1
  exact item_listR pl.isList h0 (by omega) (by rw [hj];simpa using ew) fin hs
 ·have hj:(i+(its.toArray.size:Int)).toNat=j:=by
   rw [seqIndex_neg (by omega) h4] at h1
   rw [size_toArray,←hl]
   exact Option.some.inj h1
  exact subscriptTail_builtinR (x:=w) pl.isList.typeIs slot_list_getitem.lookup
   (wpAny_getItem_list_neg (Q:=fun r s'=>r=w∧EP X pins σ Q r s') pl.isList (by omega) (by rw [size_toArray] <;> omega) (by omega) (by rw [hj];simpa using ew) ⟨rfl,fin⟩) hs
theorem Q6d:IxR X (Q9r X.K):=by
 intro value slice pins s σ H x y v u Q I rx ry h hs
 obtain ⟨p,xs,i,z,rfl,rfl,hq,he,q⟩:=h
 cases rx
 obtain ⟨t,rfl⟩:=ry
 obtain ⟨its,r,pl,hz⟩:=I.tuple hq
 obtain ⟨j,h1,h2,h3,h4,h5⟩:=Qox he
 obtain ⟨w,ew,rw'⟩:=r.get h2
 have hl:=r.length
 have hn:=Qlp
 have fin:EP X pins σ Q w s:=⟨z,H,I,rw',q⟩
 exact subscriptTail_builtinR (x:=w) pl.typeIs slot_tuple_getitem.lookup
  (getItem_tuple (j:=j) (Q:=fun r s'=>r=w∧EP X pins σ Q r s') pl (by omega) (by omega) (by rw [size_toArray,←hl];exact h1) (by simpa using ew) ⟨rfl,fin⟩) hs
theorem Q6e:IxR X Q9s:=by
 intro value slice pins s σ H x y v u Q I rx ry h hs
 obtain ⟨z,i,c,rfl,rfl,hz,he,q⟩:=h
 obtain ⟨t,rfl⟩:=rx
 obtain ⟨t',rfl⟩:=ry
 obtain ⟨j,h1,h2,h3,h4,h5⟩:=Qox he
 have hl:z.cps.toList.length=z.length:=by simp [Str.length]
 rw [hl] at h1 h4 h5
 have hn:=Qlp
 exact tail_any (typeIs_str s z t) slot_str_getitem.lookup (getItem_str (c:=c) (by
  have e1:decide (i < -(2^63:Int))=false:=decide_eq_false (by omega)
  have e2:decide (i≥2^63)=false:=decide_eq_false (by omega)
  rw [e1,e2,Bool.or_false]) (by rw [h1];simpa using h2) ⟨.str ⟨#[c]⟩,H,I.tok _,⟨_,rfl⟩,q⟩) hs
def rIx (K:PySem.W.Frag):R2:=fun x y H Q=>Q9q K x y H Q∨Q9r K x y H Q∨Q9s x y H Q
theorem Q6f:IxR X (rIx X.K):=Q12.or (Q6d.or Q6e)
theorem Qst (its:List Value) (n j:Nat) (u:Value):Obj.mapSeq (·.setIfInBounds j u) { cls:=.type "list",data:=.seq its.toArray n }={ cls:=.type "list",data:=.seq (its.set j u).toArray n }:=by
 simp [Obj.mapSeq]
theorem Inv.lst {pins:List (Addr×Obj)} {σ:St} {H:Hp} {s:Shared} {p:Addr} {xs:List V} (I:Inv X pins σ H s) (h:H p=some (.lst xs)) :
  ∃ (its:List Value) (n:Nat),Vals xs its∧s.heap.get? p=some { cls:=.type "list",data:=.seq its.toArray n }∧xs.length≤sizeLine:=by
 obtain ⟨z,its,n,r,e⟩:=I.hok p _ h
 exact ⟨its,n,r,e,z⟩
theorem Inv.lstUpd {pins:List (Addr×Obj)} {σ:St} {H:Hp} {s:Shared} {p:Addr} {xs ys:List V} {its its':List Value} {n n':Nat} {f:Obj→Obj} (I:Inv X pins σ H s) (h:H p=some (.lst xs))
  (ho:s.heap.get? p=some { cls:=.type "list",data:=.seq its.toArray n }) (hf:f { cls:=.type "list",data:=.seq its.toArray n }={ cls:=.type "list",data:=.seq its'.toArray n' }) (r:Vals ys its') (hz:ys.length≤sizeLine) (t:Nat) :
  Inv X pins σ (upd H p (.lst ys)) { s with heap:=s.heap.update p f,toks:=t }:=by
 have e:(s.heap.update p f).get? p=some { cls:=.type "list",data:=.seq its'.toArray n' }:=by
  rw [Heap.get?_update_self f ho (by rw [hf] <;> rfl),hf]
 refine I.write (x:=p) (e:=p) (by rw [h];trivial) (.inl rfl) (fun b u hb q=>(Heap.get?_update_other _ _ (Ne.symm hb)).trans q) ⟨_,e⟩ ?_
 exact ⟨hz,its',n',r,e⟩
def Qnu:V→V→V→Hp→(Hp→Prop)→Prop:=fun o i v H Q=>∃ p xs k j,o=.ref p∧i=.int k∧H p=some (.lst xs)∧ixN xs.length k=some j∧Q (upd H p (.lst (xs.set j v)))
theorem Qx5:Q9f X Qnu:=by
 intro pins s σ H o i v ov iv u Q I ro ri rv h
 obtain ⟨p,xs,k,j,rfl,rfl,hp,hj,q⟩:=h
 cases ro
 obtain ⟨t,rfl⟩:=ri
 obtain ⟨its,n,r,ho,hz⟩:=I.lst hp
 obtain ⟨h1,h2,h3,h4⟩:=Quh hj
 have hl:=r.length
 have hn:=Qlp
 have I':Inv X pins σ (upd H p (.lst (xs.set j v))) { s with heap:=s.heap.update p (Obj.mapSeq (·.setIfInBounds j u)) } :=
  I.lstUpd hp ho (Qst its n j u) (r.set rv j) (by rw [length_set];exact hz) s.toks
 by_cases h0:0≤k
 ·have hk:k.toNat=j:=by
   rw [seqIndex_of h0 h4] at h1
   exact Option.some.inj h1
  exact PySem.W.ki_setAt ho h0 (by omega) (by rw [size_toArray,←hl];exact h4) (by rw [hk];exact ⟨_,I',q⟩)
 ·have hk:(k+(its.toArray.size:Int)).toNat=j:=by
   rw [seqIndex_neg (by omega) h3] at h1
   rw [size_toArray,←hl]
   exact Option.some.inj h1
  exact PySem.W.ki_setBack ho (by omega) (by rw [size_toArray,←hl];exact h3) (by omega) (by rw [hk];exact ⟨_,I',q⟩)
theorem Qoy (lo hi:Option Int) (n:Nat):(sliceBounds lo hi none n).1=((HT.sIx n 0 lo:Nat):Int)∧(sliceBounds lo hi none n).2.1=((HT.sIx n n hi:Nat):Int)∧(sliceBounds lo hi none n).2.2=1:=by
 refine ⟨?_,?_,rfl⟩
 ·cases lo with
  | none=>simp [sliceBounds,HT.sIx]
  | some i =>
   simp only [sliceBounds,HT.sIx,Option.getD_none,show (1:Int)>0 by decide,if_true]
   by_cases h:i<0
   ·simp only [h,if_true] <;> omega
   ·simp only [h,if_false] <;> omega
 ·cases hi with
  | none=>simp [sliceBounds,HT.sIx]
  | some i =>
   simp only [sliceBounds,HT.sIx,Option.getD_none,show (1:Int)>0 by decide,if_true]
   by_cases h:i<0
   ·simp only [h,if_true] <;> omega
   ·simp only [h,if_false] <;> omega
theorem Qm8 (its:List Value) (lo hi:Option Int):slicePick its.toArray lo hi none=((its.drop (HT.sIx its.length 0 lo)).take (HT.sIx its.length its.length hi-HT.sIx its.length 0 lo)).toArray:=by
 obtain ⟨h1,h2,h3⟩:=Qoy lo hi its.toArray.size
 unfold slicePick
 rw [h1,h2,h3]
 simp only [sliceRange_one,pick_run,size_toArray] <;> rfl
def Q9t (K:PySem.W.Frag):V→Option Int→Option Int→Hp→VK→Prop:=fun x lo hi H Q=>∃ a xs,x=.ref a∧SqL K H a xs∧∀ p,H p=none→Q (.ref p) (upd H p (.lst (Qgz xs lo hi)))
theorem Q13:SlR X (Q9t X.K):=by
 intro pins s σ H x v vl vu lo hi sl Q I rx hs pl pu h
 obtain ⟨a,xs,rfl,hx,q⟩:=h
 cases rx
 obtain ⟨its,r,ht,hz⟩:=I.list hx
 have hlen:=r.length
 refine ⟨"list",_,slot_list_getitem.lookup,ht.isList.typeIs,?_⟩
 refine wpAny_getItem_list_slice ht.isList hs pl pu .none (by simp) ?_ (by rw [size_toArray] <;> omega)
 rw [Qm8,←hlen]
 refine ⟨.ref s.heap.objs.size,_,I.laid (t':=s.toks) (o:=.lst (Qgz xs lo hi)) (fun b ob q=>Heap.get?_push_of_some _ q) (Nat.le_refl _) ?_,rfl,q _ (I.hok.fresh (Nat.le_refl _))⟩
 exact ⟨Nat.le_trans (Qg0 xs lo hi) hz,_,0,(r.drop (HT.sIx xs.length 0 lo)).take (HT.sIx xs.length xs.length hi-HT.sIx xs.length 0 lo),Heap.get?_push_size _ rfl⟩
theorem Qoz:CallR X (.builtin "len") (fun xs H Q=>∃ p ys,xs=[.ref p]∧(SqL X.K H p ys∨SqT X.K H p ys)∧Q (.int ys.length) H):=by
 intro pins s σ H xs us Q I r h
 obtain ⟨p,ys,rfl,hq,q⟩:=h
 obtain ⟨u,rfl,rx⟩:=Qi3 r
 cases rx
 have hn:=Qlp
 rcases hq with hq | hq
 ·obtain ⟨its,r',pl,hz⟩:=I.list hq
  have hlen:=r'.length
  exact Calls.call_len_list pl.isList (by simp only [size_toArray] <;> omega) ⟨.int ys.length,H,I.tok _,⟨s.toks+1,by rw [size_toArray,hlen]⟩,q⟩
 ·obtain ⟨its,r',pl,hz⟩:=I.tuple hq
  have hlen:=r'.length
  exact len_tuple pl (by simp only [size_toArray] <;> omega) ⟨.int ys.length,H,I.tok _,⟨s.toks+1,by rw [size_toArray,hlen]⟩,q⟩
theorem CallR.or {f:Value} {r r':List V→Hp→VK→Prop} (h:CallR X f r) (h':CallR X f r'):CallR X f (fun xs H Q=>r xs H Q∨r' xs H Q):=by
 intro pins s σ H xs us Q I rs q
 rcases q with q | q
 ·exact h pins s σ H xs us Q I rs q
 ·exact h' pins s σ H xs us Q I rs q
theorem Qo0:CallR X (.type "list") (fun xs H Q=>∃ p ys,xs=[.ref p]∧(SqL X.K H p ys∨SqT X.K H p ys)∧∀ l,H l=none→Q (.ref l) (upd H l (.lst ys))):=by
 intro pins s σ H xs us Q I r h
 obtain ⟨p,ys,rfl,hq,q⟩:=h
 obtain ⟨u,rfl,rx⟩:=Qi3 r
 cases rx
 have fin:∀ (its:List Value),Vals ys its→ys.length≤sizeLine→∀ (h':Heap) (c':Nat),(∀ b o',s.heap.get? b=some o'→h'.get? b=some o') →
   h'.get? s.heap.objs.size=some { cls:=.type "list",dict:=none,data:=.seq its.toArray c',slots:=#[] }→EP X pins σ Q (.ref s.heap.objs.size) { s with heap:=h' }:=fun its r' hz h' c' kp e =>
  ⟨.ref s.heap.objs.size,_,I.laid (t':=s.toks) kp (Nat.le_refl _) (show ObjOk X.prog X.w _ h' _ (.lst ys) from ⟨hz,its,c',r',e⟩),rfl,q _ (I.hok.fresh (Nat.le_refl _))⟩
 rcases hq with hq | hq
 ·obtain ⟨its,r',pl,hz⟩:=I.list hq
  have hlen:=r'.length
  obtain ⟨o,ho,hc,n,hd⟩:=pl.isList
  exact call_list_seq p (.inl rfl) ho hc hd (fun h' c' kp e=>fin its r' hz h' c' kp e) (by simp only [size_toArray] <;> omega)
 ·obtain ⟨its,r',pl,hz⟩:=I.tuple hq
  have hlen:=r'.length
  obtain ⟨o,ho,hc,n,hd⟩:=pl
  exact call_list_seq p (.inr rfl) ho hc hd (fun h' c' kp e=>fin its r' hz h' c' kp e) (by simp only [size_toArray] <;> omega)
theorem Qm9:CallR X (.type "tuple") (fun xs H Q=>∃ p ys,xs=[.ref p]∧((SqL X.K H p ys∧∀ l,H l=none→Q (.ref l) (upd H l (.tup ys)))∨(SqT X.K H p ys∧Q (.ref p) H))):=by
 intro pins s σ H xs us Q I r h
 obtain ⟨p,ys,rfl,h⟩:=h
 obtain ⟨u,rfl,rx⟩:=Qi3 r
 cases rx
 rcases h with ⟨hq,q⟩ | ⟨hq,q⟩
 ·obtain ⟨its,r',pl,hz⟩:=I.list hq
  have hlen:=r'.length
  refine call_tuple_list pl.isList (fun h' kp=>?_) (by simp only [size_toArray] <;> omega)
  have I1:Inv X pins σ H { s with heap:=h' }:=I.kept (t':=s.toks) kp
  have I2:Inv X pins σ (upd H h'.objs.size (.tup ys)) { s with heap:=h'.push { cls:=.type "tuple",data:=.seq its.toArray } } :=
   I1.laid (t':=s.toks) (fun b o e=>Heap.get?_push_of_some _ e) (Nat.le_refl _) (show ObjOk X.prog X.w _ _ _ (.tup ys) from ⟨hz,its,r',IsTupD.new _ _⟩)
  exact ⟨.ref h'.objs.size,_,I2,rfl,q _ (I1.hok.fresh (Nat.le_refl _))⟩
 ·obtain ⟨its,r',pl,hz⟩:=I.tuple hq
  exact call_tuple_same pl ⟨.ref p,H,I,rfl,q⟩
def tyV (K:PySem.W.Frag) (T:String) (x:V) (H:Hp):Prop:=match x with
 | .str _=>T = "str"
 | .int _=>T = "int"
 | .ref p=>(T = "list" ∧ ∃ xs,SqL K H p xs)∨(T = "tuple" ∧ ∃ o,K.lookup p=some o∧o.cls=.type "tuple" ∧ o.dict=none) ∨
   (T = "dict" ∧ ((∃ kvs,H p=some (.dK kvs))∨∃ kvs,H p=some (.dT kvs)))∨(T = "set" ∧ ∃ S n,H p=some (.set S n))
 | _=>False
theorem Q6g {pins:List (Addr×Obj)} {σ:St} {H:Hp} {s:Shared} {T:String} {x:V} {v:Value} (I:Inv X pins σ H s) (r:RelV x v) (ty:tyV X.K T x H) :
  s.TypeIs v T∧∀ a,v=.ref a→∃ ob,s.heap.get? a=some ob∧ob.dict=none:=by
 cases x with
 | str z =>
  obtain ⟨t,rfl⟩:=r
  cases (show T = "str" from ty)
  exact ⟨typeIs_str s z t,fun _ e=>nomatch e⟩
 | int i =>
  obtain ⟨t,rfl⟩:=r
  cases (show T = "int" from ty)
  exact ⟨typeIs_int s i t,fun _ e=>nomatch e⟩
 | ref p =>
  cases r
  rcases ty with ⟨rfl,xs,hq⟩ | ⟨rfl,o,hk,hc,hd⟩ | ⟨rfl,hk⟩ | ⟨rfl,S,n,hk⟩
  ·obtain ⟨its,_,pl,_⟩:=I.list hq
   refine ⟨pl.isList.typeIs,fun a e=>?_⟩
   cases e
   obtain ⟨o,n,e,c,hd,_⟩:=pl
   exact ⟨o,e,hd⟩
  ·refine ⟨⟨o,I.kIn p o hk,hc⟩,fun a e=>?_⟩
   cases e
   exact ⟨o,I.kIn _ o hk,hd⟩
  ·have z:∃ o,s.heap.get? p=some o∧o.ExactDict:=by
    rcases hk with ⟨kvs,hk⟩ | ⟨kvs,hk⟩
    ·obtain ⟨_,_,_,_,o,_,_,e,ex,_⟩:=I.hok p _ hk
     exact ⟨o,e,ex⟩
    ·obtain ⟨_,_,_,_,o,_,_,e,ex,_⟩:=I.hok p _ hk
     exact ⟨o,e,ex⟩
   obtain ⟨o,e,ex⟩:=z
   refine ⟨⟨o,e,ex.1⟩,fun a e2=>?_⟩
   cases e2
   exact ⟨o,e,ex.2.1⟩
  ·obtain ⟨o,_,_,_,e,ex,_⟩:=I.hok p _ hk
   refine ⟨⟨o,e,ex.1⟩,fun a e2=>?_⟩
   cases e2
   exact ⟨o,e,ex.2.1⟩
 | _=>exact False.elim ty
abbrev tBM (K:PySem.W.Frag) (T:String) (r:V→List V→Hp→VK→Prop) (to:TE) (t:TA):TE:=fun σ H Q=>to σ H fun x H1=>tyV K T x H1∧t σ H1 fun xs H2=>r x xs H2 Q
variable {o e:Expr} {es:List Expr} {to:TE} {t:TA} {name:Str} {apos cpos:Pos} {T id:String} {r:V→List V→Hp→VK→Prop}
theorem Q9u (pa:PlainAttrs T) (slot:Slot T name id) (hty:typeOf (.builtin id)=pure (.type "method_descriptor")) (hm:MtR X id r) (ho:PE X o to) (ha:PA X (e::es) t)
  (hbase:attributeBase o name X.env (eval o X.env)=eval o X.env:=by rfl)
  (hfew:((backTo cpos (starEach (e::es) X.env)).all (fun x=>!x.1)&&(backToKw cpos (keywordEach [] X.env)).all (fun x=>x.1.isSome)
   && decide ((e::es).length+([]:List Keyword).length+(if ([]:List Keyword).isEmpty then 0 else 1)<30))=true:=by rfl)
  (hline:(apos.endLine==cpos.line)=true:=by rfl) (hs:starEach (e::es) X.env=(false,eval e X.env)::starEach es X.env:=by rfl) (hplain:(backTo cpos (starEach es X.env)).any (·.1)=false:=by rfl) :
  PE X (.Call (.Attribute o name apos) (e::es) [] cpos) (tBM X.K T r to t):=by
 intro pins s σ H Q I h
 refine wpAny_Call_method_late hbase hfew hline rfl (thn (ho pins s σ H _ I h) fun v s1 ⟨x,H1,I1,r1,ty,q1⟩=>?_)
 obtain ⟨h1,h2⟩:=Q6g I1 r1 ty
 refine ⟨T,id,pa,slot,hty,h1,h2,?_⟩
 have hA:=ha cpos pins s1 σ H1 _ I1 q1
 rw [hs] at hA ⊢
 refine Calls.callWith_builtin (by show (false||(backTo cpos (starEach es X.env)).any (·.1))=false;rw [hplain] <;> rfl) (Calls.evalArgs_plain ?_)
 exact thn hA fun us s2 ⟨vs,H2,I2,r2,q2⟩=>hm pins s2 σ H2 x vs v us Q I2 r1 r2 q2
end
def MtM (X:Cx) (id:String) (r:V→List V→Hp→VK→Prop):Prop :=
 ∀ (pins:List (Addr×Obj)) (s:Shared) (σ:St) (H:Hp) (x:V) (xs:List V) (v:Value) (us:List Value) (Q:VK),Inv X pins σ H s→RelV x v→Vals xs us→r x xs H Q →
  wpAny (model X.prog X.w) X.A (call (.builtin id) (v::us)) (EP X pins σ Q) X.xe s
theorem Vals.one:∀ {x:V} {us:List Value},Vals [x] us→∃ u,us=[u]∧RelV x u
 | _,_,.cons r .nil=>⟨_,rfl,r⟩
theorem Vals.rep {xs:List V} {us:List Value} (h:Vals xs us):∀ k:Nat,Vals (List.replicate k xs).flatten (List.replicate k us).flatten
 | 0=>.nil
 | k+1=>by
  rw [replicate_succ,replicate_succ,List.flatten_cons,List.flatten_cons]
  exact Vals.append h (Vals.rep h k)
theorem Qj2 (its:List Value):∀ (k:Nat) (acc:List Value),
  List.foldl (fun x1 x2=>x1++x2) acc.toArray (List.replicate k its.toArray)=(acc++(List.replicate k its).flatten).toArray
 | 0,acc=>by simp
 | k+1,acc=>by
  have e:acc.toArray++its.toArray=(acc++its).toArray:=by simp
  have e2:(acc++its)++(List.replicate k its).flatten=acc++(List.replicate (k+1) its).flatten:=by
   rw [replicate_succ,List.flatten_cons,append_assoc]
  rw [←e2,←Qj2 its k (acc++its),←e,replicate_succ,List.foldl_cons]
section
variable {X:Cx} {pins:List (Addr×Obj)} {σ:St} {H:Hp} {s:Shared} {l b:Addr} {xs ys zs:List V}
theorem Inv.lset {its its':List Value} {n:Nat} {f:Array Value→Array Value} {t':Nat} (I:Inv X pins σ H s) (hH:H l=some (.lst xs))
  (e:s.heap.get? l=some { cls:=.type "list",data:=.seq its.toArray n }) (hf:f its.toArray=its'.toArray) (hv:Vals ys its') (hz:ys.length≤sizeLine) :
  Inv X pins σ (upd H l (.lst ys)) { s with heap:=s.heap.update l (Obj.mapSeq f),toks:=t' }:=by
 have q:=PySem.IsL.update e f
 rw [hf] at q
 refine I.write (x:=l) (e:=l) (by rw [hH];exact trivial) (.inl rfl) (fun b' u hb hu=>(Heap.get?_update_other s.heap (Obj.mapSeq f) (Ne.symm hb)).trans hu) ⟨_,q⟩ ?_
 exact ⟨hz,its',_,hv,q⟩
theorem Inv.lnew {its:List Value} {t':Nat} (I:Inv X pins σ H s) (hv:Vals ys its) (hz:ys.length≤sizeLine) :
  Inv X pins σ (upd H s.heap.objs.size (.lst ys)) { s with heap:=s.heap.push { cls:=.type "list",data:=.seq its.toArray },toks:=t' } :=
 I.laid (fun _ _ q=>Heap.get?_push_of_some _ q) (Nat.le_refl _) ⟨hz,its,0,hv,Heap.get?_push_size _ rfl⟩
theorem Inv.fresh (I:Inv X pins σ H s):H s.heap.objs.size=none:=I.hok.fresh (Nat.le_refl _)
theorem Inv.lstM (I:Inv X pins σ H s) (hH:H l=some (.lst xs)):xs.length≤sizeLine∧∃ (its:List Value) (n:Nat),Vals xs its∧xs.length=its.length∧s.heap.get? l=some { cls:=.type "list",data:=.seq its.toArray n }:=by
 obtain ⟨z,its,n,r,e⟩:=I.hok l _ hH
 exact ⟨z,its,n,r,r.length,e⟩
theorem Qlr {n:Nat} (h:n≤sizeLine):Builtin.List.listTooLong n=false:=by
 unfold Builtin.List.listTooLong
 exact decide_eq_false (by omega)
end
section
variable {X:Cx}
def Qlc:V→List V→Hp→VK→Prop:=fun x vs H Q=>∃ l xs y,x=.ref l∧vs=[y]∧H l=some (.lst xs)∧xs.length<sizeLine∧Q .non (upd H l (.lst (xs++[y])))
theorem Qj3:MtM X "list.append" Qlc:=by
 intro pins s σ H x vs v us Q I rx rv h
 obtain ⟨l,xs,y,rfl,rfl,hH,hz,q⟩:=h
 cases rx
 obtain ⟨u,rfl,ru⟩:=rv.one
 obtain ⟨z,its,n,r,hl,e⟩:=I.lstM hH
 refine call_meets F.slot_list_append ⟨_,e,rfl⟩ F.entry_list_append (F.args_list_append_2 _ _) (PySem.list_append l its.toArray n u (by rw [size_toArray];omega)) ⟨e,?_⟩
 refine ⟨.non,_,I.lset (its':=its++[u]) hH e (by simp) (r.append (.cons ru .nil)) ?_,rfl,q⟩
 rw [length_append,length_singleton]
 omega
def Q14:V→List V→Hp→VK→Prop:=fun x vs H Q=>∃ l b xs zs,x=.ref l∧vs=[.ref b]∧H l=some (.lst xs)∧H b=some (.lst zs)∧xs.length+zs.length≤sizeLine∧Q .non (upd H l (.lst (xs++zs)))
theorem mt_extend:MtM X "list.extend" Q14:=by
 intro pins s σ H x vs v us Q I rx rv h
 obtain ⟨l,b,xs,zs,rfl,rfl,hH,hB,hz,q⟩:=h
 cases rx
 obtain ⟨u,rfl,ru⟩:=rv.one
 cases ru
 obtain ⟨z,its,n,r,hl,e⟩:=I.lstM hH
 obtain ⟨z2,its2,n2,r2,hl2,e2⟩:=I.lstM hB
 have hsz:its.toArray.size+its2.toArray.size≤sizeLine:=by rw [size_toArray,size_toArray];omega
 have hlong:¬ (!its.toArray.isEmpty&&Builtin.List.listTooLong (its.toArray.size+its2.toArray.size))=true:=by
  rw [Qlr hsz,Bool.and_false]
  exact Bool.false_ne_true
 refine call_meets F.slot_list_extend ⟨_,e,rfl⟩ F.entry_list_extend (F.args_list_extend_2 _ _)
  (AutoSeq1.list_extend_list_list_0 l its.toArray n b its2.toArray n2 hlong (by rw [size_toArray];omega) (by omega)) ⟨e,e2,?_⟩
 refine ⟨.non,_,I.lset (its':=its++its2) hH e (by simp) (r.append r2) ?_,rfl,q⟩
 rw [length_append]
 omega
def Q9v:R2:=fun x y H Q=>∃ l b xs zs,x=.ref l∧y=.ref b∧H l=some (.lst xs)∧H b=some (.lst zs)∧xs.length+zs.length≤sizeLine∧∀ p,H p=none→Q (.ref p) (upd H p (.lst (xs++zs)))
theorem Q6h:OpR X (binaryOp .Add) Q9v:=by
 intro pins s σ H x y v u Q I rx ry h
 obtain ⟨l,b,xs,zs,rfl,rfl,hH,hB,hz,q⟩:=h
 cases rx
 cases ry
 obtain ⟨z,its,n,r,hl,e⟩:=I.lstM hH
 obtain ⟨z2,its2,n2,r2,hl2,e2⟩:=I.lstM hB
 refine PySem.P.add_list e e2 ?_ (by rw [size_toArray,size_toArray];omega)
 have ea:its.toArray++its2.toArray=(its++its2).toArray:=by simp
 rw [ea]
 exact ⟨.ref _,_,I.lnew (t':=s.toks) (r.append r2) (by rw [length_append];omega),rfl,q _ I.fresh⟩
def Q9w:R2:=fun x y H Q=>∃ l k xs,x=.ref l∧y=.int k∧H l=some (.lst xs) ∧ -(2^63)≤k∧k<2^63∧xs.length*k.toNat≤sizeLine ∧
 ∀ p,H p=none→Q (.ref p) (upd H p (.lst (List.replicate k.toNat xs).flatten))
theorem Qi5 {α:Type} (xs:List α) (k:Nat):(List.replicate k xs).flatten.length=k*xs.length:=by
 induction k with
 | zero=>simp
 | succ k ih=>rw [replicate_succ,List.flatten_cons,length_append,ih,Nat.succ_mul,Nat.add_comm]
theorem Q6i:OpR X (binaryOp .Mult) Q9w:=by
 intro pins s σ H x y v u Q I rx ry h
 obtain ⟨l,k,xs,rfl,rfl,hH,h1,h2,hz,q⟩:=h
 cases rx
 obtain ⟨t,rfl⟩:=ry
 obtain ⟨z,its,n,r,hl,e⟩:=I.lstM hH
 have hlen:its.toArray.size*k.toNat≤sizeLine:=by rw [size_toArray,←hl];exact hz
 have hcap:¬ its.toArray.size*k.toNat>(2^63-1) / 8:=by
  have:(sizeLine:Nat)≤(2^63-1) / 8:=by decide
  omega
 have hfit:¬ (!Builtin.List.listFitsIndex k)=true:=by
  rw [fitsIndex_both h1 h2]
  exact Bool.false_ne_true
 have hlong:¬ Builtin.List.listTooLong (its.toArray.size*k.toNat)=true:=by
  rw [Qlr hlen]
  exact Bool.false_ne_true
 have hnew:List.foldl (fun x1 x2=>x1++x2) #[] (List.replicate (if its.toArray.isEmpty=true then 0 else k.toNat) its.toArray)=(List.replicate k.toNat its).flatten.toArray:=by
  have f0:∀ m:Nat,List.foldl (fun x1 x2=>x1++x2) #[] (List.replicate m its.toArray)=(List.replicate m its).flatten.toArray:=fun m=>by
   have:=Qj2 its m []
   rw [List.nil_append] at this
   exact this
  rw [f0]
  cases its with
  | nil=>simp
  | cons a r'=>rw [if_neg (by simp)]
 refine wpAny_binaryOp_repeat_ref (T := "list") (U := "int") (by decide) ⟨_,e,rfl⟩ (fun s'=>typeIs_int s' k t) noFill_list_mul F.fills_int_mul F.slot_int_rmul repeat_list F.slot_int_index.lookup
  (call_meets F.slot_int_rmul (typeIs_int s k t) F.entry_int_rmul (F.args_int_rmul_2 _ _) (int___rmul___int_list k t l its.toArray n)
   ⟨e,rfl,⟨_,e,rfl⟩,call_meets F.slot_list_mul ⟨_,e,rfl⟩ F.entry_list_mul (F.args_list_mul_2 _ _) (AutoListH.list___mul___list_int_3 l its.toArray n k t hfit hcap hlong) ⟨e,?_⟩⟩)
 rw [hnew]
 exact ⟨.ref _,_,I.lnew (t':=s.toks) (r.rep k.toNat) (by rw [Qi5,Nat.mul_comm];exact hz),rfl,q _ I.fresh⟩
end
section
variable {prog:Program} {w:World} {A:Around} {E:Value→Shared→Prop} {s:Shared}
end
section
variable {X:Cx}
end
end L2
namespace Att
open PySem PySem.W PySem.Calls PyProof.Rows
theorem ints_of_wellAll {P:Params} {h:Heap}:∀ (ns:List Int) (vs:List Value),WellAll P h vs (ns.map WData.int)→IntsAre vs ns:=by
 intro ns
 induction ns with
 | nil =>
  intro vs w
  rw [map_nil] at w
  cases w
  exact .nil
 | cons n ns ih =>
  intro vs w
  rw [map_cons] at w
  cases w with
  | cons a b =>
   cases a
   exact .cons _ _ (ih _ b)
theorem script_of {l:OpenLaw} {n:Nat} (hn:l.most=some n) {P:Params} {h:Heap} {args:List WData} {vals:List Value}
  (hpre:l.row.toRowW.claim.pre args=true) (hwl:WellAll P h vals args) :
  ∃ a vs ns,vals=[Value.ref a]∧args=[WData.list (ns.map WData.int)]∧h.get? a=some { cls:=.type "list",data:=.seq vs.toArray }∧IntsAre vs ns∧ns.length≤n:=by
 have hsh:WShape.hasAll [] args [.list .int]=true:=(pre_splitW hpre).1
 have hc:l.pre.holds [] { args:=args }=true:=(pre_splitW hpre).2
 obtain ⟨d,r,rfl,h1,h2⟩:=hasAllW_cons hsh
 obtain rfl:=hasAllW_nil h2
 obtain ⟨xs,rfl,h3⟩:=hasW_list h1
 obtain ⟨ns,rfl⟩:=items_int h3
 have hlen:ns.length≤n:=by
  unfold OpenLaw.pre at hc
  have h4:(WTm.not (.lt (.lit (.int (n:Int))) (.len (.arg 0)))).holds [] { args:=[.list (ns.map .int)] }=true:=by
   have h4:=(holds_andW hc).1
   rw [hn] at h4
   exact h4
  have h5:=condW_of h4 (w_not (w_lt w_lit (w_len_list (w_arg rfl))))
  rw [length_map] at h5
  refine Nat.le_of_not_lt fun q=>?_
  have q':(n:Int)<((ns.length:Nat):Int):=by omega
  first
   | (rw [decide_eq_true q'] at h5;exact absurd h5 (by decide))
   | (simp at h5;omega)
 cases hwl with
 | cons w1 w2 =>
  cases w2
  cases w1 with
  | list ho hall=>exact ⟨_,_,ns,rfl,rfl,ho,ints_of_wellAll ns _ hall,hlen⟩
theorem post_true (l:OpenLaw) (args:List WData):l.row.toRowW.claim.post args (.bool true) args=true :=
 postW_of (r:=l.row.toRowW) (X:=(true==true))
  (show WShape.has [] (.bool true) .bool=true by first | rfl | decide | simp [WShape.has,WShape.arms,WShape.armsAll])
  (show (WTm.eq .res (.lit (.bool true))).value [] { args:=args,res:=some (.bool true),after:=args }=some (.bool (true==true)) from w_eq_bool (w_res rfl) w_lit) rfl
theorem attach_call {l:OpenLaw} {n:Nat} {q:Program} {loose:List Str} {XP:(Str→Option Value)→Heap→Prop} {YP:World→Heap→Prop} {d:DefRec}
  (hn:l.most=some n) (hdf:d.params.defaults=[])
  (call:∀ (w:World) (s₀ s₁:Shared) (mg mb:Str→Option Value) (fa:Addr) (o:Obj) (pm cd doc:Value) (a:Addr) (vs:List Value) (ns:List Int),
   Ground q loose [] XP w s₀ mg mb s₁.heap→YP w s₁.heap →
   s₁.heap.get? fa=some o→o.data=.func (docDef d.name d.params d.body d.scope pm cd doc)→s₁.heap.CodeRec cd d.name→mg d.name=some (.ref fa) →
   s₁.heap.get? a=some { cls:=.type "list",data:=.seq vs.toArray }→IntsAre vs ns→ns.length≤n→s₁.gens = #[] →
   codeAny (model l.prog w) callerA (.call (.ref fa) ⟨[.ref a],[]⟩) (fun r s'=>r=.ok (.ret (.bool true))∧OldK s₁.heap s'.heap∧s'.os=s₁.os∧AllBare s'.gens) s₁) :
  WalkO q loose XP YP l.row.toRowW d [] (fun f vs=>PySem.call f vs):=by
 intro w s₀ s₁ mg mb G Y fa o pm cd doc dV kV ho hd hcd hD hmg hg args vals as hpre hlay hrd hwl hlo
 obtain rfl:dV=.none:=Dflts.none hD hdf
 obtain rfl:kV=.none:=Dflts.noKw hD
 obtain ⟨a,vs,ns,rfl,rfl,hobj,hints,hlen⟩:=script_of hn hpre hwl
 refine enter_call (codeAny_mono (call w s₀ s₁ mg mb fa o pm cd doc a vs ns G Y ho (fd_plain hd) hcd hmg hobj hints hlen hg) fun r s' hq=>?_)
 obtain ⟨rfl,h2,h3,h4⟩:=hq
 exact ⟨.inl ⟨.bool true,.bool true,[],rfl,fun _=>rfl,.bool true,post_true l _,fun _=>⟨List.Pairwise.nil,fun _ hm=>(nomatch hm)⟩⟩,h2,h3,h4⟩
section
variable {prog:Program} {w:World} {A:Around} {E:Value→Shared→Prop} {s:Shared} {K:Frag}
end
end Att
namespace L2
open PySem PySem.Spec PyProof.Rows
theorem Qnv:∀ {vs:List Value} {ns:List Int},IntsAre vs ns→Vals (ns.map V.int) vs
 | _,_,.nil=>.nil
 | _,_,.cons n t h=>.cons ⟨t,rfl⟩ (Qnv h)
def Q15 (H:Hp):Prop:=∀ b,H b=none∨∃ o xs,H b=some (.frz o (.lst xs))
theorem Qx6 {P:Program} {w:World} {K:PySem.W.Frag} {mg mb:Str→Option Value} {CX:CXT} {k:Nat} {fa a:Addr} {fd:FuncData} {x:Str} {sp:Sp} {s₁:Shared} {vs:List Value} {ns:List Int}
  (KX:K.In s₁.heap) (hns:s₁.heap.Ns mainGlobals mg) (hb:s₁.heap.Ns builtinsNs mb) (hbb:∀ x:Str,x ≠ "__name__" → mb x=bootBuiltins x) (hlim:s₁.heap.NoLimit) (hg:s₁.gens = #[])
  (ha:s₁.heap.get? a=some { cls:=.type "list",data:=.seq vs.toArray }) (hi:IntsAre vs ns) (hl:ns.length≤sizeLine) (hr:Room k callerA)
  (F:∀ base:Heap,K.In base→base.Ns mainGlobals mg→FnOk P w K mg base CX k fa fd [x] sp) (hbind:∀ (s:Shared) (u:Value),BindsTo s fd ⟨[u],[]⟩ [(x,u)])
  (hsp:∀ H:Hp,Q15 H→SqL K H a (ns.map V.int)→sp [.ref a] H (fun v _=>v=.bl true) fun _ _ _=>False)
  (hCX:∀ H e s',CX [] H s₁ (fun _ _ _=>False) e s'→False)
  (hbm:∃ bm ob,mg "__builtins__" = some (.ref bm)∧bm≠builtinsNs∧s₁.heap.get? bm=some ob∧ob.cls=.type "module" ∧ ob.dict=some builtinsNs∧ob.data=.plain) (hT:∀ a q,¬ Qxh K a q) :
  codeAny (model P w) callerA (.call (.ref fa) ⟨[.ref a],[]⟩) (fun r s'=>r=.ok (.ret (.bool true))∧OldK s₁.heap s'.heap∧s'.os=s₁.os∧AllBare s'.gens) s₁:=by
 have rv:=Qnv hi
 have lenV:=hi.length
 -- from an abstract heap in which nothing but the script may be tracked
 have core:∀ H:Hp,Q15 H→SqL K H a (ns.map V.int)→HOk P w H s₁.heap→(∀ b,H b≠none→b=a)→(H a≠none→K.lookup a=none) →
   codeAny (model P w) callerA (.call (.ref fa) ⟨[.ref a],[]⟩) (fun r s'=>r=.ok (.ret (.bool true))∧OldK s₁.heap s'.heap∧s'.os=s₁.os∧AllBare s'.gens) s₁:=by
  intro H hO hS hok hA hK
  have base_of:∀ {b:Addr} {o:Obj},s₁.heap.get? b=some o→H b=none→(Qow s₁.heap H).get? b=some o:=fun e n=>Qxg e n
  have noA:∀ {b:Addr} {o:Obj} {es:Array DictEntry} {ep:Nat},s₁.heap.get? b=some o→o.data=.dict es ep→H b=none:=fun {b o es ep} e d=>by
   cases q:H b with
   | none=>rfl
   | some u =>
    have e':b=a:=hA b (by rw [q];simp)
    subst e'
    rw [ha] at e;cases e
    have d':Data.seq vs.toArray _=Data.dict es ep:=d
    cases d'
  have noS:∀ {b:Addr} {o:Obj},s₁.heap.get? b=some o→o.data=.plain→H b=none:=fun {b o} e d=>by
   cases q:H b with
   | none=>rfl
   | some u =>
    have e':b=a:=hA b (by rw [q];simp)
    subst e'
    rw [ha] at e;cases e
    cases (show Data.seq vs.toArray _=Data.plain from d)
  have nsK:∀ {b:Addr} {m:Str→Option Value},s₁.heap.Ns b m→(Qow s₁.heap H).Ns b m:=fun {b m} ⟨o,es,ep,e,d,r⟩=>⟨o,es,ep,base_of e (noA e d),d,r⟩
  have hKb:K.In (Qow s₁.heap H):=fun b o e=>base_of (KX b o e) (by
   cases q:H b with
   | none=>rfl
   | some u =>
    have e':b=a:=hA b (by rw [q];simp)
    subst e'
    rw [hK (by rw [q];simp)] at e;cases e)
  have hM:Mod K mg (Qow s₁.heap H):=⟨hKb,nsK hns,⟨mb,nsK hb,hbb⟩,let ⟨mc,h1,h2⟩:=hlim;⟨mc,nsK h1,h2⟩,let ⟨bm,ob,b1,b2,b3,b4,b5,b6⟩:=hbm;⟨bm,ob,b1,b2,base_of b3 (noS b3 b6),b4,b5,b6⟩⟩
  have e0:Env0 P w K mg (Qow s₁.heap H) callerA [] s₁ H:=⟨rfl,hM,fun b o e=>Q1h e,Nat.le_of_eq (Qvv _ _),trivial,⟨fun b hb=>absurd (show b∈([]:List Addr) from hb) (by simp),fun a q z=>(hT a q z).elim⟩,hok,.of_eq hg⟩
  refine codeAny_mono ((F _ hKb (nsK hns)).run callerA [] s₁ H ⟨[.ref a],[]⟩ [.ref a] [.ref a] _ _ hr e0 (hbind s₁ (.ref a)) (.cons rfl .nil) (hsp H hO hS)) fun r s' h=>?_
  cases r with
  | error e=>exact (hCX H e s' h).elim
  | ok fl =>
   cases fl with
   | next=>exact False.elim h
   | brk=>exact False.elim h
   | cont=>exact False.elim h
   | ret u =>
    obtain ⟨v,H',os,bare,un,hok',r',q⟩:=h
    have q':v=.bl true:=q
    subst q'
    obtain rfl:u=Value.bool true:=r'
    refine ⟨rfl,OldK.of_keep fun b o e=>?_,os,bare⟩
    cases q:H b with
    | none=>exact un.keep b o e q (by intro z;exact absurd (show b∈([]:List Addr) from z) (by simp)) (by simp)
    | some u =>
     rcases hO b with z | ⟨ob,xs,z⟩
     ·rw [q] at z;cases z
     ·have z2:=un.frzs b ob _ z
      obtain ⟨e1,_⟩:=hok b _ z
      obtain ⟨e2,_⟩:=hok' b _ z2
      rw [e] at e1;cases e1
      exact e2
 cases hk:K.lookup a with
 | some o =>
  -- the script is one of the module's own objects
  have e:=KX a o hk
  rw [ha] at e
  cases e
  refine core (fun _=>none) (fun _=>.inl rfl) (.inr ⟨_,vs.toArray,_,hk,rfl,rfl,rfl,by rw [size_toArray,lenV];exact hl,by simpa using rv⟩) (fun b u z=>by have z':(none:Option HO)=some u:=z;cases z') (fun b z=>absurd rfl z) fun z=>absurd rfl z
 | none =>
  refine core (fun b=>if b=a then some (.frz { cls:=.type "list",data:=.seq vs.toArray } (.lst (ns.map V.int))) else none) (fun b=>?_) (.inl (.inr ⟨{ cls:=.type "list",data:=.seq vs.toArray },if_pos rfl⟩)) (fun b u z=>?_) (fun b z=>?_) fun _=>hk
  ·by_cases hb:b=a
   ·exact .inr ⟨_,_,if_pos hb⟩
   ·exact .inl (if_neg hb)
  ·by_cases hb:b=a
   ·have z':=(if_pos hb).symm.trans z
    cases z'
    subst hb
    exact ⟨ha,by rw [length_map];exact hl,vs,_,rv,ha⟩
   ·have z':=(if_neg hb).symm.trans z
    cases z'
  ·by_cases hb:b=a
   ·exact hb
   ·exact absurd (if_neg hb) z
noncomputable abbrev KOf {K:PySem.W.Frag} {h:Heap} (_:K.In h):PySem.W.Frag:=K
theorem Q16 {l:PySem.W.OpenLaw} {n k:Nat} {q:Program} {loose:List Str} {XP:(Str→Option Value)→Heap→Prop} {YP:World→Heap→Prop} {d:DefRec} {K:Params→PySem.W.Frag} {CX:World→CXT} {sp:World→Sp} {x:Str}
  (hn:l.most=some n) (hn2:n≤sizeLine) (hdf:d.params.defaults=[]) (hr:Room k callerA)
  (hY:∀ (w:World) (h:Heap),YP w h→(K w.params).In h)
  (F:∀ (w:World) (mg:Str→Option Value) (fa:Addr) (h:Heap),(K w.params).In h→h.Ns mainGlobals mg→mg d.name=some (.ref fa) →
   ∃ fd:FuncData,(∀ (s:Shared) (u:Value),BindsTo s fd ⟨[u],[]⟩ [(x,u)]) ∧
    ∀ base:Heap,(K w.params).In base→base.Ns mainGlobals mg→FnOk l.prog w (K w.params) mg base (CX w) k fa fd [x] (sp w))
  (hsp:∀ (w:World) (H:Hp) (a:Addr) (ns:List Int),ns.length≤n→Q15 H→SqL (K w.params) H a (ns.map V.int)→sp w [.ref a] H (fun v _=>v=.bl true) fun _ _ _=>False)
  (hCX:∀ (w:World) (H:Hp) (s:Shared) (e:Value) (s':Shared),CX w [] H s (fun _ _ _=>False) e s'→False) (hT:∀ (w:World) a q,¬ Qxh (K w.params) a q) :
  PySem.W.WalkO q loose XP YP l.row.toRowW d [] (fun f vs=>PySem.call f vs):=by
 refine Att.attach_call hn hdf fun w s₀ s₁ mg mb fa o pm cd doc a vs ns G Y ho hd hcd hmg hobj hints hlen hg=>?_
 have KX:=hY w _ Y
 obtain ⟨fd,hb,hF⟩:=F w mg fa _ KX G.T.g hmg
 exact Qx6 KX G.T.g G.T.b G.T.builtins G.T.nolimit hg hobj hints (Nat.le_trans hlen hn2) hr hF hb (fun H hO hS=>hsp w H a ns hlen hO hS) (fun H e s'=>hCX w H s₁ e s') G.T.bmain (hT w)
theorem Qx7 {l:PySem.W.OpenLaw} {n k:Nat} {q:Program} {loose:List Str} {XP:(Str→Option Value)→Heap→Prop} {YP:World→Heap→Prop} {d:DefRec} {K:Params→PySem.W.Frag} {CX:CXT} {sp:PySem.W.Frag→Sp} {x:Str}
  (hn:l.most=some n) (hn2:n≤sizeLine) (hdf:d.params.defaults=[]) (hr:Room k callerA)
  (hY:∀ (w:World) (h:Heap),YP w h→(K w.params).In h)
  (F:∀ (w:World) (mg:Str→Option Value) (fa:Addr) (h:Heap),(K w.params).In h→h.Ns mainGlobals mg→mg d.name=some (.ref fa) →
   ∃ fd:FuncData,(∀ (s:Shared) (u:Value),BindsTo s fd ⟨[u],[]⟩ [(x,u)]) ∧
    ∀ base:Heap,(K w.params).In base→base.Ns mainGlobals mg→FnOk l.prog w (K w.params) mg base CX k fa fd [x] (sp (K w.params)))
  (hsp:∀ (K:PySem.W.Frag) (H:Hp) (a:Addr) (ns:List Int),ns.length≤n→Q15 H→SqL K H a (ns.map V.int)→sp K [.ref a] H (fun v _=>v=.bl true) fun _ _ _=>False)
  (hCX:∀ (H:Hp) (s:Shared) (e:Value) (s':Shared),CX [] H s (fun _ _ _=>False) e s'→False) (hT:∀ (w:World) a q,¬ Qxh (K w.params) a q) :
  PySem.W.WalkO q loose XP YP l.row.toRowW d [] (fun f vs=>PySem.call f vs) :=
 Q16 (K:=K) (CX:=fun _=>CX) (sp:=fun w=>sp (K w.params)) hn hn2 hdf hr hY F (fun w H a ns h1 h2 h3=>hsp (K w.params) H a ns h1 h2 h3) (fun _ H s e s'=>hCX H s e s') hT
noncomputable def Q17 (s:Stmt) (j:Nat):Stmt:=match s with
 | .ClassDef _ _ _ body _ _ _ _ _ _ _=>body.getD j (.Pass ⟨0,0,0,0⟩)
 | _=>.Pass ⟨0,0,0,0⟩
noncomputable def Qbg (s:Stmt):Arguments:=match s with
 | .FunctionDef _ a _ _ _ _ _ _ _ _=>a
 | _=>{ posonlyargs:=[],args:=[],vararg:=none,kwonlyargs:=[],kw_defaults:=[],kwarg:=none,defaults:=[] }
noncomputable def Qaj (s:Stmt):List Stmt:=match s with
 | .FunctionDef _ _ b _ _ _ _ _ _ _=>b
 | _=>[]
noncomputable def Qf (s:Stmt):Scope:=match s with
 | .FunctionDef _ _ _ _ _ _ sc _ _ _=>sc
 | _=>{ kind:=.function,names:=[],isGenerator:=false,isCoroutine:=false }
abbrev CX0:CXT:=fun _ _ _ _ _ _=>False
abbrev E0:XK:=fun _ _ _=>False
theorem Q9x {X:Cx}:Qss CX0 X E0:=fun _ _ _ _ _ _ _ h=>h.elim
structure Fun (K:PySem.W.Frag) (x qual:Str) (st:Stmt) (f:Addr) (fd:FuncData):Prop where
 ex:∃ (oc:Value) (od:Option Addr) (kV doc pm:Value) (an:Option Addr) (cdv ct:Value) (osl:Array (Option Value)),
  fd=PySem.W.fnOf x qual (Qbg st) (Qaj st) (Qf st) .none kV doc pm an cdv ct∧K.lookup f=some ⟨oc,od,.func fd,osl⟩∧PySem.W.codeIn K cdv qual=true
 kp:PySem.W.keepIn K (.ref f)=true
section
variable {P:Program} {w:World} {K:PySem.W.Frag} {mg:Str→Option Value} {base:Heap}
theorem Fun.ok {x qual:Str} {st:Stmt} {f:Addr} {fd:FuncData} {N ps:List Str} {k:Nat} {sp:Sp} (F:Fun K x qual st f fd) (S:FnScope N ps (Qf st)) (len:∀ vs H Q E,sp vs H Q E→vs.length=ps.length)
  (hbody:∀ (cdv:Value) (A:Around) (outer:List Env) (s:Shared) (H:Hp) (vs:List V) (Q:VK) (E:XK),Room k (A.deeper (envOfC qual (Qf st) s.heap.objs.size f cdv))→sp vs H Q E →
   ∃ t,PSs (Qh5 (fun _=>true) CX0 P w K mg base N qual (Qf st) f cdv A outer s H E).nox (Qaj st) t∧t { nx:=fun _ H'=>Q .non H',rt:=Q } (Qbt N vs) H):FnOk P w K mg base CX0 (k+1) f fd ps sp:=by
 obtain ⟨oc,od,kV,doc,pm,an,cdv,ct,osl,rfl,lk,hcd⟩:=F.ex
 refine Q4g (g:=fun _=>true) lk hcd S len fun A outer s H vs Q E hr hsp=>?_
 obtain ⟨t,h,q⟩:=hbody cdv A outer s H vs Q E hr hsp
 exact ⟨t,h.nox,q⟩
theorem Fun.binds {x qual:Str} {st:Stmt} {f:Addr} {fd:FuncData} {ps:List Str} (F:Fun K x qual st f fd)
  (h:∀ (kV doc pm:Value) (an:Option Addr) (cdv ct:Value) (us:List Value),us.length=ps.length→bindArgs (PySem.W.fnOf x qual (Qbg st) (Qaj st) (Qf st) .none kV doc pm an cdv ct) ⟨us,[]⟩=pure (ps.zip us)):Binds K fd ps []:=by
 obtain ⟨oc,od,kV,doc,pm,an,cdv,ct,osl,rfl,lk,hcd⟩:=F.ex
 exact .all (h kV doc pm an cdv ct)
theorem Qx8 {x qual:Str} {st:Stmt} {f:Addr} {oc:Value} {od an:Option Addr} {osl:Array (Option Value)} {kV doc pm cdv ct:Value} (l:K.lookup f=some ⟨oc,od,.func (PySem.W.fnOf x qual (Qbg st) (Qaj st) (Qf st) .none kV doc pm an cdv ct),osl⟩)
  (c:PySem.W.codeIn K cdv qual=true) (k:PySem.W.keepIn K (.ref f)=true):Fun K x qual st f (PySem.W.fnOf x qual (Qbg st) (Qaj st) (Qf st) .none kV doc pm an cdv ct):=⟨⟨oc,od,kV,doc,pm,an,cdv,ct,osl,rfl,l,c⟩,k⟩
end
section
variable {X:Cx}
theorem pv (i:Nat) {x:Str} {pos:Pos} (hN:X.N[i]?=some x:=by rfl) (hv:Vis X.env.scope x:=by first | exact Or.inl rfl | exact Or.inr (Or.inl rfl) | exact Or.inr (Or.inr rfl)) (hd:(x==("__debug__" : Str))=false:=by decide)
  (hcd:(x==("__classdict__" : Str))=false:=by decide):PE X (.Name x pos) (Qh4 i):=Q5j hN hv hd hcd
end
theorem Q6j {A B:Prop} (h:B):if false=true then A else B:=by
 rw [if_neg Bool.false_ne_true]
 exact h
theorem ite2 {c A B:Prop} [Decidable c] (h1:c→A) (h2:¬ c→B):if c then A else B:=by
 by_cases h:c
 ·rw [if_pos h]
  exact h1 h
 ·rw [if_neg h]
  exact h2 h
def Same (H H':Hp):Prop:=∀ b o,H b=some o→H' b=some o
theorem Same.refl (H:Hp):Same H H:=fun _ _ h=>h
theorem Same.trans {H H1 H2:Hp} (a:Same H H1) (b:Same H1 H2):Same H H2:=fun c o h=>b c o (a c o h)
theorem Same.free {H H':Hp} (e:Same H H') {l:Addr} (h:H' l=Option.none):H l=Option.none:=by
 cases q:H l with
 | none=>rfl
 | some o =>
  rw [e l o q] at h
  cases h
theorem Same.seq {K:PySem.W.Frag} {H H':Hp} {a:Addr} {xs:List V} (e:Same H H') (h:SqL K H a xs):SqL K H' a xs:=by
 rcases h with (h | ⟨o,h⟩) | h
 ·exact .inl (.inl (e _ _ h))
 ·exact .inl (.inr ⟨o,e _ _ h⟩)
 ·exact .inr h
structure LamT where
 qual:Str
 params:Arguments
 body:Expr
 scope:Scope
 caps:List Str
 ps:List Str
noncomputable def Qx9:List (Nat×LamT):=[]
section
variable {κ:Type} [DecidableEq κ]
noncomputable def Qqh (kvs:List (κ×V)) (k:κ) (v:V):List (κ×V) :=
 if (kvs.any fun kv=>decide (kv.1=k))=true then kvs.map (fun kv=>if kv.1=k then (kv.1,v) else kv) else kvs++[(k,v)]
theorem Qqi (kvs:List (κ×V)) (k:κ) (v:V):(Qqh kvs k v).length≤kvs.length+1:=by
 unfold Qqh
 split
 ·rw [length_map];omega
 ·rw [length_append,length_cons,length_nil];omega
theorem RelO.isSome_eq {o:Option V} {u:Option Value} (r:RelO o u):o.isSome=u.isSome:=by
 cases o with
 | none=>cases u with
  | none=>rfl
  | some _=>exact (show False from r).elim
 | some _=>cases u with
  | none=>exact (show False from r).elim
  | some _=>rfl
theorem KV.any {kvs:List (κ×V)} {vs:List (κ×Value)} (r:KV kvs vs) (k:κ):(kvs.any fun kv=>decide (kv.1=k))=vs.any fun kv=>decide (kv.1=k):=by
 unfold KV at r
 induction r with
 | nil=>rfl
 | cons h t ih=>rw [any_cons,any_cons,ih,h.1]
theorem KV.repl {kvs:List (κ×V)} {vs:List (κ×Value)} (r:KV kvs vs) (k:κ) {y:V} {u:Value} (ry:RelV y u) :
  KV (kvs.map fun kv=>if kv.1=k then (kv.1,y) else kv) (vs.map fun kv=>if kv.1=k then (kv.1,u) else kv):=by
 unfold KV at r ⊢
 induction r with
 | nil=>exact .nil
 | @cons p q ps qs h t ih =>
  rw [map_cons,map_cons]
  refine .cons ?_ ih
  obtain ⟨h1,h2⟩:=h
  by_cases e:p.1=k
  ·rw [if_pos e,if_pos (h1.symm.trans e)];exact ⟨h1,ry⟩
  ·rw [if_neg e,if_neg (fun z=>e (h1.trans z))];exact ⟨h1,h2⟩
theorem KV.put {kvs:List (κ×V)} {vs:List (κ×Value)} (r:KV kvs vs) (k:κ) {y:V} {u:Value} (ry:RelV y u):KV (Qqh kvs k y) (stored vs k u):=by
 unfold Qqh stored
 rw [r.any k]
 by_cases e:(vs.any fun kv=>decide (kv.1=k))=true
 ·rw [if_pos e,if_pos e];exact r.repl k ry
 ·rw [if_neg e,if_neg e];exact Paired.snoc r ⟨rfl,ry⟩
end
theorem Q9y {P:Program} {w:World} {k:Key} {u:Value} (r:RelV (kV k) u):(Qd1 P w).is k u=true:=by
 cases k with
 | inl i=>obtain ⟨t,e⟩:=(show ∃ t,u=Value.int i t from r);subst e;exact Qqd P w i t
 | inr x=>obtain ⟨t,e⟩:=(show ∃ t,u=Value.str x t from r);subst e;exact Qqe P w x t
section
variable {P:Program} {w:World} {H:Hp} {h:Heap} {a:Addr}
theorem Q9z {u:HO} (ok:HOk P w H h) (e:Rd H a u):ObjOk P w H h a u:=e.ok ok
theorem Q90 {kvs:List (Key×V)} (ok:HOk P w H h) (e:Rd H a (.dK kvs)):kvs.length≤sizeLine∧(a==sysModules)=false∧∃ vs,KV kvs vs∧h.DictOf (Qd1 P w) a vs :=
 show ObjOk P w H h a (.dK kvs) from Q9z ok e
theorem Q91 {kvs:List (Key×V)} (ok:HOk P w H h) (e:H a=some (.dK kvs)):kvs.length≤sizeLine∧(a==sysModules)=false∧∃ vs,KV kvs vs∧h.DictOf (Qd1 P w) a vs:=Q90 ok (.inl e)
end
section
variable {X:Cx} {pins:List (Addr×Obj)} {σ:St} {H:Hp} {s:Shared} {a:Addr} {y v:V} {u r:Value} {o:Option V} {A:Around} {E:Value→Shared→Prop}
theorem Inv.big (I:Inv X pins σ H s):sysModules<s.heap.objs.size:=by
 have h:mainGlobals<s.heap.objs.size:=(I.mod.glob.keeps I.bk).lt
 exact Nat.lt_trans (by decide) h
theorem Q18 {h':Heap} {t':Nat} {ob:HO} (I:Inv X pins σ H s) (mu:Mut (H a)) (hs:Heap.SameBut a s.heap h') (he:∃ q,h'.get? a=some q) (new:ObjOk X.prog X.w (upd H a ob) h' a ob) :
  Inv X pins σ (upd H a ob) { s with heap:=h',toks:=t' } :=
 I.write (x:=a) (e:=a) mu (.inl rfl) (fun b q hb z=>(hs.2 b hb).trans z) he new
theorem Q6k {P:Program} {w:World} {H':Hp} {h':Heap} {kvs:List (Key×V)} {vs:List (Key×Value)} (z:kvs.length≤sizeLine) (hd:(a==sysModules)=false) (rel:KV kvs vs) (dd:h'.DictOf (Qd1 P w) a vs) :
  ObjOk P w H' h' a (.dK kvs):=⟨z,hd,vs,rel,dd⟩
end
section
variable {X:Cx} {pins:List (Addr×Obj)} {σ:St} {H:Hp} {s:Shared} {a:Addr} {kvs:List (Key×V)} {k:Key} {u:Value} {A:Around} {E:Value→Shared→Prop}
end
section
variable {X:Cx} {o i e value:Expr} {pos pos' tpos:Pos} {td ty tv:TE}
end
theorem Qya {P:Program} {w:World} {H:Hp} (h:Heap) (hb:sysModules<h.objs.size):ObjOk P w H (h.push { cls:=.type "dict",data:=.dict #[] }) h.objs.size (.dK []) :=
 ⟨Nat.zero_le _,beq_eq_false_iff_ne.mpr (Ne.symm (Nat.ne_of_lt hb)),[],.nil,Heap.DictOf.new h⟩
section
variable {X:Cx} {pos:Pos}
end
def Qsu:List (TE×TE)→St→Hp→(List (V×V)→Hp→Prop)→Prop
 | [],_,H,Q=>Q [] H
 | (tk,tv)::r,σ,H,Q=>tk σ H fun x H1=>tv σ H1 fun y H2=>Qsu r σ H2 fun ps H3=>Q ((x,y)::ps) H3
abbrev VV:List (V×V)→List (Value×Value)→Prop:=Paired fun p q=>RelV p.1 q.1∧RelV p.2 q.2
def PPs (X:Cx) (pos:Pos) (keys:List (Option Expr)) (values:List Expr) (trs:List (TE×TE)):Prop :=
 ∀ (pins:List (Addr×Obj)) (s:Shared) (σ:St) (H:Hp) (Q:List (V×V)→Hp→Prop),Inv X pins σ H s→Qsu trs σ H Q →
  wpAny (model X.prog X.w) X.A (evalPairs (pairTrees keys values X.env pos)) (fun vs s'=>∃ ps H',Inv X pins σ H' s'∧VV ps vs∧Q ps H') X.xe s
theorem Q19 {X:Cx} {pos:Pos}:PPs X pos [] [] []:=fun pins s σ H Q I h=>pairTrees_nil_walk ⟨[],H,I,.nil,h⟩
theorem Qyb {X:Cx} {pos:Pos} {k v:Expr} {ks:List (Option Expr)} {vs:List Expr} {tk tv:TE} {trs:List (TE×TE)} (hk:PE X k tk) (hv:PE X v tv) (hr:PPs X pos ks vs trs) :
  PPs X pos (some k::ks) (v::vs) ((tk,tv)::trs):=fun pins s σ H Q I h =>
 pairTrees_cons_walk (thn (hk pins s σ H _ I h) fun u s1 ⟨x,H1,I1,rx,q1⟩=>thn (hv pins s1 σ H1 _ I1 q1) fun w2 s2 ⟨y,H2,I2,ry,q2⟩ =>
  thn (hr pins s2 σ H2 _ I2 q2) fun ws s3 ⟨ps,H3,I3,rel,q3⟩=>⟨(x,y)::ps,H3,I3,.cons ⟨rx,ry⟩ rel,q3⟩)
noncomputable def Qj4 (kvs more:List (Key×V)):List (Key×V):=more.foldl (fun acc kv=>Qqh acc kv.1 kv.2) kvs
theorem KV.merge:∀ {more:List (Key×V)} {rs:List (Key×Value)} {kvs:List (Key×V)} {vs:List (Key×Value)},KV more rs→KV kvs vs→KV (Qj4 kvs more) (merged vs rs):=by
 intro more rs kvs vs r
 unfold KV at r
 induction r generalizing kvs vs with
 | nil=>intro q;exact q
 | @cons p q ps qs h t ih =>
  intro r0
  have e:KV (Qqh kvs p.1 p.2) (stored vs q.1 q.2):=by
   have:=r0.put p.1 h.2
   rw [←h.1];exact this
  exact ih e
theorem Qib:∀ (more kvs:List (Key×V)),(Qj4 kvs more).length≤kvs.length+more.length
 | [],kvs=>by show kvs.length≤kvs.length+0;omega
 | p::r,kvs=>by
  have h1:=Qib r (Qqh kvs p.1 p.2)
  have h2:=Qqi kvs p.1 p.2
  show (Qj4 (Qqh kvs p.1 p.2) r).length≤_
  rw [length_cons];omega
theorem Qls {P:Program} {w:World}:∀ {kvs:List (Key×V)} {ws:List (Value×Value)},VV (kvs.map fun kv=>(kV kv.1,kv.2)) ws→∃ rs,Carries (Qd1 P w) ws rs∧KV kvs rs
 | [],_,r=>by rw [map_nil] at r;cases r;exact ⟨[],True.intro,.nil⟩
 | p::kvs,_,r=>by
  rw [map_cons] at r
  cases r with
  | @cons a b as bs h t =>
   obtain ⟨rs,c,q⟩:=Qls (P:=P) (w:=w) t
   obtain ⟨b1,b2⟩:=b
   exact ⟨(p.1,b2)::rs,⟨Q9y h.1,rfl,c⟩,.cons ⟨rfl,h.2⟩ q⟩
def Q92 (trs:List (TE×TE)):TE:=fun σ H Q=>∀ p,H p=none→Qsu trs σ (upd H p (.dK [])) fun ps H2=>H2 p=some (.dK [])∧∃ kvs:List (Key×V),ps=kvs.map (fun kv=>(kV kv.1,kv.2))∧kvs.length≤15∧Q (.ref p) (upd H2 p (.dK (Qj4 [] kvs)))
theorem Q2a {X:Cx} {pos:Pos} {keys:List (Option Expr)} {values:List Expr} {trs:List (TE×TE)} (h:PPs X pos keys values trs) (hall:keys.all (·.isSome)=true) (hl:keys.length=values.length) (h0:keys≠[])
  (h15:keys.length≤15):PE X (.Dict keys values pos) (Q92 trs):=by
 intro pins s σ H Q I q
 have hn:=I.hok.fresh (Nat.le_refl s.heap.objs.size)
 have I1:=I.laid (a:=s.heap.objs.size) (o:=.dK []) (h':=s.heap.push { cls:=.type "dict",data:=.dict #[] }) (t':=s.toks) (fun _ _ q=>Heap.get?_push_of_some _ q) (Nat.le_refl _) (Qya s.heap I.big)
 refine wpAny_Dict_walk (knd:=Qd1 X.prog X.w) hall hl h0 h15 (thn (h pins _ σ _ _ I1 (q _ hn)) fun ws s2 ⟨ps,H2,I2,rel,e,kvs,ep,lk,q2⟩=>?_)
 subst ep
 obtain ⟨rs,c,rk⟩:=Qls (P:=X.prog) (w:=X.w) rel
 obtain ⟨z,hd,vs0,r0,dd⟩:=Q91 I2.hok e
 cases r0
 refine ⟨rs,c,dd,fun h' dd' hs=>⟨.ref s.heap.objs.size,_,?_,rfl,q2⟩⟩
 have hz:(Qj4 [] kvs).length≤sizeLine:=by
  have h1:=Qib kvs []
  rw [length_nil] at h1
  rw [sizeLine_eq];omega
 have he:∃ q,h'.get? s.heap.objs.size=some q:=let ⟨q,_,_,hq,_⟩:=dd';⟨q,hq⟩
 exact Q18 I2 (by rw [e];exact True.intro) hs he (Q6k hz hd (rk.merge .nil) dd')
structure M1 (X:Cx) (o:Expr) (m:Str) (apos:Pos) (e:Expr) (cpos:Pos):Prop where
 base:attributeBase o m X.env (eval o X.env)=eval o X.env
 few:((backTo cpos (starEach [e] X.env)).all (fun x=>!x.1)&&(backToKw cpos (keywordEach [] X.env)).all (fun x=>x.1.isSome)
  && decide (([e]:List Expr).length+([]:List Keyword).length+(if ([]:List Keyword).isEmpty then 0 else 1)<30))=true
 line:(apos.endLine==cpos.line)=true
 trees:backTo cpos (starEach [e] X.env)=[(false,eval e X.env)]
structure M2 (X:Cx) (o:Expr) (m:Str) (apos:Pos) (e f:Expr) (cpos:Pos):Prop where
 base:attributeBase o m X.env (eval o X.env)=eval o X.env
 few:((backTo cpos (starEach [e,f] X.env)).all (fun x=>!x.1)&&(backToKw cpos (keywordEach [] X.env)).all (fun x=>x.1.isSome)
  && decide (([e,f]:List Expr).length+([]:List Keyword).length+(if ([]:List Keyword).isEmpty then 0 else 1)<30))=true
 line:(apos.endLine==cpos.line)=true
 trees:backTo cpos (starEach [e,f] X.env)=[(false,eval e X.env),(false,eval f X.env)]
section
variable {X:Cx} {pins:List (Addr×Obj)} {σ:St} {H:Hp} {s:Shared} {a:Addr} {y d:V} {u r:Value} {o:Option V} {A:Around} {E:Value→Shared→Prop}
end
section
variable {X:Cx} {o e f:Expr} {apos cpos:Pos} {td ty tx:TE}
end
section
variable {X:Cx} {pins:List (Addr×Obj)} {σ:St} {H:Hp} {s:Shared} {a:Addr} {kvs:List (Key×V)} {A:Around} {E:Value→Shared→Prop}
end
section
variable {X:Cx} {pins:List (Addr×Obj)} {σ:St} {H:Hp} {s:Shared} {a:Addr} {y:V} {u:Value} {A:Around} {E:Value→Shared→Prop}
end
noncomputable def Qi6 (env:Env):List (Str×NameKind)→List (Str×Addr)→List (Str×Addr)
 | [],acc=>acc
 | (n,k)::r,acc=>if k==.free then Qi6 env r ((n,(env.cells.lookup n).getD 0)::acc) else Qi6 env r acc
theorem Qii {env:Env}:∀ (names:List (Str×NameKind)) (acc:List (Str×Addr)),(∀ x∈names,x.2=.free→∃ c,env.cells.lookup x.1=some c) →
  (forIn names acc (fun (x:Str×NameKind) (cs:List (Str×Addr))=>(if (x.2==.free)=true then do let a ← cellOf env x.1;pure (ForInStep.yield ((x.1,a)::cs)) else pure (ForInStep.yield cs):Sem (ForInStep (List (Str×Addr))))))=(pure (Qi6 env names acc):Sem (List (Str×Addr)))
 | [],acc,_=>by rw [forIn_nil];rfl
 | (n,k)::r,acc,h=>by
  have hr:∀ x∈r,x.2=.free→∃ c,env.cells.lookup x.1=some c:=fun x hx=>h x (mem_cons_of_mem _ hx)
  rw [List.forIn_cons]
  unfold Qi6
  by_cases hk:(k==NameKind.free)=true
  ·obtain ⟨c,hc⟩:=h (n,k) mem_cons_self (by simpa using hk)
   have hc':env.cells.lookup n=some c:=hc
   rw [if_pos hk]
   simp only [hk,if_true,cellOf,hc',pure_bind,Option.getD_some]
   exact Qii r _ hr
  ·rw [if_neg hk]
   simp only [hk,if_false,pure_bind,Bool.false_eq_true]
   exact Qii r _ hr
theorem Qlt {env:Env} {scope:Scope} (h:∀ x∈scope.names,x.2=.free→∃ c,env.cells.lookup x.1=some c):closureFor scope env=pure (Qi6 env scope.names []):=by
 have q:=Qii (env:=env) scope.names [] h
 unfold closureFor
 simp only [bind_pure_comp] at q ⊢
 have e:(fun (x:Str×NameKind) (r:List (Str×Addr))=>(if (x.2==NameKind.free)=true then (fun a=>ForInStep.yield ((x.1,a)::r)) <$> cellOf env x.1 else pure (ForInStep.yield r):Sem (ForInStep (List (Str×Addr)))))=(fun (x:Str×NameKind) (cs:List (Str×Addr))=>(match x with | (name,kind)=>if (kind==NameKind.free)=true then (fun a=>ForInStep.yield ((name,a)::cs)) <$> cellOf env name else pure (ForInStep.yield cs):Sem (ForInStep (List (Str×Addr))))):=by
  funext x cs
  obtain ⟨n,k⟩:=x
  rfl
 rw [e] at q
 simpa using q
theorem Qco {env:Env} {x:Str} {c:Addr}:∀ (names:List (Str×NameKind)) (acc:List (Str×Addr)),(∀ y∈names,y.2=.free→∃ c,env.cells.lookup y.1=some c)→(Qi6 env names acc).lookup x=some c →
  acc.lookup x=some c∨env.cells.lookup x=some c
 | [],acc,_,h=>.inl h
 | (n,k)::r,acc,hf,h=>by
  have hr:∀ x∈r,x.2=.free→∃ c,env.cells.lookup x.1=some c:=fun x hx=>hf x (mem_cons_of_mem _ hx)
  unfold Qi6 at h
  by_cases hk:(k==NameKind.free)=true
  ·rw [if_pos hk] at h
   obtain ⟨d,hd⟩:=hf (n,k) mem_cons_self (by simpa using hk)
   have hd':env.cells.lookup n=some d:=hd
   rcases Qco r _ hr h with q | q
   ·rw [List.lookup_cons,hd'] at q
    by_cases hx:(x==n)=true
    ·rw [hx] at q
     have e:x=n:=by simpa using hx
     subst e
     simp only [Option.getD_some] at q
     exact .inr (hd'.trans q)
    ·have hx':(x==n)=false:=by simpa using hx
     rw [hx'] at q
     exact .inl q
   ·exact .inr q
  ·rw [if_neg hk] at h
   exact Qco r _ hr h
theorem Qi7 {env:Env} {x:Str}:∀ (names:List (Str×NameKind)) (acc:List (Str×Addr)),((x,NameKind.free)∈names∨∃ c,acc.lookup x=some c)→∃ c,(Qi6 env names acc).lookup x=some c
 | [],acc,h=>by
  rcases h with h | h
  ·cases h
  ·exact h
 | (n,k)::r,acc,h=>by
  unfold Qi6
  by_cases hk:(k==NameKind.free)=true
  ·rw [if_pos hk]
   refine Qi7 r _ ?_
   by_cases hx:(x==n)=true
   ·exact .inr ⟨_,by rw [List.lookup_cons,hx]⟩
   ·have hx':(x==n)=false:=by simpa using hx
    rcases h with h | ⟨c,h⟩
    ·rcases mem_cons.mp h with e | h
     ·cases e;simp at hx
     ·exact .inl h
    ·exact .inr ⟨c,by rw [List.lookup_cons,hx'];exact h⟩
  ·rw [if_neg hk]
   refine Qi7 r _ ?_
   rcases h with h | h
   ·rcases mem_cons.mp h with e | h
    ·cases e;simp at hk
    ·exact .inl h
   ·exact .inr h
theorem Qcv {x:Str} {c:Addr}:∀ (names:List (Str×NameKind)) (n:Nat) (acc:List (Str×Addr)),(cellsFrom n names acc).lookup x=some c→acc.lookup x=some c∨(n≤c∧(x,NameKind.cell)∈names)
 | [],_,_,h=>.inl h
 | (y,k)::r,n,acc,h=>by
  unfold cellsFrom at h
  by_cases hk:(k==NameKind.cell)=true
  ·rw [if_pos hk] at h
   have hk':k=.cell:=by simpa using hk
   rcases Qcv r _ _ h with q | ⟨q1,q2⟩
   ·rw [List.lookup_cons] at q
    by_cases hx:(x==y)=true
    ·rw [hx] at q
     cases q
     exact .inr ⟨Nat.le_refl _,by rw [show x=y by simpa using hx,hk'];exact mem_cons_self⟩
    ·rw [show (x==y)=false by simpa using hx] at q
     exact .inl q
   ·exact .inr ⟨by omega,mem_cons_of_mem _ q2⟩
  ·rw [if_neg hk] at h
   rcases Qcv r _ _ h with q | ⟨q1,q2⟩
   ·exact .inl q
   ·exact .inr ⟨q1,mem_cons_of_mem _ q2⟩
theorem Qd2 {x:Str} {c:Addr}:∀ (names:List (Str×NameKind)) (n:Nat) (acc:List (Str×Addr)),(x,NameKind.cell)∈names→(cellsFrom n names acc).lookup x=some c→n≤c
 | [],_,_,h,_=>by cases h
 | (y,k)::r,n,acc,hm,h=>by
  unfold cellsFrom at h
  by_cases hk:(k==NameKind.cell)=true
  ·rw [if_pos hk] at h
   by_cases hx:(x==y)=true
   ·rcases Qcv r _ _ h with q | ⟨q1,q2⟩
    ·rw [List.lookup_cons,hx] at q
     cases q
     exact Nat.le_refl _
    ·omega
   ·rcases mem_cons.mp hm with e | hm
    ·cases e;simp at hx
    ·have:=Qd2 r _ _ hm h
     omega
  ·rw [if_neg hk] at h
   rcases mem_cons.mp hm with e | hm
   ·cases e;simp at hk
   ·exact Qd2 r _ _ hm h
theorem Qff:∀ (names:List (Str×NameKind)) (n:Nat) (acc:List (Str×Addr)),(∀ x c,acc.lookup x=some c→c<n)→(∀ x y c,acc.lookup x=some c→acc.lookup y=some c→x=y) →
  ∀ x y c,(cellsFrom n names acc).lookup x=some c→(cellsFrom n names acc).lookup y=some c→x=y
 | [],_,_,_,hi=>hi
 | (z,k)::r,n,acc,hb,hi=>by
  unfold cellsFrom
  by_cases hk:(k==NameKind.cell)=true
  ·rw [if_pos hk]
   refine Qff r (n+1) _ (fun x c h=>?_) (fun x y c h1 h2=>?_)
   ·rw [List.lookup_cons] at h
    by_cases hx:(x==z)=true
    ·rw [hx] at h;cases h;exact Nat.lt_succ_self _
    ·rw [show (x==z)=false by simpa using hx] at h
     exact Nat.lt_succ_of_lt (hb x c h)
   ·rw [List.lookup_cons] at h1 h2
    by_cases hx:(x==z)=true
    ·rw [hx] at h1;cases h1
     by_cases hy:(y==z)=true
     ·rw [show x=z by simpa using hx,show y=z by simpa using hy]
     ·rw [show (y==z)=false by simpa using hy] at h2
      exact absurd (hb y n h2) (Nat.lt_irrefl _)
    ·rw [show (x==z)=false by simpa using hx] at h1
     by_cases hy:(y==z)=true
     ·rw [hy] at h2;cases h2
      exact absurd (hb x n h1) (Nat.lt_irrefl _)
     ·rw [show (y==z)=false by simpa using hy] at h2
      exact hi x y c h1 h2
  ·rw [if_neg hk]
   exact Qff r n acc hb hi
theorem Qdw {names:List (Str×NameKind)}:∀ (names:List (Str×NameKind)) (h:Heap) (acc:List (Str×Addr)),(∀ x c,acc.lookup x=some c→∃ v,h.IsCell c v)→∀ x c,(cellsFrom h.objs.size names acc).lookup x=some c→∃ v,(pushCells h names).IsCell c v
 | [],_,_,hi=>hi
 | (z,k)::r,h,acc,hi=>by
  unfold cellsFrom pushCells
  by_cases hk:(k==NameKind.cell)=true
  ·rw [if_pos hk,if_pos hk]
   have q:=Qdw (names:=names) r (h.push { cls:=.type "cell",data:=.cell none }) ((z,h.objs.size)::acc) (fun x c hx=>by
    rw [List.lookup_cons] at hx
    by_cases hz:(x==z)=true
    ·rw [hz] at hx;cases hx
     exact ⟨none,⟨_,Heap.get?_push_size _ rfl,rfl⟩⟩
    ·rw [show (x==z)=false by simpa using hz] at hx
     obtain ⟨v,w⟩:=hi x c hx
     exact ⟨v,w.keeps fun b o e=>Heap.get?_push_of_some _ e⟩)
   rwa [Heap.size_push] at q
  ·rw [if_neg hk,if_neg hk]
   exact Qdw (names:=names) r h acc hi
theorem Qkv {M:Model} {A:Around} {E:Value→Shared→Prop} {s:Shared} {scope:Scope} {globals:Addr} {cl:List (Str×Addr)} {qual:Str} {env:Env} {Q:Env→Shared→Prop}
  (hQ:Q { scope:=scope,locals:=s.heap.objs.size,globals:=globals,cells:=cellsFrom (s.heap.objs.size+1) scope.names cl,qual:=qual,func:=none,code:=env.code,frame:=env.frame,builtins:=env.builtins } { s with heap:=pushCells (s.heap.push { cls:=.type "dict",data:=.dict #[] }) scope.names }) :
  wpAny M A (newFunctionEnv scope globals cl [] qual none .none (some env)) Q E s:=by
 simp only [newFunctionEnv,Option.isSome_some,if_true]
 refine wpAny_bind (wpAny_alloc ?_)
 refine wpAny_bind (wpAny_layCells _ (fun name kind cells=>by cases hkc:kind==NameKind.cell <;> simp [hkc]) _ _ _ _ ?_)
 rw [show ({ s with heap:=s.heap.push { cls:=.type "dict",data:=.dict #[] } }:Shared).heap.objs.size=s.heap.objs.size+1 from Heap.size_push ..]
 simp only [forIn_nil,pure_bind]
 exact wpAny_pure hQ
theorem Qi8 {prog:Program} {w:World} {A:Around} {R:Result→Shared→Prop} {s:Shared} {elt target iter:Expr} {ifs:List Expr} {scope:Scope} {pos:Pos} {it acc:Value} {env:Env} (I:Nat→Shared→Prop)
  (turn:∀ n s,I n s→wpAny (model prog w) A (pyNext it) (fun r s1=>match r with
   | none=>R (.ok .next) s1
   | some v=>wpAny (model prog w) A (letOwnedTupleGo target it v) (fun _ s1'=>wpAny (model prog w) A (assign target env v) (fun _ s2 =>
     wpAny (model prog w) A (forIn ifs true fun c r=>if r=true then do let ok ← isTrue c env (eval c env);pure (ForInStep.yield ok) else pure (ForInStep.yield r)) (fun ok s3 =>
      if ok=true then wpAny (model prog w) A (eval elt env) (fun x s4 =>
       wpAny (model prog w) A (call (.builtin "list.append") [acc,x]) (fun _ s5=>∃ m,m<n∧I m s5) (fun _ _=>False) s4) (fun _ _=>False) s3
      else ∃ m,m<n∧I m s3) (fun _ _=>False) s2) (fun _ _=>False) s1') (fun _ _=>False) s1) (fun _ _=>False) s)
  (n:Nat) (h:I n s) :
  codeAny (model prog w) A (.compLoop (.ListComp elt [⟨target,iter,ifs,0⟩] scope pos) 0 it acc env) R s:=by
 refine codeAny_loop rfl I (fun n s hI=>?_) n h
 show wpAny _ A ((compTurn (.ListComp elt [⟨target,iter,ifs,0⟩] scope pos) 0 it acc env).onRaise (fun x=>do noteFrame x env;theTreesLotGoes x)) _ _ s
 refine wpAny_noted ?_
 rw [compTurn_list]
 refine wpAny_bind (wpAny_standAt (wpAny_bind (wpAny_mono (turn n s hI) (fun r s1 h1=>?_) fun _ _ h'=>h'.elim)))
 cases r with
 | none=>exact wpAny_pure h1
 | some v =>
  refine wpAny_bind (wpAny_mono h1 (fun _ s1' h1'=>wpAny_bind (wpAny_mono h1' (fun _ s2 h2=>wpAny_bind (wpAny_mono h2 (fun ok s3 h3=>?_) fun _ _ h'=>h'.elim)) fun _ _ h'=>h'.elim)) fun _ _ h'=>h'.elim)
  cases ok with
  | false=>exact wpAny_pure ⟨rfl,h3⟩
  | true =>
   exact wpAny_bind (wpAny_bind (wpAny_mono h3 (fun x s4 h4=>wpAny_bind (wpAny_mono h4 (fun _ s5 h5=>wpAny_pure (wpAny_pure ⟨rfl,h5⟩)) fun _ _ h'=>h'.elim)) fun _ _ h'=>h'.elim))
noncomputable def Qac (X:Cx) (scope:Scope) (N:List Str) (s:Shared) (H:Hp) (fp:List Addr):Cx where
 prog:=X.prog
 w:=X.w
 K:=X.K
 mg:=X.mg
 base:=X.base
 A:=X.A
 N:=N
 s₀:=s
 H₀:=H
 env:={ scope:=relabel scope X.env,locals:=s.heap.objs.size,globals:=X.env.globals,cells:=cellsFrom (s.heap.objs.size+1) scope.names (Qi6 X.env scope.names []),qual:=X.env.qual,func:=none,code:=X.env.code,frame:=X.env.frame,builtins:=X.env.builtins }
 outer:=X.stack
 stack:=X.stack
 ex:=fp
 fn:=fun x=>decide ((x,NameKind.cell)∈scope.names)
 calm:=X.calm
 pn:=[]
 xe:=fun _ _=>False
noncomputable def Qef (js:List (Option Nat)) (σ:St):St:=js.map fun o=>match o with | none=>none | some j=>(σ[j]?).join
noncomputable def Qg1 (X:Cx) (scope:Scope) (N:List Str) (js:List (Option Nat)):Bool :=
 (N.length==js.length)&&(N.zip js).all fun p=>match p.2 with
  | none=>true
  | some j=>X.N[j]?==some p.1&&(scope.names.lookup p.1==some .free&&(X.env.scope.names.lookup p.1==some .cell||X.env.scope.names.lookup p.1==some .free))
noncomputable def scOk (X:Cx) (scope:Scope):Bool :=
 scope.names.all fun p=>(p.2 != .free||(X.env.scope.names.lookup p.1==some .cell||X.env.scope.names.lookup p.1==some .free))&&scope.names.lookup p.1==some p.2
section
variable {X:Cx} {pins:List (Addr×Obj)} {σ:St} {H:Hp} {s:Shared} {scope:Scope}
theorem scOk.get (h:scOk X scope=true) {p:Str×NameKind} (hp:p∈scope.names):(p.2=.free→X.env.scope.names.lookup p.1=some .cell∨X.env.scope.names.lookup p.1=some .free)∧scope.names.lookup p.1=some p.2:=by
 have q:=all_eq_true.mp h p hp
 rw [Bool.and_eq_true] at q
 refine ⟨fun e=>?_,by simpa using q.2⟩
 have q1:=q.1
 rw [e] at q1
 simpa using q1
theorem scOk.cells (I:Inv X pins σ H s) (h:scOk X scope=true):∀ x∈scope.names,x.2=.free→∃ c,X.env.cells.lookup x.1=some c:=fun x hx e=>I.ok.has x.1 ((scOk.get h hx).1 e)
theorem scOk.one (h:scOk X scope=true) {x:Str} {k j:NameKind} (e:(x,k)∈scope.names) (e':(x,j)∈scope.names):k=j:=by
 have q1:=(scOk.get h e).2
 have q2:=(scOk.get h e').2
 exact Option.some.inj (q1.symm.trans q2)
theorem Qj5 (I:Inv X pins σ H s) (h:scOk X scope=true) {n:Nat} {x:Str} {c:Addr} (e:(cellsFrom n scope.names (Qi6 X.env scope.names [])).lookup x=some c):X.env.cells.lookup x=some c∨(n≤c∧(x,NameKind.cell)∈scope.names):=by
 rcases Qcv _ _ _ e with q | q
 ·rcases Qco _ _ (scOk.cells I h) q with z | z
  ·cases z
  ·exact .inl z
 ·exact .inr q
theorem Qdk {env:Env} {x:Str} {k:NameKind}:∀ {names:List (Str×NameKind)},(names.map fun (n,k)=>if (k==NameKind.free&&env.scope.kind==.function&&env.kindOf n==some .cell) then (n,NameKind.cell) else (n,k)).lookup x=some k →
  names.lookup x=some k∨(k=.cell∧names.lookup x=some .free)
 | [],h=>by cases h
 | (n,j)::r,h=>by
  rw [map_cons] at h
  replace h:List.lookup x ((if (j==NameKind.free&&env.scope.kind==.function&&env.kindOf n==some .cell)=true then (n,NameKind.cell) else (n,j))::_)=some k:=h
  by_cases hc:(j==NameKind.free&&env.scope.kind==.function&&env.kindOf n==some .cell)=true
  ·rw [if_pos hc,List.lookup_cons] at h
   rw [List.lookup_cons]
   by_cases hx:(x==n)=true
   ·rw [hx] at h ⊢
    cases h
    simp only [Bool.and_eq_true] at hc
    exact .inr ⟨rfl,by rw [show j=.free by simpa using hc.1.1]⟩
   ·rw [show (x==n)=false by simpa using hx] at h ⊢
    exact Qdk h
  ·rw [if_neg hc,List.lookup_cons] at h
   rw [List.lookup_cons]
   by_cases hx:(x==n)=true
   ·rw [hx] at h ⊢
    exact .inl h
   ·rw [show (x==n)=false by simpa using hx] at h ⊢
    exact Qdk h
theorem Qf0 {env:Env} {x:Str}:∀ {names:List (Str×NameKind)},names.lookup x=some .free →
  (names.map fun (n,k)=>if (k==NameKind.free&&env.scope.kind==.function&&env.kindOf n==some .cell) then (n,NameKind.cell) else (n,k)).lookup x=some .cell ∨
  (names.map fun (n,k)=>if (k==NameKind.free&&env.scope.kind==.function&&env.kindOf n==some .cell) then (n,NameKind.cell) else (n,k)).lookup x=some .free
 | [],h=>by cases h
 | (n,j)::r,h=>by
  rw [map_cons]
  show List.lookup x ((if (j==NameKind.free&&env.scope.kind==.function&&env.kindOf n==some .cell)=true then (n,NameKind.cell) else (n,j))::_)=some .cell∨List.lookup x ((if (j==NameKind.free&&env.scope.kind==.function&&env.kindOf n==some .cell)=true then (n,NameKind.cell) else (n,j))::_)=some .free
  rw [List.lookup_cons] at h
  by_cases hx:(x==n)=true
  ·rw [hx] at h
   cases h
   by_cases hc:(NameKind.free==NameKind.free&&env.scope.kind==.function&&env.kindOf n==some .cell)=true
   ·rw [if_pos hc,List.lookup_cons,hx];exact .inl rfl
   ·rw [if_neg hc,List.lookup_cons,hx];exact .inr rfl
  ·rw [show (x==n)=false by simpa using hx] at h
   by_cases hc:(j==NameKind.free&&env.scope.kind==.function&&env.kindOf n==some .cell)=true
   ·rw [if_pos hc,List.lookup_cons,show (x==n)=false by simpa using hx];exact Qf0 h
   ·rw [if_neg hc,List.lookup_cons,show (x==n)=false by simpa using hx];exact Qf0 h
theorem Q2b {N:List Str} {fp:List Addr} (I:Inv X pins σ H s) (hk:scope.kind=.function) (h:scOk X scope=true) (hf:∀ b∈fp,Qih X pins H b) (ho:∀ b∈fp,∃ o,s.heap.get? b=some o∧∀ v,o.data≠.cell v):(Qac X scope N s H fp).Ok where
 mod:=I.ok.mod
 kind:=hk
 glob:=I.ok.glob
 blt:=I.ok.blt
 above:=Nat.le_refl _
 inj:=fun x y c h1 h2=>Qff _ _ _ (fun z c hz=>by
   rcases Qco _ _ (scOk.cells I h) hz with q | q
   ·cases q
   ·obtain ⟨v,w⟩:=I.cell z c q
    exact Nat.lt_succ_of_lt w.lt) (fun y z c h1 h2=>by
   rcases Qco _ _ (scOk.cells I h) h1 with q | q
   ·cases q
   ·rcases Qco _ _ (scOk.cells I h) h2 with q' | q'
    ·cases q'
    ·exact I.ok.inj y z c q q') x y c h1 h2
 has:=fun x hx=>by
  have key:(x,NameKind.cell)∈scope.names∨(x,NameKind.free)∈scope.names:=by
   rcases hx with hx | hx
   ·rcases Qdk hx with q | ⟨_,q⟩
    ·exact .inl (PySem.mem_of_lookup q)
    ·exact .inr (PySem.mem_of_lookup q)
   ·rcases Qdk hx with q | ⟨q,_⟩
    ·exact .inr (PySem.mem_of_lookup q)
    ·cases q
  rcases key with q | q
  ·have e:scope.names.lookup x=some .cell:=(scOk.get h q).2
   exact Option.isSome_iff_exists.mp (PySem.W.cellsFrom_some scope.names _ _ (.inl e))
  ·obtain ⟨c,hc⟩:=Qi7 (env:=X.env) scope.names [] (.inl q)
   exact Option.isSome_iff_exists.mp (PySem.W.cellsFrom_some scope.names _ _ (.inr (by rw [hc];rfl)))
 cab:=fun x c hx hc=>Nat.le_of_succ_le (Qd2 _ _ _ (of_decide_eq_true hx) hc)
 hd:=I.ok.hd
 frames:=I.ok.frames
 stk:=.inl rfl
 exf:=fun b hb=>by
  obtain ⟨o,e,d⟩:=ho b hb
  refine ⟨Nat.ne_of_lt (Heap.lt_size e),fun x c hc z=>?_⟩
  rcases Qj5 I h hc with q | ⟨q,_⟩
  ·exact (hf b hb).2.2.2.2.1 x c q z
  ·rw [z] at q
   exact absurd (Nat.lt_of_lt_of_le (Heap.lt_size e) (Nat.le_of_succ_le q)) (Nat.lt_irrefl _)
 bs:=I.bs
 bsz:=Nat.le_trans I.ok.bsz I.sz
 noex:=fun b o e hb=>by
  rcases (hf b hb).2.2.2.1 with q | q
  ·exact I.ok.noex b o e q
  ·exact absurd (Nat.lt_of_lt_of_le (Heap.lt_size e) (Nat.le_trans I.ok.bsz q)) (Nat.lt_irrefl _)
 exfs:=fun b hb hs=>by
  rcases mem_cons.mp (I.stkSub b hs) with q | q
  ·exact (hf b hb).2.1 q
  ·exact (hf b hb).2.2.1 q
 funs:=I.stack
 frf:=⟨I.stkFree,I.tab⟩
theorem Qqj {N:List Str} {js:List (Option Nat)} {fp:List Addr} (I:Inv X pins σ H s) (hk:scope.kind=.function) (h:scOk X scope=true) (hc:Qg1 X scope N js=true) (hf:∀ b∈fp,Qih X pins H b) (ho:∀ b∈fp,∃ o,s.heap.get? b=some o∧∀ v,o.data≠.cell v) :
  Inv (Qac X scope N s H fp) [] (Qef js σ) H { s with heap:=pushCells (s.heap.push { cls:=.type "dict",data:=.dict #[] }) scope.names }:=by
 have kp:∀ b o,s.heap.get? b=some o→(pushCells (s.heap.push { cls:=.type "dict",data:=.dict #[] }) scope.names).get? b=some o:=fun b o e=>pushCells_keeps _ _ _ _ (Heap.get?_push_of_some _ e)
 have hcap:N.length=js.length∧∀ p∈N.zip js,∀ j,p.2=some j→X.N[j]?=some p.1∧scope.names.lookup p.1=some .free∧(X.env.scope.names.lookup p.1=some .cell∨X.env.scope.names.lookup p.1=some .free):=by
  unfold Qg1 at hc
  rw [Bool.and_eq_true] at hc
  refine ⟨by simpa using hc.1,fun p hp j e=>?_⟩
  have q:=all_eq_true.mp hc.2 p hp
  rw [e] at q
  simpa using q
 refine ⟨Q2b I hk h hf ho,rfl,I.bare,Un.kept kp,?_,fun x c e=>?_,I.hok.fresh (Nat.le_refl _),fun x c e=>?_,fun p hp=>absurd (show p∈([]:List (Addr×Obj)) from hp) (by simp),I.hok.kept kp,?_⟩
 ·refine ⟨fun _=>none,(Heap.Ns.new s.heap (.type "dict")).keeps (pushCells_keeps _ _),fun i x v h1 h2 h3=>?_⟩
  obtain ⟨o,ho1,ho2⟩:∃ o,js[i]?=some o∧(match o with | none=>none | some j=>(σ[j]?).join)=some v:=by
   unfold Qef at h2
   rw [getElem?_map] at h2
   cases e:js[i]? with
   | none=>rw [e] at h2;cases h2
   | some o=>rw [e] at h2;exact ⟨o,rfl,Option.some.inj h2⟩
  cases o with
  | none=>cases ho2
  | some j =>
   have hz:(x,some j)∈N.zip js:=mem_of_getElem? (i:=i) (by rw [List.getElem?_zip_eq_some];exact ⟨h1,ho1⟩)
   obtain ⟨q1,q2,q3⟩:=hcap.2 _ hz j rfl
   have hσ:σ[j]?=some (some v):=by
    have ho2:(σ[j]?).join=some v:=ho2
    cases e:σ[j]? with
    | none=>rw [e] at ho2;cases ho2
    | some w=>rw [e] at ho2;exact congrArg some ho2
   obtain ⟨m,hn,hl⟩:=I.loc
   obtain ⟨u,r,l⟩:=hl j x v q1 hσ (by rcases q3 with z | z;exact .inr (.inl z);exact .inr (.inr z))
   refine ⟨u,r,.inr ⟨Qf0 q2,?_⟩⟩
   have fin:∀ c,X.env.cells.lookup x=some c→s.heap.IsCell c (some u)→∃ c,(cellsFrom (s.heap.objs.size+1) scope.names (Qi6 X.env scope.names [])).lookup x=some c∧(pushCells (s.heap.push { cls:=.type "dict",data:=.dict #[] }) scope.names).IsCell c (some u):=fun c hc hv=>by
    obtain ⟨d,hd⟩:=Qi7 (env:=X.env) scope.names [] (.inl (PySem.mem_of_lookup q2))
    obtain ⟨c',hc'⟩:=Option.isSome_iff_exists.mp (PySem.W.cellsFrom_some scope.names (s.heap.objs.size+1) (Qi6 X.env scope.names []) (.inr (by rw [hd];rfl)))
    refine ⟨c',hc',?_⟩
    rcases Qj5 I h hc' with z | ⟨_,z⟩
    ·rw [hc] at z;cases z
     exact hv.keeps kp
    ·have:=scOk.one h z (PySem.mem_of_lookup q2)
     cases this
   rcases l with ⟨hk,_⟩ | ⟨_,c,hc,hv⟩
   ·have hk:X.env.scope.names.lookup x=some .local:=hk
    rcases q3 with z | z <;> (rw [z] at hk;cases hk)
   ·exact fin c hc hv
 ·have q:=Qdw (names:=[]) scope.names (s.heap.push { cls:=.type "dict",data:=.dict #[] }) (Qi6 X.env scope.names []) (fun y d hd=>by
   rcases Qco _ _ (scOk.cells I h) hd with z | z
   ·cases z
   ·obtain ⟨v,w⟩:=I.cell y d z
    exact ⟨v,w.keeps fun b o e=>Heap.get?_push_of_some _ e⟩)
  rw [Heap.size_push] at q
  exact q x c e
 ·rcases Qj5 I h e with q | ⟨q,_⟩
  ·rcases I.freeC x c q with z | ⟨_,z⟩
   ·exact .inl z
   ·refine .inr ⟨?_,z⟩
    show decide ((x,NameKind.cell)∈scope.names)=false
    refine decide_eq_false fun hx=>?_
    have h1:=Qd2 _ _ _ hx e
    obtain ⟨v,w⟩:=I.cell x c q
    exact absurd (Nat.lt_of_lt_of_le (Nat.lt_succ_of_lt w.lt) h1) (Nat.lt_irrefl _)
  ·exact .inl (I.hok.fresh (Nat.le_of_succ_le q))
 ·show (Qef js σ).length=N.length
  unfold Qef
  rw [length_map,hcap.1]
end
def Q4h (J:It) (l:Addr) (σ:St) (H1:Hp) (g:TG) (tc:TT) (te:TE) (Q:VK):Prop:=∃ W:Nat→Nat→List V→St→Hp→Prop,
 (∃ m,W 0 m [] σ (upd H1 l (.lst [])))∧∀ i m ys σ2 H2,W i m ys σ2 H2 →
  (J.stop i H2∧Q (.ref l) H2) ∨
  (J.go i H2∧∀ x H3,J.yld i H2 x H3→g x σ2 H3 fun σ4 H4=>tc σ4 H4 fun b H5 =>
   if b=true then te σ4 H5 fun y H6=>H6 l=some (.lst ys)∧ys.length<sizeLine∧∃ m',m'<m∧W (i+1) m' (ys++[y]) σ4 (upd H6 l (.lst (ys++[y])))
   else ∃ m',m'<m∧W (i+1) m' ys σ4 H5)
abbrev Qnw (wi:TI) (js:List (Option Nat)) (g:TG) (tc:TT) (te:TE):TE:=fun σ H Q=>wi σ H fun J H1=>∀ l,H1 l=none→Q4h J l (Qef js σ) H1 g tc te Q
def PTs (X:Cx) (ifs:List Expr) (t:TT):Prop :=
 ∀ (pins:List (Addr×Obj)) (s:Shared) (σ:St) (H:Hp) (Q:Bool→Hp→Prop),Inv X pins σ H s→t σ H Q →
  wpAny (model X.prog X.w) X.A (forIn ifs true fun c r=>if r=true then do let ok ← isTrue c X.env (eval c X.env);pure (ForInStep.yield ok) else pure (ForInStep.yield r)) (TP X pins σ Q) X.xe s
abbrev Q93:TT:=fun _ H Q=>Q true H
theorem Q2c {X:Cx}:PTs X [] Q93:=fun pins s σ H Q I h=>wpAny_tests_nil ⟨H,I,h⟩
theorem Qyc {X:Cx} {tg elt iter:Expr} {ifs:List Expr} {scope:Scope} {pos:Pos} {N:List Str} {js:List (Option Nat)} {wi:TI} {g:TG} {tc:TT} {te:TE} (hcalm:X.calm=true)
  (hi:PI X tg iter wi) (hg:∀ s H fp,PG (Qac X scope N s H fp) tg g) (hc:∀ s H fp,PTs (Qac X scope N s H fp) ifs tc) (he:∀ s H fp,PE (Qac X scope N s H fp) elt te)
  (hk:scope.kind=.function:=by rfl) (h1:scOk X scope=true:=by rfl) (h2:Qg1 X scope N js=true:=by rfl)
  (hs:∀ x,foldedSetIterable iter X.env x=pure x:=by intro _;rfl):PE X (.ListComp elt [⟨tg,iter,ifs,0⟩] scope pos) (Qnw wi js g tc te):=by
 intro pins s σ H Q I h
 rw [eval_ListComp]
 refine wpAny_comprehension_free (use:=none) rfl hs (Qlt (scOk.cells I h1)) hk (fun x hx hl=>by rw [(scOk.get h1 hx).2,hl]) ?_
 refine thn (hi pins s σ H _ I h) fun v s1 h1'=>thn h1' fun itv s2 h2'=>?_
 obtain ⟨it,fp,tn,J,H2,e,I2,T,st2,f2,q⟩:=h2'
 subst e
 refine wpAny_newObj_type ?_
 have hl:H2 s2.heap.objs.size=none:=I2.hok.fresh (Nat.le_refl _)
 obtain ⟨W,⟨m0,w0⟩,turn⟩:=q _ hl
 have I3:Inv X pins σ (upd H2 s2.heap.objs.size (.lst [])) { s2 with heap:=s2.heap.push { cls:=.type "list",data:=.seq ([]:List Value).toArray } }:=I2.lnew (t':=s2.toks) (ys:=[]) .nil (Nat.zero_le _)
 generalize hs3:({ s2 with heap:=s2.heap.push { cls:=.type "list",data:=.seq ([]:List Value).toArray } }:Shared)=s3 at I3
 generalize hH3:upd H2 s2.heap.objs.size (.lst [])=H3 at I3 w0
 generalize hl':s2.heap.objs.size=l at turn hH3 hl
 have kp3:∀ b o,s2.heap.get? b=some o→s3.heap.get? b=some o:=fun b o e=>by rw [←hs3];exact Heap.get?_push_of_some _ e
 have ob3:∀ b∈fp,∃ o,s3.heap.get? b=some o∧∀ v,o.data≠.cell v:=fun b hb=>by
  obtain ⟨o,e,d⟩:=T.obj _ _ st2 b hb
  exact ⟨o,kp3 b o e,d⟩
 have f3:∀ b∈fp,Qih X pins H3 b:=fun b hb=>by
  obtain ⟨o,e,d⟩:=T.obj _ _ st2 b hb
  refine ⟨?_,(f2 b hb).2⟩
  rw [←hH3,Q6 (Nat.ne_of_lt (by rw [←hl'];exact Heap.lt_size e))]
  exact (f2 b hb).1
 refine Qkv ?_
 have I4:=Qqj (N:=N) (js:=js) I3 hk h1 h2 f3 ob3
 have st4:tn 0 (pushCells (s3.heap.push { cls:=.type "dict",data:=.dict #[] }) scope.names):=T.keep _ _ _ st2 fun b hb o e=>pushCells_keeps _ _ _ _ (Heap.get?_push_of_some _ (kp3 b o e))
 have fr4:∀ b∈fp,H3 b=none:=fun b hb=>(f3 b hb).1
 have fpX:∀ {H':Hp},(∀ b∈fp,H' b=none)→∀ b∈fp,Qih (Qac X scope N s3 H3 fp) [] H' b:=fun hn b hb=>by
  have ok:=I4.ok
  refine ⟨hn b hb,(ok.exf b hb).1,ok.exfs b hb,.inl hb,(ok.exf b hb).2,fun p hp=>absurd (show p∈([]:List (Addr×Obj)) from hp) (by simp)⟩
 -- the block's end
 have fin:∀ {σ':St} {H':Hp} {s':Shared},Inv (Qac X scope N s3 H3 fp) [] σ' H' s'→Q (.ref l) H'→compPost (model X.prog X.w) X.A X.xe none (EP X pins σ Q) (.ref l) s3.heap.objs.size (.ok .next) s':=fun {σ' H' s'} I' q'=>by
  obtain ⟨m,hn,_⟩:=id I'.loc
  refine ⟨m,hn,fun h' hsb=>⟨.ref l,H',?_,rfl,q'⟩⟩
  have hfr:H' s3.heap.objs.size=none:=I'.free
  refine I3.call' (s':={ s' with heap:=h' }) (ch:=fp) I'.os ⟨fun b o e n hb hx=>?_,fun b o e n hb hx=>?_,I'.base.free,fun b o e hx=>?_,I'.base.tups,I'.base.frzs,I'.base.tbls⟩ (fun b u e=>?_) I'.bare (fun b hb=>⟨(f3 b hb).2.2.2.1,(f3 b hb).2.1,(f3 b hb).2.2.2.2.1,(f3 b hb).2.2.2.2.2⟩)
  ·exact (hsb.2 b (Nat.ne_of_lt (Heap.lt_size e))).trans (I'.base.keep b o e n hb hx)
  ·obtain ⟨sl,z⟩:=I'.base.slot b o e n hb hx
   exact ⟨sl,(hsb.2 b (Nat.ne_of_lt (Heap.lt_size e))).trans z⟩
  ·obtain ⟨o',z⟩:=I'.base.there b o e hx
   exact ⟨o',(hsb.2 b (Nat.ne_of_lt (Heap.lt_size e))).trans z⟩
  ·refine (I'.hok b u e).stay (fun c w' hc z=>(hsb.2 c ?_).trans z) (fun _ z=>z) fun _ _ z=>z
   rintro rfl
   rcases hc with rfl | hc
   ·rw [hfr] at e;cases e
   ·rw [hfr] at hc;cases hc
 have loop:codeAny (model X.prog X.w) X.A (.compLoop (.ListComp elt [⟨tg,iter,ifs,0⟩] scope pos) 0 (.ref it) (.ref l) (Qac X scope N s3 H3 fp).env) (compPost (model X.prog X.w) X.A X.xe none (EP X pins σ Q) (.ref l) s3.heap.objs.size)
   { s3 with heap:=pushCells (s3.heap.push { cls:=.type "dict",data:=.dict #[] }) scope.names }:=by
  refine Qi8 (fun n s'=>∃ i ys σ' H',Inv (Qac X scope N s3 H3 fp) [] σ' H' s'∧tn i s'.heap∧(∀ b∈fp,H' b=none)∧W i n ys σ' H') ?_ m0 ⟨0,[],Qef js σ,H3,I4,st4,fr4,w0⟩
  rintro n s5 ⟨i,ys,σ5,H5,I5,st5,fr5,w5⟩
  rcases turn i n ys σ5 H5 w5 with ⟨stop,qn⟩ | ⟨go,step⟩
  ·refine thn (T.done (Qac X scope N s3 H3 fp) rfl rfl rfl hcalm i [] s5 σ5 H5 _ I5 (fpX fr5) st5 stop) fun r s6 ⟨hr,I6⟩=>?_
   subst hr
   exact fin I6 qn
  ·refine thn (T.item (Qac X scope N s3 H3 fp) rfl rfl rfl hcalm i [] s5 σ5 H5 _ I5 (fpX fr5) st5 go) fun r s6 ⟨u,hr,h6⟩=>?_
   subst hr
   refine thn h6 fun _ s7 ⟨x,H7,I7,r7,y7,st7,fr7⟩=>?_
   have I7':=I7.pinned (fpX fr7) (T.obj _ _ st7)
   have again:∀ {σ8:St} {H8:Hp} {s8:Shared} {ys8:List V},Inv (Qac X scope N s3 H3 fp) ([]++Qj0 fp s7.heap) σ8 H8 s8→(∃ m',m'<n∧W (i+1) m' ys8 σ8 H8) →
     ∃ m,m<n∧∃ i ys σ' H',Inv (Qac X scope N s3 H3 fp) [] σ' H' s8∧tn i s8.heap∧(∀ b∈fp,H' b=none)∧W i m ys σ' H':=fun {σ8 H8 s8 ys8} I8 ⟨m',hm,w8⟩=>by
    refine ⟨m',hm,i+1,ys8,σ8,H8,I8.unpinned,T.keep _ _ _ st7 fun b hb o e=>(I8.pin (b,o) (mem_append_right _ (mem_append_right _ (Qdb hb e)))).1,fun b hb=>?_,w8⟩
    obtain ⟨o,e,d⟩:=T.obj _ _ st7 b hb
    exact (I8.pin (b,o) (mem_append_right _ (mem_append_right _ (Qdb hb e)))).2.1
   refine thn (hg s3 H3 fp _ s7 σ5 H7 x u _ I7' r7 (step x H7 y7)) fun _ s8 ⟨σ8,H8,I8,q8⟩=>?_
   refine thn (hc s3 H3 fp _ s8 σ8 H8 _ I8 q8) fun ok s9 ⟨H9,I9,q9⟩=>?_
   cases ok with
   | false =>
    rw [if_neg Bool.false_ne_true] at q9 ⊢
    exact again I9 q9
   | true =>
    rw [if_pos rfl] at q9 ⊢
    refine thn (he s3 H3 fp _ s9 σ8 H9 _ I9 q9) fun y s10 ⟨vy,H10,I10,r10,a10,z10,q10⟩=>?_
    refine thn (Qj3 (X:=Qac X scope N s3 H3 fp) _ s10 σ8 H10 (.ref l) [vy] (.ref l) [y] (fun _ H'=>∃ m',m'<n∧W (i+1) m' (ys++[vy]) σ8 H') I10 rfl (.cons r10 .nil) ⟨l,ys,vy,rfl,rfl,a10,z10,q10⟩) fun _ s11 ⟨_,H11,I11,_,q11⟩=>?_
    exact again I11 q11
 first
  | exact codeAny_compStart_list loop (T.self _ 0 _ _ _ st4 loop)
  | (rw [← hs3] at loop st4
     exact codeAny_compStart_list loop (T.self _ 0 _ _ _ st4 loop))
section
variable {X:Cx}
theorem Qqk:CallR X (.builtin "isinstance") (fun xs H Q=>∃ x T t b,xs=[x,.ty T]∧TyOf X.K H x t∧PySem.W.kitOne X.K t (.type T)=some b∧Q (.bl b) H):=by
 intro pins s σ H xs us Q I r h
 obtain ⟨x,T,t,b,rfl,ty,e,q⟩:=h
 obtain ⟨u,w',rfl,rx,ry⟩:=Que r
 obtain rfl:w'=Value.type T:=ry
 exact Qv3 I rx ty e fun tk=>⟨.bl b,H,I.tok _,rfl,q⟩
noncomputable def Qql:V→Bool
 | .bl b=>b
 | .int i=>i != 0
 | _=>false
noncomputable def Qqm:V→Bool
 | .bl _=>true
 | .int _=>true
 | .non=>true
 | _=>false
theorem Qyd {A:Around} {s:Shared} {x:V} {v:Value} {Q:Bool→Shared→Prop} {E:Value→Shared→Prop} (r:RelV x v) (f:Qqm x=true) (h:Q (Qql x) s):wpAny (model X.prog X.w) A (truthy v) Q E s:=by
 cases x with
 | bl b=>cases r;exact wpAny_truthy_bool h
 | int i=>obtain ⟨t,rfl⟩:=r;exact truthy_int h
 | non=>cases r;exact truthy_none h
 | _=>exact absurd (show false=true from f) Bool.false_ne_true
theorem Qsv {α:Type} (f:α→Bool) (d:α) (xs:List α):((List.range xs.length).all fun i=>f (xs.getD i d))=xs.all f:=by
 rw [Bool.eq_iff_iff,all_eq_true,all_eq_true]
 constructor
 ·intro h x hx
  obtain ⟨i,hi,rfl⟩:=List.getElem_of_mem hx
  have:=h i (mem_range.mpr hi)
  rwa [getD_eq_getElem?_getD,getElem?_eq_getElem hi,Option.getD_some] at this
 ·intro h i hi
  have hi:=mem_range.mp hi
  rw [getD_eq_getElem?_getD,getElem?_eq_getElem hi,Option.getD_some]
  exact h _ (getElem_mem hi)
theorem Qye (hc:X.calm=true):CallR X (.builtin "all") (fun xs H Q=>∃ p ys,xs=[.ref p]∧SqL X.K H p ys∧ys.all Qqm=true∧Q (.bl (ys.all Qql)) H):=by
 intro pins s σ H xs us Q I r h
 obtain ⟨p,ys,rfl,hq,hf,q⟩:=h
 obtain ⟨u,rfl,rx⟩:=Qi3 r
 cases rx
 obtain ⟨its,r',pl,hz⟩:=I.list hq
 have hlt:p<s.heap.objs.size:=by obtain ⟨_,e,_⟩:=pl.isList;exact Heap.lt_size e
 have hlen:=r'.length
 refine call_all_walk (wpAny_pyIter_list pl.isList ?_)
 refine ⟨s.heap.objs.size,[s.heap.objs.size,p],[s.heap.objs.size],its.toArray.size,_,_,fun i=>Qql (ys.getD i .non),rfl,Walks.list (A:=X.A.in1) (I.ok.hd hc) _ p (Nat.ne_of_lt hlt) its.toArray,
  ⟨⟨_,Heap.get?_push_size _ rfl,rfl,rfl⟩,pl.isList.push _⟩,fun i v s' Q' E' hP hQ=>?_,fun h' tk hk=>?_⟩
 ·have hi:its[i]?=some v:=by simpa using hP
  have hy:∃ y,ys[i]?=some y:=by
   have:=(List.getElem?_eq_some_iff.mp hi).1
   exact ⟨ys[i],getElem?_eq_getElem (by omega)⟩
  obtain ⟨y,hy⟩:=hy
  obtain ⟨v',hv',rv⟩:=r'.get hy
  rw [hi] at hv';cases hv'
  refine Qyd (X:=X) rv (all_eq_true.mp hf y (mem_of_getElem? hy)) ?_
  have hQ:Q' (Qql (ys.getD i V.non)) s':=hQ
  rw [getD_eq_getElem?_getD,hy,Option.getD_some] at hQ
  exact hQ
 ·rw [size_toArray,←hlen,Qsv]
  exact ⟨.bl _,H,I.kept fun b x e=>hk b x (fun hm=>by rw [mem_singleton.mp hm] at e;exact Nat.lt_irrefl _ (Heap.lt_size e)) (Heap.get?_push_of_some _ e),rfl,q⟩
theorem Qv7 (hc:X.calm=true):CallR X (.builtin "max") (fun xs H Q=>∃ (p:Addr) (ns:List Int),xs=[.ref p]∧SqL X.K H p (ns.map V.int)∧ns≠[]∧∀ M,M∈ns→(∀ a∈ns,a≤M)→Q (.int M) H):=by
 intro pins s σ H xs us Q I r h
 obtain ⟨p,ns,rfl,hq,hne,q⟩:=h
 obtain ⟨u,rfl,rx⟩:=Qi3 r
 cases rx
 obtain ⟨its,r',pl,hz⟩:=I.list hq
 have hi:IntsAre its ns:=Qlq r'
 obtain ⟨xs,e⟩:=hi.allInts.items
 have hns:ns=xs.toList.map (·.1):=by rw [←hi.numsOf,←nums_intItems,←e]
 have hsz:0<xs.size:=by
  have h3:0<ns.length:=List.length_pos_iff.mpr hne
  rw [hns,length_map,Array.length_toList] at h3;exact h3
 have hl:=pl.isList
 rw [e] at hl
 refine max_intList (I.ok.hd hc) hl hsz fun v h' tk hv hk=>?_
 obtain ⟨t,rfl⟩:=intItems_at hv
 obtain ⟨h1,h2⟩:=argBest_gt (numAt xs) (xs.size-1)
 refine ⟨.int _,H,I.kept hk,⟨t,rfl⟩,q _ ?_ fun a ha=>?_⟩
 ·rw [hns,numAt_eq];exact getD_mem (by rw [length_map,Array.length_toList];omega)
 ·rw [hns] at ha
  obtain ⟨j,hj,rfl⟩:=mem_getD ha
  rw [length_map,Array.length_toList] at hj
  rw [←numAt_eq];exact h2 j (by omega)
theorem Qv8 (hc:X.calm=true):CallR X (.builtin "sum") (fun xs H Q=>∃ (p:Addr) (ns:List Int),xs=[.ref p]∧SqL X.K H p (ns.map V.int)∧Q (.int ns.sum) H):=by
 intro pins s σ H xs us Q I r h
 obtain ⟨p,ns,rfl,hq,q⟩:=h
 obtain ⟨u,rfl,rx⟩:=Qi3 r
 cases rx
 obtain ⟨its,r',pl,hz⟩:=I.list hq
 have hi:IntsAre its ns:=Qlq r'
 obtain ⟨xs,hx⟩:=hi.allInts.items
 have hl':s.heap.IsList p (intItems xs):=hx ▸ pl.isList
 refine sum_intListG (I.ok.hd hc) hl' fun h' tk t' hk=>?_
 have e1:ns=xs.toList.map (·.1):=by
  rw [←nums_intItems,←hx]
  exact (show numsOf its.toArray.toList=ns from hi.numsOf).symm
 have e2:preSum (numAt xs) xs.size=ns.sum:=by
  rw [preSum_eq,List.take_of_length_le (by simp),e1]
 rw [e2]
 exact ⟨.int _,H,I.kept hk,⟨t',rfl⟩,q⟩
end
open PySem.AutoSeq1 (wpAny_loadPart')
theorem Same.upd {H:Hp} {a:Addr} {o:HO} (h:H a=none):Same H (upd H a o):=fun b u e=>by rw [Q6 (Qbs e h)];exact e
theorem Qo1 (l:Addr) (items:Array Value) (n:Nat) (b:Addr) (items2:Array Value) (n2:Nat) (dd:Option Addr) (sl:Array (Option Value)) (hs0:¬(!items.isEmpty&&Builtin.List.listTooLong (items.size+items2.size))=true) (hs1:items.size≤sizeLine) (hs2:items.size+items2.size≤sizeLine+1) :
  Meets (Builtin.«list.extend» ⟨[.ref l,.ref b],[]⟩) (fun _ R s=>s.heap.get? l=some { cls:=.type "list",dict:=none,data:=.seq items n,slots:=#[] }∧s.heap.get? b=some { cls:=.type "tuple",dict:=dd,data:=.seq items2 n2,slots:=sl }∧R (.ok (.ret Value.none)) { s with heap:=s.heap.update l (Obj.mapSeq fun x=>x++items2),toks:=s.toks }) :=
 .of_wp fun prog w A R s h=>by
  obtain ⟨hp,g,d,tk,os⟩:=s;obtain ⟨hl,hb,h⟩:=h;have f1:=AutoSeq1.idx_int;have f2:=AutoSeq1.sub_tuple_tuple;have f3:=AutoSeq1.sub_list_list;have f4:=AutoSeq1.sub_tuple_list;have f5:=AutoSeq1.sub_list_tuple
  have hz':(items++items2).size≤sizeLine+1:=by rw [Array.size_append];exact hs2
  wp_walk using (wpAny_updateSeq hl rfl (hz:=hs1) (_hz':=hz')),wpAny_loadPart' hl,wpAny_loadPart' hb;exact ⟨_,rfl,h⟩
theorem Qsw (l:Addr) (items:Array Value) (n:Nat) (x:Int) (u:Tok) (dd:Option Addr) (sl:Array (Option Value)) (h0:¬ (x < -(2^63)||x≥2^63)=true) (h1:¬ (items.isEmpty||x==1)=true) (h2:¬ (x≤0||items.isEmpty)=true) (h3:¬ items.size*x>(2^63-1) / 8) (h4:¬ Builtin.Tuple.tupleTooMany (items.size*x)=true)
  (hz:(List.foldl (fun x1 x2=>x1++x2) #[] (List.replicate x.toNat items)).size≤sizeLine) :
  Meets (Builtin.«tuple.__mul__» ⟨[.ref l,.int x u],[]⟩) (fun _ R s=>s.heap.get? l=some { cls:=.type "tuple",dict:=dd,data:=.seq items n,slots:=sl }∧R (.ok (.ret (Value.ref s.heap.objs.size))) { s with heap:=s.heap.push { cls:=Value.type "tuple",data:=Data.seq (List.foldl (fun x1 x2=>x1++x2) #[] (List.replicate x.toNat items)) },toks:=s.toks }) :=
 .of_wp fun prog w A R s h=>by
  obtain ⟨hp,g,d,tk,os⟩:=s;obtain ⟨hl,h⟩:=h;have f1:=AutoSeq1.idx_int
  wp_walk using wpAny_loadPart' hl
  rw [if_neg h0]
  wp_walk using wpAny_loadPart' hl
  rw [if_neg h3]
  wp_walk using wpAny_loadPart' hl
  exact ⟨_,rfl,h⟩
theorem Qqn (l:Addr) (items:Array Value) (n:Nat) (x:Int) (u:Tok) (dd:Option Addr) (sl:Array (Option Value)) (h0:¬ (x < -(2^63)||x≥2^63)=true) (h1:(items.isEmpty||x==1)=true) :
  Meets (Builtin.«tuple.__mul__» ⟨[.ref l,.int x u],[]⟩) (fun _ R s=>s.heap.get? l=some { cls:=.type "tuple",dict:=dd,data:=.seq items n,slots:=sl }∧R (.ok (.ret (Value.ref l))) s) :=
 .of_wp fun prog w A R s h=>by
  obtain ⟨hp,g,d,tk,os⟩:=s;obtain ⟨hl,h⟩:=h;have f1:=AutoSeq1.idx_int
  wp_walk using wpAny_loadPart' hl
  rw [if_neg h0]
  wp_walk using wpAny_loadPart' hl
  exact ⟨_,rfl,h⟩
theorem Qlu (a:Int) (t:Tok) (l:Addr) (items:Array Value) (n:Nat) (dd:Option Addr) (sl:Array (Option Value)) :
  Meets (Builtin.«int.__rmul__» ⟨[.int a t,.ref l],[]⟩) (fun _ R s=>s.heap.get? l=some { cls:=.type "tuple",dict:=dd,data:=.seq items n,slots:=sl }∧R (.ok (.ret Value.notImplemented)) s) :=
 .of_wp fun prog w A R s h=>by obtain ⟨hp,g,d,tk,os⟩:=s;obtain ⟨hl,h⟩:=h;wp_walk;exact ⟨_,rfl,h⟩
theorem Qj6:fillsNumberSlot (.type "tuple") "mul" = pure false :=
 PySem.fillsNumberSlot_seq (id := "tuple.__mul__") (r:=some (.builtin "tuple.__rmul__")) F.slot_tuple_mul.lookup (by decide +kernel) F.slot_tuple_rmul.lookup (by decide +kernel)
theorem Qo2:seqRepeat? (.type "tuple")=pure (some (.builtin "tuple.__mul__")):=by
 unfold seqRepeat?
 rw [PySem.seqSlot_of (T := "tuple") (name := "__mul__") (id := "tuple.__mul__") F.slot_tuple_mul.lookup (by decide +kernel),PySem.seqSlot_of (T := "tuple") (name := "__rmul__") (id := "tuple.__rmul__") F.slot_tuple_rmul.lookup (by decide +kernel)]
 rfl
section
variable {X:Cx}
def Qg2 (K:PySem.W.Frag):V→List V→Hp→VK→Prop:=fun x vs H Q=>∃ l b xs zs,x=.ref l∧vs=[.ref b]∧H l=some (.lst xs)∧SqT K H b zs∧xs.length+zs.length≤sizeLine∧Q .non (upd H l (.lst (xs++zs)))
theorem Qsx:MtM X "list.extend" (Qg2 X.K):=by
 intro pins s σ H x vs v us Q I rx rv h
 obtain ⟨l,b,xs,zs,rfl,rfl,hH,hB,hz,q⟩:=h
 cases rx
 obtain ⟨u,rfl,ru⟩:=rv.one
 cases ru
 obtain ⟨z,its,n,r,hl,e⟩:=I.lstM hH
 obtain ⟨its2,r2,⟨⟨cls,dd,data,sl⟩,e2,hc,n2,hd⟩,_⟩:=I.tuple hB
 simp only at hc hd
 subst hc hd
 have hl2:=r2.length
 have hsz:its.toArray.size+its2.toArray.size≤sizeLine:=by rw [size_toArray,size_toArray];omega
 have hlong:¬ (!its.toArray.isEmpty&&Builtin.List.listTooLong (its.toArray.size+its2.toArray.size))=true:=by
  rw [Qlr hsz,Bool.and_false]
  exact Bool.false_ne_true
 refine call_meets F.slot_list_extend ⟨_,e,rfl⟩ F.entry_list_extend (F.args_list_extend_2 _ _)
  (Qo1 l its.toArray n b its2.toArray n2 dd sl hlong (by rw [size_toArray];omega) (by omega)) ⟨e,e2,?_⟩
 refine ⟨.non,_,I.lset (its':=its++its2) hH e (by simp) (r.append r2) ?_,rfl,q⟩
 rw [length_append]
 omega
def Q4i (K:PySem.W.Frag):R2:=fun x y H Q=>∃ a b xs ys,x=.ref a∧y=.ref b∧H a=some (.tup xs)∧H b=some (.tup ys)∧xs.length+ys.length≤sizeLine∧∀ p H',Same H H'→H' p=some (.tup (xs++ys))→(p=a∨p=b∨H p=none)→Q (.ref p) H'
theorem Q2d:OpR X (binaryOp .Add) (Q4i X.K):=by
 intro pins s σ H x y v u Q I rx ry h
 obtain ⟨a,b,xs,ys,rfl,rfl,ha,hb,hz,q⟩:=h
 by_cases hx:xs=[]
 ·cases rx
  cases ry
  subst hx
  obtain ⟨its,r1,⟨⟨cls,dd,data,sl⟩,e1,hc,n,hd⟩,_⟩:=I.tuple (SqT.of ha)
  obtain ⟨its2,r2,⟨⟨cls2,dd2,data2,sl2⟩,e2,hc2,n2,hd2⟩,_⟩:=I.tuple (SqT.of hb)
  simp only at hc hd hc2 hd2
  subst hc hd hc2 hd2
  cases r1
  exact concat_meets ⟨_,e1,rfl⟩ ⟨_,e2,rfl⟩ noFill_tuple_add seq_tuple_add PySem.F.slot_tuple_add PySem.F.entry_tuple_add (PySem.F.args_tuple_add_2 _ _)
   (tuple_addW0 a b _ _ n n2 dd dd2 sl sl2 rfl) ⟨e1,e2,⟨.ref b,H,I,rfl,q b H (Same.refl H) hb (.inr (.inl rfl))⟩⟩
 ·refine Q11 pins s σ H _ _ v u Q I rx ry ⟨a,b,xs,ys,rfl,rfl,SqT.of ha,SqT.of hb,hx,hz,fun e=>q a H (Same.refl H) (by rw [ha,e,append_nil]) (.inl rfl),fun _ p hp=>q p _ (Same.upd hp) Qp (.inr (.inr hp))⟩
def Q94 (K:PySem.W.Frag):V→Option Int→Option Int→Hp→VK→Prop:=fun x lo hi H Q=>∃ a xs,x=.ref a∧H a=some (.tup xs)∧∀ p H',Same H H'→H' p=some (.tup (Qgz xs lo hi))→(p=a∨H p=none)→Q (.ref p) H'
theorem Q2e:SlR X (Q94 X.K):=by
 intro pins s σ H x v vl vu lo hi sl Q I rx hs pl pu h
 obtain ⟨a,xs,rfl,hx,q⟩:=h
 by_cases hw:HT.sIx xs.length 0 lo=0∧HT.sIx xs.length xs.length hi=xs.length
 ·cases rx
  obtain ⟨its,r,ht,hz⟩:=I.tuple (SqT.of (K:=X.K) hx)
  have hlen:its.toArray.size=xs.length:=by rw [size_toArray];exact r.length.symm
  refine ⟨"tuple",_,PyProof.Rows.slot_tuple_getitem.lookup,ht.typeIs,?_⟩
  have hcut:Qgz xs lo hi=xs:=by
   unfold Qgz
   rw [hw.1,hw.2,List.drop_zero,Nat.sub_zero,List.take_length]
  obtain ⟨os,hos,hcs,hds⟩:=id hs
  have hTs:s.TypeIs (.ref sl) "slice" := ⟨os,hos,hcs⟩
  unfold getItem
  try with_reducible refine wpAny_holding ?_
  first | refine wpAny_bind (wpAny_pure ?_) | skip
  refine wpAny_bind (wpAny_sequenceKey ht.typeIs (by decide) ?_)
  refine wpAny_bind (wpAny_callSpecial?_slot (name:=Str.ofString "__getitem__") ht.typeIs PyProof.Rows.slot_tuple_getitem
   (wpAny_call_entry PyProof.Rows.slot_tuple_getitem ht.typeIs entry_tuple_getitem ?_ (args_tuple_getitem _ _)))
  show wpAny _ _ (Builtin.Tuple.tupleItemsOf (.ref a) >>= _) _ _ s
  refine wpAny_bind (tupleItemsOf_ ht ?_)
  refine wpAny_bind (wpAny_typeOf hTs ?_)
  rw [if_pos (by decide)]
  refine wpAny_bind (HT.sliceApplied_gen hs pl pu ?_)
  rw [hlen,hw.1,hw.2]
  show wpAny _ _ (if ((((0:Nat):Int)==0&&(1:Int)==1&&(xs.length-0)==xs.length)=true) then _ else _) _ _ s
  rw [if_pos (by simp)]
  have fin:EP X pins σ Q (.ref a) s:=⟨.ref a,H,I,rfl,q a H (Same.refl H) (by rw [hcut];exact hx) (.inl rfl)⟩
  refine wpAny_bind (wpAny_bind (wpAny_typeOf ht.typeIs (wpAny_pure ?_)))
  rw [if_pos (by decide)]
  exact wpAny_bind (wpAny_rule (wpAny_pure ⟨_,rfl,wpAny_pure fin⟩))
 ·exact Q6c pins s σ H _ v vl vu lo hi sl Q I rx hs pl pu ⟨a,xs,rfl,SqT.of hx,hw,fun p hp=>q p _ (Same.upd hp) Qp (.inr hp)⟩
end
open PySem.AutoSeq1 (wpAny_loadPart')
section
variable {X:Cx}
def Q4j:R2:=fun x y H Q=>∃ a k xs,x=.ref a∧y=.int k∧H a=some (.tup xs)∧xs≠[]∧1≤k∧k<2^31∧xs.length*k.toNat≤sizeLine∧∀ p H',Same H H'→H' p=some (.tup (List.replicate k.toNat xs).flatten)→(p=a∨H p=none)→Q (.ref p) H'
theorem Q2f:OpR X (binaryOp .Mult) Q4j:=by
 intro pins s σ H x y v u Q I rx ry h
 obtain ⟨a,k,xs,rfl,rfl,hH,hne,h1,h2,hz,q⟩:=h
 cases rx
 obtain ⟨t,rfl⟩:=ry
 obtain ⟨its,r,⟨⟨cls,dd,data,sl⟩,e,hc,n,hd⟩,_⟩:=I.tuple (SqT.of (K:=X.K) hH)
 simp only at hc hd
 subst hc hd
 have hl:=r.length
 have hn0:its≠[]:=fun z=>hne (r.nil_iff.mp z)
 have hem:its.toArray.isEmpty=false:=by
  cases its with
  | nil=>exact absurd rfl hn0
  | cons _ _=>rfl
 have h0:¬ (decide (k < -(2^63))||decide (k≥2^63))=true:=by
  simp only [Bool.or_eq_true,decide_eq_true_eq]
  omega
 refine wpAny_binaryOp_repeat_ref (T := "tuple") (U := "int") (by decide) ⟨_,e,rfl⟩ (fun s'=>typeIs_int s' k t) Qj6 F.fills_int_mul F.slot_int_rmul Qo2 F.slot_int_index.lookup
  (call_meets F.slot_int_rmul (typeIs_int s k t) F.entry_int_rmul (F.args_int_rmul_2 _ _) (Qlu k t a its.toArray n dd sl) ⟨e,rfl,⟨_,e,rfl⟩,?_⟩)
 by_cases hk:k=1
 ·subst hk
  refine call_meets F.slot_tuple_mul ⟨_,e,rfl⟩ F.entry_tuple_mul (F.args_tuple_mul_2 _ _) (Qqn a its.toArray n 1 t dd sl h0 (by simp)) ⟨e,?_⟩
  exact ⟨.ref a,H,I,rfl,q a H (Same.refl H) (by rw [hH];simp) (.inl rfl)⟩
 ·have hlen:its.toArray.size*k.toNat≤sizeLine:=by rw [size_toArray,←hl];exact hz
  have hki:(its.toArray.size:Int)*k=((its.toArray.size*k.toNat:Nat):Int):=by
   rw [Int.natCast_mul,Int.toNat_of_nonneg (by omega)]
  have hs:sizeLine=16777216:=sizeLine_eq
  have hnew:List.foldl (fun x1 x2=>x1++x2) #[] (List.replicate k.toNat its.toArray)=(List.replicate k.toNat its).flatten.toArray:=by
   have:=Qj2 its k.toNat []
   rw [List.nil_append] at this
   exact this
  refine call_meets F.slot_tuple_mul ⟨_,e,rfl⟩ F.entry_tuple_mul (F.args_tuple_mul_2 _ _) (Qsw a its.toArray n k t dd sl h0 (by rw [hem];simpa using hk) (by rw [hem];simp;omega)
   (by rw [hki];omega) (by rw [hki];unfold Builtin.Tuple.tupleTooMany;rw [decide_eq_true_eq];omega) (by rw [hnew,size_toArray,Qi5,←hl,Nat.mul_comm];exact hz)) ⟨e,?_⟩
  rw [hnew]
  have I2:Inv X pins σ (upd H s.heap.objs.size (.tup (List.replicate k.toNat xs).flatten)) { s with heap:=s.heap.push { cls:=.type "tuple",data:=.seq (List.replicate k.toNat its).flatten.toArray },toks:=s.toks } :=
   I.laid (fun b o e=>Heap.get?_push_of_some _ e) (Nat.le_refl _) ⟨by rw [Qi5,Nat.mul_comm];exact hz,_,r.rep k.toNat,IsTupD.new _ _⟩
  exact ⟨.ref _,_,I2,rfl,q _ _ (Same.upd I.fresh) Qp (.inr I.fresh)⟩
end
section
variable {X:Cx}
theorem Qv9 {j:Int} (h0:0<j) (h:j<2^64):j.natAbs.log2<9000:=by
 have h1:j.natAbs≠0:=by omega
 have h2:j.natAbs.log2<64:=(Nat.log2_lt h1).mpr (by omega)
 omega
def CDv (i j:Int):Prop:=0<j∧j<2^64
theorem Qyf:CallR X (.builtin "divmod") (fun xs H Q=>∃ i j,xs=[.int i,.int j]∧CDv i j∧∀ p,H p=none→Q (.ref p) (upd H p (.tup [.int (i / j),.int (i%j)]))):=by
 intro pins s σ H xs us Q I r h
 obtain ⟨i,j,rfl,⟨h1,h2⟩,q⟩:=h
 obtain ⟨u,w',rfl,⟨t,rfl⟩,⟨t',rfl⟩⟩:=Que r
 refine divmod_int (by omega) ?_ (.inl (PyProof.noPylong_of_log2 (Qv9 h1 h2)))
 rw [Int.fdiv_eq_ediv_of_nonneg i (by omega),Int.fmod_eq_emod_of_nonneg i (by omega)]
 have hn:H s.heap.objs.size=none:=I.hok.fresh (Nat.le_refl _)
 refine ⟨.ref s.heap.objs.size,_,?_,rfl,q _ hn⟩
 refine I.laid (fun b o e=>Heap.get?_push_of_some _ e) (Nat.le_refl _) ⟨by simp only [length_cons,length_nil];rw [sizeLine_eq];decide,[.int (i / j) s.toks,.int (i%j) (s.toks+1)],.cons ⟨_,rfl⟩ (.cons ⟨_,rfl⟩ .nil),?_⟩
 exact ⟨_,Heap.get?_push_size s.heap rfl,rfl,0,rfl,rfl⟩
def Qnx (K:PySem.W.Frag):R2:=fun x y H Q=>(rI0 fun i j=>.int (i+j)) x y H Q∨Q9v x y H Q∨Q4i K x y H Q
theorem uAdd:OpR X (binaryOp .Add) (Qnx X.K):=Q54.or (Q6h.or Q2d)
def Q4k:R2:=fun x y H Q=>(rI CMul fun i j=>.int (i*j)) x y H Q∨Q9w x y H Q∨Q4j x y H Q
theorem uMul:OpR X (binaryOp .Mult) Q4k:=Q56.or (Q6i.or Q2f)
abbrev Qsy (K:PySem.W.Frag) (tl:TE):TI:=fun σ H R=>tl σ H fun x H1=>∃ a,x=.ref a∧(((∃ xs,SqL K H1 a xs)∧R (Itl K a) H1)∨((∃ xs,SqT K H1 a xs)∧R (Itt K a) H1))
theorem Q6l {tg l:Expr} {tl:TE} (hl:PE X l tl):PI X tg l (Qsy X.K tl):=by
 intro pins s σ H R I h
 refine thn (hl pins s σ H _ I h) fun v s1 ⟨x,H1,I1,r1,q1⟩=>?_
 obtain ⟨a,e,q⟩:=q1
 subst e
 cases r1
 rcases q with ⟨⟨xs,hq⟩,q⟩ | ⟨⟨xs,hq⟩,q⟩
 ·obtain ⟨its,rv,p,hz⟩:=I1.list hq
  refine wpAny_pyIter_list p.isList ?_
  refine ⟨s1.heap.objs.size,[s1.heap.objs.size],_,_,H1,rfl,I1.kept (t':=s1.toks) fun b o e=>Heap.get?_push_of_some _ e,Qvx a _,⟨_,Heap.get?_push_size _ rfl,rfl,rfl⟩,fun b hb=>?_,q⟩
  have e:b=s1.heap.objs.size:=by simpa using hb
  subst e
  exact I1.fpOk (Nat.le_refl _) (I1.hok.fresh (Nat.le_refl _))
 ·obtain ⟨its,rv,p,hz⟩:=I1.tuple hq
  refine wpAny_pyIter_tuple (show s1.heap.IsTuple a its.toArray from p) ?_
  refine ⟨s1.heap.objs.size,[s1.heap.objs.size],_,_,H1,rfl,I1.kept (t':=s1.toks) fun b o e=>Heap.get?_push_of_some _ e,Qsq a _,⟨_,Heap.get?_push_size _ rfl,rfl,rfl⟩,fun b hb=>?_,q⟩
  have e:b=s1.heap.objs.size:=by simpa using hb
  subst e
  exact I1.fpOk (Nat.le_refl _) (I1.hok.fresh (Nat.le_refl _))
def Qyg (K:PySem.W.Frag):V→Option Int→Option Int→Hp→VK→Prop:=fun x lo hi H Q=>Q9t K x lo hi H Q∨Q94 K x lo hi H Q
theorem uSl:SlR X (Qyg X.K):=Q13.or Q2e
end
structure Dfn (K:PySem.W.Frag) (mg:Str→Option Value) (x:Str) (st:Stmt):Prop where
 ex:∃ f fd,Fun K x x st f fd∧mg x=some (.ref f)
def Has (P:Program) (w:World) (K:PySem.W.Frag) (mg:Str→Option Value) (base:Heap) (x:Str) (ps:List Str) (k:Nat) (sp:Sp):Prop :=
 ∃ f fd,PySem.W.keepIn K (.ref f)=true∧mg x=some (.ref f)∧Binds K fd ps []∧FnOk P w K mg base CX0 k f fd ps sp
def Qaf (x:Str) (st:Stmt) (ps:List Str):Prop:=∀ (kV doc pm:Value) (an:Option Addr) (cdv ct:Value) (us:List Value),us.length=ps.length→bindArgs (PySem.W.fnOf x x (Qbg st) (Qaj st) (Qf st) .none kV doc pm an cdv ct) ⟨us,[]⟩=pure (ps.zip us)
section
variable {P:Program} {w:World} {K:PySem.W.Frag} {mg:Str→Option Value} {base:Heap}
theorem Q6m {x:Str} {st:Stmt} {N ps:List Str} {k:Nat} {sp:Sp} (d:Dfn K mg x st) (S:FnScope N ps (Qf st)) (bd:Qaf x st ps) (len:∀ vs H Q E,sp vs H Q E→vs.length=ps.length)
  (hbody:∀ (f:Addr) (cdv:Value) (A:Around) (outer:List Env) (s:Shared) (H:Hp) (vs:List V) (Q:VK) (E:XK),Room k (A.deeper (envOfC x (Qf st) s.heap.objs.size f cdv))→sp vs H Q E →
   ∃ t,PSs (Qh5 (fun _=>true) CX0 P w K mg base N x (Qf st) f cdv A outer s H E).nox (Qaj st) t∧t { nx:=fun _ H'=>Q .non H',rt:=Q } (Qbt N vs) H):Has P w K mg base x ps (k+1) sp:=by
 obtain ⟨f,fd,F,m⟩:=d.ex
 exact ⟨f,fd,F.kp,m,F.binds bd,F.ok S len fun cdv A outer s H vs Q E hr hs=>hbody f cdv A outer s H vs Q E hr hs⟩
end
theorem Qyh {X:Cx} {x:Str} {ps:List Str} {k:Nat} {sp:Sp} {e:Expr} {es:List Expr} {t:TA} {p pos:Pos} (h:Has X.prog X.w X.K X.mg X.base x ps k sp) (hr:Room k X.A) (ha:PA X (e::es) t) (hg:Gl X x:=by rfl)
  (hdb:(x==("__debug__" : Str))=false:=by decide) (he:starEach (e::es) X.env=(false,eval e X.env)::starEach es X.env:=by rfl) (hpl:(backTo pos (starEach es X.env)).any (·.1)=false:=by rfl) :
  PE X (.Call (.Name x p) (e::es) [] pos) (Qqg sp [] E0 t):=by
 obtain ⟨f,fd,kp,m,b,F⟩:=h
 exact Q1y F hr hg m kp b .nil Q9x ha hdb he hpl
inductive T where
 | non | bl (b:Bool) | int (i:Int) | str (x:Str) | tup (ts:List T) | lst (ts:List T) | dct (ks:List Key) (ts:List T) | dtt (ks:List (List Int)) (ts:List T) | clo (k:Nat) (ts:List T)
noncomputable def kIs (ks:List Int):List Key:=ks.map Sum.inl
def CellsAt (H:Hp):List Addr→List V→Prop
 | [],vs=>vs=[]
 | c::cs,vs=>∃ v r oc u w,vs=v::r∧H c=some (.frz oc w)∧oc.data=.cell (some u)∧RelV v u∧CellsAt H cs r
def CloAt (H:Hp) (f:Addr) (l:LamT) (us:List V):Prop:=∃ cs c' pm ctv,cs.Nodup∧cs.length=l.caps.length∧H f=some (.frz (PySem.W.kla_obj "<lambda>" l.qual l.params l.body l.scope (l.caps.zip cs) pm c' ctv) (.own f))∧H c'=some (.cod l.qual)∧CellsAt H cs us
theorem CellsAt.mono {H H':Hp} (h:Same H H'):∀ {cs:List Addr} {vs:List V},CellsAt H cs vs→CellsAt H' cs vs
 | [],_,r=>r
 | c::cs,_,r=>by
  obtain ⟨v,w,oc,u,w',e,a,b,d,q⟩:=r
  exact ⟨v,w,oc,u,w',e,h _ _ a,b,d,CellsAt.mono h q⟩
theorem CloAt.mono {H H':Hp} (h:Same H H') {f:Addr} {l:LamT} {us:List V} (r:CloAt H f l us):CloAt H' f l us:=by
 obtain ⟨cs,c',pm,ctv,a,b,c,d,e⟩:=r
 exact ⟨cs,c',pm,ctv,a,b,h _ _ c,h _ _ d,e.mono h⟩
mutual
def Is (H:Hp):V→T→Prop
 | v,.non=>v=.non
 | v,.bl b=>v=.bl b
 | v,.int i=>v=.int i
 | v,.str x=>v=.str x
 | v,.tup ts=>ts.length≤100000∧∃ a vs,v=.ref a∧H a=some (.tup vs)∧IsL H vs ts
 | v,.lst ts=>ts.length≤100000∧∃ a vs,v=.ref a∧H a=some (.lst vs)∧IsL H vs ts
 | v,.dct ks ts=>∃ a vs,v=.ref a∧H a=some (.dK (ks.zip vs))∧ks.length=vs.length∧IsL H vs ts
 | v,.dtt ks ts=>ks.length≤100000∧∃ a vs,v=.ref a∧H a=some (.dT ((ks.map kIs).zip vs))∧ks.length=vs.length∧IsL H vs ts
 | v,.clo k ts=>∃ f us l,v=.ref f∧Qx9.lookup k=some l∧CloAt H f l us∧IsL H us ts
def IsL (H:Hp):List V→List T→Prop
 | vs,[]=>vs=[]
 | vs,t::ts=>∃ v r,vs=v::r∧Is H v t∧IsL H r ts
end
mutual
theorem Is.mono {H H':Hp} (h:Same H H'):∀ {v:V} {t:T},Is H v t→Is H' v t
 | v,.non,r=>by unfold Is at r ⊢;exact r
 | v,.bl b,r=>by unfold Is at r ⊢;exact r
 | v,.int i,r=>by unfold Is at r ⊢;exact r
 | v,.str x,r=>by unfold Is at r ⊢;exact r
 | v,.tup ts,r=>by
  unfold Is at r ⊢
  obtain ⟨z,a,vs,e,ha,q⟩:=r
  exact ⟨z,a,vs,e,h _ _ ha,IsL.mono h q⟩
 | v,.lst ts,r=>by
  unfold Is at r ⊢
  obtain ⟨z,a,vs,e,ha,q⟩:=r
  exact ⟨z,a,vs,e,h _ _ ha,IsL.mono h q⟩
 | v,.dct ks ts,r=>by
  unfold Is at r ⊢
  obtain ⟨a,vs,e,ha,l,q⟩:=r
  exact ⟨a,vs,e,h _ _ ha,l,IsL.mono h q⟩
 | v,.dtt ks ts,r=>by
  unfold Is at r ⊢
  obtain ⟨z,a,vs,e,ha,l,q⟩:=r
  exact ⟨z,a,vs,e,h _ _ ha,l,IsL.mono h q⟩
 | v,.clo l ts,r=>by
  unfold Is at r ⊢
  obtain ⟨f,us,l,e,k,c,q⟩:=r
  exact ⟨f,us,l,e,k,c.mono h,IsL.mono h q⟩
theorem IsL.mono {H H':Hp} (h:Same H H'):∀ {vs:List V} {ts:List T},IsL H vs ts→IsL H' vs ts
 | vs,[],r=>by unfold IsL at r ⊢;exact r
 | vs,t::ts,r=>by
  unfold IsL at r ⊢
  obtain ⟨v,w,e,a,b⟩:=r
  exact ⟨v,w,e,Is.mono h a,IsL.mono h b⟩
end
theorem IsL.nil {H:Hp}:IsL H [] []:=by unfold IsL;rfl
theorem IsL.cons {H:Hp} {v:V} {t:T} {vs:List V} {ts:List T} (a:Is H v t) (b:IsL H vs ts):IsL H (v::vs) (t::ts):=by unfold IsL;exact ⟨v,vs,rfl,a,b⟩
theorem IsL.cons_inv {H:Hp} {vs:List V} {t:T} {ts:List T} (r:IsL H vs (t::ts)):∃ v w,vs=v::w∧Is H v t∧IsL H w ts:=by unfold IsL at r;exact r
theorem IsL.nil_inv {H:Hp} {vs:List V} (r:IsL H vs []):vs=[]:=by unfold IsL at r;exact r
theorem IsL.length {H:Hp}:∀ {ts:List T} {vs:List V},IsL H vs ts→vs.length=ts.length
 | [],vs,r=>by rw [r.nil_inv];rfl
 | t::ts,vs,r=>by
  obtain ⟨v,w,rfl,_,q⟩:=r.cons_inv
  rw [length_cons,length_cons,q.length]
theorem IsL.get {H:Hp}:∀ {ts:List T} {vs:List V} {i:Nat} {v:V},IsL H vs ts→vs[i]?=some v→∃ t,ts[i]?=some t∧Is H v t
 | [],vs,i,v,r,e=>by rw [r.nil_inv] at e;simp at e
 | t::ts,vs,0,v,r,e=>by
  obtain ⟨x,w,rfl,a,q⟩:=r.cons_inv
  rw [getElem?_cons_zero] at e ⊢
  cases e
  exact ⟨t,rfl,a⟩
 | t::ts,vs,i+1,v,r,e=>by
  obtain ⟨x,w,rfl,a,q⟩:=r.cons_inv
  rw [getElem?_cons_succ] at e ⊢
  exact IsL.get q e
theorem IsL.getT {H:Hp}:∀ {ts:List T} {vs:List V} {i:Nat} {t:T},IsL H vs ts→ts[i]?=some t→∃ v,vs[i]?=some v∧Is H v t
 | [],vs,i,v,r,e=>by simp at e
 | t::ts,vs,0,v,r,e=>by
  obtain ⟨x,w,rfl,a,q⟩:=r.cons_inv
  rw [getElem?_cons_zero] at e ⊢
  cases e
  exact ⟨x,rfl,a⟩
 | t::ts,vs,i+1,v,r,e=>by
  obtain ⟨x,w,rfl,a,q⟩:=r.cons_inv
  rw [getElem?_cons_succ] at e ⊢
  exact IsL.getT q e
theorem IsL.append {H:Hp}:∀ {ts us:List T} {vs ws:List V},IsL H vs ts→IsL H ws us→IsL H (vs++ws) (ts++us)
 | [],us,vs,ws,r,q=>by rw [r.nil_inv];exact q
 | t::ts,us,vs,ws,r,q=>by
  obtain ⟨x,w,rfl,a,r⟩:=r.cons_inv
  exact .cons a (r.append q)
theorem IsL.take {H:Hp}:∀ {ts:List T} {vs:List V} (n:Nat),IsL H vs ts→IsL H (vs.take n) (ts.take n)
 | _,_,0,_=>by rw [List.take_zero,List.take_zero];exact .nil
 | [],vs,n+1,r=>by rw [r.nil_inv];exact .nil
 | t::ts,vs,n+1,r=>by
  obtain ⟨x,w,rfl,a,r⟩:=r.cons_inv
  exact .cons a (r.take n)
theorem IsL.drop {H:Hp}:∀ {ts:List T} {vs:List V} (n:Nat),IsL H vs ts→IsL H (vs.drop n) (ts.drop n)
 | _,_,0,r=>r
 | [],vs,n+1,r=>by rw [r.nil_inv];exact .nil
 | t::ts,vs,n+1,r=>by
  obtain ⟨x,w,rfl,a,r⟩:=r.cons_inv
  exact r.drop n
theorem IsL.flat {H:Hp}:∀ (k:Nat) {ts:List T} {vs:List V},IsL H vs ts→IsL H (List.replicate k vs).flatten (List.replicate k ts).flatten
 | 0,ts,vs,r=>by simpa using IsL.nil
 | k+1,ts,vs,r=>by
  rw [replicate_succ,replicate_succ,List.flatten_cons,List.flatten_cons]
  exact r.append (IsL.flat k r)
theorem IsL.one {H:Hp} {v:V} {t:T} (a:Is H v t):IsL H [v] [t]:=.cons a .nil
theorem Is.int {H:Hp} {i:Int}:Is H (.int i) (.int i):=by unfold Is;rfl
theorem Is.bl {H:Hp} {b:Bool}:Is H (.bl b) (.bl b):=by unfold Is;rfl
theorem Is.non {H:Hp}:Is H .non .non:=by unfold Is;rfl
theorem Is.str {H:Hp} {x:Str}:Is H (.str x) (.str x):=by unfold Is;rfl
theorem Is.tup {H:Hp} {a:Addr} {vs:List V} {ts:List T} (h:H a=some (.tup vs)) (r:IsL H vs ts) (z:ts.length≤100000):Is H (.ref a) (.tup ts):=by unfold Is;exact ⟨z,a,vs,rfl,h,r⟩
theorem Is.lst {H:Hp} {a:Addr} {vs:List V} {ts:List T} (h:H a=some (.lst vs)) (r:IsL H vs ts) (z:ts.length≤100000):Is H (.ref a) (.lst ts):=by unfold Is;exact ⟨z,a,vs,rfl,h,r⟩
theorem Is.int_inv {H:Hp} {v:V} {i:Int} (r:Is H v (.int i)):v=.int i:=by unfold Is at r;exact r
theorem Is.tup_inv {H:Hp} {v:V} {ts:List T} (r:Is H v (.tup ts)):∃ a vs,v=.ref a∧H a=some (.tup vs)∧IsL H vs ts:=by unfold Is at r;exact r.2
theorem Is.tup_len {H:Hp} {v:V} {ts:List T} (r:Is H v (.tup ts)):ts.length≤100000:=by unfold Is at r;exact r.1
theorem Is.lst_len {H:Hp} {v:V} {ts:List T} (r:Is H v (.lst ts)):ts.length≤100000:=by unfold Is at r;exact r.1
theorem Is.lst_inv {H:Hp} {v:V} {ts:List T} (r:Is H v (.lst ts)):∃ a vs,v=.ref a∧H a=some (.lst vs)∧IsL H vs ts:=by unfold Is at r;exact r.2
theorem IsL.ints {H:Hp}:∀ (ns:List Int),IsL H (ns.map V.int) (ns.map T.int)
 | []=>.nil
 | n::ns=>.cons Is.int (IsL.ints ns)
theorem IsL.ints_inv {H:Hp}:∀ {ns:List Int} {vs:List V},IsL H vs (ns.map T.int)→vs=ns.map V.int
 | [],vs,r=>r.nil_inv
 | n::ns,vs,r=>by
  obtain ⟨x,w,rfl,a,r⟩:=r.cons_inv
  rw [a.int_inv,r.ints_inv]
  rfl
theorem Qcp {n:Nat} (h:n≤100000):n≤sizeLine:=by rw [sizeLine_eq];omega
noncomputable def del (H:Hp) (p:Addr):Hp:=fun b=>if b=p then none else H b
noncomputable def tyT:T→String
 | .non => "NoneType" | .bl _ => "bool" | .int _ => "int" | .str _ => "str" | .tup _ => "tuple" | .lst _ => "list" | .dct _ _ => "dict" | .dtt _ _ => "dict" | .clo _ _ => "function"
noncomputable def Qdv:T→Bool
 | .clo _ _=>true
 | _=>false
theorem Is.tyOf {K:PySem.W.Frag} {H:Hp} {v:V} {t:T} (r:Is H v t) (hc:Qdv t=false):TyOf K H v (.type (tyT t)):=by
 cases t with
 | non=>unfold Is at r;subst r;exact .non
 | bl b=>unfold Is at r;subst r;exact .bl b
 | int i=>unfold Is at r;subst r;exact .int i
 | str x=>unfold Is at r;subst r;exact .str x
 | tup ts=>obtain ⟨a,vs,rfl,h,_⟩:=r.tup_inv;exact .tup h
 | lst ts=>obtain ⟨a,vs,rfl,h,_⟩:=r.lst_inv;exact .lst h
 | dct ks ts=>unfold Is at r;obtain ⟨a,vs,rfl,h,_⟩:=r;exact .dK h
 | dtt ks ts=>unfold Is at r;obtain ⟨_,a,vs,rfl,h,_⟩:=r;exact .dT h
 | clo l ts=>cases hc
noncomputable def Qlv (a c:String):Bool:=a==c||(a == "bool" && c == "int")
theorem Q2g (K:PySem.W.Frag):∀ a∈["NoneType","bool","int","str","tuple","list","dict"],∀ c∈["int","bool","tuple","list","dict","str"],PySem.W.kitOne K (.type a) (.type c)=some (Qlv a c):=by
 intro a ha c hc
 simp only [mem_cons,not_mem_nil,or_false] at ha hc
 rcases ha with rfl | rfl | rfl | rfl | rfl | rfl | rfl <;> rcases hc with rfl | rfl | rfl | rfl | rfl | rfl <;> rfl
theorem Qwa {X:Cx}:CallR X (.builtin "isinstance") (fun xs H Q=>∃ x c t,xs=[x,.ty c]∧Is H x t∧Qdv t=false∧c∈["int","bool","tuple","list","dict","str"]∧Q (.bl (Qlv (tyT t) c)) H):=by
 intro pins s σ H xs us Q I r h
 obtain ⟨x,c,t,e,ty,nc,hc,q⟩:=h
 refine Qqk pins s σ H xs us Q I r ⟨x,c,_,_,e,ty.tyOf nc,Q2g X.K (tyT t) ?_ c hc,q⟩
 cases t <;> first | (cases nc;done) | simp [tyT]
noncomputable def Q9:Expr→Bool
 | .Starred _ _=>false
 | _=>true
theorem Qb6 {e:Expr} {es:List Expr} {env:Env} (h:Q9 e=true):starEach (e::es) env=(false,eval e env)::starEach es env:=by
 cases e <;> first | rfl | exact absurd h Bool.false_ne_true
theorem paC {X:Cx} {e:Expr} {es:List Expr} {te:TE} {t:TA} (ha:PE X e te) (hr:PA X es t) (hs:Q9 e=true:=by rfl):PA X (e::es) (Qku te t):=Q1x ha hr (Qb6 hs)
noncomputable def frp (H H':Hp):Hp:=fun b=>if (H b).isSome=true then none else H' b
theorem Qhs {H H':Hp} {b:Addr} {o:HO} (h:H b=none) (e:H' b=some o):frp H H' b=some o:=by unfold frp;rw [h];exact e
theorem Qg3 {H H':Hp} {b:Addr} {o:HO} (e:frp H H' b=some o):H b=none∧H' b=some o:=by
 unfold frp at e
 by_cases h:(H b).isSome=true
 ·rw [if_pos h] at e;cases e
 ·rw [if_neg h] at e
  refine ⟨?_,e⟩
  cases q:H b with
  | none=>rfl
  | some u=>rw [q] at h;simp at h
theorem Qj7 {H H1 H2:Hp} (h:Same H1 H2):Same (frp H H1) (frp H H2):=fun b o e=>by
 obtain ⟨a,c⟩:=Qg3 e
 exact Qhs a (h b o c)
theorem Qyi {H H1 H2:Hp} (h:Same H H1):Same (frp H1 H2) (frp H H2):=fun b o e=>by
 obtain ⟨a,c⟩:=Qg3 e
 exact Qhs (h.free a) c
abbrev tTh (t:T):TE:=fun _ H Q=>∀ v H',Same H H'→Is (frp H H') v t→Q v H'
abbrev Qo3 (ts:List T):TA:=fun _ H Q=>∀ vs H',Same H H'→IsL (frp H H') vs ts→Q vs H'
section
variable {X:Cx} {e a b:Expr} {es:List Expr} {t:T} {ts:List T} {pos:Pos}
theorem PE.weak {te te':TE} (h:PE X e te) (q:∀ σ H Q,te' σ H Q→te σ H Q):PE X e te':=fun pins s σ H Q I hq=>h pins s σ H Q I (q _ _ _ hq)
theorem PA.weak {ta ta':TA} (h:PA X es ta) (q:∀ σ H Q,ta' σ H Q→ta σ H Q):PA X es ta':=fun pos pins s σ H Q I hq=>h pos pins s σ H Q I (q _ _ _ hq)
theorem Q2h {i j pos}:PE X (.Constant (.int i) j pos) (tTh (.int i)):=Qxj.weak fun _ H _ q=>q _ H (Same.refl H) Is.int
theorem Q6n {x j pos}:PE X (.Constant (.str x) j pos) (tTh (.str x)):=Qsp.weak fun _ H _ q=>q _ H (Same.refl H) Is.str
theorem Q2i:PA X [] (Qo3 []):=Qx0.weak fun _ H _ q=>q [] H (Same.refl H) .nil
theorem Qyj (ha:PE X e (tTh t)) (hr:PA X es (Qo3 ts)) (hs:Q9 e=true:=by rfl):PA X (e::es) (Qo3 (t::ts)) :=
 (paC ha hr hs).weak fun σ H Q q v H1 s1 r1 vs H2 s2 r2=>q (v::vs) H2 (s1.trans s2) (.cons (r1.mono (Qj7 s2)) (r2.mono (Qyi s1)))
theorem th_tup {x1} (h:PA X es (Qo3 ts)) (hz:Nat.ble ts.length 1000=true:=by rfl):PE X (.Tuple es x1 pos) (tTh (.tup ts)) :=
 (Qx1 h).weak fun σ H Q q vs H1 s1 r1=>by
  have hl:=r1.length
  have hz:=Nat.le_of_ble_eq_true hz
  refine ⟨by rw [hl,sizeLine_eq];omega,fun p hp=>q _ _ (s1.trans (Same.upd hp)) (.tup (Qhs (s1.free hp) Qp) (r1.mono (Qj7 (Same.upd hp))) (by omega))⟩
theorem Q6o (h:PA X es (Qo3 ts)) (hz:Nat.ble ts.length 1000=true:=by rfl):PE X (.List es pos) (tTh (.lst ts)) :=
 (Qx2 h).weak fun σ H Q q vs H1 s1 r1=>by
  have hl:=r1.length
  have hz:=Nat.le_of_ble_eq_true hz
  refine ⟨by rw [hl,sizeLine_eq];omega,fun p hp=>q _ _ (s1.trans (Same.upd hp)) (.lst (Qhs (s1.free hp) Qp) (r1.mono (Qj7 (Same.upd hp))) (by omega))⟩
theorem Qyk {k:Str} {j p2 pos} (h:PE X e (tTh t)):PE X (.Dict [some (.Constant (.str k) j p2)] [e] pos) (tTh (.dct [Sum.inr k] [t])) :=
 (Q2a (Qyb Qsp h Q19) rfl rfl (by simp) (by simp)).weak fun σ H Q q p hp=>by
  intro v H1 s1 r1
  have e1:H1 p=some (.dK []):=s1 p _ Qp
  have s0:Same H H1:=Same.trans (Same.upd hp) s1
  refine ⟨e1,[(Sum.inr k,v)],rfl,by simp,?_⟩
  have e2:Qj4 [] [((Sum.inr k:Key),v)]=[((Sum.inr k:Key),v)]:=rfl
  rw [e2]
  have s2:Same H (upd H1 p (.dK [((Sum.inr k:Key),v)])):=fun b o eb=>by
   have:b≠p:=Qbs eb hp
   rw [Q6 this]
   exact s0 b o eb
  refine q _ _ s2 ?_
  unfold Is
  refine ⟨p,[v],rfl,Qhs hp Qp,rfl,.one (r1.mono ?_)⟩
  intro b o eb
  obtain ⟨a1,a2⟩:=Qg3 eb
  have nb:b≠p:=fun z=>by rw [z,Qp] at a1;cases a1
  rw [Q6 nb] at a1
  exact Qhs a1 (by rw [Q6 nb];exact a2)
end
structure Wk (J:It) (xs:List V) (P:Hp→Prop):Prop where
 go:∀ i H,i<xs.length→P H→J.go i H
 yld:∀ i H x H',i<xs.length→P H→J.yld i H x H'→H'=H∧xs[i]?=some x
 stop:∀ i H,xs.length≤i→P H→J.stop i H
 mono:∀ H H',Same H H'→P H→P H'
section
variable {X:Cx}
def Q6p (K:PySem.W.Frag):List V→Hp→VK→Prop:=fun xs H Q=>∃ p ys,xs=[.ref p]∧(SqL K H p ys∨SqT K H p ys)∧Q (.int ys.length) H
theorem kLen (K:PySem.W.Frag) (hK:X.K=K):CallR X (.builtin "len") (Q6p K):=by subst hK;exact Qoz
def Q6q (K:PySem.W.Frag):List V→Hp→VK→Prop:=fun xs H Q=>∃ p ys,xs=[.ref p]∧SqL K H p ys∧ys.all Qqm=true∧Q (.bl (ys.all Qql)) H
theorem kAll (K:PySem.W.Frag) (hK:X.K=K) (hc:X.calm=true):CallR X (.builtin "all") (Q6q K):=by subst hK;exact Qye hc
def Qyl (K:PySem.W.Frag):List V→Hp→VK→Prop:=fun xs H Q=>∃ (p:Addr) (ns:List Int),xs=[.ref p]∧SqL K H p (ns.map V.int)∧ns≠[]∧∀ M,M∈ns→(∀ a∈ns,a≤M)→Q (.int M) H
theorem Q95 (K:PySem.W.Frag) (hK:X.K=K) (hc:X.calm=true):CallR X (.builtin "max") (Qyl K):=by subst hK;exact Qv7 hc
def Qym (K:PySem.W.Frag):List V→Hp→VK→Prop:=fun xs H Q=>∃ (p:Addr) (ns:List Int),xs=[.ref p]∧SqL K H p (ns.map V.int)∧Q (.int ns.sum) H
theorem Q96 (K:PySem.W.Frag) (hK:X.K=K) (hc:X.calm=true):CallR X (.builtin "sum") (Qym K):=by subst hK;exact Qv8 hc
def Qo4 (K:PySem.W.Frag):List V→Hp→VK→Prop:=fun xs H Q=>∃ p ys,xs=[.ref p]∧(SqL K H p ys∨SqT K H p ys)∧∀ l,H l=none→Q (.ref l) (upd H l (.lst ys))
theorem Q2j (K:PySem.W.Frag) (hK:X.K=K):CallR X (.type "list") (Qo4 K):=by subst hK;exact Qo0
def Qsz (K:PySem.W.Frag):List V→Hp→VK→Prop:=fun xs H Q=>∃ p ys,xs=[.ref p]∧((SqL K H p ys∧∀ l,H l=none→Q (.ref l) (upd H l (.tup ys)))∨(SqT K H p ys∧Q (.ref p) H))
theorem Q6r (K:PySem.W.Frag) (hK:X.K=K):CallR X (.type "tuple") (Qsz K):=by subst hK;exact Qm9
def Q4l:List V→Hp→VK→Prop:=fun xs H Q=>∃ x c t,xs=[x,.ty c]∧Is H x t∧Qdv t=false∧c∈["int","bool","tuple","list","dict","str"]∧Q (.bl (Qlv (tyT t) c)) H
theorem Q97:CallR X (.builtin "isinstance") Q4l:=Qwa
theorem kAdd (K:PySem.W.Frag) (hK:X.K=K):OpR X (binaryOp .Add) (Qnx K):=by subst hK;exact uAdd
theorem kIx (K:PySem.W.Frag) (hK:X.K=K):IxR X (rIx K):=by subst hK;exact Q6f
theorem kSl (K:PySem.W.Frag) (hK:X.K=K):SlR X (Qyg K):=by subst hK;exact uSl
theorem kSeq (K:PySem.W.Frag) (hK:X.K=K) {tg l:Expr} {tl:TE} (hl:PE X l tl):PI X tg l (Qsy K tl):=by subst hK;exact Q6l hl
theorem kTup (K:PySem.W.Frag) (hK:X.K=K) {es:List Expr} {k:Nat} {t:TGs} {n:Nat} {pos:Pos} (hc:X.calm=true) (h:PGs X es t)
  (hn:(assignEach es X.env).length=n:=by rfl) (hst:(assignEach es X.env).findIdx? (·.1)=none:=by rfl):PG X (.Tuple es k pos) (Qxq K n t):=by subst hK;exact Q5w hc h hn hst
theorem Qyn (K:PySem.W.Frag) (hK:X.K=K):MtM X "list.extend" (Qg2 K):=by subst hK;exact Qsx
theorem kBm (K:PySem.W.Frag) (hK:X.K=K) {T:String} {o e:Expr} {es:List Expr} {to:TE} {t:TA} {name:Str} {apos cpos:Pos} {id:String} {r:V→List V→Hp→VK→Prop} (pa:PlainAttrs T) (slot:Slot T name id) (hty:typeOf (.builtin id)=pure (.type "method_descriptor")) (hm:MtR X id r) (ho:PE X o to) (ha:PA X (e::es) t)
  (hbase:attributeBase o name X.env (eval o X.env)=eval o X.env:=by rfl)
  (hfew:((backTo cpos (starEach (e::es) X.env)).all (fun x=>!x.1)&&(backToKw cpos (keywordEach [] X.env)).all (fun x=>x.1.isSome)
   && decide ((e::es).length+([]:List Keyword).length+(if ([]:List Keyword).isEmpty then 0 else 1)<30))=true:=by rfl)
  (hline:(apos.endLine==cpos.line)=true:=by rfl) (hs:starEach (e::es) X.env=(false,eval e X.env)::starEach es X.env:=by rfl) (hplain:(backTo cpos (starEach es X.env)).any (·.1)=false:=by rfl) :
  PE X (.Call (.Attribute o name apos) (e::es) [] cpos) (tBM K T r to t):=by
 subst hK
 exact Q9u pa slot hty hm ho ha hbase hfew hline hs hplain
end
def Tups (H H':Hp):Prop:=∀ a xs,H a=some (.tup xs)→H' a=some (.tup xs)
def MkT (xs:List V) (H:Hp) (Q:VK):Prop:=xs.length≤sizeLine∧∀ p,H p=none→Q (.ref p) (upd H p (.tup xs))
def MkL (xs:List V) (H:Hp) (Q:VK):Prop:=xs.length≤sizeLine∧∀ p,H p=none→Q (.ref p) (upd H p (.lst xs))
abbrev Q98 (t:TA):TE:=fun σ H Q=>t σ H fun xs H1=>MkT xs H1 Q
abbrev Q4m (t:TA):TE:=fun σ H Q=>t σ H fun xs H1=>MkL xs H1 Q
structure QE (X:Cx) (e:Expr) (t:TE):Prop where
 h:PE X e t
structure QT (X:Cx) (e:Expr) (t:TT):Prop where
 h:PT X e t
structure QW (X:Cx) (e:Expr) (t:TT):Prop where
 h:PW X e t
structure QA (X:Cx) (es:List Expr) (t:TA):Prop where
 h:PA X es t
structure QS (X:Cx) (st:Stmt) (t:TS):Prop where
 h:PS X st t
structure QB (X:Cx) (st:List Stmt) (t:TS):Prop where
 h:PSs X st t
structure QI (X:Cx) (tg it:Expr) (t:TI):Prop where
 h:PI X tg it t
structure QG (X:Cx) (tg:Expr) (t:TG):Prop where
 h:PG X tg t
structure QGs (X:Cx) (tg:List Expr) (t:TGs):Prop where
 h:PGs X tg t
structure QC (X:Cx) (ifs:List Expr) (t:TT):Prop where
 h:PTs X ifs t
structure QO (X:Cx) (e:Option Expr) (t:TO):Prop where
 h:PO X e t
structure QOp (X:Cx) (f:Value→Value→Sem Value) (r:R2):Prop where
 h:OpR X f r
structure QUn (X:Cx) (f:Value→Sem Value) (r:V→Hp→VK→Prop):Prop where
 h:UnR X f r
structure QCl (X:Cx) (f:Value) (r:List V→Hp→VK→Prop):Prop where
 h:CallR X f r
structure QIx (X:Cx) (r:R2):Prop where
 h:IxR X r
structure QSl (X:Cx) (r:V→Option Int→Option Int→Hp→VK→Prop):Prop where
 h:SlR X r
structure QMt (X:Cx) (id:String) (r:V→List V→Hp→VK→Prop):Prop where
 h:MtR X id r
section
variable {X:Cx} {e a b:Expr} {es rest:List Expr} {te ta tb:TE} {t:TA} {tt uu tA tB':TT} {pos p p2:Pos} {x:Str}
theorem Qce (i:Nat) (hN:X.N[i]?=some x:=by rfl) (hv:Vis X.env.scope x:=by first | exact Or.inl rfl | exact Or.inr (Or.inl rfl) | exact Or.inr (Or.inr rfl)) (hd:(x==("__debug__" : Str))=false:=by decide)
  (hcd:(x==("__classdict__" : Str))=false:=by decide):QE X (.Name x pos) (Qh4 i):=⟨pv i hN hv hd hcd⟩
theorem Qny {i j}:QE X (.Constant (.int i) j pos) (tC (.int i)):=⟨Qxj⟩
theorem Q2k {b j}:QE X (.Constant (.bool b) j pos) (tC (.bl b)):=⟨Q9a⟩
theorem Q99 {j}:QE X (.Constant .none j pos) (tC .non):=⟨Q5k⟩
theorem Q4n {x j}:QE X (.Constant (.str x) j pos) (tC (.str x)):=⟨Qsp⟩
theorem Q6s {v:V} (h:∃ u,X.mg x=some u∧RelV v u) (hg:Gl X x:=by rfl) (hd:(x==("__debug__" : Str))=false:=by decide):QE X (.Name x pos) (tC v):=by
 obtain ⟨u,m,r⟩:=h
 exact ⟨Qt9 hg m r hd⟩
theorem Qk4 (T:String) (hm:X.mg x=none) (hv:bootBuiltins x=some (.type T)) (hg:Gl X x:=by rfl) (hn:x ≠ "__name__" := by decide) (hd:(x==("__debug__" : Str))=false:=by decide):QE X (.Name x pos) (tC (.ty T)):=⟨Q1j (v:=.ty T) hg hm hv rfl hn hd⟩
theorem Q2l {op:Operator} {r:R2} (ho:QOp X (binaryOp op) r) (ha:QE X a ta) (hb:QE X b tb):QE X (.BinOp a op b pos) (tOp r ta tb):=⟨Q9g ho.h ha.h hb.h⟩
theorem q_un {op:UnaryOp} {r:V→Hp→VK→Prop} (ho:QUn X (unaryOp op) r) (ha:QE X a ta):QE X (.UnaryOp op a pos) (tUn r ta):=⟨Q9h ho.h ha.h⟩
theorem Qaaa (ha:QE X a ta):QE X (.UnaryOp .Not a pos) (Q4d ta):=⟨Q5r ha.h⟩
theorem Qaab {op} (ha:QE X a ta):QE X (.BoolOp op [a] pos) ta:=⟨Q5p ha.h⟩
theorem Qaac (ha:QE X a ta) (hb:QE X (.BoolOp .And (b::rest) pos) tb):QE X (.BoolOp .And (a::b::rest) pos) (Q4c ta tb):=⟨Q5q ha.h hb.h⟩
theorem q_if {c:Expr} (hc:QT X c tA) (ha:QE X a ta) (hb:QE X b tb):QE X (.IfExp c a b pos) (tIf tA ta tb):=⟨Qxl hc.h ha.h hb.h⟩
theorem Qaad {op:CmpOp} {r:R2} (ho:QOp X (compareOp op) r) (ha:QE X a ta) (hb:QE X b tb) (hm:behindInMarks op b=false):QE X (.Compare a [op] [b] pos) (tOp r ta tb):=⟨Q1u ho.h ha.h hb.h hm⟩
theorem Qs0 {op:CmpOp} {r:R2} (ho:QOp X (compareOp op) r) (ha:QE X a ta) (hb:QE X b tb) (hm:behindInMarks op b=false):QT X (.Compare a [op] [b] pos) (Q4f (tOp r ta tb)):=⟨Q1v ho.h ha.h hb.h hm⟩
theorem Qyo (ha:QE X e te) (he:∀ whole,isTrue e X.env whole=(do let v ← whole;standAt e.pos;holding [v] (truthy v)):=by intro _;rfl):QT X e (tB te):=⟨Q5l ha.h he⟩
theorem Qyp (ha:QT X a tA):QT X (.UnaryOp .Not a pos) (Q9c tA):=⟨Q5o ha.h⟩
theorem q_wt (ha:QW X e tA):QT X e tA:=⟨ha.h.pt⟩
theorem Q2m (ha:QT X a tA):QW X (.BoolOp .And [a] pos) tA:=⟨Q1k ha.h⟩
theorem Qyq (ha:QT X a tA):QW X (.BoolOp .Or [a] pos) tA:=⟨Q5m ha.h⟩
theorem Q6t (ha:QT X a tA) (hb:QW X (.BoolOp .And (b::rest) pos) tB'):QW X (.BoolOp .And (a::b::rest) pos) (Q9b tA tB'):=⟨Q5n ha.h hb.h⟩
theorem Q4o (ha:QT X a tA) (hb:QW X (.BoolOp .Or (b::rest) pos) tB'):QW X (.BoolOp .Or (a::b::rest) pos) (tOr tA tB'):=⟨Q9d ha.h hb.h⟩
theorem Qbz:QA X [] Qv4:=⟨Qx0⟩
theorem Q7 (ha:QE X e te) (hr:QA X es t) (hs:Q9 e=true:=by rfl):QA X (e::es) (Qku te t):=⟨paC ha.h hr.h hs⟩
theorem Qaaf {x1} (h:QA X es t):QE X (.Tuple es x1 pos) (Q98 t):=⟨Qx1 h.h⟩
theorem Qqo (h:QA X es t):QE X (.List es pos) (Q4m t):=⟨Qx2 h.h⟩
variable {ts:List T} {u:T}
theorem Qaag {i j}:QE X (.Constant (.int i) j pos) (tTh (.int i)):=⟨Q2h⟩
theorem Qic {x j}:QE X (.Constant (.str x) j pos) (tTh (.str x)):=⟨Q6n⟩
theorem Qaah:QA X [] (Qo3 []):=⟨Q2i⟩
theorem Qfg (ha:QE X e (tTh u)) (hr:QA X es (Qo3 ts)) (hs:Q9 e=true:=by rfl):QA X (e::es) (Qo3 (u::ts)):=⟨Qyj ha.h hr.h hs⟩
theorem Qaai (h:QA X es (Qo3 ts)) (hz:Nat.ble ts.length 1000=true:=by rfl):QE X (.List es pos) (tTh (.lst ts)):=⟨Q6o h.h hz⟩
theorem Q2n {k:Str} {j} (h:QE X e (tTh u)):QE X (.Dict [some (.Constant (.str k) j p2)] [e] pos) (tTh (.dct [Sum.inr k] [u])):=⟨Qyk h.h⟩
theorem q_fn {ps:List Str} {k:Nat} {sp:Sp} (h:Has X.prog X.w X.K X.mg X.base x ps k sp) (hr:Room k X.A) (ha:QA X (e::es) t) (hg:Gl X x:=by rfl)
  (hdb:(x==("__debug__" : Str))=false:=by decide) (he:Q9 e=true:=by rfl) (hpl:(backTo pos (starEach es X.env)).any (·.1)=false:=by rfl):QE X (.Call (.Name x p) (e::es) [] pos) (Qqg sp [] E0 t):=⟨Qyh h hr ha.h hg hdb (Qb6 he) hpl⟩
theorem Qi9 {id:String} {r:List V→Hp→VK→Prop} (hc:QCl X (.builtin id) r) (hm:X.mg x=none) (hv:bootBuiltins x=some (.builtin id)) (ha:QA X (e::es) t) (hg:Gl X x:=by rfl) (hn:x ≠ "__name__" := by decide) (hdb:(x==("__debug__" : Str))=false:=by decide)
  (he:Q9 e=true:=by rfl) (hpl:(backTo pos (starEach es X.env)).any (·.1)=false:=by rfl):QE X (.Call (.Name x p) (e::es) [] pos) (tCB r t):=⟨Qx3 hc.h hg hm hv ha.h hn hdb (Qb6 he) hpl⟩
theorem Qaaj {T:String} {r:List V→Hp→VK→Prop} (hc:QCl X (.type T) r) (hm:X.mg x=none) (hv:bootBuiltins x=some (.type T)) (ha:QA X (e::es) t) (hg:Gl X x:=by rfl) (hn:x ≠ "__name__" := by decide) (hdb:(x==("__debug__" : Str))=false:=by decide)
  (he:Q9 e=true:=by rfl) (hpl:(backTo pos (starEach es X.env)).any (·.1)=false:=by rfl):QE X (.Call (.Name x p) (e::es) [] pos) (tCB r t):=⟨Qv6 hc.h hg hm hv ha.h hn hdb (Qb6 he) hpl⟩
theorem Qs1 (K:PySem.W.Frag) (hK:X.K=K) {T:String} {o:Expr} {to:TE} {name:Str} {apos cpos:Pos} {id:String} {r:V→List V→Hp→VK→Prop} (pa:PlainAttrs T) (slot:Slot T name id) (hty:typeOf (.builtin id)=pure (.type "method_descriptor")) (hm:QMt X id r) (ho:QE X o to) (ha:QA X (e::es) t)
  (hbase:attributeBase o name X.env (eval o X.env)=eval o X.env:=by rfl)
  (hfew:((backTo cpos (starEach (e::es) X.env)).all (fun x=>!x.1)&&(backToKw cpos (keywordEach [] X.env)).all (fun x=>x.1.isSome)
   && decide ((e::es).length+([]:List Keyword).length+(if ([]:List Keyword).isEmpty then 0 else 1)<30))=true:=by rfl)
  (hline:(apos.endLine==cpos.line)=true:=by rfl) (hs:Q9 e=true:=by rfl) (hplain:(backTo cpos (starEach es X.env)).any (·.1)=false:=by rfl) :
  QE X (.Call (.Attribute o name apos) (e::es) [] cpos) (tBM K T r to t):=⟨kBm K hK pa slot hty hm.h ho.h ha.h hbase hfew hline (Qb6 hs) hplain⟩
theorem Q6u {r:R2} (hr:QIx X r) (ha:QE X a ta) (hb:QE X b tb) (hs:Qlb b:=by exact fun _ _=>rfl):QE X (.Subscript a b pos) (tOp r ta tb):=⟨Q9p hr.h ha.h hb.h hs⟩
theorem q_sl {r:V→Option Int→Option Int→Hp→VK→Prop} {lo hi:Option Expr} {tl th:TO} (hr:QSl X r) (he:QE X e te) (hl:QO X lo tl) (hu:QO X hi th):QE X (.Subscript e (.Slice lo hi none p2) pos) (tSl r te tl th):=⟨Qx4 hr.h he.h hl.h hu.h⟩
theorem q_no:QO X none Quf:=⟨Q1z⟩
theorem Qs2 (h:QE X e te):QO X (some e) (Qug te):=⟨Q10 h.h⟩
variable {tg:Expr}
theorem Qyr (K:PySem.W.Frag) (hK:X.K=K) (hl:QE X e te):QI X tg e (Qsy K te):=⟨kSeq K hK hl.h⟩
theorem Q6v (hm:X.mg "range" = none) (ha:QA X [a] t) (hg:Gl X "range" := by rfl) (hs:Q9 a=true:=by rfl):QI X tg (.Call (.Name "range" p) [a] [] pos) (Q4e t):=⟨Qvy hg hm ha.h (Qb6 hs)⟩
theorem Qae {i:Nat} (hN:X.N.Nodup) (hi:X.N[i]?=some x:=by rfl) (hx:Loc X.env.scope x:=by first | exact Or.inl rfl | exact Or.inr rfl) (hf:X.fn x=true∨X.env.scope.names.lookup x=some .local:=by first | exact .inl rfl | exact .inr rfl | exact .inl (by decide +kernel)):QG X (.Name x pos) (Qgo i):=⟨Q1o hN hi hx hf⟩
theorem Qj8:QGs X [] Q1p:=⟨Q1q⟩
theorem Qda {es:List Expr} {t:TG} {u:TGs} (h1:QG X e t) (h2:QGs X es u) (hs:(assignEach (e::es) X.env).map (·.2)=assign e X.env::(assignEach es X.env).map (·.2):=by rfl):QGs X (e::es) (Qqf t u):=⟨Qxp h1.h h2.h hs⟩
theorem Qj9 (K:PySem.W.Frag) (hK:X.K=K) {es:List Expr} {k:Nat} {t:TGs} {n:Nat} (hc:X.calm=true) (h:QGs X es t) (hn:(assignEach es X.env).length=n:=by rfl) (hst:(assignEach es X.env).findIdx? (·.1)=none:=by rfl):QG X (.Tuple es k pos) (Qxq K n t):=⟨kTup K hK hc h.h hn hst⟩
theorem Qka {o i:Expr} {to ti:TE} (ho:QE X o to) (hi:QE X i ti)
  (ha:∀ v,assign (.Subscript o i pos) X.env v=(do
   let ov ← holding [v] (eval o X.env)
   let iv ← holding [v,ov] (eval i X.env)
   standAt pos
   holding [v,ov,iv] (setItem ov iv v)
   release [v,ov,iv] []):=by intro _;rfl):QG X (.Subscript o i pos) (Qxr to ti Qnu):=⟨Q5x ho.h hi.h Qx5 ha⟩
theorem q_c0:QC X [] Q93:=⟨Q2c⟩
theorem Qys {elt iter:Expr} {ifs:List Expr} {scope:Scope} (N:List Str) (js:List (Option Nat)) {wi:TI} {g:TG} {tc:TT} (hcalm:X.calm=true)
  (hi:QI X tg iter wi) (hg:∀ s H fp,QG (Qac X scope N s H fp) tg g) (hc:∀ s H fp,QC (Qac X scope N s H fp) ifs tc) (he:∀ s H fp,QE (Qac X scope N s H fp) elt te)
  (hk:scope.kind=.function:=by rfl) (h1:scOk X scope=true:=by rfl) (h2:Qg1 X scope N js=true:=by rfl)
  (hs:∀ x,foldedSetIterable iter X.env x=pure x:=by intro _;rfl):QE X (.ListComp elt [⟨tg,iter,ifs,0⟩] scope pos) (Qnw wi js g tc te):=⟨Qyc hcalm hi.h (fun s H fp=>(hg s H fp).h) (fun s H fp=>(hc s H fp).h) (fun s H fp=>(he s H fp).h) hk h1 h2 hs⟩
variable {st:Stmt} {sts:List Stmt} {t1 t2:TS}
theorem Qo5:QB X [] Qxm:=⟨Q1l⟩
theorem Qei (h1:QS X st t1) (h2:QB X sts t2):QB X (st::sts) (Qxn t1 t2):=⟨Qxo h1.h h2.h⟩
theorem Qij (h1:QS X st t1):QB X [st] t1:=⟨Q1m h1.h⟩
theorem Qkb (he:QE X e te) (hs:swapsWith e none pos.line X.env=pure false:=by rfl):QS X (.Expr e pos) (Qua te):=⟨Q1n he.h hs⟩
theorem Qlw (he:QE X e te):QS X (.Return (some e) pos) (Q5s te):=⟨Q5t he.h⟩
theorem Qui {c:Expr} {bs cs:List Stmt} (hc:QT X c tt) (ha:QB X bs t1) (hb:QB X cs t2):QS X (.If c bs cs pos) (Q5u tt t1 t2):=⟨Q9e hc.h ha.h hb.h⟩
theorem Q4p {iter:Expr} {body:List Stmt} {wi:TI} {g:TG} (hp:PassesOwn (model X.prog X.w) X.A X.env X.xe) (hc:X.calm=true) (hi:QI X tg iter wi) (hg:QG X tg g) (hb:QB X body t1)
  (hs:∀ x,foldedSetIterable iter X.env x=pure x:=by intro _;rfl):QS X (.For tg iter body [] pos) (Q1r wi g t1):=⟨Q50 hp hc hi.h hg.h hb.h hs⟩
theorem Qbi {i:Nat} (hN:X.N.Nodup) (he:QE X e te) (hi:X.N[i]?=some x:=by rfl) (hx:Loc X.env.scope x:=by first | exact Or.inl rfl | exact Or.inr rfl) (hs:swapsWith e (some (.Name x p2)) pos.line X.env=pure false:=by rfl) (hf:X.fn x=true∨X.env.scope.names.lookup x=some .local:=by first | exact .inl rfl | exact .inr rfl) :
  QS X (.Assign [.Name x p2] e pos) (Qlo te (Qgo i)):=⟨Q5z hN hi hx he.h hs hf⟩
theorem Qnz {g:TG} (he:QE X e te) (hg:QG X tg g) (hs:swapsWithSole [tg] e pos.line X.env=pure false:=by rfl) (hw:swappedStores [tg] e X.env=pure none:=by rfl)
  (h1:(assignEach [tg] X.env).map (·.2)=[assign tg X.env]:=by rfl):QS X (.Assign [tg] e pos) (Qlo te g):=⟨Q5y he.h hg.h hs hw h1⟩
theorem Q2o {c:Expr} {body:List Stmt} (hp:PassesOwn (model X.prog X.w) X.A X.env X.xe) (hc:QT X c tt) (hb:QB X body t1):QS X (.While c body [] pos) (Qxs tt t1):=⟨Qxt hp hc.h hb.h⟩
theorem Quj (K:PySem.W.Frag) (hK:X.K=K):QOp X (binaryOp .Add) (Qnx K):=⟨kAdd K hK⟩
theorem Qaal:QOp X (binaryOp .Sub) (rI0 fun i j=>.int (i-j)):=⟨Q55⟩
theorem Qaam:QOp X (binaryOp .Pow) (rI Q53 fun i j=>.int (i^j.toNat)):=⟨Q57⟩
theorem Qaan:QUn X (unaryOp .USub) (rU fun i=>.int (-i)):=⟨Q58⟩
theorem o_eq:QOp X (compareOp .Eq) rEq:=⟨Q9j⟩
theorem o_ne:QOp X (compareOp .NotEq) rNe:=⟨Q9k⟩
theorem Q6w:QOp X (compareOp .Lt) (rI0 fun i j=>.bl (decide (i<j))):=⟨Q9l⟩
theorem o_gt:QOp X (compareOp .Gt) (rI0 fun i j=>.bl (decide (j<i))):=⟨Q9m⟩
theorem o_ge:QOp X (compareOp .GtE) (rI0 fun i j=>.bl (decide (j≤i))):=⟨Q9n⟩
def rIsN:R2:=fun x y H Q=>y=.non∧Q (.bl (decide (x=.non))) H
def Q4q:R2:=fun x y H Q=>y=.non∧Q (.bl (!decide (x=.non))) H
theorem Qaaq:QOp X (compareOp .Is) rIsN:=⟨Q6a⟩
theorem Q6x:QOp X (compareOp .IsNot) Q4q:=⟨Q1t⟩
theorem Q6y (K:PySem.W.Frag) (hK:X.K=K):QIx X (rIx K):=⟨kIx K hK⟩
theorem o_sl (K:PySem.W.Frag) (hK:X.K=K):QSl X (Qyg K):=⟨kSl K hK⟩
theorem Qja:QMt X "list.append" Qlc:=⟨Qj3⟩
theorem Qwb (K:PySem.W.Frag) (hK:X.K=K):QMt X "list.extend" (Qg2 K):=⟨Qyn K hK⟩
theorem Q6z:QCl X (.builtin "isinstance") Q4l:=⟨Q97⟩
theorem Qc3 (K:PySem.W.Frag) (hK:X.K=K):QCl X (.builtin "len") (Q6p K):=⟨kLen K hK⟩
theorem Qlx (K:PySem.W.Frag) (hK:X.K=K) (hc:X.calm=true:=by rfl):QCl X (.builtin "all") (Q6q K):=⟨kAll K hK hc⟩
theorem Q4r (K:PySem.W.Frag) (hK:X.K=K) (hc:X.calm=true:=by rfl):QCl X (.builtin "sum") (Qym K):=⟨Q96 K hK hc⟩
theorem Q60 (K:PySem.W.Frag) (hK:X.K=K) (hc:X.calm=true:=by rfl):QCl X (.builtin "max") (Qyl K):=⟨Q95 K hK hc⟩
def Q4s:List V→Hp→VK→Prop:=fun xs H Q=>∃ i j,xs=[.int i,.int j]∧Q (.int (if j>i then j else i)) H
theorem Q61 (hc:X.calm=true:=by rfl):QCl X (.builtin "max") Q4s:=⟨Qv0 hc⟩
def rAbs:List V→Hp→VK→Prop:=fun xs H Q=>∃ i,xs=[.int i]∧Q (.int (if i<0 then -i else i)) H
theorem Q4t:QCl X (.builtin "abs") rAbs:=⟨Qxz⟩
def rDvm:List V→Hp→VK→Prop:=fun xs H Q=>∃ i j,xs=[.int i,.int j]∧CDv i j∧∀ p,H p=none→Q (.ref p) (upd H p (.tup [.int (i / j),.int (i%j)]))
theorem Qaau:QCl X (.builtin "divmod") rDvm:=⟨Qyf⟩
def Q4u:List V→Hp→VK→Prop:=fun xs H Q=>(∃ i,xs=[.int i]∧Q (.int i) H)∨∃ k,xs=[.bl k]∧Q (.int (if k then 1 else 0)) H
theorem Qyt:QCl X (.type "int") Q4u:=⟨Qv1⟩
theorem Qyu (K:PySem.W.Frag) (hK:X.K=K):QCl X (.type "list") (Qo4 K):=⟨Q2j K hK⟩
theorem Qb4 (K:PySem.W.Frag) (hK:X.K=K):QCl X (.type "tuple") (Qsz K):=⟨Q6r K hK⟩
end
section
variable {P:Program} {w:World} {K:PySem.W.Frag} {mg:Str→Option Value} {base:Heap}
theorem Qaav {x:Str} {st:Stmt} {N ps:List Str} {k:Nat} {sp:Sp} (d:Dfn K mg x st) (S:FnScope N ps (Qf st)) (bd:Qaf x st ps) (len:∀ vs H Q E,sp vs H Q E→vs.length=ps.length)
  (hbody:∀ (f:Addr) (cdv:Value) (A:Around) (outer:List Env) (s:Shared) (H:Hp) (vs:List V) (Q:VK) (E:XK),Room k (A.deeper (envOfC x (Qf st) s.heap.objs.size f cdv))→sp vs H Q E →
   ∃ t,QB (Qh5 (fun _=>true) CX0 P w K mg base N x (Qf st) f cdv A outer s H E).nox (Qaj st) t∧t { nx:=fun _ H'=>Q .non H',rt:=Q } (Qbt N vs) H):Has P w K mg base x ps (k+1) sp :=
 Q6m d S bd len fun f cdv A outer s H vs Q E hr hs=>let ⟨t,a,b⟩:=hbody f cdv A outer s H vs Q E hr hs;⟨t,a.h,b⟩
end
open Classical in
noncomputable def dls (H:Hp) (S:Addr→Prop):Hp:=fun b=>if S b then none else H b
theorem Qca {H:Hp} {S:Addr→Prop} {b:Addr} (h:¬ S b):dls H S b=H b:=by unfold dls;rw [if_neg h]
theorem Q2 {H:Hp} {S:Addr→Prop} {b:Addr} {o:HO} (e:dls H S b=some o):¬ S b∧H b=some o:=by
 unfold dls at e
 by_cases h:S b
 ·rw [if_pos h] at e;cases e
 ·rw [if_neg h] at e;exact ⟨h,e⟩
theorem Qyv (H:Hp) (S:Addr→Prop):Same (dls H S) H:=fun b o e=>(Q2 e).2
theorem Qbh {S:Addr→Prop} {H H':Hp} (s:Same H H'):Same (dls H S) (dls H' S):=fun b o e=>by
 obtain ⟨n,e⟩:=Q2 e
 rw [Qca n];exact s b o e
theorem Qdl {S S':Addr→Prop} {H:Hp} (h:∀ b,S b→S' b):Same (dls H S') (dls H S):=fun b o e=>by
 obtain ⟨n,e⟩:=Q2 e
 rw [Qca fun z=>n (h b z)];exact e
noncomputable def Q62:HO→Bool
 | .lst _=>true
 | .dT _=>true
 | _=>false
def Pen (H:Hp) (S:Addr→Prop):Prop:=∀ b,S b→∃ o,H b=some o∧Q62 o=true
theorem Pen.mono {H H':Hp} {S:Addr→Prop} (h:Pen H S) (s:Same H H'):Pen H' S:=fun b hb=>by
 obtain ⟨xs,e,p⟩:=h b hb
 exact ⟨xs,s _ _ e,p⟩
theorem Pen.new {H:Hp} {S:Addr→Prop} {q:Addr} (h:Pen H S) (hq:H q=none):¬ S q:=fun z=>by
 obtain ⟨xs,e,_⟩:=h q z
 rw [hq] at e;cases e
theorem Qyw {H:Hp} {S:Addr→Prop} (h:Pen H S):Tups H (dls H S):=fun a ys e=>by
 rw [Qca fun z=>by
  obtain ⟨xs,e',p⟩:=h a z
  rw [e] at e';cases e';cases p]
 exact e
section
variable {K:PySem.W.Frag} {H:Hp} {S:Addr→Prop} {x y:V} {ts us:List T} {Q:VK}
theorem Qwc {H':Hp} {a:Addr} {vs:List V} (hp:Pen H' S) (e:H' a=some (.tup vs)):dls H' S a=some (.tup vs):=Qyw hp a vs e
theorem Qf1 {a:Addr} {vs:List V} (hp:Pen H S) (e:H a=some (.tup vs)) (r:IsL (dls H S) vs ts) (z:ts.length≤100000):Is (dls H S) (.ref a) (.tup ts):=.tup (Qwc hp e) r z
noncomputable def Qf2 (ts:List T) (lo hi:Option Int):List T:=(ts.drop (HT.sIx ts.length 0 lo)).take (HT.sIx ts.length ts.length hi-HT.sIx ts.length 0 lo)
theorem Qqp (ts:List T) (lo hi:Option Int):(Qf2 ts lo hi).length≤ts.length:=by
 unfold Qf2
 rw [length_take,length_drop]
 omega
theorem IsL.cut {D:Hp} {vs:List V} (r:IsL D vs ts) (lo hi:Option Int):IsL D (Qgz vs lo hi) (Qf2 ts lo hi):=by
 unfold Qgz Qf2
 rw [r.length]
 exact (r.drop _).take _
theorem Qyx {lo hi:Option Int} (hp:Pen H S) (it:Is (dls H S) x (.tup ts)) (k:∀ y H',Same H H'→Is (dls H' S) y (.tup (Qf2 ts lo hi))→Q y H'):Qyg K x lo hi H Q:=by
 obtain ⟨a,vs,rfl,ha,r⟩:=it.tup_inv
 refine .inr ⟨a,vs,rfl,(Q2 ha).2,fun q H' s' e' _=>k _ H' s' (Qf1 (hp.mono s') e' ((r.cut lo hi).mono (Qbh s')) ?_)⟩
 have:=Qqp ts lo hi
 have:=it.tup_len
 omega
theorem Q63 (hp:Pen H S) (ix:Is (dls H S) x (.tup ts)) (iy:Is (dls H S) y (.tup us)) (hz:ts.length+us.length≤100000) (k:∀ z H',Same H H'→Is (dls H' S) z (.tup (ts++us))→Q z H'):Qnx K x y H Q:=by
 obtain ⟨a,vs,rfl,ha,r⟩:=ix.tup_inv
 obtain ⟨b,ws,rfl,hb,r2⟩:=iy.tup_inv
 refine .inr (.inr ⟨a,b,vs,ws,rfl,rfl,(Q2 ha).2,(Q2 hb).2,Qcp (by rw [r.length,r2.length];exact hz),fun q H' s' e' _=>k _ H' s' (Qf1 (hp.mono s') e' ((r.append r2).mono (Qbh s')) (by rw [length_append];exact hz))⟩)
theorem Q64 {vs:List V} (hp:Pen H S) (r:IsL (dls H S) vs ts) (hz:ts.length≤100000) (k:∀ z H',Same H H'→Is (dls H' S) z (.tup ts)→Q z H'):MkT vs H Q :=
 ⟨Qcp (by rw [r.length];exact hz),fun q hq=>k _ _ (Same.upd hq) (Qf1 (hp.mono (Same.upd hq)) Qp (r.mono (Qbh (Same.upd hq))) hz)⟩
theorem Q65 {vs:List V} (hp:Pen H S) (r:IsL (dls H S) vs ts) (hz:ts.length≤100000) (k:∀ l H',Same H H'→H l=none→H' l=some (.lst vs)→Is (dls H' S) (.ref l) (.lst ts)→Q (.ref l) H'):MkL vs H Q :=
 ⟨Qcp (by rw [r.length];exact hz),fun q hq=>k _ _ (Same.upd hq) hq Qp (.lst (by rw [Qca (hp.new hq),Qp]) (r.mono (Qbh (Same.upd hq))) hz)⟩
theorem Q66 {t:T} {v:V} {H':Hp} (hp:Pen H S) (r:Is (frp H H') v t):Is (dls H' S) v t:=by
 refine r.mono fun b o e=>?_
 obtain ⟨a,c⟩:=Qg3 e
 rw [Qca fun z=>by
  obtain ⟨xs,e',_⟩:=hp b z
  rw [a] at e';cases e']
 exact c
def Sm (D:Hp) (x:V):Prop:=∃ t,Is D x t
end
structure Raw (fs:List Addr) (g:Heap) (H:Hp) (h h':Heap):Prop where
 keep:∀ b o,h.get? b=some o→((∃ u,g.get? b=some u)∨H b≠none)→b∉fs→h'.get? b=some o
 slot:∀ b o,h.get? b=some o→((∃ u,g.get? b=some u)∨H b≠none)→∃ sl,h'.get? b=some { o with slots:=sl }
 size:h.objs.size≤h'.objs.size
theorem Raw.refl (fs:List Addr) (g:Heap) (H:Hp) (h:Heap):Raw fs g H h h:=⟨fun _ _ e _ _=>e,fun _ o e _=>⟨o.slots,e⟩,Nat.le_refl _⟩
theorem Raw.trans {fs:List Addr} {g:Heap} {H:Hp} {h h1 h2:Heap} (a:Raw fs g H h h1) (b:Raw fs g H h1 h2):Raw fs g H h h2 where
 keep:=fun c o e p q=>b.keep c o (a.keep c o e p q) p q
 slot:=fun c o e p=>by
  obtain ⟨sl,e1⟩:=a.slot c o e p
  obtain ⟨sl',e2⟩:=b.slot c _ e1 p
  exact ⟨sl',e2⟩
 size:=Nat.le_trans a.size b.size
def XObj (H:Hp) (h:Heap) (g:Heap) (e:Addr) (cls:Value) (dx:Option Addr):Prop :=
 g.get? e=none∧H e=none∧∃ oe vs,h.get? e=some oe∧oe.cls=cls∧oe.dict=dx∧oe.data=.fields vs∧1<vs.size ∧
  (vs[1]?=some .none∨∃ T oT ts,vs[1]?=some (.ref T)∧T≠e∧g.get? T=none∧H T=none∧h.get? T=some oT∧oT.data=.fields ts∧3<ts.size)
section
variable {M:Model} {A:Around} {E:Value→Shared→Prop} {s:Shared} {H:Hp} {g:Heap} {e L:Addr} {cls:Value} {dx:Option Addr} {env:Env} {outer:List Env} {base:Heap} {Q:Unit→Shared→Prop}
theorem Qo6 {fs:List Addr} {h:Heap} {a:Addr} {f:Obj→Obj} (ha:g.get? a=none) (hH:H a=none):Raw fs g H h (h.update a f):=by
 have ne:∀ b,((∃ u,g.get? b=some u)∨H b≠none)→a≠b:=fun b p z=>by
  subst z
  rcases p with p | p
  ·obtain ⟨u,q⟩:=p
   rw [ha] at q;cases q
  ·exact p hH
 refine ⟨fun b o e p _=>?_,fun b o e p=>⟨o.slots,?_⟩,?_⟩
 ·rw [Heap.get?_update_other _ _ (ne b p)];exact e
 ·rw [Heap.get?_update_other _ _ (ne b p)];exact e
 ·exact Nat.le_of_eq (by rw [Heap.size_update])
theorem Qyy {fs:List Addr} {h:Heap} {o:Obj}:Raw fs g H h (h.push o) :=
 ⟨fun _ _ e _ _=>Heap.get?_push_of_some _ e,fun _ u e _=>⟨u.slots,Heap.get?_push_of_some _ e⟩,by rw [Heap.size_push];omega⟩
theorem Qwd {fs:List Addr} {h h':Heap} (x:Heap.SlotsOnly fs h h'):Raw fs g H h h' :=
 ⟨fun b o e _ q=>(x.2.1 b q).trans e,fun b o e _=>x.2.2 b o e,Nat.le_of_eq x.1.symm⟩
theorem Qn0 {hd0:Value} {nx:Bool} (hfr:A.frames=some (env::outer)) (hl:s.heap.FunFrames base (env::outer)) (hf:env.frame=some L) (fresh:∀ b,s.heap.objs.size≤b→H b=none) (hn:∀ b o,g.get? b=some o→b<s.heap.objs.size)
  (X:XObj H s.heap g e cls dx) (h:∀ h',XObj H h' g e cls dx→Raw (frs (env::outer)) g H s.heap h'→Q () { s with heap:=h' }) :
  wpAny M A (do let a ← frameOf env;let pl ← entryPlaceOf L nx;let b ← EntryCells.newEntry hd0 a .none (rawInt L) .none pl;setField (.ref e) 1 b) Q E s:=by
 obtain ⟨hne,hHe,oe,vs,he,hc,hdx,hd,hsz,_⟩:=X
 have nofr:e∉frs (env::outer):=fun hm=>by
  obtain ⟨_,o,ho,hnf⟩:=hl.mem hm
  rw [he] at ho;cases ho;exact hnf vs hd
 refine wpAny_bind (wpAny_frameOf_fun hfr hl hf fun h1 hs1=>wpAny_bind (wpAny_entryPlaceOf fun pl hpl=>?_))
 unfold EntryCells.newEntry newFields
 refine wpAny_bind (wpAny_newObj_type ?_ (hpl.sizeOk5 _ _ _ _ _))
 have he1:h1.get? e=some oe:=(hs1.2.1 e nofr).trans he
 have sz1:h1.objs.size=s.heap.objs.size:=hs1.1
 generalize hob:({ cls:=.type "traceback",dict:=none,data:=.fields ([hd0,.ref L,.none,rawInt L,.none]++(if pl.isEmpty then List.replicate 6 Value.none else pl)).toArray }:Obj)=ob
 have he2:(h1.push ob).get? e=some oe:=Heap.get?_push_of_some _ he1
 have hTe:h1.objs.size≠e:=Nat.ne_of_gt (Heap.lt_size he1)
 have dd:=Obj.data_mapFields hd (·.setIfInBounds 1 (Value.ref h1.objs.size))
 refine wpAny_setField he2 hd hsz (h _ ?_ (((Qwd hs1).trans Qyy).trans (Qo6 hne hHe)))
 refine ⟨hne,hHe,_,_,Heap.get?_update_self _ he2 (Obj.isFreed_of_fields dd),(Obj.cls_mapFields _ _).trans hc,?_,dd,by simpa using hsz,.inr ⟨h1.objs.size,ob,_,by simp [hsz],hTe,?_,fresh _ (by omega),?_,by rw [←hob],?_⟩⟩
 ·rw [←hdx]
  cases oe
  subst hd
  rfl
 ·cases z:g.get? h1.objs.size with
  | none=>rfl
  | some o=>exact absurd (hn _ _ z) (by rw [sz1];exact Nat.lt_irrefl _)
 ·rw [Heap.get?_update_other _ _ (Ne.symm hTe)]
  exact Heap.get?_push_size h1 (by rw [←hob];rfl)
 ·simp only [size_toArray,length_append,length_cons,length_nil]
  omega
theorem Qqq (hfr:A.frames=some (env::outer)) (hl:s.heap.FunFrames base (env::outer)) (hf:env.frame=some L) (fresh:∀ b,s.heap.objs.size≤b→H b=none) (hn:∀ b o,g.get? b=some o→b<s.heap.objs.size)
  (X:XObj H s.heap g e cls dx) (h:∀ h',XObj H h' g e cls dx→Raw (frs (env::outer)) g H s.heap h'→Q () { s with heap:=h' }) :
  wpAny M A (noteFrame (.ref e) env) Q E s:=by
 obtain ⟨hne,hHe,oe,vs,he,hc,hdx,hd,hsz,h1⟩:=id X
 unfold noteFrame
 simp only [hf]
 rcases h1 with h1 | ⟨T,oT,ts,h1,hTe,hnT,hHT,hT,hdT,h3⟩
 ·refine wpAny_bind (wpAny_field he hd h1 ?_)
  rw [if_neg (by decide)]
  exact Qn0 hfr hl hf fresh hn X h
 ·refine wpAny_bind (wpAny_field he hd h1 ?_)
  rw [if_pos (by simp)]
  refine wpAny_bind (wpAny_field hT hdT (Array.getElem?_eq_getElem h3) ?_)
  by_cases hz:(ts[3]==rawInt L)=true
  ·rw [if_pos hz]
   exact wpAny_pure (h _ X (Raw.refl _ _ _ _))
  ·rw [if_neg hz]
   refine wpAny_bind (wpAny_setField hT hdT h3 ?_)
   have rw1:Raw (frs (env::outer)) g H s.heap (s.heap.update T (Obj.mapFields (·.setIfInBounds 3 Value.none))):=Qo6 hnT hHT
   have oth:∀ b,b≠T→(s.heap.update T (Obj.mapFields (·.setIfInBounds 3 Value.none))).get? b=s.heap.get? b:=fun b hb=>Heap.get?_update_other _ _ (Ne.symm hb)
   have dT:=Obj.data_mapFields hdT (·.setIfInBounds 3 Value.none)
   refine Qn0 (s:={ s with heap:=s.heap.update T (Obj.mapFields (·.setIfInBounds 3 Value.none)) }) hfr (hl.of_keeps fun b o hb hnf=>⟨o,(oth b ?_).trans hb,rfl⟩) hf (fun b hb=>fresh b (Nat.le_trans rw1.size hb)) (fun b o q=>Nat.lt_of_lt_of_le (hn b o q) rw1.size)
    ⟨hne,hHe,oe,vs,(oth e (Ne.symm hTe)).trans he,hc,hdx,hd,hsz,.inr ⟨T,_,_,h1,hTe,hnT,hHT,Heap.get?_update_self _ hT (Obj.isFreed_of_fields dT),dT,by simpa using h3⟩⟩ fun h' x r=>h h' x (rw1.trans r)
   intro z
   rw [z,hT] at hb
   cases hb
   exact hnf ts hdT
theorem Qik {fs:List Addr} (X:XObj H s.heap g e cls dx) (h:∀ h',XObj H h' g e cls dx→Raw fs g H s.heap h'→Q () { s with heap:=h' }):wpAny M A (setFlight (.ref e) none) Q E s:=by
 obtain ⟨hne,hHe,oe,vs,he,hc,hdx,hd,hsz,h1⟩:=id X
 unfold setFlight
 rcases h1 with h1 | ⟨T,oT,ts,h1,hTe,hnT,hHT,hT,hdT,h3⟩
 ·refine wpAny_bind (wpAny_field he hd h1 ?_)
  rw [if_neg (by decide)]
  exact wpAny_pure (h _ X (Raw.refl _ _ _ _))
 ·refine wpAny_bind (wpAny_field he hd h1 ?_)
  rw [if_pos (by simp)]
  have dT:=Obj.data_mapFields hdT (·.setIfInBounds 3 Value.none)
  refine wpAny_setField hT hdT h3 (h _ ⟨hne,hHe,oe,vs,?_,hc,hdx,hd,hsz,.inr ⟨T,_,_,h1,hTe,hnT,hHT,Heap.get?_update_self _ hT (Obj.isFreed_of_fields dT),dT,by simpa using h3⟩⟩ (Qo6 hnT hHT))
  rw [Heap.get?_update_other _ _ hTe]
  exact he
theorem Qwe (hfr:A.frames=some (env::outer)) (hl:s.heap.FunFrames base (env::outer)) (hf:env.frame=some L) (fresh:∀ b,s.heap.objs.size≤b→H b=none) (hn:∀ b o,g.get? b=some o→b<s.heap.objs.size)
  (X:XObj H s.heap g e cls dx) (h:∀ h',XObj H h' g e cls dx→Raw (frs (env::outer)) g H s.heap h'→Q () { s with heap:=h' }) :
  wpAny M A (leaving env (.ref e)) Q E s:=by
 unfold leaving
 exact wpAny_bind (Qqq hfr hl hf fresh hn X fun h1 x1 r1=>Qik x1 fun h2 x2 r2=>h h2 x2 (r1.trans r2))
end
def CXE (P:Program) (w:World):CXT:=fun outer H s E e s'=>∃ a cls dx H',e=.ref a∧s'.os=s.os∧AllBare s'.gens∧Un (frs outer) [] H H' s.heap s'.heap∧HOk P w H' s'.heap∧XObj H' s'.heap s.heap a cls dx∧E cls dx H'
noncomputable abbrev XR:=Value→Option Addr→St→Hp→Prop
def Qe6 (X:Cx) (R:XR):Prop:=∀ (pins:List (Addr×Obj)) (σ:St) (H:Hp) (s:Shared) (e:Value) (s':Shared),Inv X pins σ H s→CXE X.prog X.w X.stack H s (fun cls dx H'=>R cls dx σ H') e s'→X.xe e s'
section
variable {P:Program} {w:World} {H H0:Hp} {h h' h0 g:Heap} {fs fs':List Addr}
theorem Raw.hok (r:Raw fs g H h h') (ok:HOk P w H h) (hf:∀ b∈fs,H b=none):HOk P w H h':=fun a o e=>by
 have ht:∀ b u,H b=some u→((∃ u,g.get? b=some u)∨H b≠none)∧b∉fs:=fun b u q=>⟨.inr (by rw [q];simp),fun z=>by rw [hf b z] at q;cases q⟩
 refine (ok a o e).stay (fun b u hb q=>?_) (fun _ q=>q) fun _ _ q=>q
 rcases hb with rfl | hb
 ·exact r.keep _ u q (ht _ _ e).1 (ht _ _ e).2
 ·exact r.keep _ u q (ht _ _ hb).1 (ht _ _ hb).2
theorem Raw.un (r:Raw fs' g H h h') (u:Un fs [] H0 H h0 h) (hg:∀ b o,h0.get? b=some o→∃ v,g.get? b=some v) (hs:∀ b∈fs',b∈fs∨h0.objs.size≤b):Un fs [] H0 H h0 h' where
 keep:=fun b o e n hb hx=>r.keep b o (u.keep b o e n hb hx) (.inl (hg b o e)) fun z=>by
  rcases hs b z with z | z
  ·exact hb z
  ·exact absurd (Nat.lt_of_lt_of_le (Heap.lt_size e) z) (Nat.lt_irrefl _)
 slot:=fun b o e n hb hx=>by
  obtain ⟨sl,q⟩:=u.slot b o e n hb hx
  obtain ⟨sl',q'⟩:=r.slot b _ q (.inl (hg b o e))
  exact ⟨sl',q'⟩
 free:=u.free
 there:=fun b o e hx=>by
  obtain ⟨o',q⟩:=u.there b o e hx
  obtain ⟨sl',q'⟩:=r.slot b _ q (.inl (hg b o e))
  exact ⟨_,q'⟩
 tups:=u.tups
 frzs:=u.frzs
 tbls:=u.tbls
theorem XObj.mono {e:Addr} {cls:Value} {dx:Option Addr} {g':Heap} (x:XObj H h g e cls dx) (hg:∀ b o,g'.get? b=some o→∃ v,g.get? b=some v):XObj H h g' e cls dx:=by
 have nn:∀ b,g.get? b=none→g'.get? b=none:=fun b q=>by
  cases z:g'.get? b with
  | none=>rfl
  | some o =>
   obtain ⟨v,q'⟩:=hg b o z
   rw [q] at q';cases q'
 obtain ⟨h1,h2,oe,vs,a1,a2,a3,a4,a5,a6⟩:=x
 refine ⟨nn _ h1,h2,oe,vs,a1,a2,a3,a4,a5,a6.imp (fun z=>z) fun ⟨T,oT,ts,b1,b2,b3,b4⟩=>⟨T,oT,ts,b1,b2,nn _ b3,b4⟩⟩
end
section
variable {X:Cx} {pins:List (Addr×Obj)} {σ:St} {H H':Hp} {s s':Shared} {e:Addr} {cls:Value} {dx:Option Addr}
theorem Inv.thrown (I:Inv X pins σ H s) (os:s'.os=s.os) (bare:AllBare s'.gens) (un:Un (frs X.stack) [] H H' s.heap s'.heap) (hok:HOk X.prog X.w H' s'.heap):Inv X pins σ H' s' :=
 I.call' (ch:=[]) os un hok bare fun b z=>absurd z (by simp)
end
theorem Qaaw {g:Str→Bool} {P:Program} {w:World} {K:PySem.W.Frag} {mg:Str→Option Value} {base:Heap} {N:List Str} {qual:Str} {scope:Scope} {f:Addr} {cd:Value} {A:Around} {outer:List Env} {s0:Shared} {H0:Hp} {E:XK} :
  Qe6 (Qh5 g (CXE P w) P w K mg base N qual scope f cd A outer s0 H0 E) (fun cls dx _ H=>E cls dx H):=by
 intro pins σ H s e s' I h
 obtain ⟨a,cls,dx,H',rfl,os,bare,un,hok,xo,hE⟩:=h
 have J:=I.thrown os bare un hok
 show wpAny _ _ (leaving _ _) _ _ _
 refine Qwe (base:=base) (outer:=outer) J.ok.frames J.stack rfl (fun b hb=>J.hok.fresh hb) (fun b o q=>?_) xo fun h' x' r'=>?_
 ·obtain ⟨o',q'⟩:=un.there b o q (by simp)
  exact Heap.lt_size q'
 ·have hg:∀ b o,s0.heap.get? b=some o→∃ v,s.heap.get? b=some v:=fun b o q=>I.base.there b o q (by intro z;exact absurd (show b∈([]:List Addr) from z) (by simp))
  refine ⟨a,cls,dx,H',rfl,J.os,J.bare,r'.un J.base hg (fun b hb=>?_),r'.hok hok J.stkFree,x'.mono hg,hE⟩
  rcases mem_cons.mp (J.stkSub b hb) with z | z
  ·rw [z];exact .inr J.ok.above
  ·exact .inl z
def Qs3 (K:PySem.W.Frag) (mg:Str→Option Value) (x:Str) (cdv:Value):Prop:=∃ f oc od fd osl,mg x=some (.ref f)∧K.lookup f=some ⟨oc,od,.func fd,osl⟩∧fd.code=cdv
def Qyz (P:Program) (w:World) (K:PySem.W.Frag) (mg:Str→Option Value) (base:Heap) (x:Str) (ps:List Str) (k:Nat) (sp:Sp):Prop :=
 ∃ f fd,PySem.W.keepIn K (.ref f)=true∧mg x=some (.ref f)∧Binds K fd ps []∧FnOk P w K mg base (CXE P w) k f fd ps sp
section
variable {P:Program} {w:World} {K:PySem.W.Frag} {mg:Str→Option Value} {base:Heap}
theorem Q67 {g:Str→Bool} {x:Str} {st:Stmt} {N ps:List Str} {k:Nat} {sp:Sp} (d:Dfn K mg x st) (S:FnScope N ps (Qf st)) (bd:Qaf x st ps) (len:∀ vs H Q E,sp vs H Q E→vs.length=ps.length)
  (hbody:∀ (X:Cx) (f:Addr) (cdv:Value) (A:Around) (outer:List Env) (s:Shared) (H:Hp) (vs:List V) (Q:VK) (E:XK),X=Qh5 g (CXE P w) P w K mg base N x (Qf st) f cdv A outer s H E→Qs3 K mg x cdv→Qe6 (Qh5 g (CXE P w) P w K mg base N x (Qf st) f cdv A outer s H E) (fun cls dx _ H=>E cls dx H) →
   Room k (A.deeper (envOfC x (Qf st) s.heap.objs.size f cdv))→sp vs H Q E →
   ∃ t,QB (Qh5 g (CXE P w) P w K mg base N x (Qf st) f cdv A outer s H E) (Qaj st) t∧t { nx:=fun _ H'=>Q .non H',rt:=Q } (Qbt N vs) H):Qyz P w K mg base x ps (k+1) sp:=by
 obtain ⟨f,fd,F,m⟩:=d.ex
 refine ⟨f,fd,F.kp,m,F.binds bd,?_⟩
 obtain ⟨oc,od,kV,doc,pm,an,cdv,ct,osl,rfl,lk,hcd⟩:=F.ex
 refine Q4g (g:=g) lk hcd S len fun A outer s H vs Q E hr hsp=>?_
 obtain ⟨t,h,q⟩:=hbody _ f cdv A outer s H vs Q E rfl ⟨f,_,_,_,_,m,lk,rfl⟩ Qaaw hr hsp
 exact ⟨t,h.h,q⟩
end
abbrev Qy0 (sp:Sp) (R:XR) (t:TA):TE:=fun σ H Q=>t σ H fun vs H1=>sp vs H1 Q (fun cls dx H2=>R cls dx σ H2)
section
variable {X:Cx} {x:Str} {ps:List Str} {k:Nat} {sp:Sp} {e:Expr} {es:List Expr} {t:TA} {p pos cpos np:Pos} {R:XR}
theorem Qaax (h:Qyz X.prog X.w X.K X.mg X.base x ps k sp) (pz:Qe6 X R) (hr:Room k X.A) (ha:QA X (e::es) t) (hg:Gl X x:=by rfl)
  (hdb:(x==("__debug__" : Str))=false:=by decide) (he:starEach (e::es) X.env=(false,eval e X.env)::starEach es X.env:=by rfl) (hpl:(backTo pos (starEach es X.env)).any (·.1)=false:=by rfl) :
  QE X (.Call (.Name x p) (e::es) [] pos) (Qy0 sp R t):=by
 obtain ⟨f,fd,kp,m,b,F⟩:=h
 refine ⟨fun pins s σ H Q I hq=>?_⟩
 refine wpAny_Call_Name_kw (Qfz I hg m ?_ hdb)
 refine PySem.W.callWith_K (h₀:=X.base) I.ok.mod.kin kp (thn (ha.h pos pins s σ H _ I hq) fun us s1 ⟨vs,H1,I1,r,q⟩=>⟨I1.kIn,?_⟩) he hpl
 have hl:(us++[]).length=ps.length:=by rw [append_nil,←r.length];exact F.len _ _ _ _ q
 have r2:Vals vs (us++[]):=by rw [append_nil];exact r
 refine wpAny_call (codeAny_mono (F.run X.A X.stack s1 H1 ⟨us,[]⟩ (us++[]) vs Q _ hr I1.env0 (b s1 us I1.kIn hl) r2 q) fun rr s' hq'=>?_)
 cases rr with
 | error ev=>exact pz pins σ H1 s1 ev s' I1 hq'
 | ok fl =>
  cases fl with
  | ret u=>exact I1.after hq'
  | next=>exact False.elim hq'
  | brk=>exact False.elim hq'
  | cont=>exact False.elim hq'
theorem q_sx {st:Stmt} {t:TS} (h:QS X.nox st t):QS X st t:=⟨fun pins s σ H D I hw=>wpAny_mono (h.h pins s σ H D (I.wish _) hw) (fun _ _ q=>q.unwish) fun _ _ z=>False.elim z⟩
end
theorem Qy1 {K:PySem.W.Frag} {h:Heap} {C:Addr} {bmB:List Value} {newId:String} (X:K.In h) (q:PySem.W.excIn K C bmB newId=true) :
  ∃ bm N nm qn bs hdct sn sub ab col dd k0 k1 k2 k3 k5 mN,h.get? C=some (excClassObj nm qn C N bs bm hdct sn sub ab col dd k0 k1 k2 k3 k5 newId)∧h.Ns N mN∧mN "__init__" = none∧OwnTail h bmB bm:=by
 unfold PySem.W.excIn at q
 split at q
 ·rename_i d0 c0 sl0 look
  split at q
  ·rename_i C' bm a0 a1 a2 a3 nid a5 eqm eqs
   simp only [Bool.and_eq_true,beq_iff_eq,Bool.not_eq_true'] at q
   obtain ⟨⟨⟨⟨⟨rfl,rfl⟩,q1⟩,q2⟩,q3⟩,q4⟩:=q
   obtain ⟨nm,bs,mro,ns,qn,hd,sn,sub,ab,col,del⟩:=c0
   dsimp only at eqm q1 q3 q4
   subst eqm q1
   obtain ⟨sll⟩:=sl0
   simp only at eqs
   subst eqs
   exact ⟨bm,ns,nm,qn,bs,hd,sn,sub,ab,col,d0,a0,a1,a2,a3,a5,_,X _ _ look,.of_isNs (PySem.W.isNs_of_in X q3),PySem.W.nsMap_none_of_in X q3 q4,PySem.W.tail_of_in X q2⟩
  ·cases q
 ·cases q
section
variable {X:Cx} {x:Str} {e:Expr} {es:List Expr} {t:TA} {pos cpos np:Pos} {R:XR} {C:Addr} {B newId initId:String} {bmB:List Value}
theorem Q2p (pz:Qe6 X R) (hc:X.calm=true) (F:ExcBaseFacts B newId initId bmB) (hC:PySem.W.excIn X.K C bmB newId=true) (hm:X.mg x=some (.ref C)) (ha:QA X (e::es) t) (hg:Gl X x:=by rfl)
  (hdb:(x==("__debug__" : Str))=false:=by decide) (he:starEach (e::es) X.env=(false,eval e X.env)::starEach es X.env:=by rfl) (hpl:(backTo cpos (starEach es X.env)).any (·.1)=false:=by rfl) :
  QS X (.Raise (some (.Call (.Name x np) (e::es) [] cpos)) none pos) (fun _ σ H=>t σ H fun vs H1=>vs.length≤sizeLine∧R (.ref C) none σ H1):=by
 refine ⟨fun pins s σ H D I hw=>?_⟩
 obtain ⟨bm,N,nm,qn,bs,hdct,sn,sub,ab,col,dd,k0,k1,k2,k3,k5,mN,oC,oN,ni,TL⟩:=Qy1 I.ok.mod.kin hC
 refine wpAny_Raise_call_subT (C:=C) (nm:=nm) (q:=qn) (N:=N) (bs:=bs) (bm:=bm) (hdct:=hdct) (sn:=sn) (sub:=sub) (ab:=ab) (col:=col) (dd:=dd) (k0:=k0) (k1:=k1) (k2:=k2) (k3:=k3) (k5:=k5) F (mN:=mN) (TL.hasType F.hasBase) (I.ok.hd hc) ?_ ni (Qfz I hg hm ⟨rfl,?_⟩ hdb)
 ·rw [he]
  show (false||(backTo cpos (starEach es X.env)).any (·.1))=false
  rw [hpl];rfl
 ·have h2:=ha.h cpos pins s σ H _ I hw
  rw [he] at h2 ⊢
  refine Calls.evalArgs_plain (wpAny_mono h2 (fun us s2 ⟨vs,H1,I1,r,z,q⟩=>⟨rfl,by rw [←r.length];exact z,I1.bk _ _ oC,oN.keeps I1.bk,TL.keeps I1.bk,fun h' ea hm2=>?_⟩) fun _ _ y=>y)
  have hHe:H1 ea=none:=by
   cases z2:H1 ea with
   | none=>rfl
   | some o =>
    have:=I1.hok.lt z2
    have hk:∃ o',s2.heap.get? ea=some o':=by
     have ok:=I1.hok ea o z2
     cases o with
     | lst xs=>obtain ⟨_,_,_,_,e1⟩:=ok;exact ⟨_,e1⟩
     | tup xs=>obtain ⟨_,_,_,o,e1,_⟩:=ok;exact ⟨_,e1⟩
     | dK kvs=>obtain ⟨_,_,_,_,o,_,_,e1,_⟩:=ok;exact ⟨_,e1⟩
     | dT kvs=>obtain ⟨_,_,_,_,o,_,_,e1,_⟩:=ok;exact ⟨_,e1⟩
     | set S n=>obtain ⟨o,_,_,_,e1,_⟩:=ok;exact ⟨_,e1⟩
     | ins C dx fs=>obtain ⟨_,_,_,e1,_⟩:=ok;exact ⟨_,e1⟩
     | own y=>exact ok
     | xd fs=>obtain ⟨_,⟨_,_,_,e1,_⟩,_⟩:=ok;exact ⟨_,e1⟩
     | rng lo hi=>obtain ⟨_,_,_,e1⟩:=ok;exact ⟨_,e1⟩
     | frz ob u=>exact ⟨_,ok.1⟩
     | cod q=>obtain ⟨_,_,_,_,ec,e1,_⟩:=ok;cases ec;exact ⟨_,e1⟩
     | tbl q=>obtain ⟨_,e1,_⟩:=ok;exact ⟨_,e1⟩
     | _=>first | exact ok.2.1 | exact ⟨_,ok⟩ | (obtain ⟨_,e1,_⟩:=ok;exact ⟨_,e1⟩)
    obtain ⟨o',e1⟩:=hk
    rw [hm2.new] at e1;cases e1
  obtain ⟨tt,ht,_,_⟩:=hm2.there
  exact pz pins σ H1 s2 (.ref ea) { s2 with heap:=h' } I1 ⟨ea,.ref C,none,H1,rfl,rfl,I1.bare,Un.kept hm2.keeps,I1.hok.kept hm2.keeps,⟨hm2.new,hHe,_,_,ht,rfl,rfl,rfl,by simp,.inl rfl⟩,q⟩
end
structure RoomH (k:Nat) (A:Around):Prop where
 dp:A.depth+3*k+5<recursionLimit
 un:A.units+16*k+200<cLine
theorem RoomH.deeper {k:Nat} {A:Around} (r:RoomH (k+1) A) (env:Env):RoomH k (A.deeper env) :=
 ⟨by have:=r.dp;show A.depth+1+3*k+5<_;omega,by have:=r.un;show A.units+3+16*k+200<_;omega⟩
theorem RoomH.depth {k:Nat} {A:Around} (r:RoomH k A):A.depth<recursionLimit:=by have:=r.dp;omega
theorem Room.mark {k:Nat} {A:Around} (r:Room k A) (h:Option Value):RoomH k (A.mark h):=⟨r.dp,r.un⟩
structure FnOkH (P:Program) (w:World) (K:PySem.W.Frag) (mg:Str→Option Value) (base:Heap) (CX:CXT) (k:Nat) (f:Addr) (fd:FuncData) (ps:List Str) (sp:Sp):Prop where
 len:∀ vs H Q E,sp vs H Q E→vs.length=ps.length
 run:∀ (A:Around) (outer:List Env) (s:Shared) (H:Hp) (args:Args) (us:List Value) (vs:List V) (Q:VK) (E:XK),RoomH k A→Env0 P w K mg base A outer s H→BindsTo s fd args (ps.zip us)→Vals vs us→sp vs H Q E →
  codeAny (model P w) A (.call (.ref f) args) (CR CX outer P w H s Q E) s
noncomputable def Qn1 (CX:CXT) (P:Program) (w:World) (K:PySem.W.Frag) (mg:Str→Option Value) (base:Heap) (N:List Str) (qual:Str) (scope:Scope) (f:Addr) (cd:Value) (A:Around) (outer:List Env) (s:Shared) (H:Hp) (E:XK):Cx where
 prog:=P
 w:=w
 K:=K
 mg:=mg
 base:=base
 A:=A.deeper (envOfC qual scope s.heap.objs.size f cd)
 N:=N
 s₀:=s
 H₀:=H
 env:=envOfC qual scope s.heap.objs.size f cd
 outer:=outer
 stack:=envOfC qual scope s.heap.objs.size f cd::outer
 ex:=[]
 calm:=false
 fn:=fun _=>true
 pn:=[]
 xe:=fun e s'=>wpAny (model P w) (A.deeper (envOfC qual scope s.heap.objs.size f cd)) (leaving (envOfC qual scope s.heap.objs.size f cd) e) (fun _ s''=>CX outer H s E e s'') (fun e' s''=>CX outer H s E e' s'') s'
theorem Qs4 {CX:CXT} {P:Program} {w:World} {K:PySem.W.Frag} {mg:Str→Option Value} {base:Heap} {N ps:List Str} {qual:Str} {scope:Scope} {f:Addr} {cd:Value} {A:Around} {outer:List Env} {s s1:Shared} {H:Hp} {E:XK} {us:List Value} {vs:List V}
  (S:FnScope N ps scope) (e0:Env0 P w K mg base A outer s H) (hl:vs.length=ps.length) (r:Vals vs us)
  (x:InCallC s s.heap.objs.size (bindL (envOfC qual scope s.heap.objs.size f cd).kindOf (ps.zip us) fun _=>none) (cellsFrom (s.heap.objs.size+1) scope.names []) (bindC (envOfC qual scope s.heap.objs.size f cd).kindOf (ps.zip us) fun _=>none) s1) :
  Inv (Qn1 CX P w K mg base N qual scope f cd A outer s H E) [] (Qbt N vs) H s1:=by
 have hpl:ps.length≤N.length:=by have:=congrArg List.length S.pre;rw [length_take] at this;omega
 obtain ⟨h1,tk,rfl,hk⟩:=x.done
 have noA:∀ b:Addr,b∉(Qn1 CX P w K mg base N qual scope f cd A outer s H E).ex:=fun b z=>absurd (show b∈([]:List Addr) from z) (by simp)
 refine ⟨⟨e0.mod,S.kind,rfl,rfl,Nat.le_refl _,fun y z c h1 h2=>?_,fun y hy=>?_,fun y c _ h=>?_,fun z=>(Bool.false_ne_true z).elim,Around.frames_deeper e0.frames,.inr ⟨rfl,rfl⟩,fun b z=>absurd z (noA b),e0.bs,e0.bsz,fun b _ _=>noA b,fun b z=>absurd z (noA b),e0.funs,e0.frf⟩,
  rfl,e0.bare,Un.kept hk,⟨_,x.toInCall.ns,fun i y v h1 h2 h3=>?_⟩,fun y c h=>⟨_,x.cell y c h⟩,e0.hok.fresh (Nat.le_refl _),fun y c h=>?_,fun p hp=>absurd (show p∈([]:List (Addr×Obj)) from hp) (by simp),e0.hok.kept hk,?_⟩
 ·exact name_of_addr x.apart (PySem.mem_of_lookup h1) (PySem.mem_of_lookup h2)
 ·have hy:scope.names.lookup y=some .cell∨scope.names.lookup y=some .free:=hy
  rcases hy with hy | hy
  ·exact Qi4 hy
  ·exact absurd rfl (S.nofree _ (PySem.mem_of_lookup hy))
 ·exact Nat.le_of_lt (x.above y c (PySem.mem_of_lookup h))
 ·have hi:i<vs.length:=by
   unfold Qbt at h2
   by_cases hi:i<vs.length
   ·exact hi
   ·rw [List.getElem?_append_right (by simpa using hi)] at h2
    rw [getElem?_replicate] at h2
    split at h2 <;> cases h2
  have ha:vs[i]?=some v:=by
   unfold Qbt at h2
   rw [List.getElem?_append_left (by simpa using hi),getElem?_map] at h2
   cases e:vs[i]? with
   | none=>rw [e] at h2;cases h2
   | some a=>rw [e] at h2;cases h2;rfl
  obtain ⟨u,hu,rv⟩:=r.get ha
  have hp:ps[i]?=some y:=by
   rw [←S.pre,List.getElem?_take_of_lt (by omega)];exact h1
  have ndP:ps.Nodup:=by rw [←S.pre];exact S.nd.sublist (List.take_sublist _ _)
  refine ⟨u,rv,?_⟩
  rcases S.par y (mem_of_getElem? hp) with k | k
  ·exact .inl ⟨k,Qfs ndP hp hu k⟩
  ·obtain ⟨c,e⟩:=Qi4 (n:=s.heap.objs.size+1) k
   refine .inr ⟨.inl k,c,e,?_⟩
   have q:=x.cell y c e
   rw [Qj1 ndP hp hu (by show scope.names.lookup y≠_;rw [k];decide)] at q
   exact q
 ·exact .inl (e0.hok.fresh (Nat.le_of_lt (x.above y c (PySem.mem_of_lookup h))))
 ·unfold Qbt
  show _=N.length
  rw [length_append,length_map,length_replicate]
  omega
theorem Q68 {CX:CXT} {P:Program} {w:World} {K:PySem.W.Frag} {mg:Str→Option Value} {base:Heap} {k:Nat} {f:Addr} {name qual:Str} {params:Arguments} {body:List Stmt} {scope:Scope} {dV kV doc pm cdv ct oc:Value} {an od:Option Addr}
  {osl:Array (Option Value)} {N ps:List Str} {sp:Sp} (lk:K.lookup f=some ⟨oc,od,.func (PySem.W.fnOf name qual params body scope dV kV doc pm an cdv ct),osl⟩) (hcd:PySem.W.codeIn K cdv qual=true) (S:FnScope N ps scope)
  (len:∀ vs H Q E,sp vs H Q E→vs.length=ps.length)
  (hbody:∀ (A:Around) (outer:List Env) (s:Shared) (H:Hp) (vs:List V) (Q:VK) (E:XK),RoomH k (A.deeper (envOfC qual scope s.heap.objs.size f cdv))→sp vs H Q E →
   ∃ t,PSs (Qn1 CX P w K mg base N qual scope f cdv A outer s H E) body t∧t { nx:=fun _ H'=>Q .non H',rt:=Q } (Qbt N vs) H) :
  FnOkH P w K mg base CX (k+1) f (PySem.W.fnOf name qual params body scope dV kV doc pm an cdv ct) ps sp:=by
 refine ⟨len,fun A outer s H args us vs Q E hr e0 hb r hsp=>?_⟩
 have hl:=len _ _ _ _ hsp
 have KX:K.In s.heap:=e0.mod.kin.keeps fun b o e=>(e0.bs b o e).1
 have lim:s.heap.NoLimit:=e0.mod.nolimit.keeps fun b o e=>(e0.bs b o e).1
 have hkind:∀ y∈ps.zip us,scope.names.lookup y.1=some .local∨(scope.names.lookup y.1=some .cell∧((cellsFrom (s.heap.objs.size+1) scope.names []).lookup y.1).isSome=true):=fun ⟨n,v⟩ hy=>by
  rcases S.par n (List.of_mem_zip hy).1 with q | q
  ·exact .inl q
  ·exact .inr ⟨q,PySem.W.cellsFrom_some _ _ _ (.inl q)⟩
 refine codeAny_call_function hr.depth (KX _ _ lk) rfl S.co S.gen rfl (PySem.W.codeRec_of KX hcd) (hb _ _ _ _ ?_)
 refine wpAny_newFunctionEnv_cells S.kind hkind fun env he s1 x=>?_
 subst he
 refine ⟨lim.keeps x.toInCall.keep,codeAny_func ?_⟩
 obtain ⟨t,ht,hq⟩:=hbody A outer s H vs Q E (hr.deeper _) hsp
 have I:Inv (Qn1 CX P w K mg base N qual scope f cdv A outer s H E) [] (Qbt N vs) H s1:=Qs4 S e0 hl r x
 refine wpAny_mono (ht [] s1 (Qbt N vs) H _ I hq) (fun fl s' hs=>?_) fun e s' hs=>hs
 have fin:∀ {σ':St} {H':Hp} {v:V} {u:Value},Inv (Qn1 CX P w K mg base N qual scope f cdv A outer s H E) [] σ' H' s'→RelV v u→Q v H'→CE outer P w H s Q u s' :=
  fun {σ' H' v u} J rv q=>⟨v,H',J.os,J.bare,J.base,J.hok,rv,q⟩
 cases fl with
 | ret u =>
  obtain ⟨v,σ',H',J,rv,q⟩:=hs
  exact fin J rv q
 | next =>
  obtain ⟨σ',H',J,q⟩:=hs
  exact fin (v:=V.non) (u:=Value.none) J rfl q
 | brk =>
  obtain ⟨_,_,_,q⟩:=hs
  exact False.elim q
 | cont =>
  obtain ⟨_,_,_,q⟩:=hs
  exact False.elim q
section
variable {X:Cx} {pins p2:List (Addr×Obj)} {σ σ0:St} {H H0:Hp} {s s0:Shared} {h':Heap} {R:XR}
theorem Inv.ns_in (I:Inv X pins σ H s):∃ o,s.heap.get? X.env.locals=some o:=by
 obtain ⟨m,⟨o,_,_,ho,_⟩,_⟩:=I.loc
 exact ⟨o,ho⟩
theorem Inv.cell_in (I:Inv X pins σ H s) {x:Str} {c:Addr} (e:X.env.cells.lookup x=some c):∃ o,s.heap.get? c=some o:=by
 obtain ⟨v,o,ho,_⟩:=I.cell x c e
 exact ⟨o,ho⟩
theorem Inv.old_in (I:Inv X pins σ H s) {b:Addr} {o:Obj} (e:X.s₀.heap.get? b=some o) (hx:b∉X.ex):∃ v,s.heap.get? b=some v:=I.base.there b o e hx
theorem Inv.raw (I:Inv X pins σ H s) (I0:Inv X pins σ0 H0 s0) (r:Raw (frs X.stack) s0.heap H s.heap h'):Inv X pins σ H { s with heap:=h' }:=by
 have sub:∀ b,b∉X.fs→b≠X.env.locals→b∉frs X.stack:=fun b h1 h2 z=>(mem_cons.mp (I.stkSub b z)).elim h2 h1
 have cellK:∀ x c v,X.env.cells.lookup x=some c→s.heap.IsCell c v→h'.IsCell c v:=fun x c v e ⟨o,ho,hd⟩=>by
  obtain ⟨sl,q⟩:=r.slot c o ho (.inl (I0.cell_in e))
  exact ⟨_,q,hd⟩
 refine ⟨I.ok,I.os,I.bare,⟨fun b o e n hb hx=>?_,fun b o e n hb hx=>?_,I.base.free,fun b o e hx=>?_,I.base.tups,I.base.frzs,I.base.tbls⟩,?_,fun x c e=>?_,I.free,I.freeC,fun p hp=>?_,r.hok I.hok I.stkFree,I.len⟩
 ·refine r.keep b o (I.base.keep b o e n hb hx) (.inl (I0.old_in e hx)) (sub b hb ?_)
  exact Nat.ne_of_lt (Nat.lt_of_lt_of_le (Heap.lt_size e) I.ok.above)
 ·obtain ⟨sl,q⟩:=I.base.slot b o e n hb hx
  obtain ⟨sl',q'⟩:=r.slot b _ q (.inl (I0.old_in e hx))
  exact ⟨sl',q'⟩
 ·obtain ⟨o',q⟩:=I.base.there b o e hx
  obtain ⟨sl',q'⟩:=r.slot b _ q (.inl (I0.old_in e hx))
  exact ⟨_,q'⟩
 ·obtain ⟨m,⟨o,es,ep,ho,rest⟩,hl⟩:=I.loc
  obtain ⟨sl,q⟩:=r.slot _ o ho (.inl I0.ns_in)
  refine ⟨m,⟨_,es,ep,q,rest⟩,fun i x v e1 e2 e3=>?_⟩
  obtain ⟨u,rv,l⟩:=hl i x v e1 e2 e3
  refine ⟨u,rv,?_⟩
  rcases l with l | ⟨k,c,e,z⟩
  ·exact .inl l
  ·exact .inr ⟨k,c,e,cellK x c _ e z⟩
 ·obtain ⟨v,z⟩:=I.cell x c e
  exact ⟨v,cellK x c v e z⟩
 ·obtain ⟨e,n,ne,nf,d⟩:=I.pin p hp
  exact ⟨r.keep p.1 p.2 e (.inl ⟨_,(I0.pin p hp).1⟩) (sub _ nf ne),n,ne,nf,d⟩
noncomputable def Qs5 (a:Addr) (cls:Value) (dx:Option Addr):HO:=.ext fun h=>∃ o vs,h.get? a=some o∧o.cls=cls∧o.dict=dx∧o.data=.fields vs
theorem Inv.track {a:Addr} {cls:Value} {dx:Option Addr} (I:Inv X pins σ H s) (I0:Inv X pins σ0 H0 s0) (x:XObj H s.heap s0.heap a cls dx):Inv X pins σ (upd H a (Qs5 a cls dx)) s:=by
 obtain ⟨hn,hH,oe,vs,he,hc,hdx,hd,_⟩:=x
 have ne:∀ b o,s0.heap.get? b=some o→b≠a:=fun b o e z=>by rw [z,hn] at e;cases e
 have neH:∀ b u,H b=some u→b≠a:=fun b u e z=>by rw [z,hH] at e;cases e
 obtain ⟨oL,hL⟩:=I0.ns_in
 refine ⟨I.ok,I.os,I.bare,⟨I.base.keep,I.base.slot,fun b o e n hx=>?_,I.base.there,fun b xs e=>?_,fun b o u e=>?_,fun b ps e=>?_⟩,I.loc,I.cell,?_,fun x c e=>?_,fun p hp=>?_,fun b u e=>?_,I.len⟩
 ·obtain ⟨v,q⟩:=I0.old_in e hx
  rw [Q6 (ne _ _ q)]
  exact I.base.free b o e n hx
 ·have q:=I.base.tups b xs e
  rw [Q6 (neH _ _ q)];exact q
 ·have q:=I.base.frzs b o u e
  rw [Q6 (neH _ _ q)];exact q
 ·have q:=I.base.tbls b ps e
  rw [Q6 (neH _ _ q)];exact q
 ·rw [Q6 (ne _ _ hL)];exact I.free
 ·obtain ⟨o,q⟩:=I0.cell_in e
  rw [Q6 (ne _ _ q)];exact I.freeC x c e
 ·obtain ⟨e,n,r⟩:=I.pin p hp
  exact ⟨e,by rw [Q6 (ne _ _ (I0.pin p hp).1)];exact n,r⟩
 ·by_cases hb:b=a
  ·subst hb
   rw [Qp] at e
   cases e
   refine ⟨⟨oe,vs,he,hc,hdx,hd⟩,⟨oe,he⟩,fun h1 h2 ⟨o,vs',q,r1,r2,r3⟩ k=>⟨o,vs',k o q,r1,r2,r3⟩⟩
  ·rw [Q6 hb] at e
   exact (I.hok b u e).stay (fun _ _ _ q=>q) (fun c q=>by rw [Q6 (neH _ _ q)];exact q) (fun c xs q=>by rw [Q6 (neH _ _ q)];exact q) fun c xs q=>by rw [Q6 (neH _ _ q)];exact q
noncomputable def Qly (X:Cx) (pins:List (Addr×Obj)) (R:XR):Cx:={ X with
 pn:=X.pn++pins
 xe:=fun e s'=>∃ a cls dx σ' H' H1 s1,e=.ref a∧Inv X pins σ' H1 s1∧Inv X pins σ' H' s'∧XObj H' s'.heap s1.heap a cls dx∧(∀ b o,s1.heap.get? b=some o→b<s'.heap.objs.size)∧R cls dx σ' H' }
theorem Inv.toTry (I:Inv X pins σ H s):Inv (Qly X pins R) [] σ H s :=
 ⟨⟨I.ok.mod,I.ok.kind,I.ok.glob,I.ok.blt,I.ok.above,I.ok.inj,I.ok.has,I.ok.cab,I.ok.hd,I.ok.frames,I.ok.stk,I.ok.exf,I.ok.bs,I.ok.bsz,I.ok.noex,I.ok.exfs,I.ok.funs,I.ok.frf⟩,
  I.os,I.bare,I.base,I.loc,I.cell,I.free,I.freeC,fun p hp=>I.pin p (by rw [append_nil] at hp;exact hp),I.hok,I.len⟩
theorem Inv.ofTry (I:Inv (Qly X pins R) p2 σ H s):Inv X pins σ H s :=
 ⟨⟨I.ok.mod,I.ok.kind,I.ok.glob,I.ok.blt,I.ok.above,I.ok.inj,I.ok.has,I.ok.cab,I.ok.hd,I.ok.frames,I.ok.stk,I.ok.exf,I.ok.bs,I.ok.bsz,I.ok.noex,I.ok.exfs,I.ok.funs,I.ok.frf⟩,
  I.os,I.bare,I.base,I.loc,I.cell,I.free,I.freeC,fun p hp=>I.pin p (List.mem_append_left _ hp),I.hok,I.len⟩
theorem Q2q:Qe6 (Qly X pins R) R:=by
 intro p2 σ H s e s' I h
 obtain ⟨a,cls,dx,H',rfl,os,bare,un,hok,xo,hR⟩:=h
 have J:=I.thrown os bare un hok
 refine ⟨a,cls,dx,σ,H',H,s,rfl,I.ofTry,J.ofTry,xo,fun b o q=>?_,hR⟩
 obtain ⟨o',q'⟩:=un.there b o q (by simp)
 exact Heap.lt_size q'
noncomputable def Qlz (X:Cx) (pins:List (Addr×Obj)) (e:Addr):Cx:={ X with A:=X.A.mark (some (.ref e)),calm:=false,pn:=X.pn++pins,xe:=fun _ _=>False }
theorem Inv.toHan {e:Addr} (I:Inv X pins σ H s):Inv (Qlz X pins e) [] σ H s :=
 ⟨⟨I.ok.mod,I.ok.kind,I.ok.glob,I.ok.blt,I.ok.above,I.ok.inj,I.ok.has,I.ok.cab,fun z=>(Bool.false_ne_true z).elim,I.ok.frames,I.ok.stk,I.ok.exf,I.ok.bs,I.ok.bsz,I.ok.noex,I.ok.exfs,I.ok.funs,I.ok.frf⟩,
  I.os,I.bare,I.base,I.loc,I.cell,I.free,I.freeC,fun p hp=>I.pin p (by rw [append_nil] at hp;exact hp),I.hok,I.len⟩
theorem Inv.ofHan {e:Addr} (I:Inv (Qlz X pins e) p2 σ H s) (ok:X.Ok):Inv X pins σ H s :=
 ⟨ok,I.os,I.bare,I.base,I.loc,I.cell,I.free,I.freeC,fun p hp=>I.pin p (List.mem_append_left _ hp),I.hok,I.len⟩
end
section
variable {X:Cx} {pins:List (Addr×Obj)} {σ:St} {H:Hp} {s:Shared} {M:Model} {A:Around} {E:Value→Shared→Prop} {Q:Unit→Shared→Prop} {i:Nat} {x:Str} {v:V}
theorem Qwf (I:Inv X pins σ H s) (hN:X.N.Nodup) (hi:X.N[i]?=some x) (hl:X.env.scope.names.lookup x=some .local) (hv:σ[i]?=some (some v)) (h:∀ s',Inv X pins (σ.set i none) H s'→Q () s'):wpAny M A (unbindName X.env x) Q E s:=by
 obtain ⟨m,hn,hm⟩:=id I.loc
 have hcls:(X.env.scope.kind==.class||(X.env.scope.kind==.module&&X.env.locals != X.env.globals))=false:=by rw [I.ok.kind];rfl
 obtain ⟨u,_,lk⟩:=hm i x v hi hv (.inl hl)
 have mv:m x=some u:=by
  rcases lk with ⟨_,e⟩ | ⟨k,_⟩
  ·exact e
  ·rcases k with k | k
   ·have k:X.env.scope.names.lookup x=some .cell:=k
    rw [hl] at k;cases k
   ·have k:X.env.scope.names.lookup x=some .free:=k
    rw [hl] at k;cases k
 obtain ⟨oL,_,_,hoL,_⟩:=id hn
 refine wpAny_unbindName_local hl hn mv hcls fun h' u' hn' hs=>h _ ?_
 have oth:∀ b o,X.s₀.heap.get? b=some o→h'.get? b=s.heap.get? b:=fun b o e=>hs.2 b (Nat.ne_of_lt (Nat.lt_of_lt_of_le (Heap.lt_size e) I.ok.above))
 have tracked:HOk X.prog X.w H h':=fun b ob e=>by
  refine (I.hok b ob e).stay (fun c w' hc q=>(hs.2 c ?_).trans q) (fun _ q=>q) fun _ _ q=>q
  rintro rfl
  rcases hc with rfl | hc
  ·rw [I.free] at e;cases e
  ·rw [I.free] at hc;cases hc
 refine ⟨I.ok,I.os,I.bare,⟨fun b o e n hb hx=>(oth b o e).trans (I.base.keep b o e n hb hx),fun b o e n hb hx=>?_,I.base.free,fun b o e hx=>?_,I.base.tups,I.base.frzs,I.base.tbls⟩,⟨_,hn',fun j y v' e1 e2 e3=>?_⟩,fun y c e=>?_,I.free,I.freeC,fun p hp=>?_,tracked,by simpa using I.len⟩
 ·obtain ⟨sl,e1⟩:=I.base.slot b o e n hb hx
  exact ⟨sl,(oth b o e).trans e1⟩
 ·obtain ⟨o',e1⟩:=I.base.there b o e hx
  exact ⟨o',(oth b o e).trans e1⟩
 ·have hj:j≠i:=fun z=>by
   have hlt:i<σ.length:=(List.getElem?_eq_some_iff.mp hv).1
   rw [z,getElem?_set_self hlt] at e2
   cases e2
  rw [getElem?_set_ne (Ne.symm hj)] at e2
  obtain ⟨u2,r2,q⟩:=hm j y v' e1 e2 e3
  refine ⟨u2,r2,?_⟩
  rcases q with ⟨k,e⟩ | ⟨k,c,e,z⟩
  ·refine .inl ⟨k,?_⟩
   have:y≠x:=fun e=>hj (Qlm hN e1 (e ▸ hi))
   simp [this,e]
  ·exact .inr ⟨k,c,e,z.sameBut hs (I.cne y c e)⟩
 ·obtain ⟨w',z⟩:=I.cell y c e
  exact ⟨w',z.sameBut hs (I.cne y c e)⟩
 ·obtain ⟨e,n,ne,nf,d⟩:=I.pin p hp
  exact ⟨(hs.2 p.1 ne).trans e,n,ne,nf,d⟩
end
theorem Qs6 {K:PySem.W.Frag} {M:Model} {A:Around} {E:Value→Shared→Prop} {h:Heap} {g:Array GenState} {d:Drawn} {t:Nat} {os:OsState} {e C0 C1:Addr} {oe:Obj} {bmB:List Value} {newId:String} {Q:Bool→Shared→Prop} (X:K.In h)
  (q0:PySem.W.excIn K C0 bmB newId=true) (hb:bmB.contains (.type "BaseException")=true) (q1:PySem.W.mroIn K C1 (.ref C0)=some true) (he:h.get? e=some oe) (hcls:oe.cls=.ref C1) (hq:Q true ⟨h,g,d,t,os⟩) :
  wpAny M A (excMatches (.ref e) (.ref C0)) Q E ⟨h,g,d,t,os⟩:=by
 obtain ⟨bm,N,nm,qn,bs,hdct,sn,sub,ab,col,dd,k0,k1,k2,k3,k5,mN,oC,oN,ni,TL⟩:=Qy1 X q0
 have cB:(Value.ref C0::bm).contains (.type "BaseException")=true:=by rw [List.contains_cons,TL.hasType hb,Bool.or_true]
 have L1:=PySem.W.looks_mroIn (M:=M) X q1
 have f:=tc_notTuple
 unfold excMatches
 repeat (first | (with_reducible refine wpAny_loadPart_at he ?_;rw [hcls]) | with_reducible refine wpAny_loadPart_at oC ?_ | with_reducible refine L1.at ?_ | (with_reducible refine wpAny_isSubtype_exc oC ?_;rw [cB]) | wp_step)
 exact hq
def tTry (i:Nat) (K:PySem.W.Frag) (C0:Addr) (tb:XR→TS) (th:TS):TS:=fun D σ H=>∃ R:XR,tb R D σ H∧∀ cls dx σ' H' a,R cls dx σ' H'→H' a=none→σ'.length=σ.length →
 (∃ C1,cls=.ref C1∧PySem.W.mroIn K C1 (.ref C0)=some true)∧th { nx:=fun σ2 H2=>D.nx (σ2.set i none) H2,rt:=D.rt,bk:=fun σ2 H2=>D.bk (σ2.set i none) H2,ct:=fun σ2 H2=>D.ct (σ2.set i none) H2 } (σ'.set i (some (.ref a))) (upd H' a (Qs5 a cls dx))
section
variable {X:Cx} {body suite:List Stmt} {b0:Stmt} {x n:Str} {np hpos pos:Pos} {tb:XR→TS} {th:TS} {i:Nat} {C0:Addr} {bmB:List Value} {newId:String}
theorem Qaa0 (hb:∀ (pins:List (Addr×Obj)) (R:XR),Qe6 (Qly X pins R) R→QB (Qly X pins R) body (tb R)) (hs:∀ (pins:List (Addr×Obj)) (e:Addr),QB (Qlz X pins e) (b0::suite) th)
  (hN:X.N.Nodup) (hC:PySem.W.excIn X.K C0 bmB newId=true) (hB:bmB.contains (.type "BaseException")=true) (hm:X.mg x=some (.ref C0)) (hi:X.N[i]?=some n:=by rfl) (hl:X.env.scope.names.lookup n=some .local:=by rfl) (hg:Gl X x:=by rfl)
  (hst:∃ env outer L,X.stack=env::outer∧X.env=env∧env.frame=some L:=by exact ⟨_,_,_,rfl,rfl,rfl⟩)
  (hdb:(x==("__debug__" : Str))=false:=by decide):QS X (.Try body [.ExceptHandler (some (.Name x np)) (some n) (b0::suite) hpos] [] [] pos) (tTry i X.K C0 tb th):=by
 refine ⟨fun pins s σ H D I hw=>?_⟩
 obtain ⟨R,hwb,hwh⟩:=hw
 obtain ⟨env0,outer,L,est,eenv,efr⟩:=hst
 have body_ok:=(hb pins R Q2q).h [] s σ H D I.toTry hwb
 refine wpAny_Try_except (wpAny_mono body_ok (fun f s1 q=>?_) fun ev s1 q=>?_)
 ·have q':SP X pins D f s1:=by
   cases f with
   | next=>obtain ⟨σ',H',J,z⟩:=q;exact ⟨σ',H',J.ofTry,z⟩
   | brk=>obtain ⟨σ',H',J,z⟩:=q;exact ⟨σ',H',J.ofTry,z⟩
   | cont=>obtain ⟨σ',H',J,z⟩:=q;exact ⟨σ',H',J.ofTry,z⟩
   | ret u=>obtain ⟨v,σ',H',J,r,z⟩:=q;exact ⟨v,σ',H',J.ofTry,r,z⟩
  cases f with
  | next=>exact wpAny_execs_nil q'
  | brk=>exact q'
  | cont=>exact q'
  | ret u=>exact q'
 ·obtain ⟨a,cls,dx,σ',H',H1,s2,rfl,I0,J,xo,hlt,hR⟩:=q
  have frJ:X.A.frames=some (env0::outer):=by rw [J.ok.frames,est]
  have stJ:s1.heap.FunFrames X.base (env0::outer):=by rw [←est];exact J.stack
  rw [←est] at stJ
  rw [eenv]
  refine Qqq (base:=X.base) (outer:=outer) frJ (by rw [←est];exact stJ) efr (fun b hb=>J.hok.fresh hb) hlt xo fun h3 x3 r3=>?_
  rw [←est] at r3
  have J3:=J.raw I0 r3
  refine Qik (s:={ s1 with heap:=h3 }) (fs:=frs X.stack) x3 fun h4 x4 r4=>?_
  have J4:=J3.raw I0 r4
  obtain ⟨⟨C1,rfl,hmro⟩,hsuite⟩:=hwh cls dx σ' H' a hR x4.2.1 (J.len.trans I.len.symm)
  obtain ⟨hn,hH,oe,vs,he,hc,hdx,hd,_⟩:=id x4
  rw [←eenv]
  have ld:∀ (E':Value→Shared→Prop) (Q':Value→Shared→Prop),Q' (.ref C0) { s1 with heap:=h4 }→wpAny (model X.prog X.w) (X.A.mark (some (.ref a))) (eval (.Name x np) X.env) Q' E' { s1 with heap:=h4 }:=fun E' Q' hq=>Qfz (X:=Qlz X pins a) (J4.toHan) hg hm hq hdb
  refine wpAny_handleBy_cons (codeAny_handlers_test (ld _ _ (Qs6 (h:=h4) J4.kIn hC hB hmro he hc ?_))) (by intro z;cases z)
  refine codeAny_handlers_suite_as ?_
  refine Qik (s:={ s1 with heap:=h4 }) (fs:=frs X.stack) x4 fun h5 x5 r5=>?_
  have J5:=J4.raw I0 r5
  have J6:=J5.track I0 x5
  refine Qi2 (X:=Qlz X pins a) J6.toHan hN hi (.inl hl) (v:=.ref a) rfl (fun s6 I6=>?_) (.inr hl)
  refine wpAny_mono ((hs pins a).h [] s6 _ _ _ I6 hsuite) (fun f s7 q7=>?_) fun _ _ z=>False.elim z
  have fin:∀ {σ7:St} {H7:Hp} {P:Prop},Inv (Qlz X pins a) [] σ7 H7 s7→(∀ s9,Inv X pins (σ7.set i none) H7 s9→SP X pins D f s9) →
    wpAny (model X.prog X.w) X.A (do bindName X.env n .none;unbindBehindTheSuite X.env n hpos) (fun _ s9=>SP X pins D f s9) X.xe s7:=fun {σ7 H7 P} I7 k=>by
   have K7:=I7.ofHan I.ok
   have hlen:i<σ7.length:=by
    rw [K7.len]
    exact (List.getElem?_eq_some_iff.mp hi).1
   refine wpAny_bind (wpAny_bindName (Qi2 K7 hN hi (.inl hl) (v:=.non) rfl (fun s8 I8=>?_) (.inr hl)))
   unfold unbindBehindTheSuite
   refine wpAny_onRaise (Qwf I8 hN hi hl (v:=.non) (getElem?_set_self hlen) fun s9 I9=>k s9 ?_)
   rw [List.set_set] at I9
   exact I9
  cases f with
  | next =>
   obtain ⟨σ7,H7,I7,z⟩:=q7
   exact fin (P:=True) I7 fun s9 I9=>⟨_,_,I9,z⟩
  | brk =>
   obtain ⟨σ7,H7,I7,z⟩:=q7
   exact fin (P:=True) I7 fun s9 I9=>⟨_,_,I9,z⟩
  | cont =>
   obtain ⟨σ7,H7,I7,z⟩:=q7
   exact fin (P:=True) I7 fun s9 I9=>⟨_,_,I9,z⟩
  | ret u =>
   obtain ⟨v,σ7,H7,I7,r,z⟩:=q7
   exact fin (P:=True) I7 fun s9 I9=>⟨v,_,_,I9,r,z⟩
end
end L2
namespace PySem.SeqAt
open PySem PySem.Spec PyProof PyProof.Rows
theorem sub_tuple_dict:isSubtype (.type "tuple") (.type "dict")=pure false:=by rw [isSubtype_type];kernel_rfl
theorem sub_dict_tuple:isSubtype (.type "dict") (.type "tuple")=pure false:=by rw [isSubtype_type];kernel_rfl
theorem sub_dict_dict:isSubtype (.type "dict") (.type "dict")=pure true:=by rw [isSubtype_type];kernel_rfl
theorem dict_ne_declines_tuple (l b:Addr) (da:Data) (items2:Array Value) (n2:Nat) (dd dd2:Option Addr) (sl sl2:Array (Option Value)) :
  Meets (Builtin.«dict.__ne__» ⟨[.ref l,.ref b],[]⟩) (fun _ R s=>s.heap.get? l=some { cls:=.type "dict",dict:=dd,data:=da,slots:=sl }∧s.heap.get? b=some { cls:=.type "tuple",dict:=dd2,data:=.seq items2 n2,slots:=sl2 }∧R (.ok (.ret .notImplemented)) s) :=
 .of_wp fun prog w A R s h=>by obtain ⟨hp,g,d,tk,os⟩:=s;obtain ⟨hl,hb,h⟩:=h;have f1:=sub_tuple_dict;have f2:=sub_dict_dict;wp_walk using wpAny_loadPart' hl,wpAny_loadPart' hb;exact ⟨_,rfl,h⟩
theorem tuple_ne_declines_dict (l b:Addr) (da:Data) (items:Array Value) (n:Nat) (dd dd2:Option Addr) (sl sl2:Array (Option Value)) :
  Meets (Builtin.«tuple.__ne__» ⟨[.ref l,.ref b],[]⟩) (fun _ R s=>s.heap.get? l=some { cls:=.type "tuple",dict:=dd,data:=.seq items n,slots:=sl }∧s.heap.get? b=some { cls:=.type "dict",dict:=dd2,data:=da,slots:=sl2 }∧R (.ok (.ret .notImplemented)) s) :=
 .of_wp fun prog w A R s h=>by obtain ⟨hp,g,d,tk,os⟩:=s;obtain ⟨hl,hb,h⟩:=h;have f1:=sub_dict_tuple;wp_walk using wpAny_loadPart' hl,wpAny_loadPart' hb;exact ⟨_,rfl,h⟩
theorem dict_eq_declines_tuple (l b:Addr) (da:Data) (items2:Array Value) (n2:Nat) (dd dd2:Option Addr) (sl sl2:Array (Option Value)) :
  Meets (Builtin.«dict.__eq__» ⟨[.ref l,.ref b],[]⟩) (fun _ R s=>s.heap.get? l=some { cls:=.type "dict",dict:=dd,data:=da,slots:=sl }∧s.heap.get? b=some { cls:=.type "tuple",dict:=dd2,data:=.seq items2 n2,slots:=sl2 }∧R (.ok (.ret .notImplemented)) s) :=
 .of_wp fun prog w A R s h=>by obtain ⟨hp,g,d,tk,os⟩:=s;obtain ⟨hl,hb,h⟩:=h;have f1:=sub_tuple_dict;have f2:=sub_dict_dict;wp_walk using wpAny_loadPart' hl,wpAny_loadPart' hb;exact ⟨_,rfl,h⟩
theorem tuple_eq_declines_dict (l b:Addr) (da:Data) (items:Array Value) (n:Nat) (dd dd2:Option Addr) (sl sl2:Array (Option Value)) :
  Meets (Builtin.«tuple.__eq__» ⟨[.ref l,.ref b],[]⟩) (fun _ R s=>s.heap.get? l=some { cls:=.type "tuple",dict:=dd,data:=.seq items n,slots:=sl }∧s.heap.get? b=some { cls:=.type "dict",dict:=dd2,data:=da,slots:=sl2 }∧R (.ok (.ret .notImplemented)) s) :=
 .of_wp fun prog w A R s h=>by obtain ⟨hp,g,d,tk,os⟩:=s;obtain ⟨hl,hb,h⟩:=h;have f1:=sub_dict_tuple;wp_walk using wpAny_loadPart' hl,wpAny_loadPart' hb;exact ⟨_,rfl,h⟩
section
variable {A:Around} {s:Shared}
theorem RcNeAt.dict_tuple {l b:Addr} {o:Obj} {items2:Array Value} (ho:s.heap.get? l=some o) (hc:o.cls=.type "dict") (hb:s.heap.IsTuple b items2) (hu:A.units<cLine):RcNeAt A s (.ref l) (.ref b) true:=fun prog w E Q h=>by
 obtain ⟨⟨cls2,dd2,data2,sl2⟩,ho2,hc2,n2,hd2⟩:=id hb
 obtain ⟨cls,dd,data,sl⟩:=o
 simp only at hc hc2 hd2
 subst hc hc2 hd2
 have hne:l≠b:=fun z=>by subst z;rw [ho] at ho2;have e:(Value.type "dict")=.type "tuple" := congrArg (·.cls) (Option.some.inj ho2);exact absurd e (by decide)
 exact (rc_ne_decline_or (k:=false) ⟨_,ho,rfl⟩ ⟨_,ho2,rfl⟩ (by decide) sub_tuple_dict F.slot_dict_ne F.slot_tuple_ne_refl
  (fun _ hq=>call_meets F.slot_dict_ne ⟨_,ho,rfl⟩ F.entry_dict_ne (F.args_dict_ne_2 _ _) (dict_ne_declines_tuple l b data items2 n2 dd dd2 sl sl2) ⟨ho,ho2,hq⟩)
  (fun _ hq=>call_meets F.slot_tuple_ne_refl ⟨_,ho2,rfl⟩ F.entry_tuple_ne (F.args_tuple_ne_2 _ _) (tuple_ne_declines_dict b l data items2 n2 dd2 dd sl2 sl) ⟨ho2,ho,hq⟩)
  (fun _ hq=>wpAny_isSame_ref_other hne ho ho2 (by simp) hq) (.inr hu) h)
theorem RcAt.dict_tuple {l b:Addr} {o:Obj} {items2:Array Value} (ho:s.heap.get? l=some o) (hc:o.cls=.type "dict") (hb:s.heap.IsTuple b items2) (hu:A.units<cLine):RcAt A s (.ref l) (.ref b) false:=fun prog w E Q h=>by
 obtain ⟨⟨cls2,dd2,data2,sl2⟩,ho2,hc2,n2,hd2⟩:=id hb
 obtain ⟨cls,dd,data,sl⟩:=o
 simp only at hc hc2 hd2
 subst hc hc2 hd2
 have hne:l≠b:=fun z=>by subst z;rw [ho] at ho2;have e:(Value.type "dict")=.type "tuple" := congrArg (·.cls) (Option.some.inj ho2);exact absurd e (by decide)
 exact (rc_eq_decline_or (k:=false) ⟨_,ho,rfl⟩ ⟨_,ho2,rfl⟩ (by decide) sub_tuple_dict F.slot_dict_eq F.slot_tuple_eq_refl
  (fun _ hq=>call_meets F.slot_dict_eq ⟨_,ho,rfl⟩ F.entry_dict_eq (F.args_dict_eq_2 _ _) (dict_eq_declines_tuple l b data items2 n2 dd dd2 sl sl2) ⟨ho,ho2,hq⟩)
  (fun _ hq=>call_meets F.slot_tuple_eq_refl ⟨_,ho2,rfl⟩ F.entry_tuple_eq (F.args_tuple_eq_2 _ _) (tuple_eq_declines_dict b l data items2 n2 dd2 dd sl2 sl) ⟨ho2,ho,hq⟩)
  (fun _ hq=>wpAny_isSame_ref_other hne ho ho2 (by simp) hq) (.inr hu) h)
end
end PySem.SeqAt
namespace L2
open PySem PySem.Spec PyProof.Rows
mutual
noncomputable def eqT:T→T→Bool
 | .non,.non=>true
 | .bl a,.bl b=>a==b
 | .int a,.int b=>a==b
 | .bl a,.int b=>(if a then 1 else 0)==b
 | .int a,.bl b=>a==(if b then 1 else 0)
 | .str a,.str b=>a==b
 | .tup a,.tup b=>eqL a b
 | .lst a,.lst b=>eqL a b
 | _,_=>false
noncomputable def eqL:List T→List T→Bool
 | [],[]=>true
 | x::xs,y::ys=>eqT x y&&eqL xs ys
 | _,_=>false
end
noncomputable def Qr:Nat→T→Bool
 | _,.non=>true
 | _,.bl _=>true
 | _,.int _=>true
 | _,.str _=>true
 | n+1,.tup ts=>ts.all (Qr n)
 | n+1,.lst ts=>ts.all (Qr n)
 | _,_=>false
theorem Qld:eqL [] []=true:=by unfold eqL;rfl
theorem Qg4 (x y:T) (xs ys:List T):eqL (x::xs) (y::ys)=(eqT x y&&eqL xs ys):=by rw [eqL]
theorem Qle:∀ {xs ys:List T},xs.length≠ys.length→eqL xs ys=false
 | [],[],h=>absurd rfl h
 | [],_::_,_=>by unfold eqL;rfl
 | _::_,[],_=>by unfold eqL;rfl
 | x::xs,y::ys,h=>by rw [Qg4,Qle (xs:=xs) (ys:=ys) (by simpa using h),Bool.and_false]
theorem Qn2:∀ {xs ys:List T} {e:Nat→Bool},(∀ (j:Nat) a b,xs[j]?=some a→ys[j]?=some b→e j=eqT a b)→((List.range (min xs.length ys.length)).all e&&(xs.length==ys.length))=eqL xs ys
 | [],[],e,_=>by rw [Qld];rfl
 | [],y::ys,e,_=>by rw [Qle (by simp)];simp
 | x::xs,[],e,_=>by rw [Qle (by simp)];simp
 | x::xs,y::ys,e,h=>by
  rw [Qg4,←Qn2 (xs:=xs) (ys:=ys) (e:=fun j=>e (j+1)) fun j a b p q=>h (j+1) a b p q,length_cons,length_cons,Nat.succ_min_succ,List.range_succ_eq_map,all_cons,all_map,←h 0 x y rfl rfl,Bool.and_assoc]
  congr 2
  simp
theorem Ql0:∀ (n:Nat) (t:T),Qr n t=true→eqT t t=true
 | _,.non,_=>by rw [eqT]
 | _,.bl b,_=>by rw [eqT];simp
 | _,.int i,_=>by rw [eqT];simp
 | _,.str x,_=>by rw [eqT];simp
 | n+1,.tup ts,h=>by
  have h:ts.all (Qr n)=true:=by rw [Qr] at h;exact h
  have go:∀ ts:List T,ts.all (Qr n)=true→eqL ts ts=true:=fun ts=>by
   induction ts with
   | nil=>intro _;exact Qld
   | cons x xs ih =>
    intro h
    rw [all_cons,Bool.and_eq_true] at h
    rw [Qg4,Ql0 n x h.1,ih h.2]
    rfl
  rw [eqT];exact go ts h
 | n+1,.lst ts,h=>by
  have h:ts.all (Qr n)=true:=by rw [Qr] at h;exact h
  have go:∀ ts:List T,ts.all (Qr n)=true→eqL ts ts=true:=fun ts=>by
   induction ts with
   | nil=>intro _;exact Qld
   | cons x xs ih =>
    intro h
    rw [all_cons,Bool.and_eq_true] at h
    rw [Qg4,Ql0 n x h.1,ih h.2]
    rfl
  rw [eqT];exact go ts h
 | 0,.tup _,h=>by simp [Qr] at h
 | 0,.lst _,h=>by simp [Qr] at h
 | 0,.dct _ _,h=>by simp [Qr] at h
 | 0,.clo _ _,h=>by simp [Qr] at h
 | _+1,.dct _ _,h=>by simp [Qr] at h
 | _+1,.clo _ _,h=>by simp [Qr] at h
 | 0,.dtt _ _,h=>by simp [Qr] at h
 | _+1,.dtt _ _,h=>by simp [Qr] at h
theorem Q4v {H:Hp}:∀ (n:Nat) {v:V} {t t':T},Is H v t→Is H v t'→Qr n t=true→Qr n t'=true→eqT t t'=true:=by
 intro n
 induction n with
 | zero =>
  intro v t t' i j h h'
  cases t <;> first | (simp [Qr] at h;done) | skip
  all_goals (cases t' <;> first | (simp [Qr] at h';done) | skip)
  all_goals (unfold Is at i j;rw [i] at j;first | (cases j;simp [eqT];done) | cases j)
 | succ n ih =>
  intro v t t' i j h h'
  have go:∀ (ts us:List T) (vs:List V),IsL H vs ts→IsL H vs us→ts.all (Qr n)=true→us.all (Qr n)=true→eqL ts us=true:=by
   intro ts
   induction ts with
   | nil =>
    intro us vs q1 q2 _ _
    rw [q1.nil_inv] at q2
    cases us with
    | nil=>exact Qld
    | cons y ys=>obtain ⟨_,_,z,_⟩:=q2.cons_inv;cases z
   | cons x xs ihx =>
    intro us vs q1 q2 a1 a2
    obtain ⟨v,r,rfl,c1,c2⟩:=q1.cons_inv
    cases us with
    | nil=>have:=q2.nil_inv;cases this
    | cons y ys =>
     obtain ⟨v',r',z,d1,d2⟩:=q2.cons_inv
     cases z
     rw [all_cons,Bool.and_eq_true] at a1 a2
     rw [Qg4,ihx ys r c2 d2 a1.2 a2.2,Bool.and_true]
     exact ih c1 d1 a1.1 a2.1
  cases t with
  | dct _ _=>simp [Qr] at h
  | clo _ _=>simp [Qr] at h
  | dtt _ _=>simp [Qr] at h
  | tup ts =>
   obtain ⟨a,vs,rfl,ha,q⟩:=i.tup_inv
   cases t' with
   | tup us =>
    obtain ⟨a',vs',e,ha',q'⟩:=j.tup_inv
    cases e
    rw [ha] at ha'
    cases ha'
    rw [eqT]
    exact go ts us vs q q' (by simpa only [Qr] using h) (by simpa only [Qr] using h')
   | lst us =>
    obtain ⟨a',vs',e,ha',q'⟩:=j.lst_inv
    cases e
    rw [ha] at ha'
    cases ha'
   | dct _ _=>simp [Qr] at h'
   | clo _ _=>simp [Qr] at h'
   | dtt _ _=>simp [Qr] at h'
   | _=>unfold Is at j;cases j
  | lst ts =>
   obtain ⟨a,vs,rfl,ha,q⟩:=i.lst_inv
   cases t' with
   | lst us =>
    obtain ⟨a',vs',e,ha',q'⟩:=j.lst_inv
    cases e
    rw [ha] at ha'
    cases ha'
    rw [eqT]
    exact go ts us vs q q' (by simpa only [Qr] using h) (by simpa only [Qr] using h')
   | tup us =>
    obtain ⟨a',vs',e,ha',q'⟩:=j.tup_inv
    cases e
    rw [ha] at ha'
    cases ha'
   | dct _ _=>simp [Qr] at h'
   | clo _ _=>simp [Qr] at h'
   | dtt _ _=>simp [Qr] at h'
   | _=>unfold Is at j;cases j
  | _ =>
   cases t' with
   | dct _ _=>simp [Qr] at h'
   | clo _ _=>simp [Qr] at h'
   | dtt _ _=>simp [Qr] at h'
   | tup us =>
    obtain ⟨a',vs',e,ha',q'⟩:=j.tup_inv
    unfold Is at i
    rw [i] at e;cases e
   | lst us =>
    obtain ⟨a',vs',e,ha',q'⟩:=j.lst_inv
    unfold Is at i
    rw [i] at e;cases e
   | _=>unfold Is at i j;rw [i] at j;first | (cases j;simp [eqT];done) | cases j
inductive Shp (P:Program) (w:World) (H:Hp) (h:Heap):T→Value→Prop
 | non:Shp P w H h .non .none
 | bl (b):Shp P w H h (.bl b) (.bool b)
 | int (i t):Shp P w H h (.int i) (.int i t)
 | str (x t):Shp P w H h (.str x) (.str x t)
 | tup {a vs ts its}:Is H (.ref a) (.tup ts)→IsL H vs ts→Vals vs its→h.IsTuple a its.toArray→Shp P w H h (.tup ts) (.ref a)
 | lst {a vs ts its}:Is H (.ref a) (.lst ts)→IsL H vs ts→Vals vs its→h.IsList a its.toArray→Shp P w H h (.lst ts) (.ref a)
 | dct {ks ts u}:Shp P w H h (.dct ks ts) u
 | clo {l ts u}:Shp P w H h (.clo l ts) u
 | dtt {ks ts u}:Shp P w H h (.dtt ks ts) u
theorem Is.shp {P:Program} {w:World} {H:Hp} {h:Heap} {v:V} {u:Value}:∀ {t:T},Is H v t→RelV v u→HOk P w H h→Shp P w H h t u
 | .non,i,r,_=>by unfold Is at i;subst i;cases r;exact .non
 | .bl b,i,r,_=>by unfold Is at i;subst i;cases r;exact .bl b
 | .int n,i,r,_=>by unfold Is at i;subst i;obtain ⟨t,rfl⟩:=r;exact .int n t
 | .str x,i,r,_=>by unfold Is at i;subst i;obtain ⟨t,rfl⟩:=r;exact .str x t
 | .tup ts,i,r,ok=>by
  obtain ⟨a,vs,rfl,ha,q⟩:=i.tup_inv
  cases r
  obtain ⟨_,its,rv,p⟩:=ok a _ ha
  exact .tup i q rv p.tup
 | .lst ts,i,r,ok=>by
  obtain ⟨a,vs,rfl,ha,q⟩:=i.lst_inv
  cases r
  obtain ⟨_,its,n,rv,p⟩:=ok a _ ha
  exact .lst i q rv ⟨_,p,rfl,n,rfl⟩
 | .dct ks ts,_,_,_=>.dct
 | .clo l ts,_,_,_=>.clo
 | .dtt ks ts,_,_,_=>.dtt
section
variable {P:Program} {w:World} {H:Hp}
noncomputable def eAt (ts us:List T) (j:Nat):Bool:=eqT (ts.getD j .non) (us.getD j .non)
theorem Qn3 (ts us:List T):((List.range (min ts.length us.length)).all (eAt ts us)&&(ts.length==us.length))=eqL ts us :=
 Qn2 fun j a b p q=>by unfold eAt;rw [getD_eq_getElem?_getD,getD_eq_getElem?_getD,p,q];rfl
theorem Qqr {s:Shared} {A:Around} {n:Nat} {ts us:List T} {vs ws:List V} {its its2:List Value} (i1:IsL H vs ts) (i2:IsL H ws us) (r1:Vals vs its) (r2:Vals ws its2) (ok:HOk P w H s.heap) (h1:ts.all (Qr n)=true) (h2:us.all (Qr n)=true)
  (ih:∀ (t t':T) (u u':Value),Qr n t=true→Qr n t'=true→Shp P w H s.heap t u→Shp P w H s.heap t' u'→SeqAt.EqAt A s u u' (eqT t t')) :
  ∀ (j:Nat) (g1:j<its.toArray.size) (g2:j<its2.toArray.size),SeqAt.EqAt A s its.toArray[j] its2.toArray[j] (eAt ts us j):=by
 intro j g1 g2
 have g1':j<its.length:=by simpa using g1
 have g2':j<its2.length:=by simpa using g2
 have l1:j<vs.length:=by rw [r1.length];exact g1'
 have l2:j<ws.length:=by rw [r2.length];exact g2'
 obtain ⟨u,hu,ru⟩:=r1.get (getElem?_eq_getElem l1)
 obtain ⟨u',hu',ru'⟩:=r2.get (getElem?_eq_getElem l2)
 obtain ⟨t,ht,it⟩:=i1.get (getElem?_eq_getElem l1)
 obtain ⟨t',ht',it'⟩:=i2.get (getElem?_eq_getElem l2)
 have e1:its.toArray[j]=u:=by
  rw [getElem?_eq_getElem g1'] at hu
  simpa using hu
 have e2:its2.toArray[j]=u':=by
  rw [getElem?_eq_getElem g2'] at hu'
  simpa using hu'
 have e3:eAt ts us j=eqT t t':=by unfold eAt;rw [getD_eq_getElem?_getD,getD_eq_getElem?_getD,ht,ht'];rfl
 rw [e1,e2,e3]
 exact ih t t' u u' (all_eq_true.mp h1 t (mem_of_getElem? ht)) (all_eq_true.mp h2 t' (mem_of_getElem? ht')) (it.shp ru ok) (it'.shp ru' ok)
theorem Qjb {ts:List T} {vs:List V} {its:List Value} (i:IsL H vs ts) (r:Vals vs its):its.toArray.size=ts.length:=by
 rw [size_toArray,←r.length,i.length]
open SeqAt in
theorem Qy2 {s:Shared} {A:Around} {n:Nat} {ts us:List T} {a b:Addr} {vs ws:List V} {its its2:List Value} (i1:IsL H vs ts) (i2:IsL H ws us) (r1:Vals vs its) (r2:Vals ws its2) (ok:HOk P w H s.heap) (h1:ts.all (Qr n)=true) (h2:us.all (Qr n)=true)
  (hl:s.heap.IsTuple a its.toArray) (hb:s.heap.IsTuple b its2.toArray) (hu:A.units<cLine) (ih:∀ (t t':T) (u u':Value),Qr n t=true→Qr n t'=true→Shp P w H s.heap t u→Shp P w H s.heap t' u'→EqAt A.in1 s u u' (eqT t t')) :
  RcAt A s (.ref a) (.ref b) (eqL ts us)∧RcNeAt A s (.ref a) (.ref b) (!eqL ts us):=by
 have key:=Qqr i1 i2 r1 r2 ok h1 h2 ih
 have l1:=Qjb i1 r1
 have l2:=Qjb i2 r2
 have k1:=RcAt.tuples hl hb hu key
 have k2:=RcNeAt.tuples hl hb hu key
 rw [l1,l2,Qn3] at k1 k2
 exact ⟨k1,k2⟩
open SeqAt in
theorem Qy3 {s:Shared} {A:Around} {n:Nat} {ts us:List T} {a b:Addr} {vs ws:List V} {its its2:List Value} (i1:IsL H vs ts) (i2:IsL H ws us) (r1:Vals vs its) (r2:Vals ws its2) (ok:HOk P w H s.heap) (h1:ts.all (Qr n)=true) (h2:us.all (Qr n)=true)
  (hl:s.heap.IsList a its.toArray) (hb:s.heap.IsList b its2.toArray) (hu:A.units<cLine) (ih:∀ (t t':T) (u u':Value),Qr n t=true→Qr n t'=true→Shp P w H s.heap t u→Shp P w H s.heap t' u'→EqAt A.in1 s u u' (eqT t t')) :
  RcAt A s (.ref a) (.ref b) (eqL ts us)∧RcNeAt A s (.ref a) (.ref b) (!eqL ts us):=by
 have key:=Qqr i1 i2 r1 r2 ok h1 h2 ih
 have l1:=Qjb i1 r1
 have l2:=Qjb i2 r2
 by_cases hz:ts.length=us.length
 ·have k1:=RcAt.lists hl hb (by rw [l1,l2,hz]) hu key
  have k2:=RcNeAt.lists hl hb (by rw [l1,l2,hz]) hu key
  have e:=Qn3 ts us
  rw [hz,Nat.min_self,beq_self_eq_true,Bool.and_true] at e
  rw [l1,hz,e] at k1 k2
  exact ⟨k1,k2⟩
 ·rw [Qle hz]
  have hb':(its.toArray.size != its2.toArray.size)=true:=by rw [l1,l2];simpa using hz
  exact ⟨RcAt.lists_lengths hl hb hb' hu,RcNeAt.lists_lengths hl hb hb' hu⟩
open SeqAt in
theorem Q69:∀ (n:Nat) {s:Shared} {A:Around},HOk P w H s.heap→A.units+n<cLine→∀ (t t':T) (u u':Value),Qr n t=true→Qr n t'=true→Shp P w H s.heap t u→Shp P w H s.heap t' u'→EqAt A s u u' (eqT t t'):=by
 intro n
 induction n with
 | zero =>
  intro s A ok hu t t' u u' h1 h2 s1 s2
  cases s1 with
  | dct=>simp [Qr] at h1
  | clo=>simp [Qr] at h1
  | dtt=>simp [Qr] at h1
  | tup j1 i1 r1 p1=>simp [Qr] at h1
  | lst j1 i1 r1 p1=>simp [Qr] at h1
  | non =>
   cases s2 with
   | dct=>simp [Qr] at h2
   | clo=>simp [Qr] at h2
   | dtt=>simp [Qr] at h2
   | tup j2 i2 r2 p2=>simp [Qr] at h2
   | lst j2 i2 r2 p2=>simp [Qr] at h2
   | non=>simp only [eqT];exact EqAt.same _
   | bl b=>simp only [eqT];exact EqAt.none_bool  b
   | int i t=>simp only [eqT];exact EqAt.none_int  i t
   | str x t=>simp only [eqT];exact EqAt.none_str  x t
  | bl c =>
   cases s2 with
   | dct=>simp [Qr] at h2
   | clo=>simp [Qr] at h2
   | dtt=>simp [Qr] at h2
   | tup j2 i2 r2 p2=>simp [Qr] at h2
   | lst j2 i2 r2 p2=>simp [Qr] at h2
   | non=>simp only [eqT];exact EqAt.bool_none c
   | bl b=>simp only [eqT];exact EqAt.bool_bool c b
   | int i t=>simp only [eqT];exact EqAt.bool_int c i t
   | str x t=>simp only [eqT];exact EqAt.bool_str c x t
  | int c ct =>
   cases s2 with
   | dct=>simp [Qr] at h2
   | clo=>simp [Qr] at h2
   | dtt=>simp [Qr] at h2
   | tup j2 i2 r2 p2=>simp [Qr] at h2
   | lst j2 i2 r2 p2=>simp [Qr] at h2
   | non=>simp only [eqT];exact EqAt.int_none c ct
   | bl b=>simp only [eqT];exact EqAt.int_bool c ct b
   | int i t=>simp only [eqT];exact EqAt.int_int c ct i t
   | str x t=>simp only [eqT];exact EqAt.int_str c ct x t
  | str c ct =>
   cases s2 with
   | dct=>simp [Qr] at h2
   | clo=>simp [Qr] at h2
   | dtt=>simp [Qr] at h2
   | tup j2 i2 r2 p2=>simp [Qr] at h2
   | lst j2 i2 r2 p2=>simp [Qr] at h2
   | non=>simp only [eqT];exact EqAt.str_none c ct
   | bl b=>simp only [eqT];exact EqAt.str_bool c ct b
   | int i t=>simp only [eqT];exact EqAt.str_int c ct i t
   | str x t=>simp only [eqT];exact EqAt.str_str c ct x t
 | succ n ih =>
  intro s A ok hu t t' u u' h1 h2 s1 s2
  have hu0:A.units<cLine:=by omega
  have ih':=ih (s:=s) (A:=A.in1) ok (by show A.units+1+n<cLine;omega)
  cases s1 with
  | dct=>simp [Qr] at h1
  | clo=>simp [Qr] at h1
  | dtt=>simp [Qr] at h1
  | tup j1 i1 r1 p1 =>
   have g1:=h1
   rw [Qr] at g1
   cases s2 with
   | dct=>simp [Qr] at h2
   | clo=>simp [Qr] at h2
   | dtt=>simp [Qr] at h2
   | tup j2 i2 r2 p2 =>
    have g2:=h2
    rw [Qr] at g2
    rename_i a vs ts its b ws us its2
    by_cases hab:a=b
    ·subst hab
     rw [Q4v (n+1) j1 j2 h1 h2]
     exact EqAt.same _
    ·rw [eqT]
     exact EqAt.of_refs hab (Qy2 i1 i2 r1 r2 ok g1 g2 p1 p2 hu0 ih').1
   | lst j2 i2 r2 p2=>simp only [eqT];exact EqAt.tuple_list p1 p2 hu0
   | non=>simp only [eqT];exact EqAt.tuple_none p1 hu0
   | bl b=>simp only [eqT];exact EqAt.tuple_bool b p1 hu0
   | int i t=>simp only [eqT];exact EqAt.tuple_int i t p1 hu0
   | str x t=>simp only [eqT];exact EqAt.tuple_str x t p1 hu0
  | lst j1 i1 r1 p1 =>
   have g1:=h1
   rw [Qr] at g1
   cases s2 with
   | dct=>simp [Qr] at h2
   | clo=>simp [Qr] at h2
   | dtt=>simp [Qr] at h2
   | lst j2 i2 r2 p2 =>
    have g2:=h2
    rw [Qr] at g2
    rename_i a vs ts its b ws us its2
    by_cases hab:a=b
    ·subst hab
     rw [Q4v (n+1) j1 j2 h1 h2]
     exact EqAt.same _
    ·rw [eqT]
     exact EqAt.of_refs hab (Qy3 i1 i2 r1 r2 ok g1 g2 p1 p2 hu0 ih').1
   | tup j2 i2 r2 p2=>simp only [eqT];exact EqAt.list_tuple p1 p2 hu0
   | non=>simp only [eqT];exact EqAt.list_none p1 hu0
   | bl b=>simp only [eqT];exact EqAt.list_bool b p1 hu0
   | int i t=>simp only [eqT];exact EqAt.list_int i t p1 hu0
   | str x t=>simp only [eqT];exact EqAt.list_str x t p1 hu0
  | non =>
   cases s2 with
   | dct=>simp [Qr] at h2
   | clo=>simp [Qr] at h2
   | dtt=>simp [Qr] at h2
   | tup j2 i2 r2 p2=>simp only [eqT];exact EqAt.none_tuple p2 hu0
   | lst j2 i2 r2 p2=>simp only [eqT];exact EqAt.none_list p2 hu0
   | non=>simp only [eqT];exact EqAt.same _
   | bl b=>simp only [eqT];exact EqAt.none_bool b
   | int i t=>simp only [eqT];exact EqAt.none_int i t
   | str x t=>simp only [eqT];exact EqAt.none_str x t
  | bl c =>
   cases s2 with
   | dct=>simp [Qr] at h2
   | clo=>simp [Qr] at h2
   | dtt=>simp [Qr] at h2
   | tup j2 i2 r2 p2=>simp only [eqT];exact EqAt.bool_tuple c p2 hu0
   | lst j2 i2 r2 p2=>simp only [eqT];exact EqAt.bool_list c p2 hu0
   | non=>simp only [eqT];exact EqAt.bool_none c
   | bl b=>simp only [eqT];exact EqAt.bool_bool c b
   | int i t=>simp only [eqT];exact EqAt.bool_int c i t
   | str x t=>simp only [eqT];exact EqAt.bool_str c x t
  | int c ct =>
   cases s2 with
   | dct=>simp [Qr] at h2
   | clo=>simp [Qr] at h2
   | dtt=>simp [Qr] at h2
   | tup j2 i2 r2 p2=>simp only [eqT];exact EqAt.int_tuple c ct p2 hu0
   | lst j2 i2 r2 p2=>simp only [eqT];exact EqAt.int_list c ct p2 hu0
   | non=>simp only [eqT];exact EqAt.int_none c ct
   | bl b=>simp only [eqT];exact EqAt.int_bool c ct b
   | int i t=>simp only [eqT];exact EqAt.int_int c ct i t
   | str x t=>simp only [eqT];exact EqAt.int_str c ct x t
  | str c ct =>
   cases s2 with
   | dct=>simp [Qr] at h2
   | clo=>simp [Qr] at h2
   | dtt=>simp [Qr] at h2
   | tup j2 i2 r2 p2=>simp only [eqT];exact EqAt.str_tuple c ct p2 hu0
   | lst j2 i2 r2 p2=>simp only [eqT];exact EqAt.str_list c ct p2 hu0
   | non=>simp only [eqT];exact EqAt.str_none c ct
   | bl b=>simp only [eqT];exact EqAt.str_bool c ct b
   | int i t=>simp only [eqT];exact EqAt.str_int c ct i t
   | str x t=>simp only [eqT];exact EqAt.str_str c ct x t
end
section
variable {X:Cx}
def Q2r (neg:Bool):R2:=fun x y H Q=>∃ t t',Is H x t∧Is H y t'∧Qr 50 t=true∧Qr 50 t'=true∧((∃ ts us,t=.tup ts∧t'=.tup us)∨∃ ts us,t=.lst ts∧t'=.lst us)∧Q (.bl (if neg then !eqT t t' else eqT t t')) H
theorem Qn4 (hu:X.A.units+64<cLine) {pins:List (Addr×Obj)} {σ:St} {H:Hp} {s:Shared} (I:Inv X pins σ H s) {x y:V} {v u:Value} {t t':T} (rx:RelV x v) (ry:RelV y u) (i:Is H x t) (j:Is H y t') (h1:Qr 50 t=true) (h2:Qr 50 t'=true)
  (hk:(∃ ts us,t=.tup ts∧t'=.tup us)∨∃ ts us,t=.lst ts∧t'=.lst us):SeqAt.RcAt X.A s v u (eqT t t')∧SeqAt.RcNeAt X.A s v u (!eqT t t'):=by
 have ih:=Q69 49 (A:=X.A.in1) (P:=X.prog) (w:=X.w) I.hok (by show X.A.units+1+49<cLine;omega)
 have s1:=i.shp rx I.hok
 have s2:=j.shp ry I.hok
 rcases hk with ⟨ts,us,rfl,rfl⟩ | ⟨ts,us,rfl,rfl⟩
 ·rw [Qr] at h1 h2
  rw [eqT]
  cases s1 with
  | tup j1 i1 r1 p1 =>
   cases s2 with
   | tup j2 i2 r2 p2=>exact Qy2 i1 i2 r1 r2 I.hok h1 h2 p1 p2 (by omega) ih
 ·rw [Qr] at h1 h2
  rw [eqT]
  cases s1 with
  | lst j1 i1 r1 p1 =>
   cases s2 with
   | lst j2 i2 r2 p2=>exact Qy3 i1 i2 r1 r2 I.hok h1 h2 p1 p2 (by omega) ih
theorem Qaa1 (hu:X.A.units+64<cLine):QOp X (compareOp .Eq) (Q2r false):=⟨by
 intro pins s σ H x y v u Q I rx ry q
 obtain ⟨t,t',i,j,h1,h2,hk,q⟩:=q
 exact (Qn4 hu I rx ry i j h1 h2 hk).1 _ _ _ _ ⟨.bl _,H,I,rfl,q⟩⟩
theorem Qaa2 (hu:X.A.units+64<cLine):QOp X (compareOp .NotEq) (Q2r true):=⟨by
 intro pins s σ H x y v u Q I rx ry q
 obtain ⟨t,t',i,j,h1,h2,hk,q⟩:=q
 exact (Qn4 hu I rx ry i j h1 h2 hk).2 _ _ _ _ ⟨.bl _,H,I,rfl,q⟩⟩
noncomputable def Q2s:T→T→Bool
 | .tup _,.non=>true
 | .tup _,.bl _=>true
 | .tup _,.int _=>true
 | .tup _,.str _=>true
 | .tup _,.lst _=>true
 | .non,.tup _=>true
 | .bl _,.tup _=>true
 | .int _,.tup _=>true
 | .str _,.tup _=>true
 | .lst _,.tup _=>true
 | .dct _ _,.tup _=>true
 | _,_=>false
def Q2t (neg:Bool):R2:=fun x y H Q=>∃ t t',Is H x t∧Is H y t'∧Q2s t t'=true∧Q (.bl neg) H
theorem Qqs (hu:X.A.units+64<cLine) {pins:List (Addr×Obj)} {σ:St} {H:Hp} {s:Shared} (I:Inv X pins σ H s) {x y:V} {v u:Value} {t t':T} (rx:RelV x v) (ry:RelV y u) (i:Is H x t) (j:Is H y t') (hk:Q2s t t'=true):SeqAt.RcAt X.A s v u false∧SeqAt.RcNeAt X.A s v u true:=by
 have s1:=i.shp rx I.hok
 have s2:=j.shp ry I.hok
 have hu:X.A.units<cLine:=by omega
 cases s1 with
 | non =>
  cases s2 with
  | tup _ _ _ p=>exact ⟨SeqAt.RcAt.none_tuple p hu,SeqAt.RcNeAt.none_tuple p hu⟩
  | _=>cases hk
 | bl b =>
  cases s2 with
  | tup _ _ _ p=>exact ⟨SeqAt.RcAt.bool_tuple b p hu,SeqAt.RcNeAt.bool_tuple b p hu⟩
  | _=>cases hk
 | int b c =>
  cases s2 with
  | tup _ _ _ p=>exact ⟨SeqAt.RcAt.int_tuple b c p hu,SeqAt.RcNeAt.int_tuple b c p hu⟩
  | _=>cases hk
 | str b c =>
  cases s2 with
  | tup _ _ _ p=>exact ⟨SeqAt.RcAt.str_tuple b c p hu,SeqAt.RcNeAt.str_tuple b c p hu⟩
  | _=>cases hk
 | tup _ _ _ p =>
  cases s2 with
  | non=>exact ⟨SeqAt.RcAt.tuple_none p hu,SeqAt.RcNeAt.tuple_none p hu⟩
  | bl b=>exact ⟨SeqAt.RcAt.tuple_bool b p hu,SeqAt.RcNeAt.tuple_bool b p hu⟩
  | int b c=>exact ⟨SeqAt.RcAt.tuple_int b c p hu,SeqAt.RcNeAt.tuple_int b c p hu⟩
  | str b c=>exact ⟨SeqAt.RcAt.tuple_str b c p hu,SeqAt.RcNeAt.tuple_str b c p hu⟩
  | lst _ _ _ q=>exact ⟨SeqAt.RcAt.tuple_list p q hu,SeqAt.RcNeAt.tuple_list p q hu⟩
  | _=>cases hk
 | lst _ _ _ p =>
  cases s2 with
  | tup _ _ _ q=>exact ⟨SeqAt.RcAt.list_tuple p q hu,SeqAt.RcNeAt.list_tuple p q hu⟩
  | _=>cases hk
 | dct =>
  cases s2 with
  | tup _ _ _ p =>
   unfold Is at i
   obtain ⟨a,vs,rfl,ha,_⟩:=i
   cases rx
   obtain ⟨_,_,ws,_,ob,es,ep,e,c,_⟩:=(show ObjOk X.prog X.w H s.heap a (.dK _) from I.hok a _ ha)
   exact ⟨SeqAt.RcAt.dict_tuple e c.1 p hu,SeqAt.RcNeAt.dict_tuple e c.1 p hu⟩
  | _=>cases hk
 | _=>cases s2 <;> cases hk
theorem Qaa3 (hu:X.A.units+64<cLine):QOp X (compareOp .Eq) (Q2t false):=⟨by
 intro pins s σ H x y v u Q I rx ry q
 obtain ⟨t,t',i,j,hk,q⟩:=q
 exact (Qqs hu I rx ry i j hk).1 _ _ _ _ ⟨.bl _,H,I,rfl,q⟩⟩
theorem Qaa4 (hu:X.A.units+64<cLine):QOp X (compareOp .NotEq) (Q2t true):=⟨by
 intro pins s σ H x y v u Q I rx ry q
 obtain ⟨t,t',i,j,hk,q⟩:=q
 exact (Qqs hu I rx ry i j hk).2 _ _ _ _ ⟨.bl _,H,I,rfl,q⟩⟩
end
section
open PySem.W
theorem Qy4 {prog:Program} {w:World} {A:Around} {E:Value→Shared→Prop} {s:Shared} {K:Frag} {x D:Addr} {ox:Obj} {od:Option Obj} {name:Str} {fill xp:Bool} {Q:Value→Shared→Prop} {tk:Tok} {r:Value}
  (X:K.In s.heap) (I:InstAt s.heap x ox D od) (hga:findIn K (.ref D) "__getattribute__" = some (some (.builtin "BaseException.__getattribute__"))) (hgt:findIn K (.ref D) "__getattr__" = some none) (hbe:mroIn K D (.type "BaseException")=some true)
  (h:∀ (A:Around) (E:Value→Shared→Prop) (R:Value→Shared→Prop),R r s→wpAny (model prog w) A (Builtin.«object.__getattribute__» ⟨[.ref x,.str name tk],[]⟩) (fun fin s'=>∃ v,fin=.done (.ret v)∧R v s') E s) (hh:handedIn r=true) (hq:Q r s) :
  wpAny (model prog w) A (getAttrBy (.ref x) (.str name tk) fill xp) Q E s:=by
 obtain ⟨hp,g,d,t,os⟩:=s
 have L0:=I.type (M:=model prog w)
 have L1:=looks_findIn (M:=model prog w) X hga
 have L2:=looks_findIn (M:=model prog w) X hgt
 have L3:=looks_mroIn (M:=model prog w) X hbe
 have ne:(onTheHeap (Value.ref D)&&Value.builtin "BaseException.__getattribute__" == Value.builtin "object.__getattribute__")=false:=by
  rw [show (Value.builtin "BaseException.__getattribute__" == Value.builtin "object.__getattribute__")=false from by decide +kernel,Bool.and_false]
 have bnd:=F.excAttr_ValueError.ga.bind (.ref x)
 unfold getAttrBy
 refine wpAny_holding (wpAny_bind (L0.at (wpAny_bind (L1.at ?_))))
 show wpAny _ _ (if (onTheHeap (Value.ref D)&&Value.builtin "BaseException.__getattribute__" == Value.builtin "object.__getattribute__")=true then _ else _) _ _ _
 rw [ne,if_neg Bool.false_ne_true]
 unfold getAttrByItsOwn hookBefore
 rw [show onTheHeap (Value.ref D)=true from rfl,if_pos rfl]
 refine wpAny_bind (L2.at (wpAny_bind (wpAny_attempt (wpAny_holding ?_))))
 unfold callGetattribute
 rw [if_neg (by cases xp <;> decide)]
 unfold boundAndCalled
 refine wpAny_bind (wpAny_of_eq bnd ?_)
 have chk:∀ (A:Around) (E:Value→Shared→Prop) (Q:Unit→Shared→Prop),Q () ⟨hp,g,d,t,os⟩→wpAny (model prog w) A (checkBuiltinCall "BaseException.__getattribute__" ⟨[.ref x,.str name tk],[]⟩) Q E ⟨hp,g,d,t,os⟩:=fun A E Q hq=>by
  have k1:builtinKind "BaseException.__getattribute__" = some .slot:=by decide +kernel
  have k2:splitId "BaseException.__getattribute__" = some ("BaseException","__getattribute__"):=by decide +kernel
  have k3:=F.args_bexc_ga (.ref x) (.str name tk)
  simp only [checkBuiltinCall,k1,k2]
  refine wpAny_bind ?_
  unfold isInstance
  refine wpAny_bind (L0.at (L3.at ?_))
  repeat wp_step
  exact hq
 refine wpAny_call (codeAny_call_builtin F.excAttr_ValueError.ga.plain F.entry_bexc_ga (chk _ _ _ ?_))
 refine wpAny_mono (h _ _ (fun v s'=>v=r∧s'=⟨hp,g,d,t,os⟩) ⟨rfl,rfl⟩) (fun fin s' z=>?_) fun _ _ z=>z
 obtain ⟨v,rfl,rfl,rfl⟩:=z
 exact handed_on hh hq
theorem Qwg {prog:Program} {w:World} {A:Around} {E:Value→Shared→Prop} {s:Shared} {K:Frag} {x D:Addr} {ox:Obj} {od:Option Obj} {Q:Fin→Shared→Prop} {tk:Tok}
  (X:K.In s.heap) (I:InstAt s.heap x ox D od) (hf:findObj K D od "__class__" = some (.bind (.builtin "getset_descriptor.__get__") (.builtin "object.__class__"))) (hm:mroIn K D (.type "object")=some true) (hq:Q (.done (.ret (.ref D))) s) :
  wpAny (model prog w) A (Builtin.«object.__getattribute__» ⟨[.ref x,.str "__class__" tk],[]⟩) Q E s:=by
 obtain ⟨hp,g,d,t,os⟩:=s
 have L0:=I.type (M:=model prog w)
 have L1:=looks_find (M:=model prog w) X I hf
 unfold Builtin.«object.__getattribute__»
 repeat (first | with_reducible refine L0.at ?_ | with_reducible refine L1.at ?_ | wp_step)
 exact class_get (ox:=ox) (od:=od) X I hm (wpAny_pure hq)
end
noncomputable def Qwh (K:PySem.W.Frag) (D:Addr):Bool:=PySem.W.findIn K (.ref D) "__getattribute__" == some (some (.builtin "BaseException.__getattribute__"))&&PySem.W.findIn K (.ref D) "__getattr__" == some none&&PySem.W.mroIn K D (.type "BaseException")==some true&&(PySem.W.clsIn K D).isSome&&PySem.W.findIn K (.ref D) "__class__" == some (some (.builtin "object.__class__")) &&
 PySem.W.specialIn K (.builtin "object.__class__") "__get__" == some (some (.builtin "getset_descriptor.__get__"))&&PySem.W.takesIn K (.builtin "object.__class__")==some true&&PySem.W.mroIn K D (.type "object")==some true
theorem Qqt {K:PySem.W.Frag} {h:Heap} {D:Addr} (X:K.In h) (hc:(PySem.W.clsIn K D).isSome=true):∃ c d cd sl,h.get? D=some ⟨c,d,.cls cd,sl⟩:=by
 unfold PySem.W.clsIn at hc
 split at hc
 ·rename_i c d cd sl look
  exact ⟨c,d,cd,sl,X _ _ look⟩
 ·cases hc
theorem Qy5 {K:PySem.W.Frag} {x D:Addr} (hk:Qwh K D=true):PySem.W.KitX K (.ref x) (.ref D) (fun h=>∃ ox od,PySem.W.InstAt h x ox D od):=by
 unfold Qwh at hk
 simp only [Bool.and_eq_true,beq_iff_eq] at hk
 obtain ⟨⟨⟨⟨⟨⟨⟨k1,k7⟩,k8⟩,k2⟩,k3⟩,k4⟩,k5⟩,k6⟩:=hk
 refine ⟨fun _ _ _ ⟨ox,od,I⟩=>I.type,fun M h X _=>?_,fun h tp dd its n sl X htp=>?_,fun {prog w A E Q s} X ⟨ox,od,I⟩ k=>?_⟩
 ·obtain ⟨c,d,cd,sl,ho⟩:=Qqt X k2
  intro A' Q' E' s' kp q
  unfold isType loadHead
  exact wpAny_bind (wpAny_loadPart (kp _ _ ho) (wpAny_pure q))
 ·obtain ⟨c,d,cd,sl',ho⟩:=Qqt X k2
  refine Bool.eq_false_iff.mpr fun q=>?_
  have e:D=tp:=Value.ref.inj (beq_iff_eq.mp q)
  subst e
  rw [ho] at htp
  cases htp
 ·have hf:PySem.W.findObj K D od "__class__" = some (.bind (.builtin "getset_descriptor.__get__") (.builtin "object.__class__")):=by
   obtain ⟨cd,hc⟩:=Option.isSome_iff_exists.mp k2
   unfold PySem.W.findObj
   rw [hc,Option.bind_some,k3,Option.bind_some]
   simp [k4,k5]
  unfold getAttr? getAttrBy?
  refine wpAny_bind (wpAny_mkText (wpAny_bind (wpAny_attempt (Qy4 (s:={ s with toks:=s.toks+1 }) X I k1 k7 k8 (fun A E R hr=>?_) rfl (wpAny_pure k)))))
  exact Qwg (s:={ s with toks:=s.toks+1 }) X I hf k6 ⟨_,rfl,hr⟩
noncomputable def valC:V→Value
 | .ref a=>.ref a
 | .ty n=>.type n
 | _=>.none
def Qo7 (K:PySem.W.Frag):List V→Hp→VK→Prop:=fun xs H Q=>∃ a C1 dx c b,xs=[.ref a,c]∧H a=some (Qs5 a (.ref C1) dx)∧(∀ d,dx=some d→∃ fs,H d=some (.xd fs))∧Qwh K C1=true∧((∃ C,c=.ref C)∨∃ n,c=.ty n)∧PySem.W.kitOne K (.ref C1) (valC c)=some b∧Q (.bl b) H
section
variable {X:Cx}
theorem Qs7:CallR X (.builtin "isinstance") (Qo7 X.K):=by
 intro pins s σ H xs us Q I r h
 obtain ⟨a,C1,dx,c,b,rfl,ha,hdx,hk,hc,e,q⟩:=h
 obtain ⟨u,w',rfl,rx,ry⟩:=Que r
 cases rx
 have ew:w'=valC c:=by
  rcases hc with ⟨C,rfl⟩ | ⟨n,rfl⟩
  ·exact ry
  ·exact ry
 subst ew
 obtain ⟨⟨o,vs,ho,h1,h2,h3⟩,_⟩:=(show ObjOk X.prog X.w H s.heap a (Qs5 a (.ref C1) dx) from I.hok a _ ha)
 have hod:∃ od:Option Obj,(dx=none∧od=none)∨∃ d u,dx=some d∧od=some u∧s.heap.get? d=some u:=by
  cases e0:dx with
  | none=>exact ⟨none,.inl ⟨rfl,rfl⟩⟩
  | some d =>
   obtain ⟨fs,hf⟩:=hdx d e0
   obtain ⟨mA,⟨od,_,_,e1,_⟩,_⟩:=(show ObjOk X.prog X.w H s.heap d (.xd fs) from I.hok d _ hf)
   exact ⟨some od,.inr ⟨d,od,rfl,rfl,e1⟩⟩
 obtain ⟨od,hod⟩:=hod
 refine PySem.W.kia_one (Qy5 hk) I.kIn ⟨o,od,ho,h1,?_,?_⟩ e (fun z=>nomatch z) fun tk=>⟨.bl b,H,I.tok _,rfl,q⟩
 ·unfold PySem.W.notCls;rw [h3]
 ·rw [h2]
  rcases hod with ⟨rfl,rfl⟩ | ⟨d,u,rfl,rfl,e1⟩
  ·trivial
  ·exact e1
theorem Qdm (K:PySem.W.Frag) (hK:X.K=K):QCl X (.builtin "isinstance") (Qo7 K):=⟨by subst hK;exact Qs7⟩
def Quk (K:PySem.W.Frag):V→List V→Hp→VK→Prop:=fun x vs H Q=>∃ (l:Addr) (bs:List Bool) (b:Bool),x=.ref l∧vs=[.bl b]∧H l=some (.lst (bs.map V.bl))∧Q (.int (bs.count b:Nat)) H
theorem Qo8:∀ {bs:List Bool} {us:List Value},Vals (bs.map V.bl) us→us=bs.map Value.bool
 | [],_,.nil=>rfl
 | b::bs,_,.cons r t=>by cases r;rw [Qo8 t];rfl
noncomputable def isB (b:Bool) (v:Value):Bool:=match v with
 | .bool c=>c==b
 | _=>false
theorem Qqu (b:Bool):∀ bs:List Bool,(bs.map Value.bool).countP (isB b)=bs.count b
 | []=>rfl
 | c::bs=>by
  rw [map_cons,List.countP_cons,Qqu b bs,List.count_cons]
  rfl
theorem Qwi:MtM X "list.count" (Quk X.K):=by
 intro pins s σ H x vs v us Q I rx rv h
 obtain ⟨l,bs,b,rfl,rfl,hH,q⟩:=h
 cases rx
 obtain ⟨u,rfl,ru⟩:=rv.one
 cases ru
 obtain ⟨z,its,n,r,hl,e⟩:=I.lstM hH
 have ei:=Qo8 r
 subst ei
 refine call_meets F.slot_list_count ⟨_,e,rfl⟩ F.entry_list_count (F.args_list_count_2 _ _) (SeqAt.list_countAt l _ n none #[] (.bool b) (isB b)) ⟨e,fun y hy=>?_,?_⟩
 ·have hy:y∈bs.map Value.bool:=by simpa using hy
  obtain ⟨c,_,rfl⟩:=mem_map.mp hy
  exact SeqAt.EqAt.bool_bool c b
 ·have ec:List.countP (isB b) (bs.map Value.bool).toArray.toList=bs.count b:=by rw [List.toList_toArray];exact Qqu b bs
  rw [ec]
  exact ⟨.int _,H,I.tok _,⟨_,rfl⟩,q⟩
def Qul (K:PySem.W.Frag):V→List V→Hp→VK→Prop:=fun x vs H Q=>∃ (l:Addr) (bs:List Bool) (b:Bool) (j:Nat),x=.ref l∧vs=[.bl b]∧H l=some (.lst (bs.map V.bl))∧bs.length≤1000∧bs[j]?=some b∧(∀ m,m<j→bs[m]?≠some b)∧Q (.int (j:Nat)) H
theorem Qwj:MtM X "list.index" (Qul X.K):=by
 intro pins s σ H x vs v us Q I rx rv h
 obtain ⟨l,bs,b,j,rfl,rfl,hH,hz,hj,hno,q⟩:=h
 cases rx
 obtain ⟨u,rfl,ru⟩:=rv.one
 cases ru
 obtain ⟨z,its,n,r,hl,e⟩:=I.lstM hH
 have ei:=Qo8 r
 subst ei
 have hjl:j<bs.length:=(List.getElem?_eq_some_iff.mp hj).1
 refine call_meets F.slot_list_index ⟨_,e,rfl⟩ F.entry_list_index (F.args_list_index_2 _ _) (SeqAt.list_indexAt l _ n none #[] (.bool b) (isB b) j (by simpa using hjl) (by omega) ?_ ?_) ⟨e,fun y hy=>?_,⟨.int _,H,I.tok _,⟨_,rfl⟩,q⟩⟩
 ·have e1:bs[j]=b:=by rw [getElem?_eq_getElem hjl] at hj;exact Option.some.inj hj
  simp [isB,e1]
 ·intro m hm hmj
  have hml:m<bs.length:=by simpa using hm
  have e1:bs[m]≠b:=fun z=>hno m hmj (by rw [getElem?_eq_getElem hml,z])
  simp [isB,e1]
 ·have hy:y∈bs.map Value.bool:=by simpa using hy
  obtain ⟨c,_,rfl⟩:=mem_map.mp hy
  exact SeqAt.EqAt.bool_bool c b
theorem Qy6 (K:PySem.W.Frag) (hK:X.K=K):QMt X "list.count" (Quk K):=⟨by subst hK;exact Qwi⟩
theorem Qy7 (K:PySem.W.Frag) (hK:X.K=K):QMt X "list.index" (Qul K):=⟨by subst hK;exact Qwj⟩
end
def Q2u (P:Program) (w:World) (K:PySem.W.Frag) (mg:Str→Option Value) (base:Heap) (x:Str) (ps:List Str) (k:Nat) (sp:Sp):Prop :=
 ∃ f fd,PySem.W.keepIn K (.ref f)=true∧mg x=some (.ref f)∧Binds K fd ps []∧FnOkH P w K mg base CX0 k f fd ps sp
section
variable {P:Program} {w:World} {K:PySem.W.Frag} {mg:Str→Option Value} {base:Heap}
theorem Q7a {x:Str} {st:Stmt} {N ps:List Str} {k:Nat} {sp:Sp} (d:Dfn K mg x st) (S:FnScope N ps (Qf st)) (bd:Qaf x st ps) (len:∀ vs H Q E,sp vs H Q E→vs.length=ps.length)
  (hbody:∀ (f:Addr) (cdv:Value) (A:Around) (outer:List Env) (s:Shared) (H:Hp) (vs:List V) (Q:VK) (E:XK),RoomH k (A.deeper (envOfC x (Qf st) s.heap.objs.size f cdv))→sp vs H Q E →
   ∃ t,QB (Qn1 CX0 P w K mg base N x (Qf st) f cdv A outer s H E).nox (Qaj st) t∧t { nx:=fun _ H'=>Q .non H',rt:=Q } (Qbt N vs) H):Q2u P w K mg base x ps (k+1) sp:=by
 obtain ⟨f,fd,F,m⟩:=d.ex
 refine ⟨f,fd,F.kp,m,F.binds bd,?_⟩
 obtain ⟨oc,od,kV,doc,pm,an,cdv,ct,osl,rfl,lk,hcd⟩:=F.ex
 refine Q68 lk hcd S len fun A outer s H vs Q E hr hsp=>?_
 obtain ⟨t,h,q⟩:=hbody f cdv A outer s H vs Q E hr hsp
 exact ⟨t,h.h.nox,q⟩
end
section
variable {X:Cx} {x:Str} {ps:List Str} {k:Nat} {sp:Sp} {e:Expr} {es:List Expr} {t:TA} {p pos:Pos}
theorem Qaa6 (h:Q2u X.prog X.w X.K X.mg X.base x ps k sp) (hr:RoomH k X.A) (ha:QA X (e::es) t) (hg:Gl X x:=by rfl)
  (hdb:(x==("__debug__" : Str))=false:=by decide) (he:starEach (e::es) X.env=(false,eval e X.env)::starEach es X.env:=by rfl) (hpl:(backTo pos (starEach es X.env)).any (·.1)=false:=by rfl) :
  QE X (.Call (.Name x p) (e::es) [] pos) (Qqg sp [] E0 t):=by
 obtain ⟨f,fd,kp,m,b,F⟩:=h
 refine ⟨fun pins s σ H Q I hq=>?_⟩
 refine wpAny_Call_Name_kw (Qfz I hg m ?_ hdb)
 refine PySem.W.callWith_K (h₀:=X.base) I.ok.mod.kin kp (thn (ha.h pos pins s σ H _ I hq) fun us s1 ⟨vs,H1,I1,r,q⟩=>⟨I1.kIn,?_⟩) he hpl
 have q2:sp vs H1 Q E0:=by
  have q:sp (vs++[]) H1 Q E0:=q
  rw [append_nil] at q
  exact q
 have hl:(us++[]).length=ps.length:=by rw [append_nil,←r.length];exact F.len _ _ _ _ q2
 have r2:Vals vs (us++[]):=by rw [append_nil];exact r
 refine wpAny_call (codeAny_mono (F.run X.A X.stack s1 H1 ⟨us,[]⟩ (us++[]) vs Q _ hr I1.env0 (b s1 us I1.kIn hl) r2 q2) fun rr s' hq'=>?_)
 cases rr with
 | error ev=>exact False.elim hq'
 | ok fl =>
  cases fl with
  | ret u=>exact I1.after hq'
  | next=>exact False.elim hq'
  | brk=>exact False.elim hq'
  | cont=>exact False.elim hq'
end
noncomputable def cad (mg:Str→Option Value) (x:Str):Addr:=match mg x with
 | some (.ref a)=>a
 | _=>0
noncomputable def bmV:List Value:=[.type "ValueError",.type "Exception",.type "BaseException",.type "object"]
noncomputable def Qbk:List Str:=["NoTable","NoWay","NoSet","NoRest","NoLine","NoRow","NoTables","Below","NoText","TooGreat"]
noncomputable def Qy8 (K:PySem.W.Frag) (c0:Addr) (cs:List Addr):Bool :=
 PySem.W.excIn K c0 bmV "ValueError.__new__" && (cs.take 6).all (fun c=>PySem.W.excIn K c bmV "ValueError.__new__")&&cs.all (fun c=>Qwh K c&&PySem.W.mroIn K c (.ref c0)==some true&&PySem.W.kitOne K (.ref c) (.type "ValueError")==some true) &&
  cs.zipIdx.all (fun p=>cs.zipIdx.all fun q=>PySem.W.kitOne K (.ref p.1) (.ref q.1)==some (p.2==q.2))
structure Exs (K:PySem.W.Frag) (mg:Str→Option Value):Prop where
 m0:mg "NoughtError" = some (.ref (cad mg "NoughtError"))
 m:∀ (i:Nat) (x:Str),Qbk[i]?=some x→mg x=some (.ref (cad mg x))
 ok:Qy8 K (cad mg "NoughtError") (Qbk.map (cad mg))=true
theorem Qbn {mg:Str→Option Value} {x:Str} {a:Addr} (h:mg x=some (.ref a)):cad mg x=a:=by unfold cad;rw [h]
theorem Q7b {K:PySem.W.Frag} {mg:Str→Option Value} {h:Heap} {c0 c1 c2 c3 c4 c5 c6 c7 c8 c9 c10:Addr} (X:K.In h) (G:h.Ns mainGlobals mg) (e0:PySem.W.nsIn K mainGlobals "NoughtError" = some (some (.ref c0)))
  (e1:PySem.W.nsIn K mainGlobals "NoTable" = some (some (.ref c1))) (e2:PySem.W.nsIn K mainGlobals "NoWay" = some (some (.ref c2))) (e3:PySem.W.nsIn K mainGlobals "NoSet" = some (some (.ref c3))) (e4:PySem.W.nsIn K mainGlobals "NoRest" = some (some (.ref c4)))
  (e5:PySem.W.nsIn K mainGlobals "NoLine" = some (some (.ref c5))) (e6:PySem.W.nsIn K mainGlobals "NoRow" = some (some (.ref c6))) (e7:PySem.W.nsIn K mainGlobals "NoTables" = some (some (.ref c7))) (e8:PySem.W.nsIn K mainGlobals "Below" = some (some (.ref c8)))
  (e9:PySem.W.nsIn K mainGlobals "NoText" = some (some (.ref c9))) (e10:PySem.W.nsIn K mainGlobals "TooGreat" = some (some (.ref c10))) (ok:Qy8 K c0 [c1,c2,c3,c4,c5,c6,c7,c8,c9,c10]=true):Exs K mg:=by
 have g0:=PySem.W.mg_of X G e0
 have g1:=PySem.W.mg_of X G e1
 have g2:=PySem.W.mg_of X G e2
 have g3:=PySem.W.mg_of X G e3
 have g4:=PySem.W.mg_of X G e4
 have g5:=PySem.W.mg_of X G e5
 have g6:=PySem.W.mg_of X G e6
 have g7:=PySem.W.mg_of X G e7
 have g8:=PySem.W.mg_of X G e8
 have g9:=PySem.W.mg_of X G e9
 have g10:=PySem.W.mg_of X G e10
 have em:Qbk.map (cad mg)=[c1,c2,c3,c4,c5,c6,c7,c8,c9,c10]:=by
  unfold Qbk
  simp only [map_cons,map_nil]
  rw [Qbn g1,Qbn g2,Qbn g3,Qbn g4,Qbn g5,Qbn g6,Qbn g7,Qbn g8,Qbn g9,Qbn g10]
 refine ⟨by rw [Qbn g0];exact g0,fun i x hx=>?_,by rw [em,Qbn g0];exact ok⟩
 have ms:=mem_of_getElem? hx
 unfold Qbk at ms
 simp only [mem_cons,not_mem_nil,or_false] at ms
 rcases ms with rfl | rfl | rfl | rfl | rfl | rfl | rfl | rfl | rfl | rfl
 ·rw [Qbn g1];exact g1
 ·rw [Qbn g2];exact g2
 ·rw [Qbn g3];exact g3
 ·rw [Qbn g4];exact g4
 ·rw [Qbn g5];exact g5
 ·rw [Qbn g6];exact g6
 ·rw [Qbn g7];exact g7
 ·rw [Qbn g8];exact g8
 ·rw [Qbn g9];exact g9
 ·rw [Qbn g10];exact g10
section
variable {K:PySem.W.Frag} {mg:Str→Option Value}
theorem Exs.parts (ex:Exs K mg):PySem.W.excIn K (cad mg "NoughtError") bmV "ValueError.__new__" = true∧(∀ c∈(Qbk.map (cad mg)).take 6,PySem.W.excIn K c bmV "ValueError.__new__" = true) ∧
  (∀ c∈Qbk.map (cad mg),Qwh K c=true∧PySem.W.mroIn K c (.ref (cad mg "NoughtError"))=some true∧PySem.W.kitOne K (.ref c) (.type "ValueError")=some true) ∧
  ∀ (i j:Nat) (c d:Addr),(Qbk.map (cad mg))[i]?=some c→(Qbk.map (cad mg))[j]?=some d→PySem.W.kitOne K (.ref c) (.ref d)=some (i==j):=by
 have h:=ex.ok
 unfold Qy8 at h
 simp only [Bool.and_eq_true,all_eq_true,beq_iff_eq] at h
 obtain ⟨⟨⟨h1,h2⟩,h3⟩,h4⟩:=h
 refine ⟨h1,h2,fun c hc=>⟨(h3 c hc).1.1,(h3 c hc).1.2,(h3 c hc).2⟩,fun i j c d hi hj=>?_⟩
 exact h4 (c,i) (List.mk_mem_zipIdx_iff_getElem?.mpr hi) (d,j) (List.mk_mem_zipIdx_iff_getElem?.mpr hj)
theorem Exs.nou (ex:Exs K mg):PySem.W.excIn K (cad mg "NoughtError") bmV "ValueError.__new__" = true:=ex.parts.1
theorem Exs.rz (ex:Exs K mg) (i:Nat) {x:Str} (hi:i<6) (hx:Qbk[i]?=some x):PySem.W.excIn K (cad mg x) bmV "ValueError.__new__" = true:=by
 refine ex.parts.2.1 _ (mem_of_getElem? (i:=i) ?_)
 rw [List.getElem?_take_of_lt hi,getElem?_map,hx]
 rfl
theorem Exs.at (i:Nat) {x:Str} (hx:Qbk[i]?=some x):(Qbk.map (cad mg))[i]?=some (cad mg x):=by rw [getElem?_map,hx];rfl
theorem Exs.xc (ex:Exs K mg) (i:Nat) {x:Str} (hx:Qbk[i]?=some x):Qwh K (cad mg x)=true:=(ex.parts.2.2.1 _ (mem_of_getElem? (Exs.at i hx))).1
theorem Exs.sub (ex:Exs K mg) (i:Nat) {x:Str} (hx:Qbk[i]?=some x):PySem.W.mroIn K (cad mg x) (.ref (cad mg "NoughtError"))=some true:=(ex.parts.2.2.1 _ (mem_of_getElem? (Exs.at i hx))).2.1
theorem Exs.val (ex:Exs K mg) (i:Nat) {x:Str} (hx:Qbk[i]?=some x):PySem.W.kitOne K (.ref (cad mg x)) (.type "ValueError")=some true:=(ex.parts.2.2.1 _ (mem_of_getElem? (Exs.at i hx))).2.2
theorem Exs.kit (ex:Exs K mg) (i j:Nat) {x y:Str} (hx:Qbk[i]?=some x) (hy:Qbk[j]?=some y):PySem.W.kitOne K (.ref (cad mg x)) (.ref (cad mg y))=some (i==j):=ex.parts.2.2.2 i j _ _ (Exs.at i hx) (Exs.at j hy)
end
theorem Qid {X:Cx} {x:Str} {a:Addr} {pos:Pos} (m:X.mg x=some (.ref a)) (hg:Gl X x:=by rfl) (hd:(x==("__debug__" : Str))=false:=by decide):QE X (.Name x pos) (tC (.ref a)):=⟨Qt9 (v:=.ref a) hg m rfl hd⟩
section
variable {X:Cx} {pins:List (Addr×Obj)} {σ:St} {H:Hp} {s:Shared} {h':Heap}
theorem Inv.turnedL {t':Nat} {fp:List Addr} (I:Inv X pins σ H s) (k:∀ b o,b∉fp→s.heap.get? b=some o→h'.get? b=some o) (hf:∀ b∈fp,Qih X pins H b):Inv X pins σ H { s with heap:=h',toks:=t' }:=by
 have nit:∀ b u,H b=some u→b∉fp:=fun b u e z=>by rw [(hf b z).1] at e;cases e
 refine I.step (g':=s.gens) (d':=s.drawn) (ch:=fp) (fun b hb=>?_) (fun b o _ _ hc e _=>k b o hc e) (fun b o _ _ hc e _=>⟨o.slots,k b o hc e⟩) (fun _ _ _ _ n=>n)
  (fun b o hc e=>⟨o,k b o hc e⟩) (fun _ _ e=>e) (fun _ _ _ e=>e) (fun _ _ e=>e) (fun m hm=>?_) (fun b u e=>?_) I.bare
 ·obtain ⟨_,f1,_,f3,f4,f5⟩:=hf b hb
  exact ⟨f3,f1,f4,f5⟩
 ·obtain ⟨o,es,ep,ho,r⟩:=hm
  exact ⟨o,es,ep,k _ o (fun z=>(hf _ z).2.1 rfl) ho,r⟩
 ·refine (I.hok b u e).stay (fun c v hc q=>k c v ?_ q) (fun _ q=>q) fun _ _ q=>q
  rcases hc with z | z
  ·rw [z];exact nit b u e
  ·exact nit c _ z
end
section
variable {X:Cx}
end
section
variable {P:Program} {w:World} {A:Around} {E:Value→Shared→Prop} {s:Shared}
theorem Qs8 {j t:Addr} {n:Nat} {vs:Array Value} {v:Value} {Q:Value→Shared→Prop} (hj:s.heap.IsTupleIter j t n) (ht:s.heap.IsTuple t vs) (hv:vs[n]?=some v)
  (q:∀ g,g.IsTupleIter j t (n+1)→Heap.SameBut j s.heap g→Q v { s with heap:=g }):wpAny (model P w) A (Builtin.SmallTypes.nextOf (.ref j)) Q E s:=by
 obtain ⟨oj,ej,cj,dj⟩:=id hj
 obtain ⟨ot,et,_,m,dt⟩:=ht
 unfold Builtin.SmallTypes.nextOf
 refine wpAny_bind (wpAny_callSpecial?_slot (name:=Str.ofString "__next__") hj.typeIs F.slot_tuple_iterator_next (wpAny_call_entry F.slot_tuple_iterator_next hj.typeIs F.entry_tuple_iterator_next ?_ (F.args_tuple_iterator_next_1 _)))
 show wpAny _ _ (field (.ref j) 0 >>= _) _ _ s
 refine wpAny_bind (wpAny_field ej dj (x:=.ref t) rfl ?_)
 show wpAny _ _ (if (Value.ref t==Value.none)=true then _ else _) _ _ s;rw [if_neg (show ¬ ((Value.ref t==Value.none)=true) from Bool.false_ne_true)]
 show wpAny _ _ (field (.ref j) 1 >>= _) _ _ s
 refine wpAny_bind (wpAny_field ej dj (x:=.int n 0) rfl ?_)
 show wpAny _ _ (seqItems? (.ref t) >>= _) _ _ s;refine wpAny_bind (wpAny_seqItems et dt ?_)
 simp only [Int.toNat_natCast,hv]
 refine wpAny_bind (wpAny_setField ej dj (by simp) (wpAny_pure ⟨v,rfl,wpAny_pure (q _ ?_ (Heap.SameBut.update ..))⟩))
 exact ⟨_,Heap.get?_update_self _ ej (Obj.isFreed_of_fields (Obj.data_mapFields dj _)),(Obj.cls_mapFields ..).trans cj,by rw [Obj.data_mapFields dj];simp [rawInt]⟩
theorem Qwk {j t:Addr} {n:Nat} {vs:Array Value} {Q:Value→Shared→Prop} (hh:A.handled=none) (hj:s.heap.IsTupleIter j t n) (ht:s.heap.IsTuple t vs) (hv:vs[n]?=none)
  (q:∀ g e,Heap.ExtBut j s.heap g→(∃ o,g.get? e=some o∧o.cls=.type "StopIteration")→E (.ref e) { s with heap:=g }):wpAny (model P w) A (Builtin.SmallTypes.nextOf (.ref j)) Q E s:=by
 obtain ⟨oj,ej,cj,dj⟩:=id hj
 obtain ⟨ot,et,_,m,dt⟩:=ht
 unfold Builtin.SmallTypes.nextOf
 refine wpAny_bind (wpAny_callSpecial?_slot (name:=Str.ofString "__next__") hj.typeIs F.slot_tuple_iterator_next (wpAny_call_entry F.slot_tuple_iterator_next hj.typeIs F.entry_tuple_iterator_next ?_ (F.args_tuple_iterator_next_1 _)))
 show wpAny _ _ (field (.ref j) 0 >>= _) _ _ s
 refine wpAny_bind (wpAny_field ej dj (x:=.ref t) rfl ?_)
 show wpAny _ _ (if (Value.ref t==Value.none)=true then _ else _) _ _ s;rw [if_neg (show ¬ ((Value.ref t==Value.none)=true) from Bool.false_ne_true)]
 show wpAny _ _ (field (.ref j) 1 >>= _) _ _ s
 refine wpAny_bind (wpAny_field ej dj (x:=.int n 0) rfl ?_)
 show wpAny _ _ (seqItems? (.ref t) >>= _) _ _ s;refine wpAny_bind (wpAny_seqItems et dt ?_)
 simp only [Int.toNat_natCast,hv]
 refine wpAny_bind (wpAny_rule (wpAny_bind (wpAny_setField ej dj (by simp) ?_)))
 show wpAny _ _ (newExc (.type "StopIteration") [] >>= _) _ _ _;refine wpAny_bind ?_
 simp only [newExc,newTuple]
 refine wpAny_bind (wpAny_newObj_type ?_ (by size_fits));refine wpAny_bind (m:=firstArgMember _ _) (wpAny_of_eq (a:=Value.none) (by first | rfl | (simp only [firstArgMember];rfl)) ?_)
 refine wpAny_newObj_type ?_ (by size_fits);simp only [raiseNew]
 refine wpAny_bind (wpAny_handled ?_);first | rw [show A.in1.handled=none from hh] | rw [hh]
 exact wpAny_bind (wpAny_pure (wpAny_throw (q _ _ (((Heap.SameBut.update ..).extBut.push _).push _) ⟨_,Heap.get?_push_size _ rfl,rfl⟩)))
def IsIt:Bool→Heap→Addr→Addr→Nat→Prop
 | true,h,i,l,n=>h.IsListIter i l n
 | false,h,i,l,n=>h.IsTupleIter i l n
def IsSq:Bool→Heap→Addr→Array Value→Prop
 | true,h,l,xs=>h.IsList l xs
 | false,h,l,xs=>h.IsTuple l xs
theorem IsIt.keep {lb:Bool} {h h':Heap} {i l:Addr} {n:Nat} (x:IsIt lb h i l n) (k:∀ o,h.get? i=some o→h'.get? i=some o):IsIt lb h' i l n:=by
 cases lb <;> exact let ⟨o,e,r⟩:=x;⟨o,k o e,r⟩
theorem IsSq.keep {lb:Bool} {h h':Heap} {l:Addr} {xs:Array Value} (x:IsSq lb h l xs) (k:∀ o,h.get? l=some o→h'.get? l=some o):IsSq lb h' l xs:=by
 cases lb <;> exact let ⟨o,e,r⟩:=x;⟨o,k o e,r⟩
theorem IsIt.obj {lb:Bool} {h:Heap} {i l:Addr} {n:Nat} (x:IsIt lb h i l n):∃ o,h.get? i=some o∧∀ v,o.data≠.cell v:=by
 cases lb <;> exact let ⟨o,e,_,d⟩:=x;⟨o,e,fun v z=>by rw [d] at z;cases z⟩
theorem IsSq.obj {lb:Bool} {h:Heap} {l:Addr} {xs:Array Value} (x:IsSq lb h l xs):∃ o,h.get? l=some o:=by
 cases lb <;> exact let ⟨o,e,_⟩:=x;⟨o,e⟩
theorem Qil {lb:Bool} {j t:Addr} {n:Nat} {vs:Array Value} {v:Value} {Q:Value→Shared→Prop} (hj:IsIt lb s.heap j t n) (ht:IsSq lb s.heap t vs) (hv:vs[n]?=some v)
  (q:∀ g,IsIt lb g j t (n+1)→Heap.SameBut j s.heap g→Q v { s with heap:=g }):wpAny (model P w) A (Builtin.SmallTypes.nextOf (.ref j)) Q E s:=by
 cases lb
 ·exact Qs8 hj ht hv q
 ·exact wpAny_nextOf_list_item hj ht hv q
theorem Qn5 {lb:Bool} {j t:Addr} {n:Nat} {vs:Array Value} {Q:Value→Shared→Prop} (hh:A.handled=none) (hj:IsIt lb s.heap j t n) (ht:IsSq lb s.heap t vs) (hv:vs[n]?=none)
  (q:∀ g e,Heap.ExtBut j s.heap g→(∃ o,g.get? e=some o∧o.cls=.type "StopIteration")→E (.ref e) { s with heap:=g }):wpAny (model P w) A (Builtin.SmallTypes.nextOf (.ref j)) Q E s:=by
 cases lb
 ·exact Qwk hh hj ht hv q
 ·exact wpAny_nextOf_list_end hh hj ht hv q
structure ZT (lb lc:Bool) (h:Heap) (z ti to i1 i2 l1 l2:Addr) (n:Nat) (xs ys:Array Value):Prop where
 z:IsZip h z ti to .none
 ti:IsPair h ti (.ref i1) (.ref i2)
 to:∃ a b,IsPair h to a b
 i1:IsIt lb h i1 l1 n
 i2:IsIt lc h i2 l2 n
 l1:IsSq lb h l1 xs
 l2:IsSq lc h l2 ys
theorem Qwl {lb lc:Bool} {z ti to i1 i2 l1 l2:Addr} {n:Nat} {xs ys:Array Value} {x y:Value} {Q:Option Value→Shared→Prop} (D:ZipApart z ti to i1 i2 l1 l2) (st:ZT lb lc s.heap z ti to i1 i2 l1 l2 n xs ys) (hx:xs[n]?=some x) (hy:ys[n]?=some y)
  (q:∀ g,IsZip g z ti to (rawInt s.heap.objs.size)→(∃ a b,IsPair g to a b)→IsIt lb g i1 l1 (n+1)→IsIt lc g i2 l2 (n+1)→IsPair g s.heap.objs.size x y→g.objs.size=s.heap.objs.size+1 →
   (∀ c o,c≠z→c≠to→c≠i1→c≠i2→s.heap.get? c=some o→g.get? c=some o)→Q (some (.ref s.heap.objs.size)) { s with heap:=g }):wpAny (model P w) A (pyNext (.ref z)) Q E s:=by
 obtain ⟨hz,hti,⟨a,b,hto⟩,h1,h2,hl1,hl2⟩:=st
 have hT:s.TypeIs (.ref z) "zip" := ⟨_,hz,rfl⟩
 unfold pyNext
 refine wpAny_bind (wpAny_attempt (wpAny_callSpecial?_slot (name:=Str.ofString "__next__") hT F.slot_zip_next (wpAny_call_entry F.slot_zip_next hT F.entry_zip_next ?_ (F.args_zip_next_1 _))))
 show wpAny _ _ (field (.ref z) 2 >>= _) _ _ _;refine wpAny_bind (wpAny_field hz rfl (x:=.bool false) rfl ?_)
 show wpAny _ _ (field (.ref z) 3 >>= _) _ _ _;refine wpAny_bind (wpAny_field hz rfl (x:=.ref ti) rfl ?_)
 refine wpAny_bind (wpAny_seqItems hti rfl ?_)
 show wpAny _ _ (Builtin.SmallTypes.ownedTupleIsFree (.ref z) >>= _) _ _ _;refine wpAny_bind ?_
 unfold Builtin.SmallTypes.ownedTupleIsFree
 refine wpAny_bind (wpAny_field hz rfl (x:=.none) rfl (wpAny_pure ?_));simp only [if_true]
 refine wpAny_bind (wpAny_rule ?_)
 refine wpAny_bind (wpAny_field hz rfl (x:=.ref to) rfl ?_)
 refine wpAny_bind (wpAny_setField_rec hz (by simp) fun g1 z1 s1=>?_)
 replace z1:IsZip g1 z ti to .ellipsis:=z1
 refine wpAny_bind ?_;simp only [List.zipIdx_cons,List.zipIdx_nil,List.forIn_cons,forIn_nil]
 refine wpAny_bind (wpAny_bind (wpAny_onRaise ?_));show wpAny _ _ (Builtin.SmallTypes.nextOf (.ref i1) >>= _) _ _ _
 refine wpAny_bind (Qil (h1.keep fun o e=>s1.extBut _ _ D.i1z e) (hl1.keep fun o e=>s1.extBut _ _ D.l1z e) hx fun g2 j1 s2=>wpAny_pure ?_)
 have to2:IsPair g2 to a b:=s2.extBut _ _ D.TOi1 (s1.extBut _ _ D.TOz hto)
 refine wpAny_bind (wpAny_seqItems to2 rfl ?_);refine wpAny_bind (wpAny_updateSeq_pair to2 fun g3 to3 s3=>?_)
 replace to3:IsPair g3 to x b:=to3
 refine wpAny_bind (wpAny_letGo (wpAny_pure ?_));refine wpAny_bind (wpAny_bind (wpAny_onRaise ?_))
 show wpAny _ _ (Builtin.SmallTypes.nextOf (.ref i2) >>= _) _ _ _
 refine wpAny_bind (Qil (((h2.keep fun o e=>s1.extBut _ _ D.i2z e).keep fun o e=>s2.extBut _ _ D.i12.symm e).keep fun o e=>s3.extBut _ _ D.TOi2.symm e) (((hl2.keep fun o e=>s1.extBut _ _ D.l2z e).keep fun o e=>s2.extBut _ _ D.l2i1 e).keep fun o e=>s3.extBut _ _ D.l2TO e) hy fun g4 j2 s4=>wpAny_pure ?_)
 have to4:IsPair g4 to x b:=s4.extBut _ _ D.TOi2 to3
 refine wpAny_bind (wpAny_seqItems to4 rfl ?_);refine wpAny_bind (wpAny_updateSeq_pair to4 fun g5 to5 s5=>?_)
 replace to5:IsPair g5 to x y:=to5
 refine wpAny_bind (wpAny_letGo (wpAny_pure (wpAny_pure ?_)));refine wpAny_bind (wpAny_seqItems to5 rfl ?_)
 refine wpAny_bind (wpAny_newTuple ?_)
 have sz:g5.objs.size=s.heap.objs.size:=by rw [s5.1,s4.1,s3.1,s2.1,s1.1]
 have z5:IsZip g5 z ti to .ellipsis:=s5.extBut _ _ D.TOz.symm (s4.extBut _ _ D.i2z.symm (s3.extBut _ _ D.TOz.symm (s2.extBut _ _ D.i1z.symm z1)))
 have k5:∀ c o,c≠z→c≠to→c≠i1→c≠i2→s.heap.get? c=some o→g5.get? c=some o:=fun c o c1 c2 c3 c4 e=>s5.extBut _ _ c2 (s4.extBut _ _ c4 (s3.extBut _ _ c2 (s2.extBut _ _ c3 (s1.extBut _ _ c1 e))))
 have j15:IsIt lb g5 i1 l1 (n+1):=((j1.keep fun o e=>s3.extBut _ _ D.TOi1.symm e).keep fun o e=>s4.extBut _ _ D.i12 e).keep fun o e=>s5.extBut _ _ D.TOi1.symm e
 have j25:IsIt lc g5 i2 l2 (n+1):=j2.keep fun o e=>s5.extBut _ _ D.TOi2.symm e
 have zl:z<g5.objs.size:=Heap.lt_size z5
 show wpAny _ _ (Builtin.SmallTypes.ownedTupleHandOut (.ref z) (.ref g5.objs.size) >>= _) _ _ _
 refine wpAny_bind ?_;unfold Builtin.SmallTypes.ownedTupleHandOut
 have z6:IsZip (g5.push { cls:=.type "tuple",data:=.seq #[x,y] }) z ti to .ellipsis:=Heap.get?_push_of_some _ z5
 refine wpAny_bind (wpAny_setField_rec z6 (by simp) fun g7 z7 s7=>?_)
 replace z7:IsZip g7 z ti to (rawInt g5.objs.size):=z7
 refine wpAny_setField_rec z7 (by simp) fun g8 z8 s8=>?_
 replace z8:IsZip g8 z ti to (rawInt g5.objs.size):=z8
 have up:∀ c o,c≠z→g5.get? c=some o→g8.get? c=some o:=fun c o c1 e=>s8.extBut _ _ c1 (s7.extBut _ _ c1 (Heap.get?_push_of_some _ e))
 have t8:IsPair g8 g5.objs.size x y:=s8.extBut _ _ (Nat.ne_of_gt zl) (s7.extBut _ _ (Nat.ne_of_gt zl) (Heap.get?_push_size _ rfl))
 have n8:g8.objs.size=g5.objs.size+1:=by rw [s8.1,s7.1,Heap.size_push]
 rw [sz] at z8 t8 n8
 refine wpAny_pure ⟨_,rfl,?_⟩
 refine wpAny_pure ?_
 show Q (some (.ref g5.objs.size)) _
 rw [sz]
 exact q g8 z8 ⟨x,y,up _ _ D.TOz to5⟩ (j15.keep fun o e=>up _ o D.i1z e) (j25.keep fun o e=>up _ o D.i2z e) t8 n8 fun c o c1 c2 c3 c4 e=>up c o c1 (k5 c o c1 c2 c3 c4 e)
theorem Qy9 {lb lc:Bool} {z ti to i1 i2 l1 l2:Addr} {n:Nat} {xs ys:Array Value} {Q:Option Value→Shared→Prop} (hh:A.handled=none) (D:ZipApart z ti to i1 i2 l1 l2) (st:ZT lb lc s.heap z ti to i1 i2 l1 l2 n xs ys) (he:xs[n]?=none∨ys[n]?=none)
  (q:∀ g,(∀ c o,c≠z→c≠to→c≠i1→c≠i2→s.heap.get? c=some o→g.get? c=some o)→Q none { s with heap:=g }):wpAny (model P w) A (pyNext (.ref z)) Q E s:=by
 obtain ⟨hz,hti,⟨a,b,hto⟩,h1,h2,hl1,hl2⟩:=st
 have hT:s.TypeIs (.ref z) "zip" := ⟨_,hz,rfl⟩
 unfold pyNext
 have fin:∀ g e,(∀ c o,c≠z→c≠to→c≠i1→c≠i2→s.heap.get? c=some o→g.get? c=some o)→(∃ o,g.get? e=some o∧o.cls=.type "StopIteration") →
   wpAny (model P w) A (do if ← isInstance (.ref e) (.type "StopIteration") then pure none else throw (.ref e)) Q E { s with heap:=g }:=fun g e hk ⟨o,ho,hc⟩ =>
  wpAny_bind (wpAny_isInstance (T := "StopIteration") (b:=true) ⟨o,ho,hc⟩ isSubtype_stop (wpAny_pure (q _ hk)))
 refine wpAny_bind (wpAny_attempt (wpAny_callSpecial?_slot (name:=Str.ofString "__next__") hT F.slot_zip_next (wpAny_call_entry F.slot_zip_next hT F.entry_zip_next ?_ (F.args_zip_next_1 _))))
 show wpAny _ _ (field (.ref z) 2 >>= _) _ _ _;refine wpAny_bind (wpAny_field hz rfl (x:=.bool false) rfl ?_)
 show wpAny _ _ (field (.ref z) 3 >>= _) _ _ _;refine wpAny_bind (wpAny_field hz rfl (x:=.ref ti) rfl ?_)
 refine wpAny_bind (wpAny_seqItems hti rfl ?_)
 show wpAny _ _ (Builtin.SmallTypes.ownedTupleIsFree (.ref z) >>= _) _ _ _;refine wpAny_bind ?_
 unfold Builtin.SmallTypes.ownedTupleIsFree
 refine wpAny_bind (wpAny_field hz rfl (x:=.none) rfl (wpAny_pure ?_));simp only [if_true]
 refine wpAny_bind (wpAny_rule ?_)
 refine wpAny_bind (wpAny_field hz rfl (x:=.ref to) rfl ?_)
 refine wpAny_bind (wpAny_setField_rec hz (by simp) fun g1 z1 s1=>?_)
 replace z1:IsZip g1 z ti to .ellipsis:=z1
 refine wpAny_bind ?_;simp only [List.zipIdx_cons,List.zipIdx_nil,List.forIn_cons,forIn_nil]
 refine wpAny_bind (wpAny_bind (wpAny_onRaise ?_));show wpAny _ _ (Builtin.SmallTypes.nextOf (.ref i1) >>= _) _ _ _
 cases hx:xs[n]? with
 | none =>
  refine wpAny_bind (Qn5 hh (h1.keep fun o e=>s1.extBut _ _ D.i1z e) (hl1.keep fun o e=>s1.extBut _ _ D.l1z e) hx fun g2 e s2 ⟨oe,he1,he2⟩=>?_)
  have z2:IsZip g2 z ti to .ellipsis:=s2 _ _ D.i1z.symm z1
  have ez:e≠z:=fun x=>by subst x;rw [z2] at he1;cases he1;simp at he2
  exact wpAny_setField_rec z2 (by simp) fun g3 _ s3=>fin g3 e (fun c o c1 _ c3 _ x=>s3.extBut _ _ c1 (s2 _ _ c3 (s1.extBut _ _ c1 x))) ⟨oe,s3.extBut _ _ ez he1,he2⟩
 | some x =>
  have hy:ys[n]?=none:=by rcases he with h | h;rw [hx] at h;cases h;exact h
  refine wpAny_bind (Qil (h1.keep fun o e=>s1.extBut _ _ D.i1z e) (hl1.keep fun o e=>s1.extBut _ _ D.l1z e) hx fun g2 j1 s2=>wpAny_pure ?_)
  have to2:IsPair g2 to a b:=s2.extBut _ _ D.TOi1 (s1.extBut _ _ D.TOz hto)
  refine wpAny_bind (wpAny_seqItems to2 rfl ?_);refine wpAny_bind (wpAny_updateSeq_pair to2 fun g3 to3 s3=>?_)
  refine wpAny_bind (wpAny_letGo (wpAny_pure ?_));refine wpAny_bind (wpAny_bind (wpAny_onRaise ?_))
  show wpAny _ _ (Builtin.SmallTypes.nextOf (.ref i2) >>= _) _ _ _
  refine wpAny_bind (Qn5 hh (((h2.keep fun o e=>s1.extBut _ _ D.i2z e).keep fun o e=>s2.extBut _ _ D.i12.symm e).keep fun o e=>s3.extBut _ _ D.TOi2.symm e) (((hl2.keep fun o e=>s1.extBut _ _ D.l2z e).keep fun o e=>s2.extBut _ _ D.l2i1 e).keep fun o e=>s3.extBut _ _ D.l2TO e) hy fun g4 e s4 ⟨oe,he1,he2⟩=>?_)
  have z4:IsZip g4 z ti to .ellipsis:=s4 _ _ D.i2z.symm (s3.extBut _ _ D.TOz.symm (s2.extBut _ _ D.i1z.symm z1))
  have ez:e≠z:=fun x=>by subst x;rw [z4] at he1;cases he1;simp at he2
  exact wpAny_setField_rec z4 (by simp) fun g5 _ s5=>fin g5 e (fun c o c1 c2 c3 c4 x=>s5.extBut _ _ c1 (s4 _ _ c4 (s3.extBut _ _ c2 (s2.extBut _ _ c3 (s1.extBut _ _ c1 x))))) ⟨oe,s5.extBut _ _ ez he1,he2⟩
end
noncomputable def itN:Bool→String
 | true => "list_iterator"
 | false => "tuple_iterator"
noncomputable abbrev zt0 (lb:Bool) (h:Heap) (l:Addr):Heap:=h.push { cls:=.type (itN lb),data:=.fields #[.ref l,.int 0 0] }
noncomputable abbrev zt3 (lb lc:Bool) (h:Heap) (l m:Addr):Heap:=(zt0 lc (zt0 lb h l) m).push { cls:=.type "tuple",data:=.seq #[.ref h.objs.size,.ref (zt0 lb h l).objs.size] }
noncomputable abbrev zt4 (lb lc:Bool) (h:Heap) (l m:Addr):Heap:=(zt3 lb lc h l m).push { cls:=.type "tuple",data:=.seq #[.none,.none] }
noncomputable abbrev zt5 (lb lc:Bool) (h:Heap) (l m:Addr):Heap:=(zt4 lb lc h l m).push { cls:=.type "zip",data:=.fields #[.none,.bool false,.bool false,.ref (zt0 lc (zt0 lb h l) m).objs.size,.ref (zt3 lb lc h l m).objs.size] }
set_option maxHeartbeats 2000000 in
theorem Qs9 (lb lc:Bool) (l m:Addr) (xs ys:Array Value) :
  Meets (Builtin.«zip.__new__» ⟨[.type "zip",.ref l,.ref m],[]⟩) (fun _ R s=>IsSq lb s.heap l xs∧IsSq lc s.heap m ys∧R (.ok (.ret (.ref (zt4 lb lc s.heap l m).objs.size))) { s with heap:=zt5 lb lc s.heap l m }):=by
 refine .of_wp fun prog w A R s h=>?_
 obtain ⟨hp,g,d,tk,os⟩:=s
 obtain ⟨h1,h2,h⟩:=h
 have hsub:=sub_zip
 have k2:IsSq lc (zt0 lb hp l) m ys:=h2.keep fun o e=>Heap.get?_push_of_some _ e
 cases lb <;> cases lc
 ·have k1:Heap.IsTuple (Shared.heap ⟨hp,g,d,tk,os⟩) l xs:=h1
  have k2:Heap.IsTuple (Shared.heap ⟨hp.push { cls:=.type "tuple_iterator",data:=.fields #[.ref l,.int 0 0] },g,d,tk,os⟩) m ys:=k2
  wp_walk using wpAny_pyIter_tuple k1,wpAny_pyIter_tuple k2
  exact ⟨_,rfl,h⟩
 ·have k1:Heap.IsTuple (Shared.heap ⟨hp,g,d,tk,os⟩) l xs:=h1
  have k2:Heap.IsList (Shared.heap ⟨hp.push { cls:=.type "tuple_iterator",data:=.fields #[.ref l,.int 0 0] },g,d,tk,os⟩) m ys:=k2
  wp_walk using wpAny_pyIter_tuple k1,wpAny_pyIter_list k2
  exact ⟨_,rfl,h⟩
 ·have k1:Heap.IsList (Shared.heap ⟨hp,g,d,tk,os⟩) l xs:=h1
  have k2:Heap.IsTuple (Shared.heap ⟨hp.push { cls:=.type "list_iterator",data:=.fields #[.ref l,.int 0 0] },g,d,tk,os⟩) m ys:=k2
  wp_walk using wpAny_pyIter_list k1,wpAny_pyIter_tuple k2
  exact ⟨_,rfl,h⟩
 ·have k1:Heap.IsList (Shared.heap ⟨hp,g,d,tk,os⟩) l xs:=h1
  have k2:Heap.IsList (Shared.heap ⟨hp.push { cls:=.type "list_iterator",data:=.fields #[.ref l,.int 0 0] },g,d,tk,os⟩) m ys:=k2
  wp_walk using wpAny_pyIter_list k1,wpAny_pyIter_list k2
  exact ⟨_,rfl,h⟩
section
variable {P:Program} {w:World} {A:Around} {E:Value→Shared→Prop} {s:Shared}
theorem Qwm {lb lc:Bool} {l m:Addr} {xs ys:Array Value} {Q:Value→Shared→Prop} (h1:IsSq lb s.heap l xs) (h2:IsSq lc s.heap m ys)
  (q:∀ g,ZT lb lc g (s.heap.objs.size+4) (s.heap.objs.size+2) (s.heap.objs.size+3) s.heap.objs.size (s.heap.objs.size+1) l m 0 xs ys→(∀ c o,s.heap.get? c=some o→g.get? c=some o)→Q (.ref (s.heap.objs.size+4)) { s with heap:=g }) :
  wpAny (model P w) A (call (.type "zip") [.ref l,.ref m]) Q E s:=by
 refine callType_new F.called_zip (by decide) (F.typeCall_zip_2 _ _) (F.newCall_zip_2 _ _) (fun obj=>F.args_object_init_3 obj _ _) F.entry_zip_new (Qs9 lb lc l m xs ys) ⟨h1,h2,?_⟩
 have n1:(zt0 lb s.heap l).objs.size=s.heap.objs.size+1:=Heap.size_push ..
 have n2:(zt0 lc (zt0 lb s.heap l) m).objs.size=s.heap.objs.size+2:=by rw [Heap.size_push,n1]
 have n3:(zt3 lb lc s.heap l m).objs.size=s.heap.objs.size+3:=by rw [Heap.size_push,n2]
 have n4:(zt4 lb lc s.heap l m).objs.size=s.heap.objs.size+4:=by rw [Heap.size_push,n3]
 have up:∀ c o,s.heap.get? c=some o→(zt5 lb lc s.heap l m).get? c=some o:=fun c o x=>Heap.get?_push_of_some _ (Heap.get?_push_of_some _ (Heap.get?_push_of_some _ (Heap.get?_push_of_some _ (Heap.get?_push_of_some _ x))))
 have g5:(zt5 lb lc s.heap l m).get? (zt4 lb lc s.heap l m).objs.size=some _:=Heap.get?_push_size _ rfl
 have g4:(zt5 lb lc s.heap l m).get? (zt3 lb lc s.heap l m).objs.size=some _:=Heap.get?_push_of_some _ (Heap.get?_push_size _ rfl)
 have g3:(zt5 lb lc s.heap l m).get? (zt0 lc (zt0 lb s.heap l) m).objs.size=some _:=Heap.get?_push_of_some _ (Heap.get?_push_of_some _ (Heap.get?_push_size _ rfl))
 have g2:(zt5 lb lc s.heap l m).get? (zt0 lb s.heap l).objs.size=some _:=Heap.get?_push_of_some _ (Heap.get?_push_of_some _ (Heap.get?_push_of_some _ (Heap.get?_push_size _ rfl)))
 have g1:(zt5 lb lc s.heap l m).get? s.heap.objs.size=some _:=Heap.get?_push_of_some _ (Heap.get?_push_of_some _ (Heap.get?_push_of_some _ (Heap.get?_push_of_some _ (Heap.get?_push_size _ rfl))))
 show _∧_
 rw [n2,n3,n4] at g5
 rw [n1,n2] at g3
 rw [n3] at g4
 rw [n1] at g2
 rw [n4]
 exact ⟨⟨_,g5,rfl⟩,q _ ⟨g5,g3,⟨_,_,g4⟩,(by cases lb <;> exact ⟨_,g1,rfl,rfl⟩),(by cases lc <;> exact ⟨_,g2,rfl,rfl⟩),h1.keep fun o e=>up _ o e,h2.keep fun o e=>up _ o e⟩ up⟩
end
def SqB:Bool→PySem.W.Frag→Hp→Addr→List V→Prop
 | true,K,H,a,xs=>SqL K H a xs
 | false,K,H,a,xs=>SqT K H a xs
theorem Inv.sqB {lb:Bool} {X:Cx} {pins:List (Addr×Obj)} {σ:St} {H:Hp} {s:Shared} {a:Addr} {xs:List V} (I:Inv X pins σ H s) (h:SqB lb X.K H a xs):∃ its:List Value,Vals xs its∧IsSq lb s.heap a its.toArray:=by
 cases lb
 ·obtain ⟨its,r,p,_⟩:=I.tuple h
  exact ⟨its,r,p⟩
 ·obtain ⟨its,r,p,_⟩:=I.list h
  exact ⟨its,r,p.isList⟩
theorem Inv.sqB_inj {lb:Bool} {X:Cx} {pins:List (Addr×Obj)} {σ:St} {H:Hp} {s:Shared} {a:Addr} {xs ys:List V} (I:Inv X pins σ H s) (h:SqB lb X.K H a xs) (h':SqB lb X.K H a ys):xs=ys:=by
 cases lb
 ·exact I.tuple_inj h h'
 ·exact I.list_inj h h'
noncomputable def Itz (lb lc:Bool) (K:PySem.W.Frag) (a b:Addr):It :=
 ⟨fun i H=>∃ xs ys x y,SqB lb K H a xs∧SqB lc K H b ys∧xs[i]?=some x∧ys[i]?=some y,fun i H v H'=>∃ p x y,v=.ref p∧H p=none∧(∀ xs,SqB lb K H a xs→xs[i]?=some x)∧(∀ ys,SqB lc K H b ys→ys[i]?=some y)∧H'=upd H p (.tup [x,y]),fun i H=>∃ xs ys,SqB lb K H a xs∧SqB lc K H b ys∧(xs.length≤i∨ys.length≤i)⟩
theorem Qza {P:Program} {w:World} {K:PySem.W.Frag} {es:List Expr} {x1} {tp:Pos} (lb lc:Bool) (a b z ti to i1 i2:Addr) (D:ZipApart z ti to i1 i2 a b):Turn P w K (.Tuple es x1 tp) (Itz lb lc K a b) [z,ti,to,i1,i2] z (fun i h=>IsZip h z ti to .none∧IsPair h ti (.ref i1) (.ref i2)∧(∃ u v,IsPair h to u v)∧IsIt lb h i1 a i∧IsIt lc h i2 b i) where
 mem:=by simp
 obj:=fun i h st c hc=>by
  obtain ⟨hz,hti,⟨u,v,hto⟩,h1,h2⟩:=st
  have hc:c=z∨c=ti∨c=to∨c=i1∨c=i2:=by simpa using hc
  rcases hc with rfl | rfl | rfl | rfl | rfl
  ·exact ⟨_,hz,fun v z=>by
    have z':Data.fields _=Data.cell v:=z
    cases z'⟩
  ·exact ⟨_,hti,fun v z=>by
    have z':Data.seq _ _=Data.cell v:=z
    cases z'⟩
  ·exact ⟨_,hto,fun v z=>by
    have z':Data.seq _ _=Data.cell v:=z
    cases z'⟩
  ·exact h1.obj
  ·exact h2.obj
 keep:=fun i h h' st k=>⟨k z (by simp) _ st.1,k ti (by simp) _ st.2.1,let ⟨u,v,e⟩:=st.2.2.1;⟨u,v,k to (by simp) _ e⟩,st.2.2.2.1.keep fun o e=>k i1 (by simp) o e,st.2.2.2.2.keep fun o e=>k i2 (by simp) o e⟩
 item:=by
  intro X hP hw hK hc i pins s σ H E I hf st hg
  subst hP hw hK
  obtain ⟨xs,ys,x,y,hqa,hqb,hx,hy⟩:=hg
  obtain ⟨ita,rva,pa⟩:=I.sqB hqa
  obtain ⟨itb,rvb,pb⟩:=I.sqB hqb
  obtain ⟨u,hu,ru⟩:=rva.get hx
  obtain ⟨v,hv,rv⟩:=rvb.get hy
  obtain ⟨hz,hti,hto,h1,h2⟩:=st
  refine Qwl D ⟨hz,hti,hto,h1,h2,pa,pb⟩ (x:=u) (y:=v) (by simpa using hu) (by simpa using hv) fun g gz gto g1 g2 gT gn gk=>⟨_,rfl,?_⟩
  refine wpAny_letOwnedTupleGo_zip (s:={ s with heap:=g }) gz fun f fz fs=>?_
  have fs:Heap.SameBut z g f:=fs
  have hf0:H s.heap.objs.size=none:=I.hok.fresh (Nat.le_refl _)
  have I1:Inv X pins σ (upd H s.heap.objs.size (.tup [x,y])) { s with heap:=s.heap.push { cls:=.type "tuple",data:=.seq #[u,v] },toks:=s.toks } :=
   I.laid (fun b o q=>Heap.get?_push_of_some _ q) (Nat.le_refl _) ⟨by show 2≤sizeLine;decide,[u,v],.cons ru (.cons rv .nil),⟨_,Heap.get?_push_size _ rfl,rfl,_,rfl,rfl⟩⟩
  have lt:∀ {c o},s.heap.get? c=some o→c≠s.heap.objs.size:=fun e=>Nat.ne_of_lt (Heap.lt_size e)
  have ne:∀ c∈[z,ti,to,i1,i2],c≠s.heap.objs.size:=fun c hc=>by
   have hc:c=z∨c=ti∨c=to∨c=i1∨c=i2:=by simpa using hc
   obtain ⟨_,_,hto'⟩:=hto
   obtain ⟨_,e1,_⟩:=h1.obj
   obtain ⟨_,e2,_⟩:=h2.obj
   rcases hc with rfl | rfl | rfl | rfl | rfl
   ·exact lt hz
   ·exact lt hti
   ·exact lt hto'
   ·exact lt e1
   ·exact lt e2
  have hf1:∀ c∈[z,ti,to,i1,i2],Qih X pins (upd H s.heap.objs.size (.tup [x,y])) c:=fun c hc=>⟨by rw [Q6 (ne c hc)];exact (hf c hc).1,(hf c hc).2⟩
  have I2:=I1.turnedL (h':=f) (t':=s.toks) (fp:=[z,ti,to,i1,i2]) (fun c o hc q=>by
   have c1:c≠z:=fun e=>hc (by simp [e])
   have c2:c≠to:=fun e=>hc (by simp [e])
   have c3:c≠i1:=fun e=>hc (by simp [e])
   have c4:c≠i2:=fun e=>hc (by simp [e])
   rw [fs.2 c c1]
   rcases Heap.get?_push_cases q with ⟨rfl,rfl⟩ | q
   ·exact gT
   ·exact gk c o c1 c2 c3 c4 q) hf1
  refine ⟨.ref s.heap.objs.size,_,I2,rfl,⟨_,x,y,rfl,hf0,fun ys hy=>by rw [I.sqB_inj hy hqa];exact hx,fun zs hz=>by rw [I.sqB_inj hz hqb];exact hy,rfl⟩,⟨fz,?_,?_,?_,?_⟩,fun c hc=>(hf1 c hc).1⟩
  ·exact fs.extBut _ _ D.TIz (gk _ _ D.TIz D.TITO D.TIi1 D.TIi2 hti)
  ·obtain ⟨p,q,e⟩:=gto
   exact ⟨p,q,fs.extBut _ _ D.TOz e⟩
  ·exact g1.keep fun o e=>fs.extBut _ _ D.i1z e
  ·exact g2.keep fun o e=>fs.extBut _ _ D.i2z e
 done:=by
  intro X hP hw hK hc i pins s σ H E I hf st hg
  subst hP hw hK
  obtain ⟨xs,ys,hqa,hqb,hl⟩:=hg
  obtain ⟨ita,rva,pa⟩:=I.sqB hqa
  obtain ⟨itb,rvb,pb⟩:=I.sqB hqb
  obtain ⟨hz,hti,hto,h1,h2⟩:=st
  have e1:=rva.length
  have e2:=rvb.length
  refine Qy9 (I.ok.hd hc) D ⟨hz,hti,hto,h1,h2,pa,pb⟩ (by
   rcases hl with h | h
   ·exact .inl (by simp;omega)
   ·exact .inr (by simp;omega)) fun g gk=>⟨rfl,I.turnedL (t':=s.toks) (fp:=[z,ti,to,i1,i2]) (fun c o hc q=>gk c o (fun e=>hc (by simp [e])) (fun e=>hc (by simp [e])) (fun e=>hc (by simp [e])) (fun e=>hc (by simp [e])) q) hf⟩
 self:=fun _ _ _ _ _ st h=>wpAny_pyIter_zip st.1 h
theorem Qwn (n a b:Nat) (h1:a<n) (h2:b<n):ZipApart (n+4) (n+2) (n+3) n (n+1) a b:=by constructor <;> (first | exact Nat.ne_of_lt (by omega) | exact Nat.ne_of_gt (by omega))
section
variable {X:Cx}
def iZip (K:PySem.W.Frag) (ta:TA):TI:=fun σ H R=>ta σ H fun vs H1=>∃ lb lc a b xs ys,vs=[.ref a,.ref b]∧SqB lb K H1 a xs∧SqB lc K H1 b ys∧R (Itz lb lc K a b) H1
theorem Q7c {a b:Expr} {ta:TA} {es:List Expr} {x1} {tp p pos:Pos} (K:PySem.W.Frag) (hK:X.K=K) (hg:Gl X "zip") (hm:X.mg "zip" = none) (hb:PySem.bootBuiltins "zip" = some (.type "zip")) (ha:PA X [a,b] ta) (hs:Q9 a=true) (hs2:Q9 b=true) :
  PI X (.Tuple es x1 tp) (.Call (.Name "zip" p) [a,b] [] pos) (iZip K ta):=by
 subst hK
 intro pins s σ H R I h
 refine Call_ (Qln I hg hm hb (PyProof.Rows.callWith_type1 (thn (ha pos pins s σ H _ I h) fun us s1 ⟨vs,H1,I1,r1,q1⟩=>?_) (Qb6 hs) (by rw [Qb6 hs2];rfl)))
 obtain ⟨lb,lc,c,d,xs,ys,e,hqc,hqd,q⟩:=q1
 subst e
 cases r1 with
 | cons r rr =>
  cases rr with
  | cons r' rr' =>
   cases rr'
   cases r
   cases r'
   obtain ⟨itc,rvc,pc⟩:=I1.sqB hqc
   obtain ⟨itd,rvd,pd⟩:=I1.sqB hqd
   have ltc:c<s1.heap.objs.size:=let ⟨_,e⟩:=pc.obj;Heap.lt_size e
   have ld:d<s1.heap.objs.size:=let ⟨_,e⟩:=pd.obj;Heap.lt_size e
   refine Qwm pc pd fun g st hk=>wpAny_pyIter_zip st.z ?_
   refine ⟨s1.heap.objs.size+4,[s1.heap.objs.size+4,s1.heap.objs.size+2,s1.heap.objs.size+3,s1.heap.objs.size,s1.heap.objs.size+1],_,_,H1,rfl,I1.kept (t':=s1.toks) hk,Qza lb lc c d _ _ _ _ _ (Qwn _ _ _ ltc ld),⟨st.z,st.ti,st.to,st.i1,st.i2⟩,fun f hf=>?_,q⟩
   have lf:s1.heap.objs.size≤f:=by
    have hf:f=s1.heap.objs.size+4∨f=s1.heap.objs.size+2∨f=s1.heap.objs.size+3∨f=s1.heap.objs.size∨f=s1.heap.objs.size+1:=by simpa using hf
    rcases hf with rfl | rfl | rfl | rfl | rfl <;> first | exact Nat.le_refl _ | exact Nat.le_add_right _ _
   exact I1.fpOk lf (I1.hok.fresh lf)
theorem Qaa8 {a b:Expr} {ta:TA} {es:List Expr} {x1} {tp p pos:Pos} (K:PySem.W.Frag) (hK:X.K=K) (hm:X.mg "zip" = none) (hb:PySem.bootBuiltins "zip" = some (.type "zip")) (ha:QA X [a,b] ta) (hg:Gl X "zip") (hs:Q9 a=true) (hs2:Q9 b=true) :
  QI X (.Tuple es x1 tp) (.Call (.Name "zip" p) [a,b] [] pos) (iZip K ta):=⟨Q7c K hK hg hm hb ha.h hs hs2⟩
end
section
variable {prog:Program} {w:World} {A:Around} {E:Value→Shared→Prop} {s:Shared}
end
section
variable {X:Cx}
end
noncomputable def Q2v (K:PySem.W.Frag) (c0 C:Addr) (bmB:List Value) (newId:String) (f:Addr):Bool:=match K.lookup C with
 | some ⟨.type "type",_,.cls cl,ks⟩=>(match cl.mro,ks.toList with
  | .ref C1::.ref b0::tl,[_,_,_,_,some (.builtin n1),_]=>C1==C&&n1==newId&&b0==c0&&tl==bmB && !cl.hasDel&&cl.hasDict&&PySem.W.tailIn K bmB (.ref b0::tl)
  | _,_=>false)
 | _=>false
noncomputable def Qo9 (K:PySem.W.Frag) (c0 C f:Addr):Bool:=Q2v K c0 C bmV "ValueError.__new__" f&&PySem.W.findIn K (.ref C) "__init__" == some (some (.ref f))&&PySem.W.findIn K (.ref C) "__setattr__" == some (some (.builtin "object.__setattr__"))&&PySem.W.findIn K (.ref C) "at" == some none&&PySem.W.mroIn K C (.type "object")==some true
theorem Qum {K:PySem.W.Frag} {h:Heap} {c0 C f:Addr} {bmB:List Value} {newId:String} (X:K.In h) (q:Q2v K c0 C bmB newId f=true) :
  ∃ N nm qn bs sn sub ab col dd k0 k1 k2 k3 k5,h.get? C=some (excClassObj nm qn C N bs (.ref c0::bmB) true sn sub ab col dd k0 k1 k2 k3 k5 newId)∧OwnTail h bmB (.ref c0::bmB):=by
 unfold Q2v at q
 split at q
 ·rename_i d0 cl ks look
  split at q
  ·rename_i C1 b0 tl a0 a1 a2 a3 n1 a5 eqm eqs
   simp only [Bool.and_eq_true,beq_iff_eq,Bool.not_eq_true'] at q
   obtain ⟨⟨⟨⟨⟨⟨rfl,rfl⟩,rfl⟩,rfl⟩,q1⟩,q2⟩,q3⟩:=q
   obtain ⟨nm,bs,mro,ns,qn,hd,sn,sub,ab,col,del⟩:=cl
   dsimp only at eqm q1 q2
   subst eqm q1 q2
   obtain ⟨kl⟩:=ks
   simp only at eqs
   subst eqs
   exact ⟨ns,nm,qn,bs,sn,sub,ab,col,d0,a0,a1,a2,a3,a5,X _ _ look,PySem.W.tail_of_in X q3⟩
  ·cases q
 ·cases q
section
variable {prog:Program} {w:World} {A:Around} {E:Value→Shared→Prop} {h:Heap} {g:Array GenState} {d:Drawn} {t:Nat} {os:OsState}
variable {nm q:Str} {C N c0:Addr} {bs bm bmB:List Value} {hd:Bool} {sn:List Str} {sub:List Value} {ab:Bool} {col:Option Bool} {dd:Option Addr} {k0 k1 k2 k3 k5:Option Value} {B nid iid:String}
noncomputable abbrev exH (h:Heap) (C:Addr) (us:List Value):Heap:=(h.push { cls:=.type "tuple",data:=.seq us.toArray }).push { cls:=.ref C,data:=.fields #[.ref h.objs.size,.none,.none,.none,.bool false,.none] }
theorem Qqv (h:Heap) (C:Addr) (us:List Value) (b:Addr) (o:Obj) (e:h.get? b=some o):(exH h C us).get? b=some o:=Heap.get?_push_of_some _ (Heap.get?_push_of_some _ e)
theorem Qun (h:Heap) (C:Addr) (us:List Value):(exH h C us).get? (h.objs.size+1)=some { cls:=.ref C,data:=.fields #[.ref h.objs.size,.none,.none,.none,.bool false,.none] }:=by heap_get
theorem Qwo (F:ExcBaseFacts B nid iid bmB) (T:OwnTail h bmB bm) {K:PySem.W.Frag} (X:K.In h) {us:List Value} {f:Addr} {of:Obj} {Q:Fin→Shared→Prop}
  (cC:h.get? C=some (excClassObj nm q C N bs bm hd sn sub ab col dd k0 k1 k2 k3 k5 nid)) (ini:PySem.W.findIn K (.ref C) "__init__" = some (some (.ref f))) (cf:h.get? f=some of) (tf:of.cls=.type "function")
  (run:wpAny (model prog w) A (call (.ref f) (.ref (h.objs.size+1)::us)) (fun r s'=>r=.none∧Q (.done (.ret (.ref (h.objs.size+1)))) s') E ⟨exH h C us,g,d,t,os⟩) (hz:us.length≤sizeLine) :
  wpAny (model prog w) A (Builtin.«type.__call__» ⟨.ref C::us,[]⟩) Q E ⟨h,g,d,t,os⟩:=by
 repeat (first | with_reducible refine wpAny_loadPart_at cC ?_ | with_reducible refine wpAny_madeBy_exc cC ?_ | wp_step)
 refine codeAny_call_builtin_code (Code.quiet_builtin _ F.quiet) (wpAny_check_new_subT F T cC ?_)
 refine codeAny_exc_new_subT F T cC ?_ hz
 show wpAny _ _ _ _ _ _
 have kp:=Qqv h C us
 have c1:=kp _ _ cC
 have X1:K.In (exH h C us):=X.keeps kp
 have f1:=kp _ _ cf
 have e1:=Qun h C us
 have hcC:(Value.ref C::bm).contains (.ref C)=true:=by simp
 unfold isInstance
 repeat (first | with_reducible refine wpAny_loadPart_at e1 ?_ | (with_reducible refine wpAny_isSubtype_exc c1 ?_;rw [hcC]) | wp_step)
 show wpAny _ _ (typeLookup (.ref C) _) _ _ _
 refine PySem.W.looks_findIn X1 ini _ _ _ _ (fun _ _ z=>z) ?_
 refine wpAny_holding (wpAny_bind ?_)
 unfold bindSpecial
 refine wpAny_bind (wpAny_typeOf (T := "function") ⟨_,f1,tf⟩ ?_)
 rw [if_pos (by decide)]
 refine wpAny_pure (wpAny_bind (wpAny_mono run (fun r s' hr=>?_) fun _ _ x=>x))
 obtain ⟨rfl,hQ⟩:=hr
 wp_walk
 exact hQ
theorem Qwp (F:ExcBaseFacts B nid iid bmB) (T:OwnTail h bmB bm) {K:PySem.W.Frag} (X:K.In h) {us:List Value} {f:Addr} {of:Obj} {Q:Value→Shared→Prop}
  (cC:h.get? C=some (excClassObj nm q C N bs bm hd sn sub ab col dd k0 k1 k2 k3 k5 nid)) (ini:PySem.W.findIn K (.ref C) "__init__" = some (some (.ref f))) (cf:h.get? f=some of) (tf:of.cls=.type "function")
  (run:wpAny (model prog w) (A.under (.builtin "type.__call__" ⟨.ref C::us,[]⟩)) (call (.ref f) (.ref (h.objs.size+1)::us)) (fun r s'=>r=.none∧Q (.ref (h.objs.size+1)) s') E ⟨exH h C us,g,d,t,os⟩) (hz:us.length≤sizeLine) :
  wpAny (model prog w) A (call (.ref C) us) Q E ⟨h,g,d,t,os⟩:=by
 have f1:=tc_lookup
 have f2:=tc_bind (.ref C)
 have hT:(⟨h,g,d,t,os⟩:Shared).TypeIs (.ref C) "type" := ⟨_,cC,rfl⟩
 refine wpAny_call (codeAny_of_tree ?_)
 show wpAny _ _ (callAny (.ref C) _) _ _ _
 repeat (any_goals (first | assumption | with_reducible refine wpAny_loadPart_at cC ?_ | wp_step))
 refine ⟨rfl,?_⟩
 exact codeAny_call_builtin_at (Code.quiet_builtin _ (by decide +kernel)) entry_typeCall (wpAny_check_type_call_sub cC (Qwo F T X cC ini cf tf run hz))
noncomputable def Q7d (h:Heap) (x:Addr):Heap:=(h.push { cls:=.type "dict",data:=.dict #[] }).update x fun o=>{ cls:=o.cls,dict:=some h.objs.size,data:=o.data,slots:=o.slots }
theorem Qqw {K:PySem.W.Frag} (X:K.In h) {x:Addr} {ox:Obj} {name:Str} {v:Value} {tk:Tok} {vs:Array Value} {Q:Fin→Shared→Prop}
  (cC:h.get? C=some (excClassObj nm q C N bs (.ref c0::bmV) true sn sub ab col dd k0 k1 k2 k3 k5 nid)) (hx:h.get? x=some ox) (hc:ox.cls=.ref C) (hdn:ox.dict=none) (hdt:ox.data=.fields vs) (fnd:PySem.W.findIn K (.ref C) name=some none)
  (hq:∀ h' tk',h'.get? x=some { cls:=ox.cls,dict:=some h.objs.size,data:=ox.data,slots:=ox.slots }→h'.Ns1 h.objs.size (fun y=>if y=name then some v else none)→(∀ b o,b≠x→h.get? b=some o→h'.get? b=some o)→Q (.done (.ret .none)) ⟨h',g,d,tk',os⟩) :
  wpAny (model prog w) A (Builtin.«object.__setattr__» ⟨[.ref x,.str name tk,v],[]⟩) Q E ⟨h,g,d,t,os⟩:=by
 have ok:refuseLoop (.ref x) "__setattr__" bmV=pure ():=F.store_ValueError.passes (.ref x)
 have L:=PySem.W.looks_findIn (M:=model prog w) X fnd
 unfold Builtin.«object.__setattr__»
 repeat (first | rw [refuse_eq] | (rw [refuseLoop_ref,refuseLoop_ref,ok]) | (with_reducible refine wpAny_loadPart_at hx ?_;rw [hc]) | with_reducible refine wpAny_mroOf_exc cC ?_ | with_reducible refine L.at ?_ | wp_step)
 rw [hdn,if_neg (by simp [typeHasDict])]
 split
 ·rename_i z
  cases z
 split
 ·rename_i c z
  rw [hdt] at z
  cases z
 have xs:x≠h.objs.size:=Nat.ne_of_lt (Heap.lt_size hx)
 have x1:(h.push { cls:=.type "dict",data:=.dict #[] }).get? x=some ox:=Heap.get?_push_of_some _ hx
 refine wpAny_bind (wpAny_alloc' (wpAny_bind (wpAny_update' x1 (wpAny_pure ?_))))
 have gd:(Q7d h x).get? h.objs.size=some { cls:=.type "dict",data:=.dict #[] }:=(Heap.get?_update_ne _ _ _ _ xs.symm).trans (Heap.get?_push_at rfl rfl)
 have gx:(Q7d h x).get? x=some { cls:=ox.cls,dict:=some h.objs.size,data:=ox.data,slots:=ox.slots }:=Heap.get?_update_self _ x1 (by
  obtain ⟨oc,od,odt,osl⟩:=ox
  dsimp only at hdt
  subst hdt
  rfl)
 show wpAny _ _ (Builtin.ObjectAttr.storeInDict h.objs.size (.str name tk) name v) _ _ ⟨Q7d h x,g,d,_,os⟩
 unfold Builtin.ObjectAttr.storeInDict Builtin.ObjectAttr.newKeyGuard
 refine wpAny_bind (wpAny_pure (wpAny_bind (wpAny_nsSet1 (Heap.Ns1.of_empty ⟨_,#[],_,gd,rfl,fun e he=>absurd he (by simp),fun _=>rfl⟩) fun h' hn' hs=>?_)))
 obtain ⟨oD,esD,epD,hoD,hdD,hcD⟩:=hn'.count (Within.cons name v Within.nil)
 refine wpAny_bind (wpAny_lookBehind hoD (by rw [hdD];exact pastItsLine_dict (Nat.le_trans hcD (by rw [length_cons,length_nil,sizeLine_eq];omega))) ?_)
 wp_walk
 exact hq h' _ ((hs.2 x xs).trans gx) hn' fun b o hb e=>(hs.2 b (Nat.ne_of_lt (Heap.lt_size e))).trans ((Heap.get?_update_ne _ _ _ _ hb).trans (Heap.get?_push_of_some _ e))
theorem Qwq {K:PySem.W.Frag} (X:K.In h) {x:Addr} {ox:Obj} {name:Str} {v:Value} {vs:Array Value} {Q:Unit→Shared→Prop}
  (cC:h.get? C=some (excClassObj nm q C N bs (.ref c0::bmV) true sn sub ab col dd k0 k1 k2 k3 k5 nid)) (hx:h.get? x=some ox) (hc:ox.cls=.ref C) (hdn:ox.dict=none) (hdt:ox.data=.fields vs) (fnd:PySem.W.findIn K (.ref C) name=some none)
  (fsa:PySem.W.findIn K (.ref C) "__setattr__" = some (some (.builtin "object.__setattr__"))) (fmo:PySem.W.mroIn K C (.type "object")=some true)
  (hq:∀ h' tk',h'.get? x=some { cls:=ox.cls,dict:=some h.objs.size,data:=ox.data,slots:=ox.slots }→h'.Ns1 h.objs.size (fun y=>if y=name then some v else none)→(∀ b o,b≠x→h.get? b=some o→h'.get? b=some o)→Q () ⟨h',g,d,tk',os⟩) :
  wpAny (model prog w) A (setAttr (.ref x) name v) Q E ⟨h,g,d,t,os⟩:=by
 have f3:=F.store_ValueError.slot.bind (.ref x)
 have L1:=PySem.W.looks_findIn (M:=model prog w) X fsa
 have L2:=PySem.W.looks_mroIn (M:=model prog w) X fmo
 unfold setAttr callSpecial? specialOf
 repeat (any_goals (first | assumption | (with_reducible refine wpAny_loadPart_at hx ?_;rw [hc]) | with_reducible refine L1.at ?_ | wp_step))
 refine codeAny_call_builtin F.store_ValueError.slot.plain F.store_ValueError.entry ?_
 have chk:∀ (A:Around) (E:Value→Shared→Prop) (nv:Value) (t':Nat) (Q:Unit→Shared→Prop),Q () ⟨h,g,d,t',os⟩→wpAny (model prog w) A (checkBuiltinCall "object.__setattr__" ⟨[.ref x,nv,v],[]⟩) Q E ⟨h,g,d,t',os⟩:=fun A E nv t' Q hq=>by
  have ha:=F.store_ValueError.args (.ref x) nv v
  have k1:builtinKind "object.__setattr__" = some .slot:=F.store_ValueError.kind
  have k2:splitId "object.__setattr__" = some ("object","__setattr__"):=F.store_ValueError.split
  simp only [checkBuiltinCall,k1,k2]
  refine wpAny_bind ?_
  unfold isInstance
  repeat (first | (with_reducible refine wpAny_loadPart_at hx ?_;rw [hc]) | with_reducible refine L2.at ?_ | wp_step)
  exact hq
 refine chk _ _ _ _ _ (Qqw X cC hx hc hdn hdt fnd fun h' tk' a b c=>?_)
 repeat (any_goals (first | assumption | wp_step))
 exact hq h' tk' a b c
structure Ini (K:PySem.W.Frag) (c0 C:Addr):Prop where
 ex:∃ (f:Addr) (fd:FuncData) (qn:Str) (st:Stmt) (p1 p2 p3 p4:Pos),Qo9 K c0 C f=true∧Fun K "__init__" qn st f fd∧(∃ od osl,K.lookup f=some ⟨.type "function",od,.func fd,osl⟩)∧FnScope ["self","at"] ["self","at"] (Qf st) ∧
  (Qf st).names.lookup ("self" : Str)=some .local∧(Qf st).names.lookup ("at" : Str)=some .local∧Binds K fd ["self","at"] []∧Qaj st=[.Assign [.Attribute (.Name "self" p1) "at" p2] (.Name "at" p3) p4]
end
section
variable {X:Cx} {pins:List (Addr×Obj)} {σ:St} {H:Hp} {s:Shared}
theorem Qzb {c0 C:Addr} (I:Inv X pins σ H s) (D:Ini X.K c0 C) {u:Value} {A:Around} {E:Value→Shared→Prop} {Q:Value→Shared→Prop} (hd:A.depth+5<recursionLimit)
  (hq:∀ (h':Heap) (tk:Nat) (e d:Addr),(∀ b o,s.heap.get? b=some o→h'.get? b=some o)→s.heap.objs.size≤e→s.heap.objs.size≤d→e≠d →
   h'.get? e=some { cls:=.ref C,dict:=some d,data:=.fields #[.ref s.heap.objs.size,.none,.none,.none,.bool false,.none] }→h'.Ns1 d (fun y=>if y = "at" then some u else none)→Q (.ref e) { s with heap:=h',toks:=tk }) :
  wpAny (model X.prog X.w) A (call (.ref C) [u]) Q E s:=by
 have KX:=I.kIn
 have lim0:=I.nolimit
 obtain ⟨hp,g,d,t,os⟩:=s
 obtain ⟨f,fd,qn,st,p1,p2,p3,p4,ok,Fu,⟨od',osl',lk'⟩,S,n1,n2,B,hb⟩:=D.ex
 unfold Qo9 at ok
 simp only [Bool.and_eq_true,beq_iff_eq] at ok
 obtain ⟨⟨⟨⟨k1,k2⟩,k3⟩,k4⟩,k5⟩:=ok
 obtain ⟨N,nm,qn',bs,sn,sub,ab,col,dd,a0,a1,a2,a3,a5,cC,T⟩:=Qum KX k1
 obtain ⟨oc,od,kV,doc,pm,an,cdv,ct,osl,rfl,lk,hcd⟩:=Fu.ex
 refine Qwp F.excBase_ValueError T KX cC k2 (KX _ _ lk') rfl ?_ (by show 1≤sizeLine;decide)
 have kp:=Qqv hp C [u]
 have e1:=Qun hp C [u]
 have K1:X.K.In (exH hp C [u]):=KX.keeps kp
 have sz:(exH hp C [u]).objs.size=hp.objs.size+2:=by show ((hp.push _).push _).objs.size=_;rw [Heap.size_push,Heap.size_push]
 refine wpAny_call (codeAny_call_function ?_ (K1 _ _ lk') rfl S.co S.gen rfl (PySem.W.codeRec_of K1 hcd) (B ⟨exH hp C [u],g,d,t,os⟩ [.ref (hp.objs.size+1),u] K1 rfl _ _ _ _ ?_))
 ·show A.depth+1<_
  omega
 refine wpAny_newFunctionEnv_cells S.kind (fun y hy=>?_) fun env he s1 x=>?_
 ·rcases mem_cons.mp hy with rfl | hy
  ·exact .inl n1
  ·rcases mem_cons.mp hy with rfl | hy
   ·exact .inl n2
   ·cases hy
 subst he
 refine ⟨(lim0.keeps kp).keeps x.toInCall.keep,codeAny_func ?_⟩
 rw [show (PySem.W.fnOf "__init__" qn (Qbg st) (Qaj st) (Qf st) .none kV doc pm an cdv ct).scope=Qf st from rfl] at x ⊢
 obtain ⟨h1,tk1,rfl⟩:=x.toInCall.same
 have ns:=x.toInCall.ns
 have kp1:=x.toInCall.keep
 have ga:bindL (newEnv (Qf st) (exH hp C [u]).objs.size (PySem.W.fnOf "__init__" qn (Qbg st) (Qaj st) (Qf st) .none kV doc pm an cdv ct).globals (cellsFrom ((exH hp C [u]).objs.size+1) (Qf st).names []) ((PySem.W.fnOf "__init__" qn (Qbg st) (Qaj st) (Qf st) .none kV doc pm an cdv ct).qualname ++ ".<locals>.") (some f) (PySem.W.fnOf "__init__" qn (Qbg st) (Qaj st) (Qf st) .none kV doc pm an cdv ct).code none (PySem.W.fnOf "__init__" qn (Qbg st) (Qaj st) (Qf st) .none kV doc pm an cdv ct).builtins).kindOf ((["self","at"]:List Str).zip [.ref (hp.objs.size+1),u]) (fun _=>none) "at" = some u:=Qfs (i:=1) S.nd rfl rfl n2
 have gs:bindL (newEnv (Qf st) (exH hp C [u]).objs.size (PySem.W.fnOf "__init__" qn (Qbg st) (Qaj st) (Qf st) .none kV doc pm an cdv ct).globals (cellsFrom ((exH hp C [u]).objs.size+1) (Qf st).names []) ((PySem.W.fnOf "__init__" qn (Qbg st) (Qaj st) (Qf st) .none kV doc pm an cdv ct).qualname ++ ".<locals>.") (some f) (PySem.W.fnOf "__init__" qn (Qbg st) (Qaj st) (Qf st) .none kV doc pm an cdv ct).code none (PySem.W.fnOf "__init__" qn (Qbg st) (Qaj st) (Qf st) .none kV doc pm an cdv ct).builtins).kindOf ((["self","at"]:List Str).zip [.ref (hp.objs.size+1),u]) (fun _=>none) "self" = some (.ref (hp.objs.size+1)):=Qfs (i:=0) S.nd rfl rfl n1
 have sz1:hp.objs.size+2≤h1.objs.size:=by
  have z:=ns.lt
  have y:(exH hp C [u]).objs.size<h1.objs.size:=z
  omega
 rw [hb]
 refine wpAny_execs_cons (plainObj_wpAny_Assign_Attribute (wpAny_Name (wpAny_loadName_local (v:=u) S.kind n2 ns ga (wpAny_Name (wpAny_loadName_local (v:=.ref (hp.objs.size+1)) S.kind n1 ns gs ?_) rfl)) rfl))
 refine Qwq (K1.keeps kp1) (kp1 _ _ (kp _ _ cC)) (kp1 _ _ e1) rfl rfl rfl k4 k3 k5 fun h2 tk2 gx nd kk=>wpAny_execs_nil ⟨rfl,?_⟩
 refine hq h2 tk2 (hp.objs.size+1) h1.objs.size (fun b o q=>kk b o (Nat.ne_of_lt (Nat.lt_succ_of_lt (Heap.lt_size q))) (kp1 _ _ (kp _ _ q))) (Nat.le_succ _) (by show hp.objs.size≤h1.objs.size;omega) (Nat.ne_of_lt (show hp.objs.size+1<h1.objs.size by omega)) gx nd
end
section
variable {M:Model} {A:Around} {E:Value→Shared→Prop} {env:Env} {nm q:Str} {C N:Addr} {bs bm:List Value} {hd:Bool} {sn:List Str} {sub:List Value} {ab:Bool} {col:Option Bool} {dd:Option Addr} {k0 k1 k2 k3 k5:Option Value} {nid:String}
theorem Qta {s:Shared} {x:Sem Value} {Q:Flow→Shared→Prop} (hb:bm.contains (.type "BaseException")=true) (hh:A.handled=none)
  (h:wpAny M A x (fun v s1=>∃ e od ta,v=.ref e∧s1.heap.get? C=some (excClassObj nm q C N bs bm hd sn sub ab col dd k0 k1 k2 k3 k5 nid)∧s1.heap.get? e=some { cls:=.ref C,dict:=od,data:=.fields #[.ref ta,.none,.none,.none,.bool false,.none] }∧E (.ref e) s1) E s) :
  wpAny M A (raiseStmt env (some x) none) Q E s:=by
 have hcB:(Value.ref C::bm).contains (.type "BaseException")=true:=by rw [List.contains_cons,hb,Bool.or_true]
 unfold raiseStmt
 refine wpAny_bind (wpAny_mono h (fun v s1 h1=>?_) fun _ _ x=>x)
 obtain ⟨e,od,ta,rfl,cC,he,hE⟩:=h1
 obtain ⟨hp,g,d,tk,os⟩:=s1
 repeat (first | with_reducible refine wpAny_loadPart_at he ?_ | with_reducible refine wpAny_loadPart_at cC ?_ | (with_reducible refine wpAny_isSubtype_exc cC ?_;rw [hcB]) | wp_step)
 exact wpAny_raiseNew_none hh hE
end
section
variable {X:Cx} {x:Str} {e:Expr} {t:TA} {pos cpos np:Pos} {R:XR} {c0 C:Addr} {k:Nat}
theorem Qzc (pz:Qe6 X R) (hc:X.calm=true) (D:Ini X.K c0 C) (hr:Room k X.A) (hm:X.mg x=some (.ref C)) (ha:QA X [e] t) (hg:Gl X x:=by rfl)
  (hdb:(x==("__debug__" : Str))=false:=by decide) (he:starEach [e] X.env=[(false,eval e X.env)]:=by rfl) :
  QS X (.Raise (some (.Call (.Name x np) [e] [] cpos)) none pos) (fun _ σ H=>t σ H fun vs H1=>∃ v,vs=[v]∧∀ d,H1 d=none→R (.ref C) (some d) σ (upd H1 d (.xd [("at",v)]))):=by
 refine ⟨fun pins s σ H D' I hw=>?_⟩
 have D0:=D
 obtain ⟨f,fd,qn,st,p1,p2,p3,p4,ok,Fu,_,S,n1,n2,B,hb⟩:=D.ex
 unfold Qo9 at ok
 simp only [Bool.and_eq_true,beq_iff_eq] at ok
 obtain ⟨N,nm,qn',bs,sn,sub,ab,col,dd,a0,a1,a2,a3,a5,cC,T⟩:=Qum I.ok.mod.kin ok.1.1.1.1
 rw [arm_exec_Raise]
 refine wpAny_bind (wpAny_standAt (Qta (C:=C) (nm:=nm) (q:=qn') (N:=N) (bs:=bs) (bm:=.ref c0::bmV) (hd:=true) (sn:=sn) (sub:=sub) (ab:=ab) (col:=col) (dd:=dd) (k0:=a0) (k1:=a1) (k2:=a2) (k3:=a3) (k5:=a5) (nid := "ValueError.__new__") (T.hasType F.excBase_ValueError.hasBase) (I.ok.hd hc) ?_))
 refine wpAny_bind (wpAny_mono (wpAny_Call_ofName (Qfz I hg hm ?_ hdb)) (fun v s3 h3=>wpAny_bind (wpAny_standAt (wpAny_pure h3))) fun _ _ x=>x)
 unfold callWith
 have h2:=ha.h cpos pins s σ H _ I hw
 rw [he] at h2 ⊢
 refine wpAny_bind (wpAny_holding (Calls.evalArgs_plain (wpAny_mono h2 (fun us s2 h=>wpAny_bind (wpAny_standAt ?_)) fun _ _ y=>y)))
 obtain ⟨vs,H1,I1,r,v,rfl,q⟩:=h
 obtain ⟨u,rfl,ru⟩:=r.one
 have c2:=I1.bk _ _ cC
 have hpl:(backTo cpos [(false,eval e X.env)]).any (·.1)=false:=rfl
 simp only [hpl]
 have dp:=hr.dp
 have s2k:∀ b,s2.heap.objs.size≤b→H1 b=none:=fun b hb=>I1.hok.fresh hb
 have fin:∀ (h':Heap) (tk:Nat) (ea d:Addr),(∀ b o,s2.heap.get? b=some o→h'.get? b=some o)→s2.heap.objs.size≤ea→s2.heap.objs.size≤d→ea≠d →
   h'.get? ea=some { cls:=.ref C,dict:=some d,data:=.fields #[.ref s2.heap.objs.size,.none,.none,.none,.bool false,.none] }→h'.Ns1 d (fun y=>if y = "at" then some u else none)→X.xe (.ref ea) { s2 with heap:=h',toks:=tk }:=fun h' tk ea d kp le ld ne ge nd=>by
  have new:ObjOk X.prog X.w (upd H1 d (.xd [("at",v)])) h' d (.xd [("at",v)]):=⟨_,nd,fun y=>?_⟩
  refine pz pins σ H1 s2 (.ref ea) { s2 with heap:=h',toks:=tk } I1 ⟨ea,.ref C,some d,upd H1 d (.xd [("at",v)]),rfl,rfl,I1.bare,Un.laid kp ld (s2k d ld),I1.hok.laid kp ld new,⟨Heap.get?_none_of_le le,by rw [Q6 ne];exact s2k ea le,_,_,ge,rfl,rfl,rfl,by simp,.inl rfl⟩,q d (s2k d ld)⟩
  by_cases hy:y = "at"
  ·subst hy
   simp only [List.lookup,if_pos]
   exact ru
  ·have:(y==("at" : Str))=false:=by simpa using hy
   simp only [List.lookup,this,if_neg hy]
   trivial
 obtain ⟨hp,g,d,tk,os⟩:=s2
 refine wpAny_bind (wpAny_keeperOf_exc c2 ?_)
 refine wpAny_bind (Qzb I1 D0 (by omega) fun h' tk' ea d' kp le ld ne ge nd=>wpAny_bind (wpAny_holding (wpAny_point (wpAny_pure ?_))))
 exact ⟨ea,some d',_,rfl,kp _ _ c2,ge,fin h' tk' ea d' kp le ld ne ge nd⟩
end
section
variable {X:Cx} {e:Expr} {te:TE} {pos:Pos}
end
theorem Q7e {K:PySem.W.Frag} {mg:Str→Option Value} {h:Heap} {x qn:Str} {c0 c1 f:Addr} {oc:Value} {od fod an:Option Addr} {cd:ClassData} {sl osl:Array (Option Value)} {kV doc pm cdv ct:Value} {st:Stmt} {p1 p2 p3 p4:Pos}
  (X:K.In h) (G:h.Ns mainGlobals mg) (e0:PySem.W.nsIn K mainGlobals "NoughtError" = some (some (.ref c0))) (e1:PySem.W.nsIn K mainGlobals x=some (some (.ref c1))) (lc:K.lookup c1=some ⟨oc,od,.cls cd,sl⟩) (fi:PySem.W.nsIn K cd.ns "__init__" = some (some (.ref f)))
  (l:K.lookup f=some ⟨.type "function",fod,.func (PySem.W.fnOf "__init__" qn (Qbg st) (Qaj st) (Qf st) .none kV doc pm an cdv ct),osl⟩) (c:PySem.W.codeIn K cdv qn=true) (k:PySem.W.keepIn K (.ref f)=true)
  (S:FnScope ["self","at"] ["self","at"] (Qf st)) (n1:(Qf st).names.lookup ("self" : Str)=some .local) (n2:(Qf st).names.lookup ("at" : Str)=some .local)
  (b:∀ (kV doc pm:Value) (an:Option Addr) (cdv ct:Value) (us:List Value),us.length=2→bindArgs (PySem.W.fnOf "__init__" qn (Qbg st) (Qaj st) (Qf st) .none kV doc pm an cdv ct) ⟨us,[]⟩=pure ((["self","at"]:List Str).zip us))
  (hb:Qaj st=[.Assign [.Attribute (.Name "self" p1) "at" p2] (.Name "at" p3) p4]) (ok:Qo9 K c0 c1 f=true):Ini K (cad mg "NoughtError") (cad mg x):=by
 rw [Qbn (PySem.W.mg_of X G e0),Qbn (PySem.W.mg_of X G e1)]
 have Fu:=Qx8 l c k
 exact ⟨⟨f,_,qn,st,p1,p2,p3,p4,ok,Fu,⟨fod,osl,l⟩,S,n1,n2,Fu.binds b,hb⟩⟩
section
variable {prog:Program} {w:World} {A:Around} {E:Value→Shared→Prop} {h:Heap} {g:Array GenState} {d:Drawn} {t:Nat} {os:OsState}
variable {nm q:Str} {C N c0:Addr} {bs bm bmB:List Value} {hd:Bool} {sn:List Str} {sub:List Value} {ab:Bool} {col:Option Bool} {dd:Option Addr} {k0 k1 k2 k3 k5:Option Value} {B nid iid:String}
noncomputable def Q2w (K:PySem.W.Frag) (c0 C f:Addr):Bool:=Q2v K c0 C bmV "ValueError.__new__" f&&PySem.W.findIn K (.ref C) "__init__" == some (some (.ref f))&&PySem.W.findIn K (.ref C) "__setattr__" == some (some (.builtin "object.__setattr__"))&&PySem.W.findIn K (.ref C) "many" == some none&&PySem.W.findIn K (.ref C) "most" == some none&&PySem.W.mroIn K C (.type "object")==some true
structure Ini2 (K:PySem.W.Frag) (c0 C:Addr):Prop where
 ex:∃ (f:Addr) (fd:FuncData) (qn:Str) (st:Stmt) (p1 p2 p3 p4 q1 q2 q3 q4:Pos),Q2w K c0 C f=true∧Fun K "__init__" qn st f fd∧(∃ od osl,K.lookup f=some ⟨.type "function",od,.func fd,osl⟩)∧FnScope ["self","many","most"] ["self","many","most"] (Qf st) ∧
  (Qf st).names.lookup ("self" : Str)=some .local∧(Qf st).names.lookup ("many" : Str)=some .local∧(Qf st).names.lookup ("most" : Str)=some .local∧Binds K fd ["self","many","most"] [] ∧
  Qaj st=[.Assign [.Attribute (.Name "self" p1) "many" p2] (.Name "many" p3) p4,.Assign [.Attribute (.Name "self" q1) "most" q2] (.Name "most" q3) q4]
end
section
variable {X:Cx} {pins:List (Addr×Obj)} {σ:St} {H:Hp} {s:Shared}
end
section
variable {X:Cx} {x:Str} {e e2:Expr} {t:TA} {pos cpos np:Pos} {R:XR} {c0 C:Addr} {k:Nat}
end
section
variable {X:Cx} {e:Expr} {te:TE} {pos:Pos}
end
section
variable {X:Cx}
noncomputable def isI (n:Int) (v:Value):Bool:=match v with
 | .int m _=>m==n
 | _=>false
end
theorem Qtb {X:Cx} {tg elt iter:Expr} {ifs:List Expr} {scope:Scope} {pos ppos:Pos} {N:List Str} {js:List (Option Nat)} {wi:TI} {g:TG} {tc:TT} {te:TE} {use:Option (Value→Sem Unit)} {R:Value→Shared→Prop} (hcalm:X.calm=true)
  (hi:PI X tg iter wi) (hg:∀ s H fp,PG (Qac X scope N s H fp) tg g) (hc:∀ s H fp,PTs (Qac X scope N s H fp) ifs tc) (he:∀ s H fp,PE (Qac X scope N s H fp) elt te)
  (hk:scope.kind=.function) (h1:scOk X scope=true) (h2:Qg1 X scope N js=true) (hs:∀ x,foldedSetIterable iter X.env x=pure x) {pins:List (Addr×Obj)} {s:Shared} {σ:St} {H:Hp} {Q:VK} (I:Inv X pins σ H s) (h:Qnw wi js g tc te σ H Q)
  (fin0:∀ (l C:Addr) (H':Hp) (s':Shared),(∃ m,s'.heap.Ns C m)→(∀ h',Heap.SameBut C s'.heap h'→Inv X pins σ H' { s' with heap:=h' })→Qih X pins H' C→Q (.ref l) H'→compPost (model X.prog X.w) X.A X.xe use R (.ref l) C (.ok .next) s') :
  wpAny (model X.prog X.w) X.A (comprehension (.ListComp elt [⟨tg,iter,ifs,0⟩] scope pos) scope X.env ppos (newList []) false (firstIter [⟨tg,iter,ifs,0⟩] X.env) use) R X.xe s:=by
 refine wpAny_comprehension_free (use:=use) rfl hs (Qlt (scOk.cells I h1)) hk (fun x hx hl=>by rw [(scOk.get h1 hx).2,hl]) ?_
 refine thn (hi pins s σ H _ I h) fun v s1 h1'=>thn h1' fun itv s2 h2'=>?_
 obtain ⟨it,fp,tn,J,H2,e,I2,T,st2,f2,q⟩:=h2'
 subst e
 refine wpAny_newObj_type ?_
 have hl:H2 s2.heap.objs.size=none:=I2.hok.fresh (Nat.le_refl _)
 obtain ⟨W,⟨m0,w0⟩,turn⟩:=q _ hl
 have I3:Inv X pins σ (upd H2 s2.heap.objs.size (.lst [])) { s2 with heap:=s2.heap.push { cls:=.type "list",data:=.seq ([]:List Value).toArray } }:=I2.lnew (t':=s2.toks) (ys:=[]) .nil (Nat.zero_le _)
 generalize hs3:({ s2 with heap:=s2.heap.push { cls:=.type "list",data:=.seq ([]:List Value).toArray } }:Shared)=s3 at I3
 generalize hH3:upd H2 s2.heap.objs.size (.lst [])=H3 at I3 w0
 generalize hl':s2.heap.objs.size=l at turn hH3 hl
 have kp3:∀ b o,s2.heap.get? b=some o→s3.heap.get? b=some o:=fun b o e=>by rw [←hs3];exact Heap.get?_push_of_some _ e
 have ob3:∀ b∈fp,∃ o,s3.heap.get? b=some o∧∀ v,o.data≠.cell v:=fun b hb=>by
  obtain ⟨o,e,d⟩:=T.obj _ _ st2 b hb
  exact ⟨o,kp3 b o e,d⟩
 have f3:∀ b∈fp,Qih X pins H3 b:=fun b hb=>by
  obtain ⟨o,e,d⟩:=T.obj _ _ st2 b hb
  refine ⟨?_,(f2 b hb).2⟩
  rw [←hH3,Q6 (Nat.ne_of_lt (by rw [←hl'];exact Heap.lt_size e))]
  exact (f2 b hb).1
 refine Qkv ?_
 have I4:=Qqj (N:=N) (js:=js) I3 hk h1 h2 f3 ob3
 have st4:tn 0 (pushCells (s3.heap.push { cls:=.type "dict",data:=.dict #[] }) scope.names):=T.keep _ _ _ st2 fun b hb o e=>pushCells_keeps _ _ _ _ (Heap.get?_push_of_some _ (kp3 b o e))
 have fr4:∀ b∈fp,H3 b=none:=fun b hb=>(f3 b hb).1
 have fpX:∀ {H':Hp},(∀ b∈fp,H' b=none)→∀ b∈fp,Qih (Qac X scope N s3 H3 fp) [] H' b:=fun hn b hb=>by
  have ok:=I4.ok
  refine ⟨hn b hb,(ok.exf b hb).1,ok.exfs b hb,.inl hb,(ok.exf b hb).2,fun p hp=>absurd (show p∈([]:List (Addr×Obj)) from hp) (by simp)⟩
 -- the block's end
 have fin:∀ {σ':St} {H':Hp} {s':Shared},Inv (Qac X scope N s3 H3 fp) [] σ' H' s'→Q (.ref l) H'→compPost (model X.prog X.w) X.A X.xe use R (.ref l) s3.heap.objs.size (.ok .next) s':=fun {σ' H' s'} I' q'=>by
  obtain ⟨m,hn,_⟩:=id I'.loc
  have hfr:H' s3.heap.objs.size=none:=I'.free
  refine fin0 l _ H' s' ⟨m,hn⟩ (fun h' hsb=>?_) (I3.fpOk (Nat.le_refl _) hfr) q'
  refine I3.call' (s':={ s' with heap:=h' }) (ch:=fp) I'.os ⟨fun b o e n hb hx=>?_,fun b o e n hb hx=>?_,I'.base.free,fun b o e hx=>?_,I'.base.tups,I'.base.frzs,I'.base.tbls⟩ (fun b u e=>?_) I'.bare (fun b hb=>⟨(f3 b hb).2.2.2.1,(f3 b hb).2.1,(f3 b hb).2.2.2.2.1,(f3 b hb).2.2.2.2.2⟩)
  ·exact (hsb.2 b (Nat.ne_of_lt (Heap.lt_size e))).trans (I'.base.keep b o e n hb hx)
  ·obtain ⟨sl,z⟩:=I'.base.slot b o e n hb hx
   exact ⟨sl,(hsb.2 b (Nat.ne_of_lt (Heap.lt_size e))).trans z⟩
  ·obtain ⟨o',z⟩:=I'.base.there b o e hx
   exact ⟨o',(hsb.2 b (Nat.ne_of_lt (Heap.lt_size e))).trans z⟩
  ·refine (I'.hok b u e).stay (fun c w' hc z=>(hsb.2 c ?_).trans z) (fun _ z=>z) fun _ _ z=>z
   rintro rfl
   rcases hc with rfl | hc
   ·rw [hfr] at e;cases e
   ·rw [hfr] at hc;cases hc
 have loop:codeAny (model X.prog X.w) X.A (.compLoop (.ListComp elt [⟨tg,iter,ifs,0⟩] scope pos) 0 (.ref it) (.ref l) (Qac X scope N s3 H3 fp).env) (compPost (model X.prog X.w) X.A X.xe use R (.ref l) s3.heap.objs.size)
   { s3 with heap:=pushCells (s3.heap.push { cls:=.type "dict",data:=.dict #[] }) scope.names }:=by
  refine Qi8 (fun n s'=>∃ i ys σ' H',Inv (Qac X scope N s3 H3 fp) [] σ' H' s'∧tn i s'.heap∧(∀ b∈fp,H' b=none)∧W i n ys σ' H') ?_ m0 ⟨0,[],Qef js σ,H3,I4,st4,fr4,w0⟩
  rintro n s5 ⟨i,ys,σ5,H5,I5,st5,fr5,w5⟩
  rcases turn i n ys σ5 H5 w5 with ⟨stop,qn⟩ | ⟨go,step⟩
  ·refine thn (T.done (Qac X scope N s3 H3 fp) rfl rfl rfl hcalm i [] s5 σ5 H5 _ I5 (fpX fr5) st5 stop) fun r s6 ⟨hr,I6⟩=>?_
   subst hr
   exact fin I6 qn
  ·refine thn (T.item (Qac X scope N s3 H3 fp) rfl rfl rfl hcalm i [] s5 σ5 H5 _ I5 (fpX fr5) st5 go) fun r s6 ⟨u,hr,h6⟩=>?_
   subst hr
   refine thn h6 fun _ s7 ⟨x,H7,I7,r7,y7,st7,fr7⟩=>?_
   have I7':=I7.pinned (fpX fr7) (T.obj _ _ st7)
   have again:∀ {σ8:St} {H8:Hp} {s8:Shared} {ys8:List V},Inv (Qac X scope N s3 H3 fp) ([]++Qj0 fp s7.heap) σ8 H8 s8→(∃ m',m'<n∧W (i+1) m' ys8 σ8 H8) →
     ∃ m,m<n∧∃ i ys σ' H',Inv (Qac X scope N s3 H3 fp) [] σ' H' s8∧tn i s8.heap∧(∀ b∈fp,H' b=none)∧W i m ys σ' H':=fun {σ8 H8 s8 ys8} I8 ⟨m',hm,w8⟩=>by
    refine ⟨m',hm,i+1,ys8,σ8,H8,I8.unpinned,T.keep _ _ _ st7 fun b hb o e=>(I8.pin (b,o) (mem_append_right _ (mem_append_right _ (Qdb hb e)))).1,fun b hb=>?_,w8⟩
    obtain ⟨o,e,d⟩:=T.obj _ _ st7 b hb
    exact (I8.pin (b,o) (mem_append_right _ (mem_append_right _ (Qdb hb e)))).2.1
   refine thn (hg s3 H3 fp _ s7 σ5 H7 x u _ I7' r7 (step x H7 y7)) fun _ s8 ⟨σ8,H8,I8,q8⟩=>?_
   refine thn (hc s3 H3 fp _ s8 σ8 H8 _ I8 q8) fun ok s9 ⟨H9,I9,q9⟩=>?_
   cases ok with
   | false =>
    rw [if_neg Bool.false_ne_true] at q9 ⊢
    exact again I9 q9
   | true =>
    rw [if_pos rfl] at q9 ⊢
    refine thn (he s3 H3 fp _ s9 σ8 H9 _ I9 q9) fun y s10 ⟨vy,H10,I10,r10,a10,z10,q10⟩=>?_
    refine thn (Qj3 (X:=Qac X scope N s3 H3 fp) _ s10 σ8 H10 (.ref l) [vy] (.ref l) [y] (fun _ H'=>∃ m',m'<n∧W (i+1) m' (ys++[vy]) σ8 H') I10 rfl (.cons r10 .nil) ⟨l,ys,vy,rfl,rfl,a10,z10,q10⟩) fun _ s11 ⟨_,H11,I11,_,q11⟩=>?_
    exact again I11 q11
 first
  | exact codeAny_compStart_list loop (T.self _ 0 _ _ _ st4 loop)
  | (rw [← hs3] at loop st4
     exact codeAny_compStart_list loop (T.self _ 0 _ _ _ st4 loop))
theorem Qtc {X:Cx} {tgE tg elt iter:Expr} {ifs:List Expr} {scope:Scope} {pos cpos:Pos} {N:List Str} {js:List (Option Nat)} {wi:TI} {g g2:TG} {tc:TT} {te:TE} (hcalm:X.calm=true)
  (hi:PI X tg iter wi) (hg:∀ s H fp,PG (Qac X scope N s H fp) tg g) (hc:∀ s H fp,PTs (Qac X scope N s H fp) ifs tc) (he:∀ s H fp,PE (Qac X scope N s H fp) elt te) (h2g:PG X tgE g2)
  (hk:scope.kind=.function) (h1:scOk X scope=true) (h2:Qg1 X scope N js=true) (hs:∀ x,foldedSetIterable iter X.env x=pure x)
  (hsw:swapsWithSole [tgE] (.ListComp elt [⟨tg,iter,ifs,0⟩] scope cpos) pos.line X.env=pure true) (ha:(assignEach [tgE] X.env).map (·.2)=[assign tgE X.env]) :
  PS X (.Assign [tgE] (.ListComp elt [⟨tg,iter,ifs,0⟩] scope cpos) pos) (Qlo (Qnw wi js g tc te) g2):=by
 intro pins s σ H D I h
 rw [arm_exec_Assign]
 refine wpAny_bind (wpAny_standAt ?_)
 rw [hsw]
 refine wpAny_bind (wpAny_pure ?_)
 rw [if_pos rfl]
 refine wpAny_bind ?_
 rw [arm_evalThenUse_ListComp,ha]
 refine wpAny_bind (Qtb (use:=some fun v=>assignAll v [assign tgE X.env]) hcalm hi hg hc he hk h1 h2 hs I h fun l C H' s' hns hInv fpC q=>?_)
 obtain ⟨m,o,es,ep,ho,hd,r⟩:=hns
 have J0:Inv X pins σ H' s':=hInv s'.heap (Heap.SameBut.refl ..)
 have J1:=J0.pinned (fp:=[C]) (fun b hb=>by rw [mem_singleton.mp hb];exact fpC) (fun b hb=>by
  rw [mem_singleton.mp hb]
  exact ⟨o,ho,fun v z=>by rw [hd] at z;cases z⟩)
 show wpAny _ _ (assign tgE X.env (.ref l)) _ _ _
 refine thn (h2g _ s' σ H' (.ref l) (.ref l) D.nx J1 rfl q) fun _ s2 ⟨σ2,H2,I2,q2⟩=>?_
 have hp:=I2.pin (C,o) (mem_append_right _ (mem_append_right _ (Qdb (mem_singleton.mpr rfl) ho)))
 refine ⟨m,⟨o,es,ep,hp.1,hd,r⟩,fun h' hsb=>?_⟩
 have I3:=I2.unpinned.turnedL (h':=h') (t':=s2.toks) (fp:=[C]) (fun b o' hb e=>by
  rw [hsb.2 b (fun z=>hb (by rw [z];exact mem_singleton.mpr rfl))]
  exact e) (fun b hb=>by
  rw [mem_singleton.mp hb]
  exact ⟨hp.2.1,fpC.2⟩)
 exact wpAny_pure (wpAny_pure ⟨σ2,H2,I3,q2⟩)
noncomputable def keyD:Key→PyData
 | .inl i=>.int i
 | .inr x=>.str x
mutual
noncomputable def pyD:T→PyData
 | .non=>.none
 | .bl b=>.bool b
 | .int i=>.int i
 | .str x=>.str x
 | .tup ts=>.tuple (Qna ts)
 | .lst ts=>.list (Qna ts)
 | .dct ks ts=>.dict ((ks.map keyD).zip (Qna ts))
 | .dtt _ _=>.none
 | .clo _ _=>.none
noncomputable def Qna:List T→List PyData
 | []=>[]
 | t::ts=>pyD t::Qna ts
end
mutual
noncomputable def Qet:T→Bool
 | .tup ts=>Ql1 ts
 | .lst ts=>Ql1 ts
 | .dct _ _=>false
 | .clo _ _=>false
 | .dtt _ _=>false
 | _=>true
noncomputable def Ql1:List T→Bool
 | []=>true
 | t::ts=>Qet t&&Ql1 ts
end
mutual
theorem Qqx:∀ t:T,Qet t=true→(pyD t).hasDict=false
 | .non,_=>by simp only [pyD,PyData.hasDict]
 | .bl _,_=>by simp only [pyD,PyData.hasDict]
 | .int _,_=>by simp only [pyD,PyData.hasDict]
 | .str _,_=>by simp only [pyD,PyData.hasDict]
 | .tup ts,h=>by simp only [pyD,PyData.hasDict];exact Qf3 ts (by simpa only [Qet] using h)
 | .lst ts,h=>by simp only [pyD,PyData.hasDict];exact Qf3 ts (by simpa only [Qet] using h)
 | .dct _ _,h=>by simp only [Qet] at h;cases h
 | .clo _ _,h=>by simp only [Qet] at h;cases h
 | .dtt _ _,h=>by simp only [Qet] at h;cases h
theorem Qf3:∀ ts:List T,Ql1 ts=true→PyData.hasDictAll (Qna ts)=false
 | [],_=>by simp only [Qna,PyData.hasDictAll]
 | t::ts,h=>by
  simp only [Ql1,Bool.and_eq_true] at h
  simp only [Qna,PyData.hasDictAll,Qqx t h.1,Qf3 ts h.2,Bool.or_false]
end
section
variable {P:Program} {w:World} {H:Hp} {h:Heap}
mutual
theorem Qzd (ok:HOk P w H h):∀ (t:T) {v:V} {u:Value},Qet t=true→Is H v t→RelV v u→∃ as,Reads h u (pyD t) as
 | .non,v,u,_,i,r=>by unfold Is at i;subst i;cases r;exact ⟨_,by unfold pyD;exact .none⟩
 | .bl b,v,u,_,i,r=>by unfold Is at i;subst i;cases r;exact ⟨_,by unfold pyD;exact .bool b⟩
 | .int n,v,u,_,i,r=>by unfold Is at i;subst i;obtain ⟨t,rfl⟩:=r;exact ⟨_,by unfold pyD;exact .int n t⟩
 | .str x,v,u,_,i,r=>by unfold Is at i;subst i;obtain ⟨t,rfl⟩:=r;exact ⟨_,by unfold pyD;exact .str x t⟩
 | .tup ts,v,u,f,i,r=>by
  obtain ⟨a,vs,rfl,ha,q⟩:=i.tup_inv
  cases r
  obtain ⟨_,its,rv,o,e,c,n,d,_⟩:=(show ObjOk P w H h a (.tup vs) from ok a _ ha)
  obtain ⟨as,R⟩:=Qkc ok ts (by simpa only [Qet] using f) q rv
  exact ⟨as,by unfold pyD;exact .tuple e c d (by simpa using R)⟩
 | .lst ts,v,u,f,i,r=>by
  obtain ⟨a,vs,rfl,ha,q⟩:=i.lst_inv
  cases r
  obtain ⟨_,its,n,rv,e⟩:=(show ObjOk P w H h a (.lst vs) from ok a _ ha)
  obtain ⟨as,R⟩:=Qkc ok ts (by simpa only [Qet] using f) q rv
  exact ⟨a::as,by unfold pyD;exact .list e rfl rfl (by simpa using R)⟩
 | .dct _ _,v,u,f,i,r=>by simp only [Qet] at f;cases f
 | .clo _ _,v,u,f,i,r=>by simp only [Qet] at f;cases f
 | .dtt _ _,v,u,f,i,r=>by simp only [Qet] at f;cases f
theorem Qkc (ok:HOk P w H h):∀ (ts:List T) {vs:List V} {us:List Value},Ql1 ts=true→IsL H vs ts→Vals vs us→∃ as,ReadsAll h us (Qna ts) as
 | [],vs,us,_,i,r=>by
  rw [i.nil_inv] at r
  cases r
  exact ⟨_,by unfold Qna;exact .nil⟩
 | t::ts,vs,us,f,i,r=>by
  obtain ⟨v,w',rfl,iv,iw⟩:=i.cons_inv
  simp only [Ql1,Bool.and_eq_true] at f
  cases r with
  | cons r0 rr =>
   obtain ⟨as,R⟩:=Qzd ok t f.1 iv r0
   obtain ⟨bs,R2⟩:=Qkc ok ts f.2 iw rr
   exact ⟨_,by unfold Qna;exact .cons R R2⟩
end
end
noncomputable def isD:T→Bool
 | .dct [] []=>true
 | .dct [.inr _] [.int _]=>true
 | _=>false
noncomputable def shOk (t:T):Bool:=(pyD t).showable&&decide ((pyD t).shown.length≤sizeLine)&&decide ((pyD t).depth≤40)&&(Qet t||isD t)
section
variable {X:Cx}
end
noncomputable def OkD:Nat→T→Bool
 | _,.non=>true
 | _,.bl _=>true
 | _,.int i=>decide (i.natAbs<10^31)
 | _,.str x=>decide (x.cps.size≤2)&&x.cps.toList.all fun c=>decide (c<16^8)
 | n+1,.tup ts=>decide (ts.length≤16)&&ts.all (OkD n)
 | n+1,.lst ts=>decide (ts.length≤16)&&ts.all (OkD n)
 | _,_=>false
structure ShD (c d:Nat) (t:T):Prop where
 b:(pyD t).bulk≤c
 l:(pyD t).leavesShort 32=true
 s:(pyD t).showable=true
 d:(pyD t).depth≤d
 f:Qet t=true
namespace Z
section
variable {H:Hp} {S:Addr→Prop} {x y:V} {Q:VK} {K:PySem.W.Frag}
def Sm (r:Nat) (D:Hp) (x:V):Prop:=∃ t,Is D x t∧OkD r t=true
variable {r:Nat}
end
end Z
end L2
namespace PySem
open Sem (wp)
open AutoSeq1 (wpAny_loadPart')
section
variable {prog:Program} {w:World} {A:Around} {E:Value→Shared→Prop} {s:Shared}
end
end PySem
namespace L2
open PySem PySem.Spec PyProof.Rows
section
variable {X:Cx}
end
end L2
namespace L2
open PySem PySem.Spec PyProof.Rows PySem.W PySem.Calls
noncomputable def runK {α:Type} (lt:Nat→Nat→Bool):KasT α→α
 | .ret a=>a
 | .ask i j k=>runK lt (k (lt i j))
def Bd (n:Nat) (p:Array Nat):Prop:=0<n∧(∀ x∈p,x<n)∧p.size=n
noncomputable def ordK (n:Nat) (lt:Nat→Nat→Bool):List Nat:=if n<2 then List.range n else (runK lt (kas_sort n)).toList
noncomputable def pick {α:Type} (vs:List α) (d:α) (is:List Nat):List α:=is.map fun i=>vs.getD i d
noncomputable abbrev ltK (ks:List (List Int)):Nat→Nat→Bool:=fun i j=>HT.lexLt (ks.getD i []) (ks.getD j [])
noncomputable def Qze (ks:List (List Int)):List (List Int):=pick ks [] (ordK ks.length (ltK ks))
noncomputable def Q4w:List (List Int)→Bool
 | []=>true
 | k::_=>!k.isEmpty
end L2
namespace L2
open PySem PySem.Spec PyProof.Rows PySem.W PySem.Calls
noncomputable def Quo (k:List Int):Int:=reduceHash (Builtin.Tuple.tupleHashOf (k.map hashInt))
noncomputable def Ql2 (ks:List (List Int)) (j:Nat):List Int:=ks.getD j []
noncomputable def hAt (ks:List (List Int)) (es:Array Nat) (i:Nat):Int:=(es[i]?.map fun x=>Quo (Ql2 ks x)).getD 0
noncomputable def Qabb (ks:List (List Int)) (j:Nat) (r:SetTable×Array Nat):Option (SetTable×Array Nat) :=
 match r.1.probe (hAt ks r.2) (Quo (Ql2 ks j)) (r.1.probeStart (Quo (Ql2 ks j))) with
 | some (.empty s none) =>
  if (r.1.put s).1.fits (SetTable.insertAt r.2 (r.1.put s).2 j).size && !(r.1.put s).1.tooFull && !(r.1.put s).1.gaveWay&&decide ((SetTable.insertAt r.2 (r.1.put s).2 j).size≤1000) then some ((r.1.put s).1,SetTable.insertAt r.2 (r.1.put s).2 j) else none
 | some (.candidate _ i _)=>match r.2[i]? with
  | some x=>if Ql2 ks x=Ql2 ks j then some r else none
  | none=>none
 | _=>none
noncomputable def Qzf (led:Bool) (ks:List (List Int)):Nat→Option (SetTable×Array Nat)
 | 0=>some (.fresh 0 0 led,#[])
 | n+1=>match Qzf led ks n with
  | some r=>Qabb ks n r
  | none=>none
noncomputable def Qabc (t:SetTable):Nat→Nat
 | 0=>0
 | i+1=>t.place.getD i 0+1
noncomputable def Qzg (t:SetTable) (n:Nat):Bool:=(List.range (n+1)).all fun i=>SetTable.below t.place (Qabc t i)==i
noncomputable def Qup (x:Nat):List Nat→List (List Nat)
 | []=>[[x]]
 | y::ys=>(x::y::ys)::(Qup x ys).map (y :: ·)
noncomputable def Q4x:List Nat→List (List Nat)
 | []=>[[]]
 | x::xs=>(Q4x xs).flatMap (Qup x)
noncomputable def Qtd (ks:List (List Int)) (is:List Nat):List (List Int):=pick ks [] is
noncomputable def srtS (ks:List (List Int)):Option (List (List Int)) :=
 match Qzf true ks ks.length,Qzf false ks ks.length with
 | some (t,es),some (t',es') =>
  if Qzg t es.size&&decide (es.size<6)&&(es.toList.all fun j=>decide (j<ks.length) && !(Ql2 ks j).isEmpty)&&decide (es'.toList=es.toList) &&
    (Q4x es.toList).all (fun is=>decide (Qze (Qtd ks is)=Qze (Qtd ks es.toList))) then some (Qze (Qtd ks es.toList)) else none
 | _,_=>none
end L2
namespace L2
open PySem PySem.Spec PyProof.Rows PySem.W PySem.Calls
noncomputable abbrev btx (w:World):Bool:=w.params.followText "set-order"
structure SOk (w:World) (es:Array (Int×Value)) (t:SetTable):Prop where
 fits:t.fits es.size=true
 plain:t.plain=true
 led:btx w=false→t.led=true
 wk:btx w=false→Qzg t es.size=true
section
variable {prog:Program} {w:World} {A:Around} {E:Value→Shared→Prop} {s:Shared} {it d:Addr} {i ep:Nat} {es:Array (Int×Value)} {t:SetTable}
end
set_option genInjectivity false
set_option genSizeOf false
inductive PV where
 | fz (t:T) | ow (t:T) | sl (i:Nat)
inductive Slot where
 | un | fz (t:T) | ow (t:T) | ml (t:T) | ro (t:T) | pin (a:Addr) | fx (t:T)
noncomputable abbrev En:=List Slot
structure Xn where
 c:Nat
 arg:List Int
inductive Out (α:Type) where
 | ok (a:α) (ρ:En) | xn (x:Xn) (ρ:En) | no
noncomputable def Out.bind {α β:Type} (o:Out α) (k:α→En→Out β):Out β:=match o with
 | .ok a ρ=>k a ρ
 | .xn x ρ=>.xn x ρ
 | .no=>.no
noncomputable def Out.opt {α:Type} (o:Option α) (ρ:En):Out α:=match o with
 | some a=>.ok a ρ
 | none=>.no
noncomputable def Slot.prv:Slot→Option T
 | .ow t=>some t | .ml t=>some t | .ro t=>some t | _=>none
noncomputable def Slot.mut:Slot→Bool
 | .ow (.lst _)=>true | .ml (.lst _)=>true | _=>false
noncomputable def Slot.mutD:Slot→Bool
 | .ow (.dtt _ _)=>true | .ml (.dtt _ _)=>true | _=>false
noncomputable def Slot.put (t:T):Slot→Slot
 | .ow _=>.ow t | .ml _=>.ml t | s=>s
noncomputable def Slot.lend:Slot→Slot
 | .ow t=>.ml t | .pin _=>.un | .fx t=>.fz t | s=>s
noncomputable def Qa (ρ:En) (i:Nat):Slot:=match ρ[i]? with
 | some s=>s
 | none=>.un
noncomputable def cont (ρ:En):PV→Option T
 | .fz t=>some t
 | .ow t=>some t
 | .sl i=>(Qa ρ i).prv
noncomputable def frz:PV→Option T
 | .fz t=>some t
 | .ow t=>some t
 | .sl _=>none
noncomputable def Qe3:List PV→Option (List T)
 | []=>some []
 | r::rs=>match frz r,Qe3 rs with
  | some t,some ts=>some (t::ts)
  | _,_=>none
inductive BOp where
 | add | sub | mul | fdv | mod | pow | shl | shr | band
inductive COp where
 | eq | ne | lt | le | gt | ge | isn | isnn | inn | nin
inductive Bi where
 | len | abs | all | any | sum | max | min | dvm | int | list | tup | repr | dct | lstD | dcl | maxT | srt | srtS
inductive Tg where
 | nm (i:Nat) | tp (is:List Nat)
mutual
inductive E where
 | var (i:Nat) | int (i:Int) | bl (b:Bool) | non | str (x:Str)
 | tup (es:Es) | lst (es:Es)
 | bin (o:BOp) (a b:E) | neg (a:E)
 | not (a:E) | and (a b:E) | or (a b:E) | ite (c a b:E)
 | cmp (o:COp) (a b:E)
 | isI (a:E) (n:String)
 | inR (ng:Bool) (a lo hi:E)
 | call (f:Nat) (es:Es)
 | bi (b:Bi) (es:Es)
 | cnt (a b:E)
 | ix (a i:E) | slc (a:E) (lo hi:Es) | rev (a:E)
 | comp (w:W) (js:List (Option Nat)) (tg:Tg) (cs:Es) (e:E)
 | tupR (l:Bool) (a:E)
 | dnew | din (ng:Bool) (k d:E) | dix (d k:E)
 | tcall (f:Nat) (es:Es) | lstR2 (a b:E) | lit (t:T) | dg1 (d k:E) | dg2 (d k x:E) | d1 (k x:E)
 | app (i:Nat) (es:Es) | lam (k:Nat) (js:List Nat) | lix (i:Nat) (a:E) | compS (i:Nat) (js:List (Option Nat)) (tg:Tg) (cs:Es) (e:E) | compZ (i j:Nat) (js:List (Option Nat)) (tg:Tg) (cs:Es) (e:E) | chl (a b c:E) | orv (a b:E)
 | fzE (e:E) | bad
inductive Es where
 | nil | cons (e:E) (es:Es)
inductive W where
 | seq (e:E) | rng1 (a:E) | rng2 (a b:E) | enm (e:E) | zip (a b:E) | dks (e:E)
end
inductive S where
 | nil | seq (a b:S) | expr (e:E) | set (i:Nat) (e:E) | setF (i:Nat) (e:E) | unp (is:List Nat) (e:E) | par (i j:Nat) (a b:E)
 | app (i:Nat) (e:E) | ext (i:Nat) (e:E) | put (i:Nat) (k e:E) | dput (i:Nat) (k e:E) | swp (i j k:Nat) | look (i:Nat) (b:S)
 | ret (e:E) | retN | ite (c:E) (a b:S) | whl (c:E) (b:S) | for_ (w:W) (tg:Tg) (b:S) | forS (i:Nat) (tg:Tg) (b:S) | extL (i:Nat) (e:E)
 | brk | cnt | frz (i:Nat) | raise (c:Nat) (es:Es) | scr (i a b f:Nat) (c1 c2:E) | ins (i:Nat) (k e:E) | rem (i:Nat) (e:E) | nest (iF iR iH iW iS iT iN:Nat) (a0 a:S) (c v e1 e2:E) | parO (i j:Nat) (a b:E) | tryR (i:Nat) (b:S) (h:Nat→List Int→Option T) | bad
inductive Arg where
 | fz (t:T) | ml (t:T) | ro (t:T)
inductive FR where
 | ok (r:PV) (fin:List T) | xn (x:Xn) (fin:List T) | no
inductive SO where
 | nx (ρ:En) | rt (r:PV) (ρ:En) | bk (ρ:En) | ct (ρ:En) | xn (x:Xn) (ρ:En) | no
noncomputable abbrev CF:=Nat→List Arg→FR
noncomputable def Qbm (i j:Int):Bool:=decide (i.natAbs<2^64)||(decide (j.natAbs<2^64)||((decide (i.natAbs<2^250)&&decide (j.natAbs<2^250))||(decide (i.natAbs.log2<9000)&&decide (j.natAbs.log2<9000))))
noncomputable def asI:T→Option Int
 | .int i=>some i
 | _=>none
noncomputable def opN:BOp→Int→Int→Option PV
 | .add,i,j=>some (.fz (.int (i+j)))
 | .sub,i,j=>some (.fz (.int (i-j)))
 | .mul,i,j=>if Qbm i j=true then some (.fz (.int (i*j))) else none
 | .fdv,i,j=>if 0<j∧j.natAbs<2^64 then some (.fz (.int (i / j))) else if j≠0∧j.natAbs<2^250 then some (.fz (.int (i.fdiv j))) else none
 | .mod,i,j=>if 0<j then some (.fz (.int (i%j))) else if j<0 then some (.fz (.int (i.fmod j))) else none
 | .pow,i,j=>if 0≤j∧j.natAbs≤1000000∧i.natAbs<2^64 then some (.fz (.int (i^j.toNat))) else none
 | .shl,i,j=>if 0≤j∧j.natAbs≤64∧i.natAbs<2^64 then some (.fz (.int (i*2^j.toNat))) else none
 | .shr,i,j=>if 0≤j∧j.natAbs≤64 then some (.fz (.int (i / 2^j.toNat))) else none
 | .band,i,j=>if j=1 then some (.fz (.int (i%2))) else none
noncomputable def Q7f:T→T→Option PV
 | .tup a,.tup b=>if a.length+b.length≤100000 then some (.fz (.tup (a++b))) else none
 | .lst a,.lst b=>if a.length+b.length≤100000 then some (.ow (.lst (a++b))) else none
 | _,_=>none
noncomputable def Q7g:T→Option Int→Option PV
 | .tup a,some k=>if a.length*k.toNat≤100000∧1≤k∧k.natAbs≤100000∧a≠[] then some (.fz (.tup (List.replicate k.toNat a).flatten)) else none
 | .lst a,some k=>if a.length*k.toNat≤100000∧1≤k∧k.natAbs≤100000 then some (.ow (.lst (List.replicate k.toNat a).flatten)) else none
 | _,_=>none
noncomputable def opX:BOp→T→T→Option PV
 | .add,t,u=>Q7f t u
 | .mul,t,u=>Q7g t (asI u)
 | _,_,_=>none
noncomputable def opB (o:BOp) (t u:T):Option PV:=match asI t,asI u with
 | some i,some j=>opN o i j
 | _,_=>opX o t u
noncomputable def Ql3:T→Bool
 | .non=>true | .bl _=>true | .int _=>true | .str _=>true | _=>false
noncomputable def eqO:T→T→Option Bool
 | .int i,.int j=>some (decide (i=j))
 | .bl i,.bl j=>some (decide (i=j))
 | .str i,.str j=>some (decide (i=j))
 | .non,.non=>some true
 | .non,.int _=>some false | .int _,.non=>some false | .non,.bl _=>some false | .bl _,.non=>some false | .non,.str _=>some false | .str _,.non=>some false
 | .int _,.str _=>some false | .str _,.int _=>some false | .bl _,.str _=>some false | .str _,.bl _=>some false
 | .tup a,.tup b=>if Qr 50 (.tup a)=true∧Qr 50 (.tup b)=true then some (eqT (.tup a) (.tup b)) else none
 | .lst a,.lst b=>if Qr 50 (.lst a)=true∧Qr 50 (.lst b)=true then some (eqT (.lst a) (.lst b)) else none
 | t,u=>if Q2s t u=true then some false else none
noncomputable def Qgp:T→Bool
 | .non=>true
 | _=>false
noncomputable def Qwr (f:Int→Int→Bool) (t u:T):Option Bool:=match asI t,asI u with
 | some i,some j=>some (f i j)
 | _,_=>none
noncomputable def Qg5:T→Option (List T)
 | .lst a=>some a
 | .tup a=>some a
 | _=>none
noncomputable def inO (x t:T):Option Bool:=match Qg5 t with
 | some ts=>if Qr 49 x=true∧ts.all (Qr 49)=true then some (ts.any fun u=>eqT u x) else none
 | none=>none
noncomputable def opC:COp→T→T→Option Bool
 | .eq,a,b=>eqO a b
 | .ne,a,b=>(eqO a b).map (!·)
 | .lt,a,b=>Qwr (fun i j=>decide (i<j)) a b
 | .le,a,b=>Qwr (fun i j=>decide (i≤j)) a b
 | .gt,a,b=>Qwr (fun i j=>decide (j<i)) a b
 | .ge,a,b=>Qwr (fun i j=>decide (j≤i)) a b
 | .isn,a,b=>if Qgp b then some (Qgp a) else none
 | .isnn,a,b=>if Qgp b then some (!Qgp a) else none
 | .inn,a,b=>inO a b
 | .nin,a,b=>(inO a b).map (!·)
noncomputable def truT:T→Option Bool
 | .bl b=>some b
 | .int i=>some (decide (i≠0))
 | _=>none
noncomputable def Qk5:List T→Option (List Bool)
 | []=>some []
 | t::ts=>match truT t,Qk5 ts with
  | some b,some bs=>some (b::bs)
  | _,_=>none
noncomputable def Qd9:List T→Option (List Int)
 | []=>some []
 | .int i::ts=>match Qd9 ts with
  | some is=>some (i::is)
  | none=>none
 | _::_=>none
noncomputable def Qte:List (List Int)→List T→List Int→Option T
 | j::ks,t::ts,k=>if j=k then some t else Qte ks ts k
 | _,_,_=>none
noncomputable def dRep:List (List Int)→List T→List Int→T→List T
 | j::ks,t::ts,k,u=>(if j=k then u else t)::dRep ks ts k u
 | _,_,_,_=>[]
noncomputable def dPut (ks:List (List Int)) (ts:List T) (k:List Int) (u:T):T:=match Qte ks ts k with
 | some _=>.dtt ks (dRep ks ts k u)
 | none=>.dtt (ks++[k]) (ts++[u])
noncomputable def Q4y:Option T→Bool
 | some (.dtt _ _)=>true
 | _=>false
noncomputable def Qws:PV→Option (List Int)
 | .fz (.tup us)=>Qd9 us
 | _=>none
noncomputable def Qzh:List T→Option (List (List Int))
 | []=>some []
 | .tup us::ts=>match Qd9 us,Qzh ts with
  | some k,some ks=>some (k::ks)
  | _,_=>none
 | _=>none
noncomputable def Qk6:Int→List Int→Int
 | m,[]=>m
 | m,x::xs=>Qk6 (if m<x then x else m) xs
noncomputable def minI:Int→List Int→Int
 | m,[]=>m
 | m,x::xs=>minI (if x<m then x else m) xs
noncomputable def Qh6:Bi→List T→Option PV
 | .len,[.lst a]=>some (.fz (.int a.length))
 | .len,[.tup a]=>some (.fz (.int a.length))
 | .abs,[.int i]=>some (.fz (.int (if i<0 then -i else i)))
 | .all,[.lst a]=>(Qk5 a).map fun bs=>.fz (.bl (bs.all id))
 | .any,[.lst a]=>(Qk5 a).map fun bs=>.fz (.bl (bs.any id))
 | .sum,[.lst a]=>(Qd9 a).map fun is=>.fz (.int is.sum)
 | .max,[.int i,.int j]=>some (.fz (.int (if j>i then j else i)))
 | .min,[.int i,.int j]=>some (.fz (.int (if j<i then j else i)))
 | .srt,[.lst a]=>match Qzh a with
  | some ks=>if ks.length<64∧Q4w ks=true then some (.ow (.lst ((Qze ks).map fun k=>T.tup (k.map T.int)))) else none
  | none=>none
 | .srt,[.dtt ks _]=>if ks.length<64∧Q4w ks=true∧ks.all (fun k=>decide (k.length≤100000))=true then some (.ow (.lst ((Qze ks).map fun k=>T.tup (k.map T.int)))) else none
 | .srtS,[.lst a]=>match Qzh a with
  | some ks=>match srtS ks with
   | some r=>some (.ow (.lst (r.map fun k=>T.tup (k.map T.int))))
   | none=>none
  | none=>none
 | .maxT,[.tup a]=>match Qd9 a with
  | some (x::xs)=>some (.fz (.int (Qk6 x xs)))
  | _=>none
 | .max,[.lst a]=>match Qd9 a with
  | some (x::xs)=>some (.fz (.int (Qk6 x xs)))
  | _=>none
 | .min,[.lst a]=>match Qd9 a with
  | some (x::xs)=>some (.fz (.int (minI x xs)))
  | _=>none
 | .dvm,[.int i,.int j]=>if 0<j∧j.natAbs<2^64 then some (.fz (.tup [.int (i / j),.int (i%j)])) else none
 | .int,[.int i]=>some (.fz (.int i))
 | .int,[.bl b]=>some (.fz (.int (if b then 1 else 0)))
 | .list,[.lst a]=>some (.ow (.lst a))
 | .list,[.tup a]=>some (.ow (.lst a))
 | .tup,[.lst a]=>some (.fz (.tup a))
 | .tup,[.tup a]=>some (.fz (.tup a))
 | .lstD,[.dtt ks _]=>if ks.length≤100000∧ks.all (fun k=>decide (k.length≤100000))=true then some (.ow (.lst (ks.map fun k=>T.tup (k.map T.int)))) else none
 | .dct,[.dtt [k] [t]]=>some (.ow (.dtt [k] [t]))
 | .dcl,[.lst [.tup [.tup us,t]]]=>match Qd9 us with
  | some is=>some (.ow (.dtt [is] [t]))
  | none=>none
 | .repr,[t]=>if shOk t=true then some (.fz (.str (pyD t).shown)) else none
 | _,_=>none
noncomputable def Qzi:T→T→Option T
 | .lst a,.int i=>atI a i
 | .tup a,.int i=>atI a i
 | _,_=>none
noncomputable def Q2x:T→Option Int→Option Int→Option PV
 | .lst a,lo,hi=>some (.ow (.lst (Qf2 a lo hi)))
 | .tup a,lo,hi=>some (.fz (.tup (Qf2 a lo hi)))
 | _,_,_=>none
noncomputable def Qkd:List PV→Option (Option Int)
 | []=>some none
 | [.fz (.int i)]=>some (some i)
 | _=>none
noncomputable def Qah (ρ:En):List PV→Option (List T)
 | []=>some []
 | r::rs=>match cont ρ r,Qah ρ rs with
  | some t,some ts=>some (t::ts)
  | _,_=>none
noncomputable def Ql4 (n:String):Bool:=n == "int" || n == "bool" || n == "tuple" || n == "list" || n == "dict" || n == "str"
noncomputable def Qai (ρ:En):PV→Option Arg
 | .fz t=>some (.fz t)
 | .ow t=>some (.fz t)
 | .sl i=>match Qa ρ i with
  | .ow t=>some (.ml t)
  | .ml t=>some (.ml t)
  | .ro t=>some (.ro t)
  | _=>none
noncomputable def Qw (ρ:En):List PV→Option (List Arg)
 | []=>some []
 | r::rs=>match Qai ρ r,Qw ρ rs with
  | some t,some ts=>some (t::ts)
  | _,_=>none
noncomputable def Qt:List PV→Bool
 | []=>true
 | .sl i::rs=>(rs.all fun r=>match r with | .sl j=>i != j | _=>true)&&Qt rs
 | _::rs=>Qt rs
noncomputable def Qi:List PV→Nat→Option Nat
 | [],_=>none
 | .sl j::rs,i=>if j=i then some 0 else (Qi rs i).map (· + 1)
 | .fz _::rs,i=>(Qi rs i).map (· + 1)
 | .ow _::rs,i=>(Qi rs i).map (· + 1)
noncomputable def Qy (rs:List PV) (fin:List T) (i:Nat) (s:Slot):Slot:=match Qi rs i with
 | some k=>match fin[k]? with
  | some t=>s.put t
  | none=>s
 | none=>s
noncomputable def Qk (rs:List PV) (fin:List T):Nat→En→En
 | _,[]=>[]
 | i,s::ρ=>Qy rs fin i s::Qk rs fin (i+1) ρ
noncomputable def Qav (ρ:En) (rs:List PV) (fin:List T):En:=Qk rs fin 0 ρ
noncomputable def Qkw (cf:CF) (f:Nat) (rs:List PV) (ρ:En):Out PV :=
 if Qt rs=true then
  match Qw ρ rs with
  | some as=>match cf f as with
   | .ok r fin=>.ok r (Qav ρ rs fin)
   | .xn x fin=>.xn x (Qav ρ rs fin)
   | .no=>.no
  | none=>.no
 else .no
noncomputable def fzL:List PV→Option (List T)
 | []=>some []
 | .fz t::rs=>match fzL rs with
  | some ts=>some (t::ts)
  | none=>none
 | _::_=>none
noncomputable def Q7h (cf:CF) (f:Nat) (rs:List PV) (ρ:En):Out PV:=match rs with
 | .ow t::rs'=>match fzL rs' with
  | some ts=>match cf f (.ml t::ts.map Arg.fz) with
   | .ok r _=>.ok r ρ
   | .xn x _=>.xn x ρ
   | .no=>.no
  | none=>.no
 | _=>.no
noncomputable def Qb0 (i:Nat) (s:Slot) (ρ:En):Option En:=if i<ρ.length then (match Qa ρ i with
 | .ml _=>none
 | .ro _=>none
 | .pin _=>none
 | .fx _=>none
 | _=>some (ρ.set i s)) else none
noncomputable def Qdn:List Nat→List T→En→Option En
 | [],[],ρ=>some ρ
 | i::is,t::ts,ρ=>match Qb0 i (.fz t) ρ with
  | some ρ'=>Qdn is ts ρ'
  | none=>none
 | _,_,_=>none
noncomputable def Qgq:Tg→T→En→Option En
 | .nm i,t,ρ=>Qb0 i (.fz t) ρ
 | .tp is,.tup ts,ρ=>Qdn is ts ρ
 | .tp _,_,_=>none
noncomputable def Qch (js:List (Option Nat)) (ρ:En):En:=js.map fun o=>match o with
 | none=>.un
 | some j=>(Qa ρ j).lend
noncomputable def Qie (js:List (Option Nat)) (ρi:En) (j:Nat) (s:Slot):Slot:=match js.idxOf? (some j) with
 | some k=>match Qa ρi k with
  | .ml t=>s.put t
  | _=>s
 | none=>s
noncomputable def Qd3 (js:List (Option Nat)) (ρi:En):Nat→En→En
 | _,[]=>[]
 | j,s::ρ=>Qie js ρi j s::Qd3 js ρi (j+1) ρ
noncomputable def Qjc (js:List (Option Nat)) (ρi ρ:En):En:=Qd3 js ρi 0 ρ
noncomputable def Qcf (tg:Tg) (c:En→Out Bool) (e:En→Out PV):List T→List T→En→Out (List T)
 | [],acc,ρ=>.ok acc ρ
 | x::xs,acc,ρ=>match Qgq tg x ρ with
  | none=>.no
  | some ρ1=>(c ρ1).bind fun b ρ2=>if b then (e ρ2).bind fun r ρ3=>match frz r with
    | some t=>if acc.length<100000 then Qcf tg c e xs (acc++[t]) ρ3 else .no
    | none=>.no
   else Qcf tg c e xs acc ρ2
noncomputable def Qea:En→En→Bool
 | .ml _::ρ0,s::ρ=>(match s with | .ml _=>true | _=>false)&&Qea ρ0 ρ
 | _::ρ0,_::ρ=>Qea ρ0 ρ
 | [],[]=>true
 | _,_=>false
noncomputable def Qb1:List (Option Nat)→Bool
 | []=>true
 | some i::rs=>(rs.all fun r=>match r with | some j=>i != j | none=>true)&&Qb1 rs
 | none::rs=>Qb1 rs
noncomputable def Qar (o:Out PV):Out Bool:=o.bind fun r ρ=>match r with
 | .fz (.bl b)=>.ok b ρ
 | _=>.no
noncomputable def Qan (lo:Int) (n:Nat):List T:=(List.range n).map fun i=>T.int (lo+(i:Nat))
noncomputable def Q7i:Nat→List T→List T
 | _,[]=>[]
 | n,t::ts=>.tup [.int n,t]::Q7i (n+1) ts
noncomputable def Qfh:List T→List T→List T
 | x::xs,y::ys=>.tup [x,y]::Qfh xs ys
 | _,_=>[]
noncomputable def fzAt:List Nat→En→Option (List T)
 | [],_=>some []
 | j::js,ρ=>match Qa ρ j,fzAt js ρ with
  | .fz t,some ts=>some (t::ts)
  | _,_=>none
noncomputable def Qabi (o:Out PV):Out PV:=match o with
 | .ok r ρ=>.ok r ρ
 | _=>.no
noncomputable def Q7j:Slot→Bool
 | .fz (.clo _ _)=>true
 | _=>false
noncomputable def appO (cf:CF) (i:Nat) (rs:List PV) (ρ:En):Out PV:=match Qa ρ i with
 | .fz (.clo k ts)=>Qabi (Qkw cf k (rs++ts.map PV.fz) ρ)
 | _=>.no
noncomputable def Qk7:PV→Option Nat
 | .sl i=>some i
 | _=>none
noncomputable def ixI (n:Int):List Int→Option Nat
 | []=>none
 | m::ms=>if m=n then some 0 else (ixI n ms).map (· + 1)
noncomputable def ixOf (n:Int):Option T→Option Int
 | some (.lst ts)=>match Qd9 ts with
  | some is=>if is.length≤1000 then (ixI n is).map fun j=>(j:Int) else none
  | none=>none
 | _=>none
noncomputable def insT (ts:List T) (n:Nat) (t:T):List T:=ts.take n++t::ts.drop n
mutual
noncomputable def evE (cf:CF):E→En→Out PV
 | .var i,ρ=>match Qa ρ i with
  | .fz t=>.ok (.fz t) ρ
  | .un=>.no
  | .pin _=>.no
  | .fx t=>.ok (.fz t) ρ
  | _=>.ok (.sl i) ρ
 | .int i,ρ=>.ok (.fz (.int i)) ρ
 | .bl b,ρ=>.ok (.fz (.bl b)) ρ
 | .non,ρ=>.ok (.fz .non) ρ
 | .str x,ρ=>.ok (.fz (.str x)) ρ
 | .tup es,ρ=>(evA cf es ρ).bind fun rs ρ1=>match Qe3 rs with
  | some ts=>if ts.length≤100000 then .ok (.fz (.tup ts)) ρ1 else .no
  | none=>.no
 | .lst es,ρ=>(evA cf es ρ).bind fun rs ρ1=>match Qe3 rs with
  | some ts=>if ts.length≤100000 then .ok (.ow (.lst ts)) ρ1 else .no
  | none=>.no
 | .bin o a b,ρ=>(evE cf a ρ).bind fun ra ρ1=>(evE cf b ρ1).bind fun rb ρ2=>match cont ρ2 ra,cont ρ2 rb with
  | some x,some y=>.opt (opB o x y) ρ2
  | _,_=>.no
 | .neg a,ρ=>(evE cf a ρ).bind fun ra ρ1=>match ra with
  | .fz (.int i)=>.ok (.fz (.int (-i))) ρ1
  | _=>.no
 | .not a,ρ=>(Qar (evE cf a ρ)).bind fun b ρ1=>.ok (.fz (.bl (!b))) ρ1
 | .and a b,ρ=>(Qar (evE cf a ρ)).bind fun c ρ1=>if c then (Qar (evE cf b ρ1)).bind fun d ρ2=>.ok (.fz (.bl d)) ρ2 else .ok (.fz (.bl false)) ρ1
 | .or a b,ρ=>(Qar (evE cf a ρ)).bind fun c ρ1=>if c then .ok (.fz (.bl true)) ρ1 else (Qar (evE cf b ρ1)).bind fun d ρ2=>.ok (.fz (.bl d)) ρ2
 | .ite c a b,ρ=>(Qar (evE cf c ρ)).bind fun k ρ1=>if k then evE cf a ρ1 else evE cf b ρ1
 | .cmp o a b,ρ=>(evE cf a ρ).bind fun ra ρ1=>(evE cf b ρ1).bind fun rb ρ2=>match cont ρ2 ra,cont ρ2 rb with
  | some x,some y=>match opC o x y with
   | some k=>.ok (.fz (.bl k)) ρ2
   | none=>.no
  | _,_=>.no
 | .isI a n,ρ=>(evE cf a ρ).bind fun ra ρ1=>match cont ρ1 ra with
  | some t=>if Ql4 n && !Qdv t then .ok (.fz (.bl (Qlv (tyT t) n))) ρ1 else .no
  | none=>.no
 | .inR ng a lo hi,ρ=>(evE cf a ρ).bind fun ra ρ1=>(evE cf lo ρ1).bind fun rl ρ2=>(evE cf hi ρ2).bind fun rh ρ3=>match ra,rl,rh with
  | .fz (.int i),.fz (.int l),.fz (.int h)=>.ok (.fz (.bl (if ng then !decide (l≤i∧i<h) else decide (l≤i∧i<h)))) ρ3
  | _,_,_=>.no
 | .call f es,ρ=>(evA cf es ρ).bind fun rs ρ1=>Qkw cf f rs ρ1
 | .bi b es,ρ=>(evA cf es ρ).bind fun rs ρ1=>match Qah ρ1 rs with
  | some ts=>.opt (Qh6 b ts) ρ1
  | none=>.no
 | .cnt a b,ρ=>(evE cf a ρ).bind fun ra ρ1=>match ra with
  | .fz (.tup ts)=>(evE cf b ρ1).bind fun rb ρ2=>match rb,Qd9 ts with
   | .fz (.int j),some is=>.ok (.fz (.int (is.count j:Nat))) ρ2
   | _,_=>.no
  | _=>.no
 | .ix a i,ρ=>(evE cf a ρ).bind fun ra ρ1=>(evE cf i ρ1).bind fun rb ρ2=>match cont ρ2 ra,cont ρ2 rb with
  | some x,some y=>match Qzi x y with
   | some t=>.ok (.fz t) ρ2
   | none=>.no
  | _,_=>.no
 | .slc a lo hi,ρ=>(evE cf a ρ).bind fun ra ρ1=>(evA cf lo ρ1).bind fun rl ρ2=>match Qkd rl with
  | none=>.no
  | some l=>(evA cf hi ρ2).bind fun rh ρ3=>match Qkd rh with
   | none=>.no
   | some h=>match cont ρ3 ra with
    | some x=>.opt (Q2x x l h) ρ3
    | none=>.no
 | .rev a,ρ=>(evE cf a ρ).bind fun ra ρ1=>match ra with
  | .fz (.tup ts)=>.ok (.fz (.tup ts.reverse)) ρ1
  | _=>.no
 | .comp w js tg cs e,ρ=>(evW cf w ρ).bind fun its ρ1=>match its.2 with
  | some _=>.no
  | none=>match Qcf tg (evC cf cs) (evE cf e) its.1 [] (Qch js ρ1) with
   | .ok ts ρi=>if Qea (Qch js ρ1) ρi=true∧Qb1 js=true then .ok (.ow (.lst ts)) (Qjc js ρi ρ1) else .no
   | _=>.no
 | .compS i js tg cs e,ρ=>match (Qa ρ i).prv with
  | some (.lst ts)=>if js.all (fun j=>decide (j≠some i))=true then match Qcf tg (evC cf cs) (evE cf e) ts [] (Qch js ρ) with
   | .ok us ρi=>if Qea (Qch js ρ) ρi=true∧Qb1 js=true then .ok (.ow (.lst us)) (Qjc js ρi ρ) else .no
   | _=>.no
   else .no
  | _=>.no
 | .orv a b,ρ=>(evE cf a ρ).bind fun ra ρ1=>match ra with
  | .fz .non=>evE cf b ρ1
  | .fz (.tup [])=>evE cf b ρ1
  | .fz (.tup (x::xs))=>.ok (.fz (.tup (x::xs))) ρ1
  | _=>.no
 | .chl a b c,ρ=>(evE cf a ρ).bind fun ra ρ1=>(evE cf b ρ1).bind fun rb ρ2=>match ra,rb with
  | .fz (.int i),.fz (.int j)=>if i≤j then (evE cf c ρ2).bind fun rc ρ3=>match rc with
   | .fz (.int k)=>.ok (.fz (.bl (decide (j≤k)))) ρ3
   | _=>.no
   else .ok (.fz (.bl false)) ρ2
  | _,_=>.no
 | .compZ i j js tg cs e,ρ=>match (Qa ρ i).prv,Qa ρ j with
  | some (.lst ts),.fz (.lst us)=>if js.all (fun j=>decide (j≠some i))=true then match Qcf tg (evC cf cs) (evE cf e) (Qfh ts us) [] (Qch js ρ) with
   | .ok us ρi=>if Qea (Qch js ρ) ρi=true∧Qb1 js=true then .ok (.ow (.lst us)) (Qjc js ρi ρ) else .no
   | _=>.no
   else .no
  | _,_=>.no
 | .lix i a,ρ=>if (Qa ρ i).mut=true then (evE cf a ρ).bind fun r ρ1=>match r with
  | .fz (.int n)=>(match ixOf n ((Qa ρ1 i).prv) with
   | some j=>.ok (.fz (.int j)) ρ1
   | none=>.no)
  | _=>.no
  else .no
 | .tupR l a,ρ=>(evE cf a ρ).bind fun r ρ1=>match r with
  | .fz (.int j)=>if j.natAbs≤100000 then .ok (if l then .ow (.lst (Qan 0 j.toNat)) else .fz (.tup (Qan 0 j.toNat))) ρ1 else .no
  | _=>.no
 | .lstR2 a b,ρ=>(evE cf a ρ).bind fun r ρ1=>(evE cf b ρ1).bind fun r2 ρ2=>match r,r2 with
  | .fz (.int i),.fz (.int j)=>if i.natAbs≤100000∧j.natAbs≤100000∧(j-i).natAbs≤100000 then .ok (.ow (.lst (Qan i (j-i).toNat))) ρ2 else .no
  | _,_=>.no
 | .lit t,ρ=>.ok (.fz t) ρ
 | .dg1 d k,ρ=>(evE cf d ρ).bind fun rd ρ1=>if Q4y (cont ρ1 rd)=true then (evE cf k ρ1).bind fun rk ρ2=>match Qws rk,cont ρ2 rd with
   | some is,some (.dtt ks ts)=>.ok (.fz ((Qte ks ts is).getD .non)) ρ2
   | _,_=>.no
  else .no
 | .dg2 d k x,ρ=>(evE cf d ρ).bind fun rd ρ1=>if Q4y (cont ρ1 rd)=true then (evE cf k ρ1).bind fun rk ρ2=>(evE cf x ρ2).bind fun rx ρ3=>match Qws rk,cont ρ3 rd,rx with
   | some is,some (.dtt ks ts),.fz u=>.ok (.fz ((Qte ks ts is).getD u)) ρ3
   | _,_,_=>.no
  else .no
 | .dnew,ρ=>.ok (.ow (.dtt [] [])) ρ
 | .d1 k x,ρ=>(evE cf k ρ).bind fun rk ρ1=>(evE cf x ρ1).bind fun rx ρ2=>match Qws rk,rx with
  | some is,.fz t=>.ok (.ow (.dtt [is] [t])) ρ2
  | _,_=>.no
 | .tcall f es,ρ=>(evA cf es ρ).bind fun rs ρ1=>Q7h cf f rs ρ1
 | .din ng k d,ρ=>(evE cf k ρ).bind fun rk ρ1=>(evE cf d ρ1).bind fun rd ρ2=>match Qws rk,cont ρ2 rd with
  | some is,some (.dtt ks ts)=>.ok (.fz (.bl (if ng then !(Qte ks ts is).isSome else (Qte ks ts is).isSome))) ρ2
  | _,_=>.no
 | .dix d k,ρ=>(evE cf d ρ).bind fun rd ρ1=>(evE cf k ρ1).bind fun rk ρ2=>match Qws rk,cont ρ2 rd with
  | some is,some (.dtt ks ts)=>match Qte ks ts is with
   | some t=>.ok (.fz t) ρ2
   | none=>.no
  | _,_=>.no
 | .app i es,ρ=>if Q7j (Qa ρ i)=true then (evA cf es ρ).bind fun rs ρ1=>appO cf i rs ρ1 else .no
 | .lam k js,ρ=>match fzAt js ρ with
  | some ts=>.ok (.fz (.clo k ts)) ρ
  | none=>.no
 | .fzE e,ρ=>(evE cf e ρ).bind fun r ρ1=>match frz r with
  | some t=>.ok (.fz t) ρ1
  | none=>.no
 | .bad,_=>.no
noncomputable def evA (cf:CF):Es→En→Out (List PV)
 | .nil,ρ=>.ok [] ρ
 | .cons e es,ρ=>(evE cf e ρ).bind fun r ρ1=>(evA cf es ρ1).bind fun rs ρ2=>.ok (r::rs) ρ2
noncomputable def evC (cf:CF):Es→En→Out Bool
 | .nil,ρ=>.ok true ρ
 | .cons e .nil,ρ=>Qar (evE cf e ρ)
 | .cons _ _,_=>.no
noncomputable def evW (cf:CF):W→En→Out (List T×Option Nat)
 | .seq e,ρ=>(evE cf e ρ).bind fun r ρ1=>match cont ρ1 r with
  | some t=>match Qg5 t with
   | some ts=>.ok (ts,Qk7 r) ρ1
   | none=>.no
  | none=>.no
 | .rng1 a,ρ=>(evE cf a ρ).bind fun r ρ1=>match r with
  | .fz (.int j)=>if j.natAbs≤100000 then .ok (Qan 0 j.toNat,none) ρ1 else .no
  | _=>.no
 | .rng2 a b,ρ=>(evE cf a ρ).bind fun r ρ1=>(evE cf b ρ1).bind fun r2 ρ2=>match r,r2 with
  | .fz (.int i),.fz (.int j)=>if i.natAbs≤100000∧j.natAbs≤100000 then .ok (Qan i (j-i).toNat,none) ρ2 else .no
  | _,_=>.no
 | .enm e,ρ=>(evE cf e ρ).bind fun r ρ1=>match cont ρ1 r with
  | some (.lst ts)=>.ok (Q7i 0 ts,Qk7 r) ρ1
  | some (.tup ts)=>.ok (Q7i 0 ts,Qk7 r) ρ1
  | _=>.no
 | .zip a b,ρ=>(evE cf a ρ).bind fun r ρ1=>(evE cf b ρ1).bind fun r2 ρ2=>match r,r2 with
  | .fz (.tup xs),.fz (.tup ys)=>.ok (Qfh xs ys,none) ρ2
  | .fz (.lst xs),.fz (.tup ys)=>.ok (Qfh xs ys,none) ρ2
  | .fz (.lst xs),.fz (.lst ys)=>.ok (Qfh xs ys,none) ρ2
  | _,_=>.no
 | .dks e,ρ=>(evE cf e ρ).bind fun r ρ1=>match r with
  | .fz (.dtt ks _)=>if ks.all (fun k=>decide (k.length≤100000))=true then .ok (ks.map fun k=>T.tup (k.map T.int),none) ρ1 else .no
  | _=>.no
end
noncomputable def SO.seq (o:SO) (k:En→SO):SO:=match o with
 | .nx ρ=>k ρ
 | o=>o
noncomputable def ofO {α:Type} (o:Out α) (k:α→En→SO):SO:=match o with
 | .ok a ρ=>k a ρ
 | .xn x ρ=>.xn x ρ
 | .no=>.no
noncomputable def Qak {α:Type} (o:Option α) (k:α→SO):SO:=match o with
 | some a=>k a
 | none=>.no
noncomputable def Qqy (c:En→Out Bool) (b:En→SO):Nat→En→SO
 | 0,_=>.no
 | n+1,ρ=>ofO (c ρ) fun k ρ1=>if k then (match b ρ1 with
   | .nx ρ2=>Qqy c b n ρ2
   | .ct ρ2=>Qqy c b n ρ2
   | .bk ρ2=>.nx ρ2
   | o=>o) else .nx ρ1
noncomputable def Qe4 (tg:Tg) (b:En→SO):List T→En→SO
 | [],ρ=>.nx ρ
 | x::xs,ρ=>match Qgq tg x ρ with
  | none=>.no
  | some ρ1=>match b ρ1 with
   | .nx ρ2=>Qe4 tg b xs ρ2
   | .ct ρ2=>Qe4 tg b xs ρ2
   | .bk ρ2=>.nx ρ2
   | o=>o
noncomputable def Q7k (i:Nat) (tg:Tg) (b:En→SO):Nat→Nat→En→SO
 | 0,_,_=>.no
 | m+1,n,ρ=>match Qa ρ i with
  | .ro (.lst us)=>match us[n]? with
   | none=>.nx ρ
   | some x=>match Qgq tg x ρ with
    | none=>.no
    | some ρ1=>match b ρ1 with
     | .nx ρ2=>Q7k i tg b m (n+1) ρ2
     | .ct ρ2=>Q7k i tg b m (n+1) ρ2
     | .bk ρ2=>.nx ρ2
     | o=>o
  | _=>.no
noncomputable def unE (i:Nat) (ρ:En):Option En:=match Qa ρ i with
 | .ro t=>some (ρ.set i (.ow t))
 | _=>none
noncomputable def unl (i:Nat):SO→SO
 | .nx ρ=>Qak (unE i ρ) .nx
 | .rt (.fz t) ρ=>Qak (unE i ρ) (.rt (.fz t))
 | _=>.no
noncomputable def Qqz (o:SO):SO:=match o with
 | .xn _ _=>.no
 | o=>o
noncomputable def Qq0 (i:Nat) (r:PV) (ρ:En):SO:=match r with
 | .fz t=>Qak (Qb0 i (.fz t) ρ) .nx
 | .ow t=>Qak (Qb0 i (.ow t) ρ) .nx
 | .sl _=>.no
noncomputable def Qtf:T→Bool
 | .tup _=>true
 | .lst _=>true
 | _=>false
noncomputable def flaT:T→Bool
 | .int _=>true
 | .bl _=>true
 | .str _=>true
 | .non=>true
 | _=>false
noncomputable def lkS:Slot→Slot
 | .fz t=>if Qtf t=true then .fx t else .fz t
 | s=>s
noncomputable def Qq1:Slot→Bool
 | .un=>true
 | .fz t=>Qtf t||flaT t
 | .pin _=>true
 | _=>false
noncomputable def Qzj:Slot→Bool
 | .fx _=>true
 | _=>false
noncomputable def lkB:Slot→Slot→Slot
 | s0,.fx _=>s0
 | _,.fz t=>if flaT t=true then .fz t else .un
 | _,.pin a=>.pin a
 | _,_=>.un
noncomputable def lkO (i:Nat) (ρ:En):SO→SO
 | .nx ρ1=>if Qzj (Qa ρ1 i)=true∧ρ1.length=ρ.length then .nx (List.zipWith lkB ρ ρ1) else .no
 | .rt (.fz (.bl b)) ρ1=>.rt (.fz (.bl b)) (ρ1.map fun _=>.un)
 | _=>.no
noncomputable def Qabj:Slot→Bool
 | .un=>true
 | .fz _=>true
 | _=>false
noncomputable abbrev Qn6 (is:List Int):T:=.lst (is.map T.int)
noncomputable abbrev Qeh (M:List (List Int)):T:=.lst (M.map Qn6)
noncomputable def nRow (fA:En→SO) (iF iR iH:Nat) (Ms:List (List (List Int))) (R:List (List Int)) (ρ:En):Option (List (List Int)×En) :=
 match fA ((ρ.set iF (.ro (.lst (Ms.map Qeh)))).set iR (.ro (.lst (R.map Qn6)))) with
 | .nx ρ1=>match Qa ρ1 iF,Qa ρ1 iR,Qa ρ1 iH with
  | .ro _,.ro _,.ow (.lst us)=>match Qd9 us with
   | some is=>if is.length≤1000∧R.length<1000 then some (R++[is],((((ρ1.set iR (.ow (.lst (R.map Qn6)))).set iF (.ow (.lst (Ms.map Qeh)))).set iH (.fz (Qn6 is))).set iR (.ow (.lst ((R++[is]).map Qn6))))) else none
   | none=>none
  | _,_,_=>none
 | _=>none
noncomputable def Q4z (fA:En→SO) (iF iR iH iW:Nat) (Ms:List (List (List Int))) (R0:List (List Int)) (ρ0:En):Nat→Option (List (List Int)×En)
 | 0=>some (R0,ρ0)
 | n+1=>match Q4z fA iF iR iH iW Ms R0 ρ0 n with
  | some q=>if iW<q.2.length then nRow fA iF iR iH Ms q.1 (q.2.set iW (.fz (.int n))) else none
  | none=>none
noncomputable def nTab (f0 fA:En→SO) (iF iR iH iW iS:Nat) (Ms:List (List (List Int))) (ρ:En):Option (List (List (List Int))×En) :=
 match f0 (ρ.set iF (.ro (.lst (Ms.map Qeh)))) with
 | .nx ρ1=>match Qa ρ1 iF,Qa ρ1 iR,Qa (ρ1.set iF (.ow (.lst (Ms.map Qeh)))) iS with
  | .ro _,.ow (.lst []),.fz (.int j)=>if j.natAbs≤1000 then (match Q4z fA iF iR iH iW Ms [] (ρ1.set iF (.ow (.lst (Ms.map Qeh)))) j.toNat with
   | some q=>if q.1.length≤1000∧Ms.length<1000 then some (Ms++[q.1],(q.2.set iR (.fz (Qeh q.1))).set iF (.ow (.lst ((Ms++[q.1]).map Qeh)))) else none
   | none=>none) else none
  | _,_,_=>none
 | _=>none
noncomputable def Q40 (f0 fA:En→SO) (iF iR iH iW iS iT:Nat) (ρ0:En):Nat→Option (List (List (List Int))×En)
 | 0=>some ([],ρ0)
 | n+1=>match Q40 f0 fA iF iR iH iW iS iT ρ0 n with
  | some q=>if iT<q.2.length then nTab f0 fA iF iR iH iW iS q.1 (q.2.set iT (.fz (.int n))) else none
  | none=>none
noncomputable def Q7l:Slot→Slot
 | .ml (.lst ts)=>if (Qd9 ts).isSome=true then .ml (.lst ts) else .un
 | _=>.un
noncomputable def nPut (fV f1 f2:En→Out PV) (iF:Nat):List (List (List Int))→En→Option En
 | [],_=>none
 | M::Ms,ρ=>if (M::Ms).length≤1000 then (match fV (ρ.set iF (.ro (.lst ((M::Ms).map Qeh)))) with
  | .ok (.fz (.int v)) ρ1=>(match Qa ρ1 iF,f1 (ρ1.set iF (.ro (.lst ((M::Ms).map Qeh)))) with
   | .ro _,.ok (.fz (.int j)) ρ2=>(match Qa ρ2 iF,f2 (ρ2.set iF (.ro (.lst ((M::Ms).map Qeh)))) with
    | .ro _,.ok (.fz (.int k)) ρ3=>(match Qa ρ3 iF,ixN M.length j with
     | .ro _,some x=>(match M[x]? with
      | some is=>(match ixN is.length k with
       | some y=>some ((ρ3.map Q7l).set iF (.ow (.lst ((M.set x (is.set y v)::Ms).map Qeh))))
       | none=>none)
      | none=>none)
     | _,_=>none)
    | _,_=>none)
   | _,_=>none)
  | _=>none) else none
noncomputable def Qabk (f0 fA:En→SO) (fc:En→Out Bool) (fV f1 f2:En→Out PV) (iF iR iH iW iS iT iN:Nat) (ρ:En):SO :=
 match Qa ρ iF,Qa ρ iN with
 | .ow (.lst []),.fz (.int n)=>if n.natAbs≤1000 then (match Q40 f0 fA iF iR iH iW iS iT ρ n.toNat with
  | some q=>if q.1.length≤1000 then (match fc (q.2.set iF (.ro (.lst (q.1.map Qeh)))) with
   | .ok b ρ2=>(match Qa ρ2 iF with
    | .ro _=>if b=true then (match nPut fV f1 f2 iF q.1 (ρ2.set iF (.ow (.lst (q.1.map Qeh)))) with
     | some ρ3=>.nx ρ3
     | none=>.no) else .nx (ρ2.set iF (.ow (.lst (q.1.map Qeh))))
    | _=>.no)
   | _=>.no) else .no
  | none=>.no) else .no
 | _,_=>.no
noncomputable def exS (cf:CF):S→En→SO
 | .nil,ρ=>.nx ρ
 | .seq a b,ρ=>(exS cf a ρ).seq (exS cf b)
 | .expr e,ρ=>ofO (evE cf e ρ) fun _ ρ1=>.nx ρ1
 | .set i e,ρ=>ofO (evE cf e ρ) fun r ρ1=>Qq0 i r ρ1
 | .setF i e,ρ=>ofO (evE cf e ρ) fun r ρ1=>match frz r with
  | some t=>Qak (Qb0 i (.fz t) ρ1) .nx
  | none=>.no
 | .unp is e,ρ=>ofO (evE cf e ρ) fun r ρ1=>match r with
  | .fz (.tup ts)=>Qak (Qdn is ts ρ1) .nx
  | _=>.no
 | .par i j a b,ρ=>ofO (evE cf a ρ) fun ra ρ1=>ofO (evE cf b ρ1) fun rb ρ2=>match ra,rb with
  | .fz x,.fz y=>Qak (Qdn [i,j] [x,y] ρ2) .nx
  | _,_=>.no
 | .app i e,ρ=>if (Qa ρ i).mut=true then ofO (evE cf e ρ) fun r ρ1=>match frz r with
   | none=>.no
   | some t=>match Qa ρ1 i with
    | .ow (.lst ts)=>if ts.length<100000 then .nx (ρ1.set i (.ow (.lst (ts++[t])))) else .no
    | .ml (.lst ts)=>if ts.length<100000 then .nx (ρ1.set i (.ml (.lst (ts++[t])))) else .no
    | _=>.no
  else .no
 | .ext i e,ρ=>if (Qa ρ i).mut=true then ofO (evE cf e ρ) fun r ρ1=>match r with
   | .fz (.tup us)=>match Qa ρ1 i with
    | .ow (.lst ts)=>if ts.length+us.length≤100000 then .nx (ρ1.set i (.ow (.lst (ts++us)))) else .no
    | .ml (.lst ts)=>if ts.length+us.length≤100000 then .nx (ρ1.set i (.ml (.lst (ts++us)))) else .no
    | _=>.no
   | _=>.no
  else .no
 | .put i k e,ρ=>ofO (evE cf e ρ) fun r ρ1=>match frz r with
  | none=>.no
  | some t=>if (Qa ρ1 i).mut=true then ofO (evE cf k ρ1) fun rk ρ2=>match rk with
    | .fz (.int j)=>match Qa ρ2 i with
     | .ow (.lst ts)=>Qak (ixN ts.length j) fun n=>.nx (ρ2.set i (.ow (.lst (ts.set n t))))
     | .ml (.lst ts)=>Qak (ixN ts.length j) fun n=>.nx (ρ2.set i (.ml (.lst (ts.set n t))))
     | _=>.no
    | _=>.no
   else .no
 | .dput i k e,ρ=>ofO (evE cf e ρ) fun r ρ1=>match frz r with
  | none=>.no
  | some t=>if (Qa ρ1 i).mutD=true then ofO (evE cf k ρ1) fun rk ρ2=>match Qws rk with
    | some is=>match Qa ρ2 i with
     | .ow (.dtt ks ts)=>if ks.length<100000 then .nx (ρ2.set i (.ow (dPut ks ts is t))) else .no
     | .ml (.dtt ks ts)=>if ks.length<100000 then .nx (ρ2.set i (.ml (dPut ks ts is t))) else .no
     | _=>.no
    | none=>.no
   else .no
 | .look i b,ρ=>match Qa ρ i with
  | .ow (.lst ts)=>if (ρ.set i .un).all Qq1=true then lkO i ρ (exS cf b ((ρ.set i (.fz (.lst ts))).map lkS)) else .no
  | _=>.no
 | .swp i j k,ρ=>ofO (evE cf (.tup (.cons (.ix (.var i) (.var k)) (.cons (.ix (.var i) (.var j)) .nil))) ρ) fun r ρ1=>match r with
  | .fz (.tup [u,v])=>match Qa ρ1 j,Qa ρ1 k,Qa ρ1 i with
   | .fz (.int x),.fz (.int y),.ow (.lst ts)=>Qak (ixN ts.length x) fun m=>Qak (ixN ts.length y) fun n=>.nx (ρ1.set i (.ow (.lst ((ts.set m u).set n v))))
   | _,_,_=>.no
  | _=>.no
 | .ret e,ρ=>ofO (evE cf e ρ) fun r ρ1=>.rt r ρ1
 | .retN,ρ=>.rt (.fz .non) ρ
 | .ite c a b,ρ=>ofO (Qar (evE cf c ρ)) fun k ρ1=>if k then exS cf a ρ1 else exS cf b ρ1
 | .whl c b,ρ=>Qqz (Qqy (fun ρ=>Qar (evE cf c ρ)) (exS cf b) 1000000 ρ)
 | .for_ w tg b,ρ=>Qqz (ofO (evW cf w ρ) fun its ρ1=>match its.2 with
  | some _=>.no
  | none=>Qe4 tg (exS cf b) its.1 ρ1)
 | .extL i e,ρ=>if (Qa ρ i).mut=true then ofO (evE cf e ρ) fun r ρ1=>match r with
   | .ow (.lst us)=>match Qa ρ1 i with
    | .ow (.lst ts)=>if ts.length+us.length≤100000 then .nx (ρ1.set i (.ow (.lst (ts++us)))) else .no
    | _=>.no
   | _=>.no
  else .no
 | .forS i tg b,ρ=>match Qa ρ i with
  | .ow (.lst ts)=>unl i (Q7k i tg (exS cf b) 100001 0 (ρ.set i (.ro (.lst ts))))
  | _=>.no
 | .brk,ρ=>.bk ρ
 | .cnt,ρ=>.ct ρ
 | .frz i,ρ=>match Qa ρ i with
  | .ow t=>.nx (ρ.set i (.fz t))
  | .ml _=>.no
  | .ro _=>.no
  | _=>.nx ρ
 | .raise c es,ρ=>ofO (evA cf es ρ) fun rs ρ1=>match rs with
  | [.fz (.int i)]=>if 6≤c∧c<9 then .xn ⟨c,[i]⟩ ρ1 else .no
  | [.fz (.str _)]=>if c<6 then .xn ⟨c,[]⟩ ρ1 else .no
  | [.fz (.int i),.fz (.int j)]=>if c=9 then .xn ⟨c,[i,j]⟩ ρ1 else .no
  | _=>.no
 | .ins i k e,ρ=>if (Qa ρ i).mut=true then ofO (evE cf k ρ) fun rk ρ1=>match rk with
   | .fz (.int j)=>ofO (evE cf e ρ1) fun r ρ2=>match r with
    | .fz t=>match Qa ρ2 i with
     | .ow (.lst ts)=>if ts.length<100000∧0≤j∧j≤ts.length then .nx (ρ2.set i (.ow (.lst (insT ts j.toNat t)))) else .no
     | _=>.no
    | _=>.no
   | _=>.no
  else .no
 | .rem i e,ρ=>if (Qa ρ i).mut=true then ofO (evE cf e ρ) fun r ρ1=>match r with
   | .fz (.int n)=>match Qa ρ1 i with
    | .ow (.lst ts)=>match Qd9 ts with
     | some is=>match ixI n is with
      | some j=>.nx (ρ1.set i (.ow (.lst (ts.eraseIdx j))))
      | none=>.no
     | none=>.no
    | _=>.no
   | _=>.no
  else .no
 | .scr i a b f c1 c2,ρ=>if ρ.all Qabj=true then (match Qa ρ a,Qa ρ b with
  | .fz (.int x),.fz (.int y)=>match cf f [.fz (.int x),.fz (.int y)] with
   | .ok (.fz (.tup [u,.lst ts])) _=>match Qb0 i (.fz (.tup [u,.lst ts])) ρ with
    | some ρ1=>match Qar (evE cf c1 ρ1) with
     | .ok false _=>match Qar (evE cf c2 ρ1) with
      | .ok false _=>if ts.length<100000 then .nx (ρ.set i .un) else .no
      | _=>.no
     | _=>.no
    | none=>.no
   | _=>.no
  | _,_=>.no) else .no
 | .nest iF iR iH iW iS iT iN a0 a c v e1 e2,ρ=>Qabk (exS cf a0) (exS cf a) (fun ρ=>Qar (evE cf c ρ)) (evE cf v) (evE cf e1) (evE cf e2) iF iR iH iW iS iT iN ρ
 | .tryR i b h,ρ=>match exS cf b ρ with
  | .xn x ρ1=>(match h x.c x.arg with
   | some t=>.rt (.fz t) ρ1
   | none=>.no)
  | o=>o
 | .parO i j a b,ρ=>ofO (evE cf a ρ) fun ra ρ1=>ofO (evE cf b ρ1) fun rb ρ2=>match ra,rb with
  | .ow x,.ow y=>Qak (Qb0 i (.ow x) ρ2) fun ρ3=>Qak (Qb0 j (.ow y) ρ3) .nx
  | _,_=>.no
 | .bad,_=>.no
structure Fn where
 ps:Nat
 sz:Nat
 body:S
noncomputable def Qfi (fn:Fn) (as:List Arg):En:=(as.map fun a=>match a with
 | .fz t=>Slot.fz t
 | .ml t=>.ml t
 | .ro t=>.ro t)++List.replicate (fn.sz-fn.ps) .un
noncomputable def Q1:List Arg→En→Option (List T)
 | [],_=>some []
 | .ml _::as,.ml t::ρ=>(Q1 as ρ).map (t :: ·)
 | .ml _::_,_=>none
 | .fz _::as,_::ρ=>(Q1 as ρ).map (.non :: ·)
 | .ro _::as,_::ρ=>(Q1 as ρ).map (.non :: ·)
 | _,[]=>none
noncomputable def Qas (ρ:En):PV→Option PV
 | .fz t=>some (.fz t)
 | .ow t=>some (.ow t)
 | .sl i=>match Qa ρ i with
  | .ow t=>some (.ow t)
  | _=>none
noncomputable def Qbw (cf:CF) (fn:Fn) (as:List Arg):FR :=
 if as.length=fn.ps then match exS cf fn.body (Qfi fn as) with
  | .nx ρ=>match Q1 as ρ with
   | some fin=>.ok (.fz .non) fin
   | none=>.no
  | .rt r ρ=>match Qas ρ r,Q1 as ρ with
   | some r,some fin=>.ok r fin
   | _,_=>.no
  | .xn x ρ=>match Q1 as ρ with
   | some fin=>.xn x fin
   | none=>.no
  | _=>.no
 else .no
noncomputable def evF (tab:Nat→Option Fn):Nat→CF
 | 0,_,_=>.no
 | n+1,f,as=>match tab f with
  | some fn=>Qbw (evF tab n) fn as
  | none=>.no
structure Bs where
 H:Hp
 G:Addr→Prop
 O:Addr→Prop
 M:Addr→Prop
 P:Nat→Addr→Prop
def OwnO (D:Hp):T→HO→Prop
 | .lst ts,.lst vs=>ts.length≤100000∧IsL D vs ts
 | .dtt ks ts,.dT kvs=>ks.length≤100000∧∃ vs,kvs=(ks.map kIs).zip vs∧ks.length=vs.length∧IsL D vs ts
 | _,_=>False
theorem OwnO.mono {D D':Hp} {t:T} {o:HO} (h:OwnO D t o) (s:Same D D'):OwnO D' t o:=by
 cases t with
 | lst ts=>cases o <;> first | exact ⟨h.1,h.2.mono s⟩ | exact h.elim
 | dtt ks ts =>
  cases o with
  | dT kvs=>obtain ⟨z,vs,e,l,q⟩:=h;exact ⟨z,vs,e,l,q.mono s⟩
  | _=>exact h.elim
 | _=>cases o <;> exact h.elim
theorem OwnO.pen {D:Hp} {t:T} {o:HO} (h:OwnO D t o):Q62 o=true:=by
 cases t with
 | lst ts=>cases o <;> first | rfl | exact h.elim
 | dtt ks ts=>cases o <;> first | rfl | exact h.elim
 | _=>cases o <;> exact h.elim
theorem OwnO.is {D D':Hp} {t:T} {o:HO} {a:Addr} (h:OwnO D t o) (e:D' a=some o) (s:Same D D'):Is D' (.ref a) t:=by
 cases t with
 | lst ts =>
  cases o with
  | lst vs=>exact .lst e (h.2.mono s) h.1
  | _=>exact h.elim
 | dtt ks ts =>
  cases o with
  | dT kvs =>
   obtain ⟨z,vs,rfl,l,q⟩:=h
   unfold Is
   exact ⟨z,a,vs,rfl,e,l,q.mono s⟩
  | _=>exact h.elim
 | _=>cases o <;> exact h.elim
def OwnAt (H:Hp) (G:Addr→Prop) (a:Addr) (t:T):Prop:=∃ o,H a=some o∧OwnO (dls H G) t o
theorem OwnAt.lst_inv {H:Hp} {G:Addr→Prop} {a:Addr} {ts:List T} (h:OwnAt H G a (.lst ts)):∃ vs,ts.length≤100000∧H a=some (.lst vs)∧IsL (dls H G) vs ts:=by
 obtain ⟨o,e,q⟩:=h
 cases o with
 | lst vs=>exact ⟨vs,q.1,e,q.2⟩
 | _=>exact q.elim
theorem OwnAt.no_tup {H:Hp} {G:Addr→Prop} {a:Addr} {ts:List T} (h:OwnAt H G a (.tup ts)):False:=by
 obtain ⟨o,e,q⟩:=h
 cases o <;> exact q
def Ql5 (H:Hp) (G:Addr→Prop) (σ:St) (i:Nat):Slot→Prop
 | .un=>True
 | .fz t=>∃ v,σ[i]?=some (some v)∧Is (dls H G) v t
 | .ow t=>∃ a,σ[i]?=some (some (.ref a))∧G a∧OwnAt H G a t
 | .ml t=>∃ a,σ[i]?=some (some (.ref a))∧G a∧OwnAt H G a t
 | .ro t=>∃ a,σ[i]?=some (some (.ref a))∧G a∧OwnAt H G a t
 | .pin a=>σ[i]?=some (some (.ref a))
 | .fx t=>∃ a o,σ[i]?=some (some (.ref a))∧dls H G a=some o∧Is (dls H G) (.ref a) t
def PrvAt (σ:St) (ρ:En) (i:Nat) (a:Addr):Prop:=(∃ t,(Qa ρ i).prv=some t)∧σ[i]?=some (some (.ref a))
def OwA (σ:St) (ρ:En) (a:Addr):Prop:=∃ i t,Qa ρ i=.ow t∧σ[i]?=some (some (.ref a))
def MlA (σ:St) (ρ:En) (a:Addr):Prop:=∃ i t,Qa ρ i=.ml t∧σ[i]?=some (some (.ref a))
def PnA (σ:St) (ρ:En) (i:Nat) (a:Addr):Prop:=(∃ t,Qa ρ i=.ml t∨Qa ρ i=.ro t∨Qa ρ i=.fx t)∧σ[i]?=some (some (.ref a))
structure FI (B:Bs) (H:Hp) (G:Addr→Prop) (σ:St) (ρ:En):Prop where
 len:σ.length=ρ.length
 slot:∀ i,Ql5 H G σ i (Qa ρ i)
 apart:∀ i j a,PrvAt σ ρ i a→PrvAt σ ρ j a→i=j
 prv:Pen H G
 chg:∀ b o,¬ B.O b→¬ B.M b→B.H b=some o→H b=some o
 keep:∀ b o,B.H b=some o→∃ o',H b=some o'
 newO:∀ a,OwA σ ρ a→B.H a=none∨B.O a
 newM:∀ a,MlA σ ρ a→B.M a
 fix:∀ i a,PnA σ ρ i a→B.P i a
 gg:∀ b,B.G b→G b
 gn:∀ b,G b→B.G b∨B.H b=none
 bp:∀ b,B.G b→∃ o,B.H b=some o
noncomputable abbrev Qa3 (H:Hp) (G:Addr→Prop) (σ:St) (ρ:En):Bs:=⟨H,G,OwA σ ρ,MlA σ ρ,PnA σ ρ⟩
section
variable {B:Bs} {H H1 H2:Hp} {G G1:Addr→Prop} {σ σ1:St} {ρ ρ1 ρ2:En}
theorem FI.self (F:FI B H G σ ρ):FI (Qa3 H G σ ρ) H G σ ρ :=
 ⟨F.len,F.slot,F.apart,F.prv,fun _ _ _ _ e=>e,fun _ o e=>⟨o,e⟩,fun _ h=>.inr h,fun _ h=>h,fun _ _ h=>h,fun _ h=>h,fun _ h=>.inl h,fun b h=>let ⟨xs,e,_⟩:=F.prv b h;⟨_,e⟩⟩
theorem FI.ownG (F:FI B H G σ ρ) {a:Addr} (h:OwA σ ρ a):G a:=by
 obtain ⟨i,t,e,s⟩:=h
 have q:=F.slot i
 rw [e] at q
 obtain ⟨b,hb,g,_⟩:=q
 rw [s] at hb
 cases hb
 exact g
theorem FI.mlG (F:FI B H G σ ρ) {a:Addr} (h:MlA σ ρ a):G a:=by
 obtain ⟨i,t,e,s⟩:=h
 have q:=F.slot i
 rw [e] at q
 obtain ⟨b,hb,g,_⟩:=q
 rw [s] at hb
 cases hb
 exact g
theorem FI.same (F0:FI B H G σ ρ) (F:FI (Qa3 H G σ ρ) H1 G1 σ1 ρ1):Same (dls H G) (dls H1 G1):=fun b o e=>by
 obtain ⟨n,e⟩:=Q2 e
 have e1:=F.chg b o (fun z=>n (F0.ownG z)) (fun z=>n (F0.mlG z)) e
 rw [Qca fun z=>?_]
 ·exact e1
 ·rcases F.gn b z with z | z
  ·exact n z
  ·rw [show H b=none from z] at e;cases e
theorem FI.trans (F0:FI B H G σ ρ) (F:FI (Qa3 H G σ ρ) H1 G1 σ1 ρ1):FI B H1 G1 σ1 ρ1 where
 len:=F.len
 slot:=F.slot
 apart:=F.apart
 prv:=F.prv
 chg:=fun b o h1 h2 e=>F.chg b o (fun z=>by
  rcases F0.newO b z with z | z
  ·rw [e] at z;cases z
  ·exact h1 z) (fun z=>h2 (F0.newM b z)) (F0.chg b o h1 h2 e)
 keep:=fun b o e=>by
  obtain ⟨o1,e1⟩:=F0.keep b o e
  exact F.keep b o1 e1
 newO:=fun a h=>by
  rcases F.newO a h with z | z
  ·refine .inl ?_
   cases e:B.H a with
   | none=>rfl
   | some o =>
    obtain ⟨o1,e1⟩:=F0.keep a o e
    rw [show H a=none from z] at e1
    cases e1
  ·exact F0.newO a z
 newM:=fun a h=>F0.newM a (F.newM a h)
 fix:=fun i a h=>F0.fix i a (F.fix i a h)
 gg:=fun b h=>F.gg b (F0.gg b h)
 gn:=fun b h=>by
  rcases F.gn b h with z | z
  ·exact F0.gn b z
  ·refine .inr ?_
   cases e:B.H b with
   | none=>rfl
   | some o =>
    obtain ⟨o1,e1⟩:=F0.keep b o e
    rw [show H b=none from z] at e1
    cases e1
 bp:=F0.bp
theorem FI.free (F:FI B H G σ ρ) {b:Addr} (h:H b=none):B.H b=none:=by
 cases e:B.H b with
 | none=>rfl
 | some o =>
  obtain ⟨o1,e1⟩:=F.keep b o e
  rw [h] at e1
  cases e1
theorem FI.grow (F:FI B H G σ ρ) (s:Same H H1):FI B H1 G σ ρ where
 len:=F.len
 slot:=fun i=>by
  have q:=F.slot i
  cases hs:Qa ρ i with
  | un=>trivial
  | fz t=>rw [hs] at q;obtain ⟨v,a,b⟩:=q;exact ⟨v,a,b.mono (Qbh s)⟩
  | ow t=>rw [hs] at q;obtain ⟨a,h1,h2,o,h5,h6⟩:=q;exact ⟨a,h1,h2,o,s _ _ h5,h6.mono (Qbh s)⟩
  | ml t=>rw [hs] at q;obtain ⟨a,h1,h2,o,h5,h6⟩:=q;exact ⟨a,h1,h2,o,s _ _ h5,h6.mono (Qbh s)⟩
  | ro t=>rw [hs] at q;obtain ⟨a,h1,h2,o,h5,h6⟩:=q;exact ⟨a,h1,h2,o,s _ _ h5,h6.mono (Qbh s)⟩
  | pin a=>rw [hs] at q;exact q
  | fx t=>rw [hs] at q;obtain ⟨v,o,a,e,b⟩:=q;exact ⟨v,o,a,Qbh s _ _ e,b.mono (Qbh s)⟩
 apart:=F.apart
 prv:=F.prv.mono s
 chg:=fun b o h1 h2 e=>s b o (F.chg b o h1 h2 e)
 keep:=fun b o e=>by
  obtain ⟨o1,e1⟩:=F.keep b o e
  exact ⟨o1,s _ _ e1⟩
 newO:=F.newO
 newM:=F.newM
 fix:=F.fix
 gg:=F.gg
 gn:=F.gn
 bp:=F.bp
end
section
variable {B:Bs} {H H1 H2:Hp} {G G1:Addr→Prop} {σ σ1:St} {ρ ρ1 ρ2:En} {t:T}
theorem FI.prvAt (F:FI B H G σ ρ) {i:Nat} (e:(Qa ρ i).prv=some t):∃ a,σ[i]?=some (some (.ref a))∧G a∧OwnAt H G a t:=by
 have q:=F.slot i
 cases hs:Qa ρ i with
 | un=>rw [hs] at e;cases e
 | fz t=>rw [hs] at e;cases e
 | ow t=>rw [hs] at e q;cases e;exact q
 | ml t=>rw [hs] at e q;cases e;exact q
 | ro t=>rw [hs] at e q;cases e;exact q
 | pin a=>rw [hs] at e;cases e
 | fx t=>rw [hs] at e;cases e
theorem Qim {i:Nat} {s:Slot} (h:Ql5 H G σ i s) (sm:Same (dls H G) (dls H1 G1)) (hk:∀ a o,(∃ t,s.prv=some t)→σ[i]?=some (some (.ref a))→H a=some o→H1 a=some o∧G1 a):Ql5 H1 G1 σ i s:=by
 cases s with
 | un=>trivial
 | fz t=>obtain ⟨v,a,b⟩:=h;exact ⟨v,a,b.mono sm⟩
 | ow t=>obtain ⟨a,h1,h2,o,h5,h6⟩:=h;exact ⟨a,h1,(hk a _ ⟨_,rfl⟩ h1 h5).2,o,(hk a _ ⟨_,rfl⟩ h1 h5).1,h6.mono sm⟩
 | ml t=>obtain ⟨a,h1,h2,o,h5,h6⟩:=h;exact ⟨a,h1,(hk a _ ⟨_,rfl⟩ h1 h5).2,o,(hk a _ ⟨_,rfl⟩ h1 h5).1,h6.mono sm⟩
 | ro t=>obtain ⟨a,h1,h2,o,h5,h6⟩:=h;exact ⟨a,h1,(hk a _ ⟨_,rfl⟩ h1 h5).2,o,(hk a _ ⟨_,rfl⟩ h1 h5).1,h6.mono sm⟩
 | pin a=>exact h
 | fx t=>obtain ⟨v,o,a,e,b⟩:=h;exact ⟨v,o,a,sm _ _ e,b.mono sm⟩
theorem PrvAt.at (F:FI B H G σ ρ) {i:Nat} {a:Addr} (h:PrvAt σ ρ i a):G a∧∃ t,OwnAt H G a t:=by
 obtain ⟨⟨t,e⟩,s⟩:=h
 obtain ⟨b,sb,g,o⟩:=F.prvAt e
 rw [s] at sb
 cases sb
 exact ⟨g,t,o⟩
theorem OwA.prv {a:Addr} (h:OwA σ ρ a):∃ i,PrvAt σ ρ i a:=by
 obtain ⟨i,t,e,s⟩:=h
 exact ⟨i,⟨t,by rw [e];rfl⟩,s⟩
theorem MlA.prv {a:Addr} (h:MlA σ ρ a):∃ i,PrvAt σ ρ i a:=by
 obtain ⟨i,t,e,s⟩:=h
 exact ⟨i,⟨t,by rw [e];rfl⟩,s⟩
theorem Qwt {i:Nat} {a:Addr} (h:PrvAt σ ρ i a):OwA σ ρ a∨MlA σ ρ a∨PnA σ ρ i a:=by
 obtain ⟨⟨t,e⟩,s⟩:=h
 cases hs:Qa ρ i with
 | un=>rw [hs] at e;cases e
 | fz t=>rw [hs] at e;cases e
 | ow t=>exact .inl ⟨i,t,hs,s⟩
 | ml t=>exact .inr (.inl ⟨i,t,hs,s⟩)
 | ro t=>exact .inr (.inr ⟨⟨t,.inr (.inl hs)⟩,s⟩)
 | pin a=>rw [hs] at e;cases e
 | fx t=>rw [hs] at e;cases e
theorem FI.reG (F:FI B H G σ ρ) (sm:Same (dls H G) (dls H1 G1)) (s:Same H H1) (hk:∀ i a,PrvAt σ ρ i a→G1 a) (hp:Pen H1 G1) (gg:∀ b,B.G b→G1 b) (gn:∀ b,G1 b→B.G b∨B.H b=none):FI B H1 G1 σ ρ where
 len:=F.len
 slot:=fun i=>Qim (F.slot i) sm fun a o h1 h2 e=>⟨s _ _ e,hk i a ⟨h1,h2⟩⟩
 apart:=F.apart
 prv:=hp
 chg:=fun b o h1 h2 e=>s b o (F.chg b o h1 h2 e)
 keep:=fun b o e=>by
  obtain ⟨o1,e1⟩:=F.keep b o e
  exact ⟨o1,s _ _ e1⟩
 newO:=F.newO
 newM:=F.newM
 fix:=F.fix
 gg:=gg
 gn:=gn
 bp:=F.bp
theorem FI.lessG (F:FI B H G σ ρ) (Z:Addr→Prop) (hz:∀ b,Z b→B.H b=none∧∀ i,¬ PrvAt σ ρ i b):FI B H (fun b=>G b∧¬ Z b) σ ρ:=by
 refine F.reG (Qdl fun b h=>h.1) (Same.refl H) (fun i a h=>⟨(PrvAt.at F h).1,fun z=>(hz a z).2 i h⟩) (fun b h=>F.prv b h.1) (fun b h=>⟨F.gg b h,fun z=>?_⟩) fun b h=>F.gn b h.1
 obtain ⟨o,e⟩:=F.bp b h
 rw [(hz b z).1] at e
 cases e
theorem FI.addG (F:FI B H G σ ρ) {l:Addr} {vs:HO} (hl:H l=none) (s:Same H H1) (e:H1 l=some vs) (hpn:Q62 vs=true):FI B H1 (fun b=>G b∨b=l) σ ρ:=by
 refine F.reG (fun b o eb=>?_) s (fun i a h=>.inl (PrvAt.at F h).1) (fun b hb=>?_) (fun b h=>.inl (F.gg b h)) (fun b h=>?_)
 ·obtain ⟨nb,eb⟩:=Q2 eb
  rw [Qca fun z=>?_]
  ·exact s b o eb
  ·rcases z with z | z
   ·exact nb z
   ·rw [z,hl] at eb;cases eb
 ·rcases hb with hb | hb
  ·exact F.prv.mono s b hb
  ·exact ⟨vs,hb ▸ e,hpn⟩
 ·rcases h with h | h
  ·exact F.gn b h
  ·exact .inr (h ▸ F.free hl)
end
def TmpR (H0:Hp) (H:Hp) (G:Addr→Prop) (σ:St) (ρ:En) (v:V) (t:T):Prop:=∃ a,v=.ref a∧H0 a=none∧G a∧(∀ i,¬ PrvAt σ ρ i a)∧OwnAt H G a t
def PVR (H0:Hp) (H:Hp) (G:Addr→Prop) (σ:St) (ρ:En) (v:V):PV→Prop
 | .fz t=>Is (dls H G) v t
 | .ow t=>TmpR H0 H G σ ρ v t
 | .sl i=>σ[i]?=some (some v)
section
variable {H0 H:Hp} {G:Addr→Prop} {σ:St} {ρ:En}
theorem PVR.is {v:V} {t:T} (h:PVR H0 H G σ ρ v (.fz t)):Is (dls H G) v t:=h
theorem pvI {i:Int}:PVR H0 H G σ ρ (.int i) (.fz (.int i)):=show Is (dls H G) (.int i) (.int i) from Is.int
theorem pvB {i:Bool}:PVR H0 H G σ ρ (.bl i) (.fz (.bl i)):=show Is (dls H G) (.bl i) (.bl i) from Is.bl
theorem pvN:PVR H0 H G σ ρ .non (.fz .non):=show Is (dls H G) .non .non from Is.non
theorem pvS {i:Str}:PVR H0 H G σ ρ (.str i) (.fz (.str i)):=show Is (dls H G) (.str i) (.str i) from Is.str
end
def Rdb (H:Hp) (G:Addr→Prop) (v:V) (t:T):Prop:=Is (dls H G) v t∨∃ a,v=.ref a∧OwnAt H G a t
theorem Rdb.is {H:Hp} {G:Addr→Prop} {v:V} {t:T} (h:Rdb H G v t):Is H v t:=by
 rcases h with h | ⟨a,rfl,o,e,q⟩
 ·exact h.mono (Qyv _ _)
 ·exact q.is e (Qyv _ _)
theorem Rdb.lst {H:Hp} {G:Addr→Prop} {v:V} {ts:List T} (h:Rdb H G v (.lst ts)):∃ a vs,v=.ref a∧ts.length≤100000∧H a=some (.lst vs)∧IsL (dls H G) vs ts:=by
 rcases h with h | ⟨a,rfl,q⟩
 ·obtain ⟨a,vs,rfl,e,r⟩:=h.lst_inv
  exact ⟨a,vs,rfl,h.lst_len,(Q2 e).2,r⟩
 ·obtain ⟨vs,z,h,r⟩:=q.lst_inv
  exact ⟨a,vs,rfl,z,h,r⟩
theorem Rdb.tup {H:Hp} {G:Addr→Prop} {v:V} {ts:List T} (h:Rdb H G v (.tup ts)):Is (dls H G) v (.tup ts):=by
 rcases h with h | ⟨a,_,q⟩
 ·exact h
 ·exact q.no_tup.elim
theorem Rdb.int {H:Hp} {G:Addr→Prop} {v:V} {i:Int} (h:Rdb H G v (.int i)):v=.int i:=h.is.int_inv
theorem Rdb.bl {H:Hp} {G:Addr→Prop} {v:V} {b:Bool} (h:Rdb H G v (.bl b)):v=.bl b:=by
 have q:=h.is
 unfold Is at q
 exact q
theorem Rdb.str {H:Hp} {G:Addr→Prop} {v:V} {b:Str} (h:Rdb H G v (.str b)):v=.str b:=by
 have q:=h.is
 unfold Is at q
 exact q
theorem Rdb.non {H:Hp} {G:Addr→Prop} {v:V} (h:Rdb H G v .non):v=.non:=by
 have q:=h.is
 unfold Is at q
 exact q
section
variable {B:Bs} {H H0 H1 H2:Hp} {G G1 G2:Addr→Prop} {σ σ1:St} {ρ ρ1 ρ2:En} {v:V} {r:PV} {t:T}
theorem PVR.rdb (h:PVR H0 H G σ ρ1 v r) (F:FI B H G σ ρ) (e:cont ρ r=some t):Rdb H G v t:=by
 cases r with
 | fz t=>cases e;exact .inl h
 | ow t =>
  cases e
  obtain ⟨a,rfl,_,_,_,q⟩:=h
  exact .inr ⟨a,rfl,q⟩
 | sl i =>
  obtain ⟨a,s,g,q⟩:=F.prvAt e
  have h:σ[i]?=some (some v):=h
  rw [s] at h
  cases h
  exact .inr ⟨a,rfl,q⟩
theorem OwnAt.mono {a:Addr} (h:OwnAt H G a t) (s:Same (dls H G) (dls H1 G1)) (e:∀ o,H a=some o→H1 a=some o):OwnAt H1 G1 a t:=by
 obtain ⟨o,h3,h4⟩:=h
 exact ⟨o,e _ h3,h4.mono s⟩
theorem FI.nobody (F0:FI B H G σ ρ) (F:FI (Qa3 H G σ ρ) H1 G1 σ ρ1) {a:Addr} {o:HO} (e:H a=some o) (n:∀ i,¬ PrvAt σ ρ i a):∀ i,¬ PrvAt σ ρ1 i a:=fun i h=>by
 have h0:=h
 rcases Qwt h with h | h | h
 ·rcases F.newO a h with z | z
  ·rw [show H a=none from z] at e;cases e
  ·obtain ⟨j,z⟩:=OwA.prv z;exact n j z
 ·obtain ⟨j,z⟩:=MlA.prv (F.newM a h);exact n j z
 ·obtain ⟨⟨t,z⟩,s⟩:=F.fix i a h
  have g1:=(PrvAt.at F h0).1
  rcases z with z | z | z
  ·exact n i ⟨⟨t,by rw [z];rfl⟩,s⟩
  ·exact n i ⟨⟨t,by rw [z];rfl⟩,s⟩
  ·have q:=F0.slot i
   rw [z] at q
   obtain ⟨b,o',sb,eb,_⟩:=q
   rw [s] at sb
   cases sb
   obtain ⟨ng,hb⟩:=Q2 eb
   rcases F.gn a g1 with z | z
   ·exact ng z
   ·rw [show H a=none from z] at hb;cases hb
theorem PVR.step (h:PVR H0 H G σ ρ v r) (F0:FI B H G σ ρ) (F:FI (Qa3 H G σ ρ) H1 G1 σ ρ1):PVR H0 H1 G1 σ ρ1 v r:=by
 cases r with
 | fz t=>exact Is.mono (F0.same F) h
 | sl i=>exact h
 | ow t =>
  obtain ⟨a,rfl,n,g,np,q⟩:=h
  have q':=q
  obtain ⟨ob,ea,_⟩:=q
  refine ⟨a,rfl,n,F.gg a g,F0.nobody F ea np,q'.mono (F0.same F) fun o e=>F.chg a o (fun z=>?_) (fun z=>?_) e⟩
  ·obtain ⟨j,z⟩:=OwA.prv z;exact np j z
  ·obtain ⟨j,z⟩:=MlA.prv z;exact np j z
theorem PVR.early (h:PVR H1 H2 G2 σ ρ2 v r) (F:FI (Qa3 H G σ ρ) H1 G1 σ ρ1):PVR H H2 G2 σ ρ2 v r:=by
 cases r with
 | fz t=>exact h
 | sl i=>exact h
 | ow t =>
  obtain ⟨a,rfl,n,g⟩:=h
  exact ⟨a,rfl,F.free n,g⟩
end
def argR (H:Hp) (dx:Option Addr):List Int→Prop
 | []=>dx=none
 | [i]=>∃ d,dx=some d∧H d=some (.xd [("at",.int i)])
 | [i,j]=>∃ d,dx=some d∧H d=some (.xd [("many",.int i),("most",.int j)])
 | _=>False
def Q2y (mg:Str→Option Value) (H:Hp) (x:Xn) (cls:Value) (dx:Option Addr):Prop:=∃ nm,Qbk[x.c]?=some nm∧cls=.ref (cad mg nm)∧argR H dx x.arg
structure Pr where
 cf:CF
 R:XR
 mg:Str→Option Value
def Fin (p:Pr) (B:Bs) (σ:St) {α:Type} (o:Out α) (K:α→En→Prop):Prop:=match o with
 | .ok a ρ1=>K a ρ1
 | .xn x ρ1=>∀ cls dx H1 G1,FI B H1 G1 σ ρ1→Q2y p.mg H1 x cls dx→p.R cls dx σ H1
 | .no=>False
def tE (p:Pr) (e:E):TE:=fun σ H Q=>∃ G ρ,FI (Qa3 H G σ ρ) H G σ ρ∧Fin p (Qa3 H G σ ρ) σ (evE p.cf e ρ) fun r ρ1=>∀ v H1 G1,FI (Qa3 H G σ ρ) H1 G1 σ ρ1→PVR H H1 G1 σ ρ1 v r→Q v H1
inductive PVRs (H0:Hp) (H:Hp) (G:Addr→Prop) (σ:St) (ρ:En):List V→List PV→Prop where
 | nil:PVRs H0 H G σ ρ [] []
 | cons {v r vs rs}:PVR H0 H G σ ρ v r→PVRs H0 H G σ ρ vs rs→PVRs H0 H G σ ρ (v::vs) (r::rs)
def tA (p:Pr) (es:Es):TA:=fun σ H Q=>∃ G ρ,FI (Qa3 H G σ ρ) H G σ ρ∧Fin p (Qa3 H G σ ρ) σ (evA p.cf es ρ) fun rs ρ1=>∀ vs H1 G1,FI (Qa3 H G σ ρ) H1 G1 σ ρ1→PVRs H H1 G1 σ ρ1 vs rs→Q vs H1
def tT (p:Pr) (e:E):TT:=fun σ H Q=>∃ G ρ,FI (Qa3 H G σ ρ) H G σ ρ∧Fin p (Qa3 H G σ ρ) σ (Qar (evE p.cf e ρ)) fun b ρ1=>∀ H1 G1,FI (Qa3 H G σ ρ) H1 G1 σ ρ1→Q b H1
section
variable {p:Pr} {B:Bs} {H H0 H1 H2:Hp} {G G1:Addr→Prop} {σ:St} {ρ ρ1 ρ2:En} {α β:Type}
theorem Fin.bind {o:Out α} {k:α→En→Out β} {K:β→En→Prop} (h:Fin p B σ (o.bind k) K):Fin p B σ o fun a ρ1=>Fin p B σ (k a ρ1) K:=by
 cases o with
 | ok a ρ1=>exact h
 | xn x ρ1=>exact h
 | no=>exact h
theorem Fin.imp {o:Out α} {K K':α→En→Prop} (h:Fin p B σ o K) (q:∀ a ρ1,K a ρ1→K' a ρ1):Fin p B σ o K':=by
 cases o with
 | ok a ρ1=>exact q _ _ h
 | xn x ρ1=>exact h
 | no=>exact h
theorem Fin.rebase {o:Out α} {K K':α→En→Prop} (F:FI B H1 G σ ρ1) (h:Fin p B σ o K) (q:∀ a ρ2,K a ρ2→K' a ρ2):Fin p (Qa3 H1 G σ ρ1) σ o K':=by
 cases o with
 | ok a ρ1=>exact q _ _ h
 | xn x ρ1=>exact fun cls dx H2 G2 F2=>h cls dx H2 G2 (F.trans F2)
 | no=>exact h
theorem Qq2 {e:E} {Q:VK} {K:PV→En→Prop} (F:FI B H1 G σ ρ1) (h:Fin p B σ (evE p.cf e ρ1) K) (q:∀ r ρ2 v H2 G2,K r ρ2→FI B H2 G2 σ ρ2→FI (Qa3 H1 G σ ρ1) H2 G2 σ ρ2→PVR H1 H2 G2 σ ρ2 v r→Q v H2):tE p e σ H1 Q :=
 ⟨G,ρ1,F.self,h.rebase F fun r ρ2 k v H2 G2 F2 pv=>q r ρ2 v H2 G2 k (F.trans F2) F2 pv⟩
theorem Qzk {es:Es} {Q:List V→Hp→Prop} {K:List PV→En→Prop} (F:FI B H1 G σ ρ1) (h:Fin p B σ (evA p.cf es ρ1) K) (q:∀ r ρ2 v H2 G2,K r ρ2→FI B H2 G2 σ ρ2→FI (Qa3 H1 G σ ρ1) H2 G2 σ ρ2→PVRs H1 H2 G2 σ ρ2 v r→Q v H2):tA p es σ H1 Q :=
 ⟨G,ρ1,F.self,h.rebase F fun r ρ2 k v H2 G2 F2 pv=>q r ρ2 v H2 G2 k (F.trans F2) F2 pv⟩
theorem Qzl {e:E} {Q:Bool→Hp→Prop} {K:Bool→En→Prop} (F:FI B H1 G σ ρ1) (h:Fin p B σ (Qar (evE p.cf e ρ1)) K) (q:∀ b ρ2 H2 G2,K b ρ2→FI B H2 G2 σ ρ2→FI (Qa3 H1 G σ ρ1) H2 G2 σ ρ2→Q b H2):tT p e σ H1 Q :=
 ⟨G,ρ1,F.self,h.rebase F fun r ρ2 k H2 G2 F2=>q r ρ2 H2 G2 k (F.trans F2) F2⟩
theorem tE2 {a b:E} {f:PV→PV→En→Out β} {K:β→En→Prop} {Z:V→V→Hp→Prop} (F:FI (Qa3 H G σ ρ) H G σ ρ) (h:Fin p (Qa3 H G σ ρ) σ ((evE p.cf a ρ).bind fun ra ρ1=>(evE p.cf b ρ1).bind fun rb ρ2=>f ra rb ρ2) K)
  (q:∀ ra rb ρ2 x y H2 G2,FI (Qa3 H G σ ρ) H2 G2 σ ρ2→PVR H H2 G2 σ ρ2 x ra→PVR H H2 G2 σ ρ2 y rb→Fin p (Qa3 H G σ ρ) σ (f ra rb ρ2) K→Z x y H2):tE p a σ H fun x H1=>tE p b σ H1 fun y H2=>Z x y H2:=by
 refine ⟨G,ρ,F,h.bind.imp fun ra ρ1 h1 x H1 G1 F1 r1=>?_⟩
 refine Qq2 F1 h1.bind fun rb ρ2 y H2 G2 h2 F2 F2' r2=>?_
 exact q ra rb ρ2 x y H2 G2 F2 (r1.step F1 F2') (r2.early F1) h2
theorem Qq3 {o:Out PV} {K:Bool→En→Prop} (h:Fin p B σ (Qar o) K):Fin p B σ o fun r ρ1=>∃ b,r=.fz (.bl b)∧K b ρ1:=by
 cases o with
 | ok r ρ1 =>
  cases r with
  | fz t=>cases t <;> first | exact ⟨_,rfl,h⟩ | exact False.elim h
  | ow t=>exact False.elim h
  | sl i=>exact False.elim h
 | xn x ρ1=>exact h
 | no=>exact h
end
theorem QE.weak {X:Cx} {e:Expr} {t t':TE} (h:QE X e t) (q:∀ σ H Q,t' σ H Q→t σ H Q):QE X e t':=⟨h.h.weak q⟩
theorem QA.weak {X:Cx} {e:List Expr} {t t':TA} (h:QA X e t) (q:∀ σ H Q,t' σ H Q→t σ H Q):QA X e t':=⟨h.h.weak q⟩
theorem QT.weak {X:Cx} {e:Expr} {t t':TT} (h:QT X e t) (q:∀ σ H Q,t' σ H Q→t σ H Q):QT X e t':=⟨fun pins s σ H Q I z=>h.h pins s σ H Q I (q _ _ _ z)⟩
theorem QW.weak {X:Cx} {e:Expr} {t t':TT} (h:QW X e t) (q:∀ σ H Q,t' σ H Q→t σ H Q):QW X e t':=⟨fun wh pins s σ H Q I z=>h.h wh pins s σ H Q I (q _ _ _ z)⟩
section
variable {X:Cx} {p:Pr} {e a b:Expr} {es:List Expr} {e' a' b' c':E} {es':Es} {pos p1 p2 p3:Pos} {x:Str}
theorem Qabm {i:Nat} (hN:X.N[i]?=some x) (hv:Vis X.env.scope x) (hd:(x==("__debug__" : Str))=false) (hcd:(x==("__classdict__" : Str))=false):QE X (.Name x pos) (tE p (.var i)) :=
 (Qce i hN hv hd hcd).weak fun σ H Q ⟨G,ρ,F,h⟩=>by
  have q:=F.slot i
  unfold evE at h
  cases hs:Qa ρ i with
  | un=>rw [hs] at h;exact False.elim h
  | pin _=>rw [hs] at h;exact False.elim h
  | fx t=>rw [hs] at h q;obtain ⟨v,o,e,_,r⟩:=q;exact ⟨_,e,h _ H G F r⟩
  | fz t=>rw [hs] at h q;obtain ⟨v,e,r⟩:=q;exact ⟨v,e,h v H G F r⟩
  | ow t=>rw [hs] at h q;obtain ⟨a,e,_⟩:=q;exact ⟨_,e,h _ H G F e⟩
  | ml t=>rw [hs] at h q;obtain ⟨a,e,_⟩:=q;exact ⟨_,e,h _ H G F e⟩
  | ro t=>rw [hs] at h q;obtain ⟨a,e,_⟩:=q;exact ⟨_,e,h _ H G F e⟩
theorem Qo {i j}:QE X (.Constant (.int i) j pos) (tE p (.int i)):=Qny.weak fun σ H Q ⟨G,ρ,F,h⟩=>by unfold evE at h;exact h _ H G F pvI
theorem Qin {i j}:QE X (.Constant (.bool i) j pos) (tE p (.bl i)):=Q2k.weak fun σ H Q ⟨G,ρ,F,h⟩=>by unfold evE at h;exact h _ H G F pvB
theorem Qn7 {j}:QE X (.Constant .none j pos) (tE p .non):=Q99.weak fun σ H Q ⟨G,ρ,F,h⟩=>by unfold evE at h;exact h _ H G F pvN
theorem Ql6 {i j}:QE X (.Constant (.str i) j pos) (tE p (.str i)):=Q4n.weak fun σ H Q ⟨G,ρ,F,h⟩=>by unfold evE at h;exact h _ H G F pvS
theorem Q7m {i:Int} (h:∃ u,X.mg x=some u∧RelV (.int i) u) (hg:Gl X x) (hd:(x==("__debug__" : Str))=false):QE X (.Name x pos) (tE p (.int i)) :=
 (Q6s h hg hd).weak fun σ H Q ⟨G,ρ,F,h⟩=>by unfold evE at h;exact h _ H G F pvI
theorem Qh:QA X [] (tA p .nil):=Qbz.weak fun σ H Q ⟨G,ρ,F,h⟩=>by unfold evA at h;exact h [] H G F .nil
theorem PVRs.early {H H1 H2:Hp} {G G1 G2:Addr→Prop} {σ:St} {ρ ρ1 ρ2:En} {vs:List V} {rs:List PV} (h:PVRs H1 H2 G2 σ ρ2 vs rs) (F:FI (Qa3 H G σ ρ) H1 G1 σ ρ1):PVRs H H2 G2 σ ρ2 vs rs:=by
 induction h with
 | nil=>exact .nil
 | cons a _ ih=>exact .cons (a.early F) ih
theorem Q7n (ha:QE X e (tE p e')) (hr:QA X es (tA p es')) (hs:Q9 e=true):QA X (e::es) (tA p (.cons e' es')) :=
 (Q7 ha hr hs).weak fun σ H Q ⟨G,ρ,F,h⟩=>by
  unfold evA at h
  refine ⟨G,ρ,F,h.bind.imp fun r ρ1 h1 v H1 G1 F1 r1=>?_⟩
  refine Qzk F1 h1.bind fun rs ρ2 vs H2 G2 h2 F2 F2' r2=>?_
  exact h2 (v::vs) H2 G2 F2 (.cons (r1.step F1 F2') (r2.early F1))
def Ql7:List V→List PV→Addr→Prop
 | v::vs,.ow _::rs,b=>v=.ref b∨Ql7 vs rs b
 | _::vs,_::rs,b=>Ql7 vs rs b
 | _,_,_=>False
theorem PVRs.tmp {H0 H:Hp} {G:Addr→Prop} {σ:St} {ρ:En} {vs:List V} {rs:List PV} (h:PVRs H0 H G σ ρ vs rs) {b:Addr} (z:Ql7 vs rs b):H0 b=none∧∀ i,¬ PrvAt σ ρ i b:=by
 induction h with
 | nil=>exact False.elim z
 | cons a _ ih =>
  rename_i v r vs rs _
  cases r with
  | fz t=>exact ih z
  | sl i=>exact ih z
  | ow t =>
   rcases z with z | z
   ·obtain ⟨c,e,n,_,np,_⟩:=a
    rw [z] at e
    cases e
    exact ⟨n,np⟩
   ·exact ih z
theorem PVRs.frz {H0 H:Hp} {G G':Addr→Prop} {σ:St} {ρ:En} {vs:List V} {rs:List PV} (h:PVRs H0 H G σ ρ vs rs) (s:∀ b,G' b→G b) (n:∀ b,Ql7 vs rs b→¬ G' b):∀ {ts:List T},Qe3 rs=some ts→IsL (dls H G') vs ts:=by
 induction h with
 | nil=>intro ts e;cases e;exact .nil
 | cons a _ ih =>
  intro ts e
  rename_i v r vs rs _
  unfold Qe3 at e
  cases h1:L2.frz r with
  | none=>rw [h1] at e;cases e
  | some t =>
   cases h2:Qe3 rs with
   | none=>rw [h1,h2] at e;cases e
   | some us =>
    rw [h1,h2] at e
    cases e
    cases r with
    | sl i=>cases h1
    | fz t' =>
     cases h1
     exact .cons (Is.mono (Qdl s) a) (ih (fun b z=>n b z) h2)
    | ow t' =>
     cases h1
     obtain ⟨c,rfl,_,_,_,ob,ec,q⟩:=a
     exact .cons (q.is (by rw [Qca (n c (.inl rfl))];exact ec) (Qdl s)) (ih (fun b z=>n b (.inr z)) h2)
theorem PVRs.lay {B:Bs} {H:Hp} {G:Addr→Prop} {σ:St} {ρ:En} {vs:List V} {rs:List PV} {ts:List T} (h:PVRs B.H H G σ ρ vs rs) (F:FI B H G σ ρ) (e:Qe3 rs=some ts):∃ G',FI B H G' σ ρ∧IsL (dls H G') vs ts∧∀ b,G' b→G b :=
 ⟨_,F.lessG (Ql7 vs rs) fun b z=>h.tmp z,h.frz (fun b z=>z.1) (fun b z y=>y.2 z) e,fun b z=>z.1⟩
theorem PVR.lay {B:Bs} {H:Hp} {G:Addr→Prop} {σ:St} {ρ:En} {v:V} {r:PV} {t:T} (h:PVR B.H H G σ ρ v r) (F:FI B H G σ ρ) (e:L2.frz r=some t):∃ G',FI B H G' σ ρ∧Is (dls H G') v t∧∀ b,G' b→G b:=by
 obtain ⟨G',F',i,s⟩:=PVRs.lay (.cons h .nil) F (ts:=[t]) (by unfold Qe3;rw [e];rfl)
 obtain ⟨v',w,e,a,_⟩:=i.cons_inv
 cases e
 exact ⟨G',F',a,s⟩
theorem Qcm {x1} (h:QA X es (tA p es')):QE X (.Tuple es x1 pos) (tE p (.tup es')) :=
 (Qaaf h).weak fun σ H Q ⟨G,ρ,F,h⟩=>by
  unfold evE at h
  refine ⟨G,ρ,F,h.bind.imp fun rs ρ1 h1 vs H1 G1 F1 r1=>?_⟩
  cases e:Qe3 rs with
  | none=>rw [e] at h1;exact False.elim h1
  | some ts =>
   rw [e] at h1
   by_cases z:ts.length≤100000
   ·simp only [if_pos z] at h1
    obtain ⟨G',F',r,_⟩:=PVRs.lay (B:=Qa3 H G σ ρ) r1 F1 e
    refine Q64 F'.prv r z fun y H2 s2 i2=>h1 y H2 G' (F'.grow s2) i2
   ·simp only [if_neg z] at h1
    exact False.elim h1
theorem Qzm {B:Bs} {H H1:Hp} {G:Addr→Prop} {σ:St} {ρ:En} {l:Addr} {ob:HO} {t:T} (F:FI B H G σ ρ) (hl:H l=none) (s:Same H H1) (e:H1 l=some ob) (r:OwnO (dls H G) t ob) :
  FI B H1 (fun b=>G b∨b=l) σ ρ∧PVR B.H H1 (fun b=>G b∨b=l) σ ρ (.ref l) (.ow t):=by
 refine ⟨F.addG hl s e r.pen,l,rfl,F.free hl,.inr rfl,fun i h=>?_,ob,e,r.mono fun b o eb=>?_⟩
 ·obtain ⟨_,t,o,ea,_⟩:=PrvAt.at F h
  rw [hl] at ea
  cases ea
 ·obtain ⟨nb,eb⟩:=Q2 eb
  rw [Qca fun z=>?_]
  ·exact s b o eb
  ·rcases z with z | z
   ·exact nb z
   ·rw [z,hl] at eb;cases eb
theorem Qht {B:Bs} {H H1:Hp} {G:Addr→Prop} {σ:St} {ρ:En} {l:Addr} {vs:List V} {ts:List T} (F:FI B H G σ ρ) (hl:H l=none) (s:Same H H1) (e:H1 l=some (.lst vs)) (r:IsL (dls H G) vs ts) (z:ts.length≤100000) :
  FI B H1 (fun b=>G b∨b=l) σ ρ∧PVR B.H H1 (fun b=>G b∨b=l) σ ρ (.ref l) (.ow (.lst ts)):=Qzm F hl s e ⟨z,r⟩
theorem Qft (h:QA X es (tA p es')):QE X (.List es pos) (tE p (.lst es')) :=
 (Qqo h).weak fun σ H Q ⟨G,ρ,F,h⟩=>by
  unfold evE at h
  refine ⟨G,ρ,F,h.bind.imp fun rs ρ1 h1 vs H1 G1 F1 r1=>?_⟩
  cases e:Qe3 rs with
  | none=>rw [e] at h1;exact False.elim h1
  | some ts =>
   rw [e] at h1
   by_cases z:ts.length≤100000
   ·simp only [if_pos z] at h1
    obtain ⟨G',F',r,_⟩:=PVRs.lay (B:=Qa3 H G σ ρ) r1 F1 e
    refine Q65 F'.prv r z fun l H2 s2 n2 e2 i2=>?_
    obtain ⟨F2,r2⟩:=Qht F' n2 s2 e2 r z
    exact h1 _ H2 _ F2 r2
   ·simp only [if_neg z] at h1
    exact False.elim h1
theorem Qpa {B:Bs} {σ:St} {ρ:En} {α:Type} {o:Option α} {K:α→En→Prop} (h:Fin p B σ (.opt o ρ) K):∃ a,o=some a∧K a ρ:=by
 cases o with
 | none=>exact False.elim h
 | some a=>exact ⟨a,rfl,h⟩
theorem Qzn {B:Bs} {σ:St} {ρ:En} {α:Type} {ra rb:PV} {f:T→T→Out α} {K:α→En→Prop} (h:Fin p B σ (match cont ρ ra,cont ρ rb with | some x,some y=>f x y | _,_=>.no) K):∃ x y,cont ρ ra=some x∧cont ρ rb=some y∧Fin p B σ (f x y) K:=by
 cases h1:cont ρ ra with
 | none=>rw [h1] at h;exact False.elim h
 | some x =>
  cases h2:cont ρ rb with
  | none=>rw [h1,h2] at h;exact False.elim h
  | some y=>rw [h1,h2] at h;exact ⟨x,y,rfl,rfl,h⟩
def Op2 (r:R2) (f:T→T→Option PV):Prop:=∀ (B:Bs) (H:Hp) (G:Addr→Prop) (σ:St) (ρ:En) (x y:V) (t u:T) (w:PV) (Q:VK),FI B H G σ ρ→Rdb H G x t→Rdb H G y u→f t u=some w→(∀ v H1 G1,FI B H1 G1 σ ρ→PVR B.H H1 G1 σ ρ v w→Q v H1)→r x y H Q
theorem Qn8 {op:Operator} {r:R2} {o:BOp} (ho:QOp X (binaryOp op) r) (hs:Op2 r (opB o)) (ha:QE X a (tE p a')) (hb:QE X b (tE p b')):QE X (.BinOp a op b pos) (tE p (.bin o a' b')) :=
 (Q2l ho ha hb).weak fun σ H Q ⟨G,ρ,F,h⟩=>by
  unfold evE at h
  refine tE2 F h fun ra rb ρ2 x y H2 G2 F2 r1 r2 h2=>?_
  obtain ⟨t,u,c1,c2,h3⟩:=Qzn h2
  obtain ⟨w,e,k⟩:=Qpa h3
  exact hs _ H2 G2 σ ρ2 x y t u w Q F2 (r1.rdb F2 c1) (r2.rdb F2 c2) e fun v H3 G3 F3 pv=>k v H3 G3 F3 pv
theorem Qe7 {t:T} {i:Int} (e:asI t=some i):t=.int i:=by
 cases t <;> first | (cases e;done) | skip
 cases e
 rfl
theorem Qlf {o:BOp} {t u:T} {w:PV} (e:opB o t u=some w) (hx:∀ t u,opX o t u=none):∃ i j,t=.int i∧u=.int j∧opN o i j=some w:=by
 unfold opB at e
 cases h1:asI t with
 | none=>rw [h1] at e;exact absurd e (by simp [hx])
 | some i =>
  cases h2:asI u with
  | none=>rw [h1,h2] at e;exact absurd e (by simp [hx])
  | some j=>rw [h1,h2] at e;exact ⟨i,j,Qe7 h1,Qe7 h2,e⟩
theorem Quq {o:BOp} {t u:T} {w:PV} (e:opB o t u=some w):(∃ i j,t=.int i∧u=.int j∧opN o i j=some w)∨opX o t u=some w:=by
 unfold opB at e
 cases h1:asI t with
 | none=>rw [h1] at e;exact .inr e
 | some i =>
  cases h2:asI u with
  | none=>rw [h1,h2] at e;exact .inr e
  | some j=>rw [h1,h2] at e;exact .inl ⟨i,j,Qe7 h1,Qe7 h2,e⟩
theorem Q2z (K:PySem.W.Frag):Op2 (Qnx K) (opB .add):=by
 intro B H G σ ρ x y t u w Q F hx hy e q
 rcases Quq e with ⟨i,j,rfl,rfl,e⟩ | e1
 ·obtain rfl:=hx.int
  obtain rfl:=hy.int
  cases e
  exact .inl ⟨_,_,rfl,rfl,q _ H G F pvI⟩
 replace e:Q7f t u=some w:=e1
 clear e1
 unfold Q7f at e
 split at e
 ·rename_i ts us
  by_cases z:ts.length+us.length≤100000
  ·rw [if_pos z] at e;cases e
   exact Q63 F.prv hx.tup hy.tup z fun v H1 s1 i1=>q v H1 G (F.grow s1) i1
  ·rw [if_neg z] at e;cases e
 ·rename_i ts us
  by_cases z:ts.length+us.length≤100000
  ·rw [if_pos z] at e;cases e
   obtain ⟨a,vs,rfl,z1,ea,r1⟩:=hx.lst
   obtain ⟨b,ws,rfl,z2,eb,r2⟩:=hy.lst
   refine .inr (.inl ⟨a,b,vs,ws,rfl,rfl,ea,eb,Qcp (by rw [r1.length,r2.length];exact z),fun l hl=>?_⟩)
   obtain ⟨F2,r3⟩:=Qht F hl (Same.upd hl) Qp (r1.append r2) (by rw [length_append];exact z)
   exact q _ _ _ F2 r3
  ·rw [if_neg z] at e;cases e
 ·cases e
theorem Q20:Op2 (rI0 fun i j=>.int (i-j)) (opB .sub):=by
 intro B H G σ ρ x y t u w Q F hx hy e q
 obtain ⟨i,j,rfl,rfl,e⟩:=Qlf e fun _ _=>rfl
 obtain rfl:=hx.int
 obtain rfl:=hy.int
 cases e
 exact ⟨_,_,rfl,rfl,q _ H G F pvI⟩
theorem Qq4 {i:Int} (h:i.natAbs<2^250):Builtin.Int.intBits i≤2^20:=by
 have h1:Builtin.Int.intBits i≤250:=by
  unfold Builtin.Int.intBits
  split
  ·exact Nat.zero_le _
  ·rename_i hn
   have h0:i.natAbs≠0:=by
    intro z
    exact hn (by simpa using z)
   have h2:i.natAbs.log2<250:=(Nat.log2_lt h0).mpr h
   omega
 exact Nat.le_trans h1 (by decide)
theorem Qq5 {i:Int} (h:i.natAbs.log2<9000):Builtin.Int.intBits i≤2^20:=by
 have h1:Builtin.Int.intBits i≤9000:=by
  unfold Builtin.Int.intBits
  split
  ·exact Nat.zero_le _
  ·omega
 exact Nat.le_trans h1 (by decide)
theorem Q21 {i j:Int} (h:Qbm i j=true):IntMulOk i j:=by
 unfold Qbm at h
 simp only [Bool.or_eq_true,Bool.and_eq_true,decide_eq_true_eq] at h
 rcases h with h | h | ⟨h1,h2⟩ | ⟨h1,h2⟩
 ·exact CMul.ok (.inl ⟨by omega,by omega⟩)
 ·exact CMul.ok (.inr ⟨by omega,by omega⟩)
 ·exact .of_bits (Qq4 h1) (Qq4 h2)
 ·exact .of_bits (Qq5 h1) (Qq5 h2)
def Q41:R2:=fun x y H Q=>(rI (fun i j=>IntMulOk i j) fun i j=>.int (i*j)) x y H Q∨Q4k x y H Q
theorem Q7o:QOp X (binaryOp .Mult) Q41:=⟨(opI fun _ _ _ _ _ _ _ hc q=>mul_int q hc).or uMul⟩
theorem Q22:Op2 Q41 (opB .mul):=by
 intro B H G σ ρ x y t u w Q F hx hy e q
 rcases Quq e with ⟨i,j,rfl,rfl,e⟩ | e1
 ·obtain rfl:=hx.int
  obtain rfl:=hy.int
  have e':(if Qbm i j=true then some (PV.fz (.int (i*j))) else none)=some w:=e
  by_cases z:Qbm i j=true
  ·rw [if_pos z] at e';cases e'
   exact .inl ⟨_,_,rfl,rfl,Q21 z,q _ H G F pvI⟩
  ·rw [if_neg z] at e';cases e'
 replace e:Q7g t (asI u)=some w:=e1
 clear e1
 unfold Q7g at e
 split at e
 ·rename_i ts k hk
  obtain rfl:=Qe7 hk
  obtain rfl:=hy.int
  by_cases z:ts.length*k.toNat≤100000∧1≤k∧k.natAbs≤100000∧ts≠[]
  ·rw [if_pos z] at e;cases e
   obtain ⟨a,vs,rfl,ha,r⟩:=hx.tup.tup_inv
   obtain ⟨z1,z2,z3,z4⟩:=z
   have hl:=r.length
   refine .inr (.inr (.inr ⟨a,k,vs,rfl,rfl,(Q2 ha).2,fun e=>?_,z2,by omega,Qcp (by rw [hl];exact z1),fun l H1 s1 e1 _=>q _ H1 G (F.grow s1) (Qf1 (F.prv.mono s1) e1 ((r.flat k.toNat).mono (Qbh s1)) ?_)⟩))
   ·rw [e] at hl
    exact z4 (List.length_eq_zero_iff.mp hl.symm)
   ·rw [Qi5,Nat.mul_comm];exact z1
  ·rw [if_neg z] at e;cases e
 ·rename_i ts k hk
  obtain rfl:=Qe7 hk
  obtain rfl:=hy.int
  by_cases z:ts.length*k.toNat≤100000∧1≤k∧k.natAbs≤100000
  ·rw [if_pos z] at e;cases e
   obtain ⟨a,vs,rfl,z1,ea,r1⟩:=hx.lst
   obtain ⟨z2,z3,z4⟩:=z
   refine .inr (.inr (.inl ⟨a,k,vs,rfl,rfl,ea,by omega,by omega,Qcp (by rw [r1.length];exact z2),fun l hl=>?_⟩))
   obtain ⟨F2,r3⟩:=Qht F hl (Same.upd hl) Qp (r1.flat k.toNat) (by rw [Qi5,Nat.mul_comm];exact z2)
   exact q _ _ _ F2 r3
  ·rw [if_neg z] at e;cases e
 ·cases e
def CDvF (i j:Int):Prop:=j≠0∧j.natAbs<2^250
theorem Q7p:QOp X (binaryOp .FloorDiv) (rI CDvF fun i j=>.int (i.fdiv j)):=⟨opI fun i j _ _ _ _ _ hc q=>floordiv_int hc.1 q (.inl (PyProof.noPylong_of_log2 (by
 have h1:j.natAbs≠0:=by have:=hc.1;omega
 have h2:j.natAbs.log2<250:=(Nat.log2_lt h1).mpr hc.2
 omega)))⟩
theorem Q7q:QOp X (binaryOp .Mod) (rI (fun _ j=>j≠0) fun i j=>.int (i.fmod j)):=⟨Q1s⟩
theorem Q23:Op2 (rI CDvF fun i j=>.int (i.fdiv j)) (opB .fdv):=by
 intro B H G σ ρ x y t u w Q F hx hy e q
 obtain ⟨i,j,rfl,rfl,e⟩:=Qlf e fun _ _=>rfl
 obtain rfl:=hx.int
 obtain rfl:=hy.int
 have e':(if 0<j∧j.natAbs<2^64 then some (PV.fz (.int (i / j))) else if j≠0∧j.natAbs<2^250 then some (.fz (.int (i.fdiv j))) else none)=some w:=e
 by_cases z:0<j∧j.natAbs<2^64
 ·rw [if_pos z] at e';cases e'
  refine ⟨_,_,rfl,rfl,⟨by omega,Nat.lt_trans z.2 (by decide)⟩,?_⟩
  show Q (.int (i.fdiv j)) H
  rw [Int.fdiv_eq_ediv_of_nonneg i (by omega)]
  exact q _ H G F pvI
 ·rw [if_neg z] at e'
  by_cases z2:j≠0∧j.natAbs<2^250
  ·rw [if_pos z2] at e';cases e'
   exact ⟨_,_,rfl,rfl,z2,q _ H G F pvI⟩
  ·rw [if_neg z2] at e';cases e'
theorem Q24:Op2 (rI (fun _ j=>j≠0) fun i j=>.int (i.fmod j)) (opB .mod):=by
 intro B H G σ ρ x y t u w Q F hx hy e q
 obtain ⟨i,j,rfl,rfl,e⟩:=Qlf e fun _ _=>rfl
 obtain rfl:=hx.int
 obtain rfl:=hy.int
 have e':(if 0<j then some (PV.fz (.int (i%j))) else if j<0 then some (.fz (.int (i.fmod j))) else none)=some w:=e
 by_cases z:0<j
 ·rw [if_pos z] at e';cases e'
  refine ⟨_,_,rfl,rfl,by omega,?_⟩
  show Q (.int (i.fmod j)) H
  rw [Int.fmod_eq_emod_of_nonneg i (by omega)]
  exact q _ H G F pvI
 ·rw [if_neg z] at e'
  by_cases z2:j<0
  ·rw [if_pos z2] at e';cases e'
   exact ⟨_,_,rfl,rfl,by omega,q _ H G F pvI⟩
  ·rw [if_neg z2] at e';cases e'
theorem Q25:Op2 (rI Q53 fun i j=>.int (i^j.toNat)) (opB .pow):=by
 intro B H G σ ρ x y t u w Q F hx hy e q
 obtain ⟨i,j,rfl,rfl,e⟩:=Qlf e fun _ _=>rfl
 obtain rfl:=hx.int
 obtain rfl:=hy.int
 have e':(if 0≤j∧j.natAbs≤1000000∧i.natAbs<2^64 then some (PV.fz (.int (i^j.toNat))) else none)=some w:=e
 by_cases z:0≤j∧j.natAbs≤1000000∧i.natAbs<2^64
 ·rw [if_pos z] at e';cases e'
  exact ⟨_,_,rfl,rfl,⟨z.1,by omega,z.2.2⟩,q _ H G F pvI⟩
 ·rw [if_neg z] at e';cases e'
theorem Qn9 (ha:QE X a (tE p a')):QE X (.UnaryOp .USub a pos) (tE p (.neg a')) :=
 (q_un Qaan ha).weak fun σ H Q ⟨G,ρ,F,h⟩=>by
  unfold evE at h
  refine ⟨G,ρ,F,h.bind.imp fun r ρ1 h1 v H1 G1 F1 r1=>?_⟩
  cases r with
  | fz t =>
   cases t <;> first | exact False.elim h1 | skip
   obtain rfl:=r1.is.int_inv
   exact ⟨_,rfl,h1 _ H1 G1 F1 pvI⟩
  | ow t=>exact False.elim h1
  | sl i=>exact False.elim h1
theorem PVR.bl {H0 H:Hp} {G:Addr→Prop} {σ:St} {ρ:En} {v:V} {b:Bool} (h:PVR H0 H G σ ρ v (.fz (.bl b))):v=.bl b:=by
 have q:=h.is
 unfold Is at q
 exact q
theorem Qur {Q:Bool→Hp→Prop} {σ:St} {H:Hp} (h:tT p e' σ H Q):tE p e' σ H fun x H1=>∃ c,x=.bl c∧Q c H1:=by
 obtain ⟨G,ρ,F,h⟩:=h
 refine ⟨G,ρ,F,(Qq3 h).imp ?_⟩
 rintro r ρ1 ⟨b,rfl,k⟩ v H1 G1 F1 r1
 exact ⟨b,r1.bl,k H1 G1 F1⟩
theorem Q42 (ha:QE X a (tE p a')):QE X (.UnaryOp .Not a pos) (tE p (.not a')) :=
 (Qaaa ha).weak fun σ H Q ⟨G,ρ,F,h⟩=>by
  unfold evE at h
  exact Qur (Q:=fun c H1=>Q (.bl (!c)) H1) ⟨G,ρ,F,h.bind.imp fun b ρ1 k H1 G1 F1=>k _ H1 G1 F1 pvB⟩
theorem Q43 {rest:List Expr} (ha:QE X a (tE p a')) (hb:QE X (.BoolOp .And (b::rest) pos) (tE p b')):QE X (.BoolOp .And (a::b::rest) pos) (tE p (.and a' b')) :=
 (Qaac ha hb).weak fun σ H Q ⟨G,ρ,F,h⟩=>by
  unfold evE at h
  refine Qur (Q:=fun c H1=>if c=true then tE p b' σ H1 Q else Q (.bl false) H1) ⟨G,ρ,F,h.bind.imp fun c ρ1 k H1 G1 F1=>?_⟩
  cases c with
  | false=>exact k _ H1 G1 F1 pvB
  | true =>
   show tE p b' σ H1 Q
   refine Qq2 F1 (Qq3 k.bind) ?_
   rintro r ρ2 v H2 G2 ⟨d,rfl,k2⟩ F2 F2' r2
   exact k2 v H2 G2 F2 r2
theorem Q44 {op} (ha:QE X a (tE p a')):QE X (.BoolOp op [a] pos) (tE p a'):=Qaab ha
theorem Qabo {c:Expr} (hc:QT X c (tT p c')) (ha:QE X a (tE p a')) (hb:QE X b (tE p b')):QE X (.IfExp c a b pos) (tE p (.ite c' a' b')) :=
 (q_if hc ha hb).weak fun σ H Q ⟨G,ρ,F,h⟩=>by
  unfold evE at h
  refine ⟨G,ρ,F,h.bind.imp fun k ρ1 h1 H1 G1 F1=>?_⟩
  cases k with
  | true=>exact Qq2 F1 h1 fun r ρ2 v H2 G2 k2 F2 F2' r2=>k2 v H2 G2 F2 (r2.early F1)
  | false=>exact Qq2 F1 h1 fun r ρ2 v H2 G2 k2 F2 F2' r2=>k2 v H2 G2 F2 (r2.early F1)
theorem Qabp (ha:QE X e (tE p e')) (he:∀ whole,isTrue e X.env whole=(do let v ← whole;standAt e.pos;holding [v] (truthy v))):QT X e (tT p e'):=(Qyo ha he).weak fun σ H Q h=>Qur h
theorem Qeb (ha:QT X a (tT p a')):QT X (.UnaryOp .Not a pos) (tT p (.not a')) :=
 (Qyp ha).weak fun σ H Q ⟨G,ρ,F,h⟩=>by
  unfold evE at h
  refine ⟨G,ρ,F,?_⟩
  cases e:Qar (evE p.cf a' ρ) with
  | ok b ρ1=>rw [e] at h;exact h
  | xn x ρ1=>rw [e] at h;exact h
  | no=>rw [e] at h;exact h
theorem Qabq {rest:List Expr} (ha:QT X a (tT p a')) (hb:QW X (.BoolOp .And (b::rest) pos) (tT p b')):QW X (.BoolOp .And (a::b::rest) pos) (tT p (.and a' b')) :=
 (Q6t ha hb).weak fun σ H Q ⟨G,ρ,F,h⟩=>by
  unfold evE at h
  have h2:Fin p (Qa3 H G σ ρ) σ (Qar (evE p.cf a' ρ)) fun c ρ1=>Fin p (Qa3 H G σ ρ) σ (if c then Qar (evE p.cf b' ρ1) else .ok false ρ1) fun b ρ1=>∀ H1 G1,FI (Qa3 H G σ ρ) H1 G1 σ ρ1→Q b H1:=by
   cases e:Qar (evE p.cf a' ρ) with
   | ok b ρ1 =>
    rw [e] at h
    cases b with
    | false=>exact h
    | true =>
     show Fin _ _ _ (Qar (evE p.cf b' ρ1)) _
     cases e2:Qar (evE p.cf b' ρ1) with
     | ok b ρ2=>simp only [Out.bind,if_true,e2] at h;exact h
     | xn x ρ2=>simp only [Out.bind,if_true,e2] at h;exact h
     | no=>simp only [Out.bind,if_true,e2] at h;exact h
   | xn x ρ1=>rw [e] at h;exact h
   | no=>rw [e] at h;exact h
  refine ⟨G,ρ,F,h2.imp fun c ρ1 k H1 G1 F1=>?_⟩
  cases c with
  | false=>exact k H1 G1 F1
  | true=>exact Qzl F1 k fun b ρ2 H2 G2 k2 F2 _=>k2 H2 G2 F2
theorem Qjd {rest:List Expr} (ha:QT X a (tT p a')) (hb:QW X (.BoolOp .Or (b::rest) pos) (tT p b')):QW X (.BoolOp .Or (a::b::rest) pos) (tT p (.or a' b')) :=
 (Q4o ha hb).weak fun σ H Q ⟨G,ρ,F,h⟩=>by
  unfold evE at h
  have h2:Fin p (Qa3 H G σ ρ) σ (Qar (evE p.cf a' ρ)) fun c ρ1=>Fin p (Qa3 H G σ ρ) σ (if c then .ok true ρ1 else Qar (evE p.cf b' ρ1)) fun b ρ1=>∀ H1 G1,FI (Qa3 H G σ ρ) H1 G1 σ ρ1→Q b H1:=by
   cases e:Qar (evE p.cf a' ρ) with
   | ok b ρ1 =>
    rw [e] at h
    cases b with
    | true=>exact h
    | false =>
     show Fin _ _ _ (Qar (evE p.cf b' ρ1)) _
     cases e2:Qar (evE p.cf b' ρ1) with
     | ok b ρ2=>simp only [Out.bind,e2] at h;exact h
     | xn x ρ2=>simp only [Out.bind,e2] at h;exact h
     | no=>simp only [Out.bind,e2] at h;exact h
   | xn x ρ1=>rw [e] at h;exact h
   | no=>rw [e] at h;exact h
  refine ⟨G,ρ,F,h2.imp fun c ρ1 k H1 G1 F1=>?_⟩
  cases c with
  | true=>exact k H1 G1 F1
  | false=>exact Qzl F1 k fun b ρ2 H2 G2 k2 F2 _=>k2 H2 G2 F2
theorem Qgr {op} (ha:QT X a (tT p a')):QW X (.BoolOp op [a] pos) (tT p a'):=by
 cases op with
 | And=>exact Q2m ha
 | Or=>exact Qyq ha
theorem t_w (h:QW X e (tT p e')):QT X e (tT p e'):=q_wt h
end
section
variable {X:Cx} {p:Pr} {e a b:Expr} {es:List Expr} {e' a' b' c':E} {es':Es} {pos p1 p2 p3:Pos} {x:Str}
def Oc2 (r:R2) (f:T→T→Option Bool):Prop:=∀ (H:Hp) (G:Addr→Prop) (x y:V) (t u:T) (k:Bool) (Q:VK),Rdb H G x t→Rdb H G y u→f t u=some k→Q (.bl k) H→r x y H Q
theorem Qzo {r:R2} {o:COp} (hs:Oc2 r (opC o)) {σ:St} {H:Hp} {Q:VK} (h:tE p (.cmp o a' b') σ H Q):tOp r (tE p a') (tE p b') σ H Q:=by
 obtain ⟨G,ρ,F,h⟩:=h
 unfold evE at h
 refine tE2 F h fun ra rb ρ2 x y H2 G2 F2 r1 r2 h2=>?_
 obtain ⟨t,u,c1,c2,h3⟩:=Qzn h2
 cases e:opC o t u with
 | none=>rw [e] at h3;exact False.elim h3
 | some k =>
  rw [e] at h3
  exact hs H2 G2 x y t u k Q (r1.rdb F2 c1) (r2.rdb F2 c2) e (h3 _ H2 G2 F2 pvB)
theorem Qzp {op:CmpOp} {r:R2} {o:COp} (ho:QOp X (compareOp op) r) (hs:Oc2 r (opC o)) (ha:QE X a (tE p a')) (hb:QE X b (tE p b')) (hm:behindInMarks op b=false):QE X (.Compare a [op] [b] pos) (tE p (.cmp o a' b')) :=
 (Qaad ho ha hb hm).weak fun σ H Q h=>Qzo hs h
theorem Qoa {op:CmpOp} {r:R2} {o:COp} (ho:QOp X (compareOp op) r) (hs:Oc2 r (opC o)) (ha:QE X a (tE p a')) (hb:QE X b (tE p b')) (hm:behindInMarks op b=false):QT X (.Compare a [op] [b] pos) (tT p (.cmp o a' b')) :=
 (Qs0 ho ha hb hm).weak fun σ H Q h=>Qzo hs (Qur h)
noncomputable def vOf:T→V
 | .non=>.non | .bl b=>.bl b | .int i=>.int i | .str x=>.str x | _=>.non
theorem Rdb.vOf {H:Hp} {G:Addr→Prop} {v:V} {t:T} (h:Rdb H G v t) (e:Ql3 t=true):v=vOf t:=by
 cases t with
 | non=>exact h.non
 | bl b=>exact h.bl
 | int i=>exact h.int
 | str x=>exact h.str
 | tup ts=>cases e
 | lst ts=>cases e
 | dct ks ts=>cases e
 | clo ks ts=>cases e
 | dtt ks ts=>cases e
theorem Qq6 {t u:T} {k:Bool} (e:eqO t u=some k) (h1:Ql3 t=true) (h2:Ql3 u=true):Q59 (vOf t) (vOf u)=true∧decide (vOf t=vOf u)=k:=by
 cases t <;> first | (cases h1;done) | skip
 all_goals (cases u <;> first | (cases h2;done) | skip)
 all_goals (first | (cases e;done) | skip)
 all_goals (have e':=Option.some.inj e;subst e';refine ⟨rfl,?_⟩;simp [vOf])
theorem Qq7 {t u:T} {k:Bool} (e:eqO t u=some k):(Ql3 t=true∧Ql3 u=true)∨(Qr 50 t=true∧Qr 50 u=true∧((∃ ts us,t=.tup ts∧u=.tup us)∨∃ ts us,t=.lst ts∧u=.lst us)∧k=eqT t u)∨(Q2s t u=true∧k=false):=by
 cases t <;> cases u <;> first | (cases e;done) | exact .inl ⟨rfl,rfl⟩ | exact .inr (.inr ⟨rfl,(Option.some.inj e).symm⟩) | skip
 ·rename_i ts us
  have e:(if Qr 50 (.tup ts)=true∧Qr 50 (.tup us)=true then some (eqT (.tup ts) (.tup us)) else none)=some k:=e
  by_cases z:Qr 50 (.tup ts)=true∧Qr 50 (.tup us)=true
  ·rw [if_pos z] at e
   exact .inr (.inl ⟨z.1,z.2,.inl ⟨_,_,rfl,rfl⟩,(Option.some.inj e).symm⟩)
  ·rw [if_neg z] at e;cases e
 ·rename_i ts us
  have e:(if Qr 50 (.lst ts)=true∧Qr 50 (.lst us)=true then some (eqT (.lst ts) (.lst us)) else none)=some k:=e
  by_cases z:Qr 50 (.lst ts)=true∧Qr 50 (.lst us)=true
  ·rw [if_pos z] at e
   exact .inr (.inl ⟨z.1,z.2,.inr ⟨_,_,rfl,rfl⟩,(Option.some.inj e).symm⟩)
  ·rw [if_neg z] at e;cases e
def rEqU:R2:=fun x y H Q=>rEq x y H Q∨(Q2r false x y H Q∨Q2t false x y H Q)
def rNeU:R2:=fun x y H Q=>rNe x y H Q∨(Q2r true x y H Q∨Q2t true x y H Q)
theorem Q45 (hu:X.A.units+64<cLine):QOp X (compareOp .Eq) rEqU:=⟨o_eq.h.or ((Qaa1 hu).h.or (Qaa3 hu).h)⟩
theorem Qabt (hu:X.A.units+64<cLine):QOp X (compareOp .NotEq) rNeU:=⟨o_ne.h.or ((Qaa2 hu).h.or (Qaa4 hu).h)⟩
theorem Qzq:Oc2 rEqU (opC .eq):=by
 intro H G x y t u k Q hx hy e q
 have e:eqO t u=some k:=e
 rcases Qq7 e with ⟨h1,h2⟩ | ⟨h1,h2,h3,rfl⟩ | ⟨h1,rfl⟩
 ·obtain ⟨z1,z2⟩:=Qq6 e h1 h2
  rw [hx.vOf h1,hy.vOf h2]
  exact .inl ⟨z1,by rw [z2];exact q⟩
 ·exact .inr (.inl ⟨t,u,hx.is,hy.is,h1,h2,h3,q⟩)
 ·exact .inr (.inr ⟨t,u,hx.is,hy.is,h1,q⟩)
theorem Q7r:Oc2 rNeU (opC .ne):=by
 intro H G x y t u k Q hx hy e q
 have e:(eqO t u).map (!·)=some k:=e
 cases e0:eqO t u with
 | none=>rw [e0] at e;cases e
 | some k0 =>
  rw [e0] at e
  cases e
  rcases Qq7 e0 with ⟨h1,h2⟩ | ⟨h1,h2,h3,rfl⟩ | ⟨h1,rfl⟩
  ·obtain ⟨z1,z2⟩:=Qq6 e0 h1 h2
   rw [hx.vOf h1,hy.vOf h2]
   exact .inl ⟨z1,by rw [z2];exact q⟩
  ·exact .inr (.inl ⟨t,u,hx.is,hy.is,h1,h2,h3,q⟩)
  ·exact .inr (.inr ⟨t,u,hx.is,hy.is,h1,q⟩)
theorem Ql8 {f:Int→Int→Bool} {t u:T} {k:Bool} (e:Qwr f t u=some k):∃ i j,t=.int i∧u=.int j∧f i j=k:=by
 unfold Qwr at e
 cases h1:asI t with
 | none=>rw [h1] at e;cases e
 | some i =>
  cases h2:asI u with
  | none=>rw [h1,h2] at e;cases e
  | some j=>rw [h1,h2] at e;exact ⟨i,j,Qe7 h1,Qe7 h2,Option.some.inj e⟩
theorem Qzr:Oc2 (rI0 fun i j=>.bl (decide (i<j))) (opC .lt):=by
 intro H G x y t u k Q hx hy e q
 obtain ⟨i,j,rfl,rfl,rfl⟩:=Ql8 e
 obtain rfl:=hx.int
 obtain rfl:=hy.int
 exact ⟨_,_,rfl,rfl,q⟩
theorem Q7s:Oc2 (rI0 fun i j=>.bl (decide (j<i))) (opC .gt):=by
 intro H G x y t u k Q hx hy e q
 obtain ⟨i,j,rfl,rfl,rfl⟩:=Ql8 e
 obtain rfl:=hx.int
 obtain rfl:=hy.int
 exact ⟨_,_,rfl,rfl,q⟩
theorem Q7t:Oc2 (rI0 fun i j=>.bl (decide (j≤i))) (opC .ge):=by
 intro H G x y t u k Q hx hy e q
 obtain ⟨i,j,rfl,rfl,rfl⟩:=Ql8 e
 obtain rfl:=hx.int
 obtain rfl:=hy.int
 exact ⟨_,_,rfl,rfl,q⟩
theorem Qus {H:Hp} {v:V} {t:T} (h:Is H v t):decide (v=.non)=Qgp t:=by
 cases t with
 | non=>unfold Is at h;subst h;rfl
 | bl b=>unfold Is at h;subst h;rfl
 | int i=>unfold Is at h;subst h;rfl
 | str x=>unfold Is at h;subst h;rfl
 | tup ts=>obtain ⟨a,vs,rfl,_⟩:=h.tup_inv;rfl
 | lst ts=>obtain ⟨a,vs,rfl,_⟩:=h.lst_inv;rfl
 | dct ks ts=>unfold Is at h;obtain ⟨a,vs,rfl,_⟩:=h;rfl
 | clo ks ts=>unfold Is at h;obtain ⟨a,vs,l,rfl,_⟩:=h;rfl
 | dtt ks ts=>unfold Is at h;obtain ⟨_,a,vs,rfl,_⟩:=h;rfl
theorem Q26:Oc2 rIsN (opC .isn):=by
 intro H G x y t u k Q hx hy e q
 cases u <;> first | (cases e;done) | skip
 have e:some (Qgp t)=some k:=e
 cases e
 exact ⟨hy.non,by rw [Qus hx.is];exact q⟩
theorem Qzs:Oc2 Q4q (opC .isnn):=by
 intro H G x y t u k Q hx hy e q
 cases u <;> first | (cases e;done) | skip
 have e:some (!Qgp t)=some k:=e
 cases e
 exact ⟨hy.non,by rw [Qus hx.is];exact q⟩
theorem Qzt {n:String} (h:Ql4 n=true):n∈["int","bool","tuple","list","dict","str"]:=by
 unfold Ql4 at h
 simp only [Bool.or_eq_true,beq_iff_eq] at h
 simp only [mem_cons,not_mem_nil,or_false]
 rcases h with ((((h | h) | h) | h) | h) | h <;> subst h <;> simp
theorem Qabu {n:String} {tn:Expr} (hm:X.mg "isinstance" = none) (hv:bootBuiltins "isinstance" = some (.builtin "isinstance")) (ha:QE X a (tE p a')) (ht:QE X tn (tC (.ty n))) (hg:Gl X "isinstance") (h1:Q9 a=true) (h2:Q9 tn=true):QE X (.Call (.Name "isinstance" p1) [a,tn] [] pos) (tE p (.isI a' n)) :=
 (Qi9 Q6z hm hv (Q7 ha (Q7 ht Qbz h2) h1) hg (by decide) (by decide) h1 (by rw [Qb6 h2];rfl)).weak fun σ H Q ⟨G,ρ,F,h⟩=>by
  unfold evE at h
  refine ⟨G,ρ,F,h.bind.imp fun r ρ1 h1 v H1 G1 F1 r1=>?_⟩
  cases e:cont ρ1 r with
  | none=>rw [e] at h1;exact False.elim h1
  | some t =>
   rw [e] at h1
   by_cases z:(Ql4 n && !Qdv t)=true
   ·simp only [if_pos z] at h1
    rw [Bool.and_eq_true,Bool.not_eq_true'] at z
    exact ⟨v,n,t,rfl,(r1.rdb F1 e).is,z.2,Qzt z.1,h1 _ H1 G1 F1 pvB⟩
   ·simp only [if_neg z] at h1
    exact False.elim h1
inductive Rdbs (H:Hp) (G:Addr→Prop):List V→List T→Prop where
 | nil:Rdbs H G [] []
 | cons {v t vs ts}:Rdb H G v t→Rdbs H G vs ts→Rdbs H G (v::vs) (t::ts)
theorem PVRs.rdbs {B:Bs} {H0 H:Hp} {G:Addr→Prop} {σ:St} {ρ:En} {vs:List V} {rs:List PV} (h:PVRs H0 H G σ ρ vs rs) (F:FI B H G σ ρ):∀ {ts:List T},Qah ρ rs=some ts→Rdbs H G vs ts:=by
 induction h with
 | nil=>intro ts e;cases e;exact .nil
 | cons a _ ih =>
  intro ts e
  rename_i v r vs rs _
  unfold Qah at e
  cases h1:cont ρ r with
  | none=>rw [h1] at e;cases e
  | some t =>
   cases h2:Qah ρ rs with
   | none=>rw [h1,h2] at e;cases e
   | some us =>
    rw [h1,h2] at e
    cases e
    exact .cons (a.rdb F h1) (ih h2)
def Ob (r:List V→Hp→VK→Prop) (b:Bi):Prop:=∀ (B:Bs) (H:Hp) (G:Addr→Prop) (σ:St) (ρ:En) (vs:List V) (ts:List T) (w:PV) (Q:VK),FI B H G σ ρ→Rdbs H G vs ts→Qh6 b ts=some w→(∀ v H1 G1,FI B H1 G1 σ ρ→PVR B.H H1 G1 σ ρ v w→Q v H1)→r vs H Q
theorem Q46 {r:List V→Hp→VK→Prop} {b:Bi} (hs:Ob r b) {σ:St} {H:Hp} {Q:VK} (h:tE p (.bi b es') σ H Q):tCB r (tA p es') σ H Q:=by
 obtain ⟨G,ρ,F,h⟩:=h
 unfold evE at h
 refine ⟨G,ρ,F,h.bind.imp fun rs ρ1 h1 vs H1 G1 F1 r1=>?_⟩
 cases e:Qah ρ1 rs with
 | none=>rw [e] at h1;exact False.elim h1
 | some ts =>
  rw [e] at h1
  obtain ⟨w,ew,k⟩:=Qpa h1
  exact hs _ H1 G1 σ ρ1 vs ts w Q F1 (r1.rdbs F1 e) ew fun v H2 G2 F2 r2=>k v H2 G2 F2 r2
theorem Rdbs.one {H:Hp} {G:Addr→Prop} {vs:List V} {t:T} (h:Rdbs H G vs [t]):∃ v,vs=[v]∧Rdb H G v t:=by
 cases h with
 | cons a b=>cases b;exact ⟨_,rfl,a⟩
theorem Rdbs.two {H:Hp} {G:Addr→Prop} {vs:List V} {t u:T} (h:Rdbs H G vs [t,u]):∃ v w,vs=[v,w]∧Rdb H G v t∧Rdb H G w u:=by
 cases h with
 | cons a b =>
  cases b with
  | cons c d=>cases d;exact ⟨_,_,rfl,a,c⟩
theorem Ql9:∀ {ts:List T} {is:List Int},Qd9 ts=some is→ts=is.map T.int
 | [],is,e=>by cases e;rfl
 | .int i::ts,is,e=>by
  unfold Qd9 at e
  cases h:Qd9 ts with
  | none=>rw [h] at e;cases e
  | some js=>rw [h] at e;cases e;rw [Ql9 h];rfl
 | .non::_,_,e=>by cases e
 | .bl _::_,_,e=>by cases e
 | .str _::_,_,e=>by cases e
 | .tup _::_,_,e=>by cases e
 | .lst _::_,_,e=>by cases e
 | .dct _ _::_,_,e=>by cases e
 | .clo _ _::_,_,e=>by cases e
 | .dtt _ _::_,_,e=>by cases e
theorem Qq8 {D:Hp}:∀ {ts:List T} {bs:List Bool} {vs:List V},Qk5 ts=some bs→IsL D vs ts→vs.all Qqm=true∧vs.all Qql=bs.all id∧vs.any Qql=bs.any id
 | [],bs,vs,e,r=>by cases e;rw [r.nil_inv];exact ⟨rfl,rfl,rfl⟩
 | t::ts,bs,vs,e,r=>by
  obtain ⟨v,w,rfl,a,q⟩:=r.cons_inv
  unfold Qk5 at e
  cases h1:truT t with
  | none=>rw [h1] at e;cases e
  | some b =>
   cases h2:Qk5 ts with
   | none=>rw [h1,h2] at e;cases e
   | some cs =>
    rw [h1,h2] at e
    cases e
    obtain ⟨q1,q2,q3⟩:=Qq8 h2 q
    have hv:Qqm v=true∧Qql v=b:=by
     cases t <;> first | (cases h1;done) | skip
     ·unfold Is at a;subst a;cases h1;exact ⟨rfl,rfl⟩
     ·obtain rfl:=a.int_inv;cases h1
      refine ⟨rfl,?_⟩
      rename_i i
      show (i != 0)=decide (i≠0)
      by_cases z:i=0 <;> simp [z]
    rw [all_cons,all_cons,any_cons,all_cons,any_cons,q1,q2,q3,hv.1,hv.2]
    exact ⟨rfl,rfl,rfl⟩
theorem Qb2 (K:PySem.W.Frag):Ob (Q6p K) .len:=by
 intro B H G σ ρ vs ts w Q F r e q
 match ts,e,r with
 | [.lst a],e,r =>
  cases e
  obtain ⟨v,rfl,h⟩:=r.one
  obtain ⟨l,ws,rfl,z,el,rl⟩:=h.lst
  exact ⟨l,ws,rfl,.inl (SqL.of el),by rw [rl.length];exact q _ H G F pvI⟩
 | [.tup a],e,r =>
  cases e
  obtain ⟨v,rfl,h⟩:=r.one
  obtain ⟨l,ws,rfl,el,rl⟩:=h.tup.tup_inv
  exact ⟨l,ws,rfl,.inr (SqT.of (Q2 el).2),by rw [rl.length];exact q _ H G F pvI⟩
theorem Qzu:Ob rAbs .abs:=by
 intro B H G σ ρ vs ts w Q F r e q
 match ts,e,r with
 | [.int i],e,r =>
  cases e
  obtain ⟨v,rfl,h⟩:=r.one
  obtain rfl:=h.int
  exact ⟨i,rfl,q _ H G F pvI⟩
theorem Qio (K:PySem.W.Frag):Ob (Q6q K) .all:=by
 intro B H G σ ρ vs ts w Q F r e q
 match ts,e,r with
 | [.lst a],e,r =>
  obtain ⟨v,rfl,h⟩:=r.one
  obtain ⟨l,ws,rfl,z,el,rl⟩:=h.lst
  have e:(Qk5 a).map (fun bs=>PV.fz (.bl (bs.all id)))=some w:=e
  cases h1:Qk5 a with
  | none=>rw [h1] at e;cases e
  | some bs =>
   rw [h1] at e
   cases e
   obtain ⟨q1,q2,q3⟩:=Qq8 h1 rl
   exact ⟨l,ws,rfl,SqL.of el,q1,by rw [q2];exact q _ H G F pvB⟩
theorem Qzv (K:PySem.W.Frag):Ob (Qym K) .sum:=by
 intro B H G σ ρ vs ts w Q F r e q
 match ts,e,r with
 | [.lst a],e,r =>
  obtain ⟨v,rfl,h⟩:=r.one
  obtain ⟨l,ws,rfl,z,el,rl⟩:=h.lst
  have e:(Qd9 a).map (fun is=>PV.fz (.int is.sum))=some w:=e
  cases h1:Qd9 a with
  | none=>rw [h1] at e;cases e
  | some is =>
   rw [h1] at e
   cases e
   rw [Ql9 h1] at rl
   rw [rl.ints_inv] at el
   exact ⟨l,is,rfl,SqL.of el,q _ H G F pvI⟩
theorem Qut:∀ (xs:List Int) (m:Int),m≤Qk6 m xs∧(∀ a∈xs,a≤Qk6 m xs)∧(Qk6 m xs=m∨Qk6 m xs∈xs)
 | [],m=>⟨Int.le_refl _,fun _ h=>(nomatch h),.inl rfl⟩
 | x::xs,m=>by
  unfold Qk6
  obtain ⟨h1,h2,h3⟩:=Qut xs (if m<x then x else m)
  have k1:m≤(if m<x then x else m):=by split <;> omega
  have k2:x≤(if m<x then x else m):=by split <;> omega
  refine ⟨by omega,fun a ha=>?_,?_⟩
  ·rcases mem_cons.mp ha with rfl | ha
   ·omega
   ·exact h2 a ha
  ·rcases h3 with h3 | h3
   ·rw [h3]
    split
    ·exact .inr mem_cons_self
    ·exact .inl rfl
   ·exact .inr (mem_cons_of_mem _ h3)
def Q47 (K:PySem.W.Frag):List V→Hp→VK→Prop:=fun xs H Q=>Q4s xs H Q∨Qyl K xs H Q
theorem Q7u (K:PySem.W.Frag) (hK:X.K=K) (hc:X.calm=true):QCl X (.builtin "max") (Q47 K):=⟨(Q61 hc).h.or (Q60 K hK hc).h⟩
theorem Q7v (K:PySem.W.Frag):Ob (Q47 K) .max:=by
 intro B H G σ ρ vs ts w Q F r e q
 match ts,e,r with
 | [.int i,.int j],e,r =>
  cases e
  obtain ⟨v,u,rfl,h1,h2⟩:=r.two
  obtain rfl:=h1.int
  obtain rfl:=h2.int
  exact .inl ⟨i,j,rfl,q _ H G F pvI⟩
 | [.lst a],e,r =>
  obtain ⟨v,rfl,h⟩:=r.one
  obtain ⟨l,ws,rfl,z,el,rl⟩:=h.lst
  have e:(match Qd9 a with | some (x::xs)=>some (PV.fz (.int (Qk6 x xs))) | _=>none)=some w:=e
  cases h1:Qd9 a with
  | none=>rw [h1] at e;cases e
  | some is =>
   rw [h1] at e
   cases is with
   | nil=>cases e
   | cons i is =>
    cases e
    rw [Ql9 h1] at rl
    rw [rl.ints_inv] at el
    obtain ⟨k1,k2,k3⟩:=Qut is i
    refine .inr ⟨l,i::is,rfl,SqL.of el,by simp,fun M hM hle=>?_⟩
    have e:M=Qk6 i is:=by
     have a1:=hle (Qk6 i is) (k3.elim (fun k3=>by rw [k3];exact mem_cons_self) fun k3=>mem_cons_of_mem _ k3)
     have a2:M≤Qk6 i is:=by
      rcases mem_cons.mp hM with rfl | hM
      ·exact k1
      ·exact k2 M hM
     omega
    rw [e]
    exact q _ H G F pvI
theorem Q7w:Ob rDvm .dvm:=by
 intro B H G σ ρ vs ts w Q F r e q
 match ts,e,r with
 | [.int i,.int j],e,r =>
  have e:(if 0<j∧j.natAbs<2^64 then some (PV.fz (.tup [.int (i / j),.int (i%j)])) else none)=some w:=e
  by_cases z:0<j∧j.natAbs<2^64
  ·rw [if_pos z] at e;cases e
   obtain ⟨v,u,rfl,h1,h2⟩:=r.two
   obtain rfl:=h1.int
   obtain rfl:=h2.int
   refine ⟨i,j,rfl,⟨z.1,by omega⟩,fun l hl=>q _ _ G (F.grow (Same.upd hl)) ?_⟩
   exact Qf1 (F.prv.mono (Same.upd hl)) Qp (.cons Is.int (.one Is.int)) (by show 2≤100000;decide)
  ·rw [if_neg z] at e;cases e
theorem Qzw:Ob Q4u .int:=by
 intro B H G σ ρ vs ts w Q F r e q
 match ts,e,r with
 | [.int i],e,r =>
  cases e
  obtain ⟨v,rfl,h⟩:=r.one
  obtain rfl:=h.int
  exact .inl ⟨i,rfl,q _ H G F pvI⟩
 | [.bl b],e,r =>
  cases e
  obtain ⟨v,rfl,h⟩:=r.one
  obtain rfl:=h.bl
  exact .inr ⟨b,rfl,q _ H G F pvI⟩
theorem Quu (K:PySem.W.Frag):Ob (Qo4 K) .list:=by
 intro B H G σ ρ vs ts w Q F r e q
 match ts,e,r with
 | [.lst a],e,r =>
  cases e
  obtain ⟨v,rfl,h⟩:=r.one
  obtain ⟨l,ws,rfl,z,el,rl⟩:=h.lst
  refine ⟨l,ws,rfl,.inl (SqL.of el),fun l2 hl=>?_⟩
  obtain ⟨F2,r2⟩:=Qht F hl (Same.upd hl) Qp rl z
  exact q _ _ _ F2 r2
 | [.tup a],e,r =>
  cases e
  obtain ⟨v,rfl,h⟩:=r.one
  have z:=h.tup.tup_len
  obtain ⟨l,ws,rfl,el,rl⟩:=h.tup.tup_inv
  refine ⟨l,ws,rfl,.inr (SqT.of (Q2 el).2),fun l2 hl=>?_⟩
  obtain ⟨F2,r2⟩:=Qht F hl (Same.upd hl) Qp rl z
  exact q _ _ _ F2 r2
theorem Qc6 (K:PySem.W.Frag):Ob (Qsz K) .tup:=by
 intro B H G σ ρ vs ts w Q F r e q
 match ts,e,r with
 | [.lst a],e,r =>
  cases e
  obtain ⟨v,rfl,h⟩:=r.one
  obtain ⟨l,ws,rfl,z,el,rl⟩:=h.lst
  exact ⟨l,ws,rfl,.inl ⟨SqL.of el,fun l2 hl=>q _ _ G (F.grow (Same.upd hl)) (Qf1 (F.prv.mono (Same.upd hl)) Qp (rl.mono (Qbh (Same.upd hl))) z)⟩⟩
 | [.tup a],e,r =>
  cases e
  obtain ⟨v,rfl,h⟩:=r.one
  have h0:=h.tup
  obtain ⟨l,ws,rfl,el,rl⟩:=h.tup.tup_inv
  exact ⟨l,ws,rfl,.inr ⟨SqT.of (Q2 el).2,q _ H G F h0⟩⟩
theorem Qje:∀ {es:List Expr} {env:Env} {pos:Pos},es.all Q9=true→(backTo pos (starEach es env)).any (·.1)=false
 | [],_,_,_=>rfl
 | e::es,env,pos,h=>by
  rw [all_cons,Bool.and_eq_true] at h
  rw [Qb6 h.1]
  have q:=Qje (env:=env) (pos:=pos) h.2
  unfold backTo at q ⊢
  rw [map_cons,any_cons,q]
  rfl
theorem s_bi {id:String} {r:List V→Hp→VK→Prop} {b:Bi} (hc:QCl X (.builtin id) r) (hs:Ob r b) (hm:X.mg x=none) (hv:bootBuiltins x=some (.builtin id)) (ha:QA X (e::es) (tA p es')) (hg:Gl X x) (hn:x ≠ "__name__") (hdb:(x==("__debug__" : Str))=false) (h1:Q9 e=true) (h2:es.all Q9=true) :
  QE X (.Call (.Name x p1) (e::es) [] pos) (tE p (.bi b es')):=(Qi9 hc hm hv ha hg hn hdb h1 (Qje h2)).weak fun σ H Q h=>Q46 hs h
theorem Qabv {T:String} {r:List V→Hp→VK→Prop} {b:Bi} (hc:QCl X (.type T) r) (hs:Ob r b) (hm:X.mg x=none) (hv:bootBuiltins x=some (.type T)) (ha:QA X (e::es) (tA p es')) (hg:Gl X x) (hn:x ≠ "__name__") (hdb:(x==("__debug__" : Str))=false) (h1:Q9 e=true) (h2:es.all Q9=true) :
  QE X (.Call (.Name x p1) (e::es) [] pos) (tE p (.bi b es')):=(Qaaj hc hm hv ha hg hn hdb h1 (Qje h2)).weak fun σ H Q h=>Q46 hs h
theorem IsL.atI {D:Hp} {vs:List V} {ts:List T} {i:Int} {t:T} (r:IsL D vs ts) (h:atI ts i=some t):∃ v,L2.atI vs i=some v∧Is D v t:=by
 unfold L2.atI at h ⊢
 rw [r.length]
 cases e:ixN ts.length i with
 | none=>rw [e] at h;cases h
 | some j =>
  rw [e] at h
  exact r.getT h
theorem s_ix (K:PySem.W.Frag) (hK:X.K=K) (ha:QE X a (tE p a')) (hb:QE X b (tE p b')) (hs:Qlb b):QE X (.Subscript a b pos) (tE p (.ix a' b')) :=
 (Q6u (Q6y K hK) ha hb hs).weak fun σ H Q ⟨G,ρ,F,h⟩=>by
  unfold evE at h
  refine tE2 F h fun ra rb ρ2 x y H2 G2 F2 r1 r2 h2=>?_
  obtain ⟨t,u,c1,c2,h3⟩:=Qzn h2
  have hx:=r1.rdb F2 c1
  have hy:=r2.rdb F2 c2
  cases e:Qzi t u with
  | none=>rw [e] at h3;exact False.elim h3
  | some w =>
   rw [e] at h3
   cases t <;> first | (cases e;done) | skip
   all_goals (cases u <;> first | (cases e;done) | skip)
   ·obtain rfl:=hy.int
    obtain ⟨l,ws,rfl,el,rl⟩:=hx.tup.tup_inv
    obtain ⟨v,ev,iv⟩:=rl.atI e
    exact .inr (.inl ⟨l,ws,_,v,rfl,rfl,SqT.of (Q2 el).2,ev,h3 v H2 G2 F2 iv⟩)
   ·obtain rfl:=hy.int
    obtain ⟨l,ws,rfl,z,el,rl⟩:=hx.lst
    obtain ⟨v,ev,iv⟩:=rl.atI e
    exact .inl ⟨l,ws,_,v,rfl,rfl,SqL.of el,ev,h3 v H2 G2 F2 iv⟩
def tO (p:Pr) (es:Es):TO:=fun σ H Q=>∃ G ρ,FI (Qa3 H G σ ρ) H G σ ρ∧Fin p (Qa3 H G σ ρ) σ (evA p.cf es ρ) fun rs ρ1=>∃ i,Qkd rs=some i∧∀ H1 G1,FI (Qa3 H G σ ρ) H1 G1 σ ρ1→Q i H1
theorem QO.weak {X:Cx} {e:Option Expr} {t t':TO} (h:QO X e t) (q:∀ σ H Q,t' σ H Q→t σ H Q):QO X e t':=⟨fun pins s σ H Q I z=>h.h pins s σ H Q I (q _ _ _ z)⟩
theorem Qjf:QO X none (tO p .nil):=q_no.weak fun σ H Q ⟨G,ρ,F,h⟩=>by
 unfold evA at h
 obtain ⟨i,e,k⟩:=h
 cases e
 exact k H G F
theorem Q27 {r:PV} {i:Option Int} (h:Qkd [r]=some i):∃ j,r=.fz (.int j)∧i=some j:=by
 cases r with
 | fz t=>cases t <;> first | (cases h;done) | exact ⟨_,rfl,(Option.some.inj h).symm⟩
 | ow t=>cases h
 | sl i=>cases h
theorem Qjg (ha:QE X a (tE p a')):QO X (some a) (tO p (.cons a' .nil)):=(Qs2 ha).weak fun σ H Q ⟨G,ρ,F,h⟩=>by
 unfold evA at h
 refine ⟨G,ρ,F,h.bind.imp fun r ρ1 h1 v H1 G1 F1 r1=>?_⟩
 have h1:=h1.bind
 unfold evA at h1
 obtain ⟨i,e,k⟩:=h1
 obtain ⟨j,rfl,rfl⟩:=Q27 e
 obtain rfl:=r1.is.int_inv
 exact ⟨j,rfl,k H1 G1 F1⟩
theorem Qabw (K:PySem.W.Frag) (hK:X.K=K) {lo hi:Option Expr} {lo' hi':Es} (ha:QE X a (tE p a')) (hl:QO X lo (tO p lo')) (hh:QO X hi (tO p hi')):QE X (.Subscript a (.Slice lo hi none p2) pos) (tE p (.slc a' lo' hi')) :=
 (q_sl (o_sl K hK) ha hl hh).weak fun σ H Q ⟨G,ρ,F,h⟩=>by
  unfold evE at h
  refine ⟨G,ρ,F,h.bind.imp fun ra ρ1 h1 v H1 G1 F1 r1=>?_⟩
  refine ⟨G1,ρ1,F1.self,h1.bind.rebase F1 fun rl ρ2 h2=>?_⟩
  cases el:Qkd rl with
  | none=>rw [el] at h2;exact False.elim h2
  | some l =>
   rw [el] at h2
   refine ⟨l,rfl,fun H2 G2 F2=>⟨G2,ρ2,F2.self,h2.bind.rebase (F1.trans F2) fun rh ρ3 h3=>?_⟩⟩
   cases eh:Qkd rh with
   | none=>rw [eh] at h3;exact False.elim h3
   | some u =>
    rw [eh] at h3
    refine ⟨u,rfl,fun H3 G3 F3=>?_⟩
    have F12:=F1.trans F2
    have F4:=F12.trans F3
    cases ec:cont ρ3 ra with
    | none=>rw [ec] at h3;exact False.elim h3
    | some t =>
     rw [ec] at h3
     obtain ⟨w,ew,k⟩:=Qpa h3
     have hx:=((r1.step F1 F2).step F12 F3).rdb F4 ec
     cases t <;> first | (cases ew;done) | skip
     ·cases ew
      exact Qyx F4.prv hx.tup fun y H5 s5 i5=>k y H5 G3 (F4.grow s5) i5
     ·cases ew
      rename_i ts
      obtain ⟨c,ws,rfl,z,ec,rl⟩:=hx.lst
      refine .inl ⟨c,ws,rfl,SqL.of ec,fun q hq=>?_⟩
      obtain ⟨F5,r5⟩:=Qht F4 hq (Same.upd hq) Qp (rl.cut l u) (by have:=Qqp ts l u;omega)
      exact k _ _ _ F5 r5
end
theorem Qf4 (i:Nat):Qa [] i=.un:=rfl
theorem Qb (s:Slot) (ρ:En):Qa (s::ρ) 0=s:=rfl
theorem Qd (s:Slot) (ρ:En) (i:Nat):Qa (s::ρ) (i+1)=Qa ρ i:=by unfold Qa;rw [getElem?_cons_succ]
theorem Qdx {ρ:En} {i j:Nat} {s:Slot}:Qa (ρ.set j s) i=if i=j∧j<ρ.length then s else Qa ρ i:=by
 unfold Qa
 by_cases h:i=j∧j<ρ.length
 ·rw [if_pos h]
  obtain ⟨rfl,hj⟩:=h
  rw [getElem?_set_self hj]
 ·rw [if_neg h]
  by_cases e:i=j
  ·subst e
   have hl:ρ.length≤i:=by
    rcases Nat.lt_or_ge i ρ.length with z | z
    ·exact absurd ⟨rfl,z⟩ h
    ·exact z
   rw [List.set_eq_of_length_le hl]
  ·rw [getElem?_set_ne (fun z=>e z.symm)]
theorem Qke {ρ:En} {i:Nat} (h:Qa ρ i≠.un):i<ρ.length:=by
 rcases Nat.lt_or_ge i ρ.length with z | z
 ·exact z
 ·exact absurd (by unfold Qa;rw [List.getElem?_eq_none_iff.mpr z]) h
theorem Qcb (rs:List PV) (fin:List T) (i:Nat) (s:Slot):Qy rs fin i s=s∨∃ k t,Qi rs i=some k∧fin[k]?=some t∧Qy rs fin i s=s.put t:=by
 unfold Qy
 cases h1:Qi rs i with
 | none=>exact .inl rfl
 | some k =>
  cases h2:fin[k]? with
  | none=>exact .inl (by simp only [h2])
  | some t=>exact .inr ⟨k,t,rfl,h2,by simp only [h2]⟩
theorem Qgs (rs:List PV) (fin:List T):∀ (ρ:En) (n i:Nat),Qa (Qk rs fin n ρ) i=Qy rs fin (n+i) (Qa ρ i)
 | [],n,i=>by
  unfold Qk
  rw [Qf4]
  rcases Qcb rs fin (n+i) .un with h | ⟨k,t,_,_,h⟩
  ·exact h.symm
  ·rw [h];rfl
 | s::ρ,n,0=>by unfold Qk;rfl
 | s::ρ,n,i+1=>by
  unfold Qk
  rw [Qd,Qd,Qgs rs fin ρ (n+1) i,show n+1+i=n+(i+1) by omega]
theorem Qdf (ρ:En) (rs:List PV) (fin:List T) (i:Nat):Qa (Qav ρ rs fin) i=Qy rs fin i (Qa ρ i):=by
 unfold Qav
 rw [Qgs,Nat.zero_add]
theorem Qjh (rs:List PV) (fin:List T):∀ (ρ:En) (n:Nat),(Qk rs fin n ρ).length=ρ.length
 | [],_=>rfl
 | s::ρ,n=>by unfold Qk;rw [length_cons,length_cons,Qjh rs fin ρ (n+1)]
theorem Qji (ρ:En) (i:Nat):Qai ρ (.sl i)=match Qa ρ i with
 | .ow t=>some (.ml t)
 | .ml t=>some (.ml t)
 | .ro t=>some (.ro t)
 | _=>none:=rfl
theorem PVRs.len {H0 H:Hp} {G:Addr→Prop} {σ:St} {ρ:En} {vs:List V} {rs:List PV} (h:PVRs H0 H G σ ρ vs rs):vs.length=rs.length:=by
 induction h with
 | nil=>rfl
 | cons _ _ ih=>rw [length_cons,length_cons,ih]
theorem PVRs.get {H0 H:Hp} {G:Addr→Prop} {σ:St} {ρ:En} {vs:List V} {rs:List PV} (h:PVRs H0 H G σ ρ vs rs):∀ {i:Nat} {v:V} {r:PV},vs[i]?=some v→rs[i]?=some r→PVR H0 H G σ ρ v r:=by
 induction h with
 | nil=>intro i v r e;simp at e
 | cons a _ ih =>
  intro i v r e1 e2
  cases i with
  | zero=>simp at e1 e2;subst e1;subst e2;exact a
  | succ i=>rw [getElem?_cons_succ] at e1 e2;exact ih e1 e2
theorem Qf5 {ρ:En}:∀ {rs:List PV} {as:List Arg},Qw ρ rs=some as→as.length=rs.length∧∀ (i:Nat) (a:Arg),as[i]?=some a→∃ r,rs[i]?=some r∧Qai ρ r=some a
 | [],as,e=>by cases e;exact ⟨rfl,fun i a h=>by simp at h⟩
 | r::rs,as,e=>by
  unfold Qw at e
  cases h1:Qai ρ r with
  | none=>rw [h1] at e;cases e
  | some a0 =>
   cases h2:Qw ρ rs with
   | none=>rw [h1,h2] at e;cases e
   | some as0 =>
    rw [h1,h2] at e
    cases e
    obtain ⟨q1,q2⟩:=Qf5 h2
    refine ⟨by rw [length_cons,length_cons,q1],fun i a h=>?_⟩
    cases i with
    | zero=>simp at h;subst h;exact ⟨r,rfl,h1⟩
    | succ i=>rw [getElem?_cons_succ] at h ⊢;exact q2 i a h
theorem Qma:∀ {rs:List PV},Qt rs=true→∀ (i j k:Nat),rs[i]?=some (.sl k)→rs[j]?=some (.sl k)→i=j
 | [],_,i,j,k,e,_=>by simp at e
 | r::rs,h,i,j,k,e1,e2=>by
  have tl:Qt rs=true:=by
   cases r with
   | sl p=>unfold Qt at h;rw [Bool.and_eq_true] at h;exact h.2
   | fz t=>exact h
   | ow t=>exact h
  have hd:∀ (m:Nat),r=PV.sl k→rs[m]?=some (PV.sl k)→False:=fun m er em=>by
   subst er
   unfold Qt at h
   rw [Bool.and_eq_true] at h
   have q:=all_eq_true.mp h.1 _ (mem_of_getElem? em)
   simp at q
  cases i with
  | zero =>
   cases j with
   | zero=>rfl
   | succ j=>simp at e1;rw [getElem?_cons_succ] at e2;exact (hd j e1 e2).elim
  | succ i =>
   cases j with
   | zero=>simp at e2;rw [getElem?_cons_succ] at e1;exact (hd i e2 e1).elim
   | succ j =>
    rw [getElem?_cons_succ] at e1 e2
    rw [Qma tl i j k e1 e2]
theorem Qej:∀ {rs:List PV} {i k:Nat},Qi rs i=some k→rs[k]?=some (.sl i)
 | [],i,k,e=>by cases e
 | .sl j::rs,i,k,e=>by
  unfold Qi at e
  by_cases h:j=i
  ·rw [if_pos h] at e;cases e;rw [h];rfl
  ·rw [if_neg h] at e
   cases h2:Qi rs i with
   | none=>rw [h2] at e;cases e
   | some m=>rw [h2] at e;cases e;rw [getElem?_cons_succ];exact Qej h2
 | .fz t::rs,i,k,e=>by
  unfold Qi at e
  cases h2:Qi rs i with
  | none=>rw [h2] at e;cases e
  | some m=>rw [h2] at e;cases e;rw [getElem?_cons_succ];exact Qej h2
 | .ow t::rs,i,k,e=>by
  unfold Qi at e
  cases h2:Qi rs i with
  | none=>rw [h2] at e;cases e
  | some m=>rw [h2] at e;cases e;rw [getElem?_cons_succ];exact Qej h2
theorem Qjj:∀ {rs:List PV} {i k:Nat},Qi rs i=none→rs[k]?≠some (.sl i)
 | [],i,k,_,e=>by simp at e
 | r::rs,i,k,h,e=>by
  have tl:Qi rs i=none:=by
   cases r with
   | sl j =>
    unfold Qi at h
    by_cases z:j=i
    ·rw [if_pos z] at h;cases h
    ·rw [if_neg z] at h;simpa using h
   | fz t=>unfold Qi at h;simpa using h
   | ow t=>unfold Qi at h;simpa using h
  cases k with
  | zero =>
   simp at e
   subst e
   unfold Qi at h
   rw [if_pos rfl] at h
   cases h
  | succ k=>rw [getElem?_cons_succ] at e;exact Qjj tl e
theorem Qob:∀ {vs:List V} {rs:List PV} {i:Nat} {t:T} {b:Addr},vs[i]?=some (.ref b)→rs[i]?=some (.ow t)→Ql7 vs rs b
 | [],_,_,_,_,e,_=>by simp at e
 | _::_,[],_,_,_,_,e=>by simp at e
 | v::vs,r::rs,0,t,b,e1,e2=>by
  simp at e1 e2
  subst e1;subst e2
  exact .inl rfl
 | v::vs,r::rs,i+1,t,b,e1,e2=>by
  rw [getElem?_cons_succ] at e1 e2
  have q:=Qob e1 e2
  cases r with
  | fz t=>exact q
  | sl j=>exact q
  | ow t=>exact .inr q
def ArgR (H:Hp) (G:Addr→Prop) (v:V):Arg→Prop
 | .fz t=>Is (dls H G) v t
 | .ml t=>∃ a,v=.ref a∧G a∧OwnAt H G a t
 | .ro t=>∃ a,v=.ref a∧G a∧OwnAt H G a t
noncomputable def Arg.prv:Arg→Bool
 | .fz _=>false
 | _=>true
structure ArgsR (H:Hp) (G:Addr→Prop) (vs:List V) (as:List Arg):Prop where
 len:vs.length=as.length
 get:∀ (i:Nat) (v:V) (a:Arg),vs[i]?=some v→as[i]?=some a→ArgR H G v a
 apart:∀ (i j:Nat) (b:Addr) (x y:Arg),as[i]?=some x→as[j]?=some y→x.prv=true→y.prv=true→vs[i]?=some (.ref b)→vs[j]?=some (.ref b)→i=j
def Quv (vs:List V) (as:List Arg) (b:Addr):Prop:=∃ (i:Nat) (t:T),as[i]?=some (.ml t)∧vs[i]?=some (.ref b)
structure CallP (H:Hp) (G:Addr→Prop) (vs:List V) (as:List Arg) (H':Hp) (G':Addr→Prop) (fin:List T):Prop where
 prv:Pen H' G'
 chg:∀ b o,¬ Quv vs as b→H b=some o→H' b=some o
 keep:∀ b o,H b=some o→∃ o',H' b=some o'
 gg:∀ b,G b→G' b
 gn:∀ b,G' b→G b∨H b=none
 fin:∀ (i:Nat) (t:T) (a:Addr),as[i]?=some (.ml t)→vs[i]?=some (.ref a)→∃ t',fin[i]?=some t'∧OwnAt H' G' a t'
def RetR (H H':Hp) (G':Addr→Prop) (v:V):PV→Prop
 | .fz t=>Is (dls H' G') v t
 | .ow t=>∃ a,v=.ref a∧H a=none∧G' a∧OwnAt H' G' a t
 | .sl _=>False
def FROk (mg:Str→Option Value) (H:Hp) (G:Addr→Prop) (vs:List V) (as:List Arg) (o:FR) (Q:VK) (E:XK):Prop:=match o with
 | .ok r fin=>∀ v H' G',CallP H G vs as H' G' fin→RetR H H' G' v r→Q v H'
 | .xn x fin=>∀ cls dx H' G',CallP H G vs as H' G' fin→Q2y mg H' x cls dx→E cls dx H'
 | .no=>False
def spF (cf:CF) (mg:Str→Option Value) (f:Nat):Sp:=fun vs H Q E=>∃ G as,ArgsR H G vs as∧Pen H G∧FROk mg H G vs as (cf f as) Q E
section
variable {p:Pr} {B:Bs} {H H1 H2:Hp} {G G1 G2:Addr→Prop} {σ:St} {ρ:En} {vs:List V} {rs:List PV} {as:List Arg} {fin:List T}
theorem Qoc {r:PV} {a:Arg} (e:Qai ρ r=some a) (h:a.prv=true):∃ i t,r=.sl i∧(Qa ρ i).prv=some t:=by
 cases r with
 | fz t=>cases e;cases h
 | ow t=>cases e;cases h
 | sl i =>
  rw [Qji] at e
  cases hs:Qa ρ i with
  | un=>rw [hs] at e;cases e
  | pin _=>rw [hs] at e;cases e
  | fx _=>rw [hs] at e;cases e
  | fz t=>rw [hs] at e;cases e
  | ow t=>exact ⟨i,t,rfl,by rw [hs];rfl⟩
  | ml t=>exact ⟨i,t,rfl,by rw [hs];rfl⟩
  | ro t=>exact ⟨i,t,rfl,by rw [hs];rfl⟩
theorem Qzx {r:PV} {t:T} (e:Qai ρ r=some (.ml t)):∃ i,r=.sl i∧(Qa ρ i=.ow t∨Qa ρ i=.ml t):=by
 cases r with
 | fz t=>cases e
 | ow t=>cases e
 | sl i =>
  rw [Qji] at e
  cases hs:Qa ρ i with
  | un=>rw [hs] at e;cases e
  | pin _=>rw [hs] at e;cases e
  | fx _=>rw [hs] at e;cases e
  | fz t=>rw [hs] at e;cases e
  | ow t=>rw [hs] at e;cases e;exact ⟨i,rfl,.inl hs⟩
  | ml t=>rw [hs] at e;cases e;exact ⟨i,rfl,.inr hs⟩
  | ro t=>rw [hs] at e;cases e
theorem Q28 (F:FI B H G σ ρ) (r:PVRs B.H H G σ ρ vs rs) (ea:Qw ρ rs=some as) (hb:Qt rs=true):∃ G',FI B H G' σ ρ∧ArgsR H G' vs as:=by
 have F':=F.lessG (Ql7 vs rs) fun b z=>r.tmp z
 obtain ⟨l1,g1⟩:=Qf5 ea
 refine ⟨_,F',by rw [l1];exact r.len,fun i v a ev e=>?_,fun i j b x y ex ey px py vx vy=>?_⟩
 ·obtain ⟨q,eq,ar⟩:=g1 i a e
  have pv:=r.get ev eq
  cases q with
  | fz t=>cases ar;exact Is.mono (Qdl fun b h=>h.1) pv.is
  | ow t =>
   cases ar
   obtain ⟨c,rfl,_,_,_,ob,ec,ql⟩:=pv
   exact ql.is (by rw [Qca fun z=>z.2 (Qob ev eq)];exact ec) (Qdl fun b h=>h.1)
  | sl k =>
   have pv:σ[k]?=some (some v):=pv
   rw [Qji] at ar
   have sk:=F'.slot k
   cases hs:Qa ρ k with
   | un=>rw [hs] at ar;cases ar
   | pin _=>rw [hs] at ar;cases ar
   | fx _=>rw [hs] at ar;cases ar
   | fz t=>rw [hs] at ar;cases ar
   | ow t=>rw [hs] at ar sk;cases ar;obtain ⟨c,h1,h2,h3⟩:=sk;rw [pv] at h1;cases h1;exact ⟨c,rfl,h2,h3⟩
   | ml t=>rw [hs] at ar sk;cases ar;obtain ⟨c,h1,h2,h3⟩:=sk;rw [pv] at h1;cases h1;exact ⟨c,rfl,h2,h3⟩
   | ro t=>rw [hs] at ar sk;cases ar;obtain ⟨c,h1,h2,h3⟩:=sk;rw [pv] at h1;cases h1;exact ⟨c,rfl,h2,h3⟩
 ·obtain ⟨q1,e1,a1⟩:=g1 i x ex
  obtain ⟨q2,e2,a2⟩:=g1 j y ey
  obtain ⟨k1,t1,rfl,s1⟩:=Qoc a1 px
  obtain ⟨k2,t2,rfl,s2⟩:=Qoc a2 py
  have p1:σ[k1]?=some (some (.ref b)):=r.get vx e1
  have p2:σ[k2]?=some (some (.ref b)):=r.get vy e2
  have ek:=F.apart k1 k2 b ⟨⟨t1,s1⟩,p1⟩ ⟨⟨t2,s2⟩,p2⟩
  subst ek
  exact Qma hb i j k1 e1 e2
theorem Qlg {s:Slot} {t u:T} (h:(s.put t).prv=some u):∃ w,s.prv=some w:=by
 cases s <;> first | exact ⟨_,rfl⟩ | cases h
theorem Qmb {i:Nat} {u:T} (h:(Qa (Qav ρ rs fin) i).prv=some u):∃ w,(Qa ρ i).prv=some w:=by
 rw [Qdf] at h
 rcases Qcb rs fin i (Qa ρ i) with e | ⟨k,t,_,_,e⟩
 ·rw [e] at h;exact ⟨u,h⟩
 ·rw [e] at h;exact Qlg h
theorem Q29 {i:Nat} {u:T} (h:Qa (Qav ρ rs fin) i=.ow u):∃ w,Qa ρ i=.ow w:=by
 rw [Qdf] at h
 rcases Qcb rs fin i (Qa ρ i) with e | ⟨k,t,_,_,e⟩
 ·rw [e] at h;exact ⟨u,h⟩
 ·rw [e] at h
  cases hs:Qa ρ i <;> rw [hs] at h <;> first | exact ⟨_,rfl⟩ | cases h
theorem Quw {i:Nat} {u:T} (h:Qa (Qav ρ rs fin) i=.ml u):∃ w,Qa ρ i=.ml w:=by
 rw [Qdf] at h
 rcases Qcb rs fin i (Qa ρ i) with e | ⟨k,t,_,_,e⟩
 ·rw [e] at h;exact ⟨u,h⟩
 ·rw [e] at h
  cases hs:Qa ρ i <;> rw [hs] at h <;> first | exact ⟨_,rfl⟩ | cases h
theorem Q3a {i:Nat} {u:T} (h:Qa (Qav ρ rs fin) i=.ro u):∃ w,Qa ρ i=.ro w:=by
 rw [Qdf] at h
 rcases Qcb rs fin i (Qa ρ i) with e | ⟨k,t,_,_,e⟩
 ·rw [e] at h;exact ⟨u,h⟩
 ·rw [e] at h
  cases hs:Qa ρ i <;> rw [hs] at h <;> first | exact ⟨_,rfl⟩ | cases h
theorem Q3b {i:Nat} {u:T} (h:Qa (Qav ρ rs fin) i=.fx u):∃ w,Qa ρ i=.fx w:=by
 rw [Qdf] at h
 rcases Qcb rs fin i (Qa ρ i) with e | ⟨k,t,_,_,e⟩
 ·rw [e] at h;exact ⟨u,h⟩
 ·rw [e] at h
  cases hs:Qa ρ i <;> rw [hs] at h <;> first | exact ⟨_,rfl⟩ | cases h
theorem FI.called (F:FI B H G σ ρ) (A:ArgsR H G vs as) (hv:∀ (k i:Nat) (v:V),rs[k]?=some (.sl i)→vs[k]?=some v→σ[i]?=some (some v)) (hl:vs.length=rs.length) (ea:Qw ρ rs=some as) (hb:Qt rs=true) (C:CallP H G vs as H1 G1 fin):FI B H1 G1 σ (Qav ρ rs fin):=by
 have ml:∀ b,Quv vs as b→∃ (k i:Nat) (t:T),rs[k]?=some (.sl i)∧as[k]?=some (.ml t)∧vs[k]?=some (.ref b)∧(Qa ρ i=.ow t∨Qa ρ i=.ml t)∧σ[i]?=some (some (.ref b)):=fun b h=>by
  obtain ⟨k,t,e1,e2⟩:=h
  obtain ⟨q,eq,ar⟩:=(Qf5 ea).2 k _ e1
  obtain ⟨i,rfl,hs⟩:=Qzx ar
  exact ⟨k,i,t,eq,e1,e2,hs,hv k i _ eq e2⟩
 have mp:∀ b,Quv vs as b→OwA σ ρ b∨MlA σ ρ b:=fun b h=>by
  obtain ⟨k,i,t,_,_,_,hs | hs,e⟩:=ml b h
  ·exact .inl ⟨i,t,hs,e⟩
  ·exact .inr ⟨i,t,hs,e⟩
 have sm:Same (dls H G) (dls H1 G1):=fun b o e=>by
  obtain ⟨n,e⟩:=Q2 e
  have e1:=C.chg b o (fun z=>n ((mp b z).elim F.ownG F.mlG)) e
  rw [Qca fun z=>?_]
  ·exact e1
  ·rcases C.gn b z with z | z
   ·exact n z
   ·rw [z] at e;cases e
 -- a slot's list that is not lent
 have stay:∀ i a t,(Qa ρ i).prv=some t→σ[i]?=some (some (.ref a))→OwnAt H G a t→((∀ t,Qa ρ i≠.ow t)∧(∀ t,Qa ρ i≠.ml t)∨Qi rs i=none)→OwnAt H1 G1 a t:=fun i a t e s o h=>by
  refine o.mono sm fun u eu=>C.chg a u (fun z=>?_) eu
  obtain ⟨k,j,t',e1,_,_,hs,e2⟩:=ml a z
  have ej:j=i:=F.apart j i a ⟨⟨t',by rcases hs with hs | hs <;> rw [hs] <;> rfl⟩,e2⟩ ⟨⟨t,e⟩,s⟩
  subst ej
  rcases h with ⟨h1,h2⟩ | h
  ·rcases hs with hs | hs
   ·exact h1 _ hs
   ·exact h2 _ hs
  ·exact Qjj h e1
 -- one that is lent
 have lent:∀ i a t k,(Qa ρ i=.ow t∨Qa ρ i=.ml t)→σ[i]?=some (some (.ref a))→Qi rs i=some k→∃ t',fin[k]?=some t'∧OwnAt H1 G1 a t':=fun i a t k hs s hk=>by
  have e1:=Qej hk
  have hk':k<vs.length:=by rw [hl];exact (List.getElem?_eq_some_iff.mp e1).1
  have e2:=hv k i _ e1 (getElem?_eq_getElem hk')
  rw [s] at e2
  have e3:vs[k]?=some (.ref a):=by rw [getElem?_eq_getElem hk'];rw [←Option.some.inj (Option.some.inj e2)]
  have hk2:k<as.length:=by rw [←A.len];exact hk'
  obtain ⟨q,eq,ar⟩:=(Qf5 ea).2 k _ (getElem?_eq_getElem hk2)
  rw [e1] at eq
  cases eq
  have e4:as[k]?=some (.ml t):=by
   rw [getElem?_eq_getElem hk2,←ar]
   rw [Qji]
   rcases hs with hs | hs <;> rw [hs]
  exact C.fin k t a e4 e3
 exact {
  len:=by unfold Qav;rw [Qjh];exact F.len
  slot:=fun i=>by
   have q:=F.slot i
   have bc:=Qcb rs fin i (Qa ρ i)
   rw [Qdf]
   cases hs:Qa ρ i with
   | un =>
    rw [hs] at bc
    rcases bc with e | ⟨k,t,_,_,e⟩ <;> rw [e] <;> trivial
   | pin a =>
    rw [hs] at q bc
    rcases bc with e | ⟨k,t,_,_,e⟩ <;> rw [e] <;> exact q
   | fz t =>
    rw [hs] at q bc
    obtain ⟨v,e1,e2⟩:=q
    rcases bc with e | ⟨k,t,_,_,e⟩ <;> rw [e] <;> exact ⟨v,e1,e2.mono sm⟩
   | fx t =>
    rw [hs] at q bc
    obtain ⟨v,o,e1,e3,e2⟩:=q
    rcases bc with e | ⟨k,t,_,_,e⟩ <;> rw [e] <;> exact ⟨v,o,e1,sm _ _ e3,e2.mono sm⟩
   | ro t =>
    rw [hs] at q bc
    obtain ⟨a,e1,g,o⟩:=q
    have o':=stay i a t (by rw [hs];rfl) e1 o (.inl ⟨fun t z=>(by rw [hs] at z;cases z),fun t z=>(by rw [hs] at z;cases z)⟩)
    rcases bc with e | ⟨k,t,_,_,e⟩ <;> rw [e] <;> exact ⟨a,e1,C.gg a g,o'⟩
   | ow t =>
    rw [hs] at q bc
    obtain ⟨a,e1,g,o⟩:=q
    cases hp:Qi rs i with
    | none =>
     have o':=stay i a t (by rw [hs];rfl) e1 o (.inr hp)
     rcases bc with e | ⟨k,t',h,_,e⟩
     ·rw [e];exact ⟨a,e1,C.gg a g,o'⟩
     ·rw [hp] at h;cases h
    | some k =>
     obtain ⟨t',ef,o'⟩:=lent i a t k (.inl hs) e1 hp
     have e:Qy rs fin i (.ow t)=.ow t':=by unfold Qy;rw [hp];simp only [ef];rfl
     rw [e]
     exact ⟨a,e1,C.gg a g,o'⟩
   | ml t =>
    rw [hs] at q bc
    obtain ⟨a,e1,g,o⟩:=q
    cases hp:Qi rs i with
    | none =>
     have o':=stay i a t (by rw [hs];rfl) e1 o (.inr hp)
     rcases bc with e | ⟨k,t',h,_,e⟩
     ·rw [e];exact ⟨a,e1,C.gg a g,o'⟩
     ·rw [hp] at h;cases h
    | some k =>
     obtain ⟨t',ef,o'⟩:=lent i a t k (.inr hs) e1 hp
     have e:Qy rs fin i (.ml t)=.ml t':=by unfold Qy;rw [hp];simp only [ef];rfl
     rw [e]
     exact ⟨a,e1,C.gg a g,o'⟩
  apart:=fun i j a h1 h2=>F.apart i j a ⟨let ⟨u,e⟩:=h1.1;Qmb e,h1.2⟩ ⟨let ⟨u,e⟩:=h2.1;Qmb e,h2.2⟩
  prv:=C.prv
  chg:=fun b o h1 h2 e=>C.chg b o (fun z=>by
   rcases mp b z with z | z
   ·rcases F.newO b z with z | z
    ·rw [e] at z;cases z
    ·exact h1 z
   ·exact h2 (F.newM b z)) (F.chg b o h1 h2 e)
  keep:=fun b o e=>by
   obtain ⟨o1,e1⟩:=F.keep b o e
   exact C.keep b o1 e1
  newO:=fun a h=>by
   obtain ⟨i,t,e,s⟩:=h
   obtain ⟨w,e⟩:=Q29 e
   exact F.newO a ⟨i,w,e,s⟩
  newM:=fun a h=>by
   obtain ⟨i,t,e,s⟩:=h
   obtain ⟨w,e⟩:=Quw e
   exact F.newM a ⟨i,w,e,s⟩
  fix:=fun i a h=>by
   obtain ⟨⟨t,e⟩,s⟩:=h
   refine F.fix i a ⟨?_,s⟩
   rcases e with e | e | e
   ·obtain ⟨w,e⟩:=Quw e;exact ⟨w,.inl e⟩
   ·obtain ⟨w,e⟩:=Q3a e;exact ⟨w,.inr (.inl e)⟩
   ·obtain ⟨w,e⟩:=Q3b e;exact ⟨w,.inr (.inr e)⟩
  gg:=fun b h=>C.gg b (F.gg b h)
  gn:=fun b h=>by
   rcases C.gn b h with z | z
   ·exact F.gn b z
   ·exact .inr (F.free z)
  bp:=F.bp }
end
section
variable {X:Cx} {p:Pr} {x:Str} {e:Expr} {es:List Expr} {es':Es} {f k:Nat} {ps:List Str} {pos p1:Pos}
theorem Q3c {σ:St} {H:Hp} {Q:VK} (h:tE p (.call f es') σ H Q):Qy0 (spF p.cf p.mg f) p.R (tA p es') σ H Q:=by
 obtain ⟨G,ρ,F,h⟩:=h
 unfold evE at h
 refine ⟨G,ρ,F,h.bind.imp fun rs ρ1 h1 vs H1 G1 F1 r1=>?_⟩
 unfold Qkw at h1
 by_cases hb:Qt rs=true
 ·rw [if_pos hb] at h1
  cases ea:Qw ρ1 rs with
  | none=>rw [ea] at h1;exact False.elim h1
  | some as =>
   rw [ea] at h1
   replace h1:Fin p (Qa3 H G σ ρ) σ (match p.cf f as with | .ok r fin=>.ok r (Qav ρ1 rs fin) | .xn x fin=>.xn x (Qav ρ1 rs fin) | .no=>.no) _:=h1
   obtain ⟨G',F',A⟩:=Q28 (B:=Qa3 H G σ ρ) F1 r1 ea hb
   have hv:∀ (k i:Nat) (v:V),rs[k]?=some (.sl i)→vs[k]?=some v→σ[i]?=some (some v):=fun k i v e1 e2=>r1.get e2 e1
   refine ⟨G',as,A,F'.prv,?_⟩
   cases ec:p.cf f as with
   | no=>rw [ec] at h1;exact False.elim h1
   | xn z fin =>
    rw [ec] at h1
    exact fun cls dx H' G2 C xr=>h1 cls dx H' G2 (F'.called A hv r1.len ea hb C) xr
   | ok r fin =>
    rw [ec] at h1
    refine fun v H' G2 C rr=>h1 v H' G2 (F'.called A hv r1.len ea hb C) ?_
    cases r with
    | sl i=>exact False.elim rr
    | fz t=>exact rr
    | ow t =>
     obtain ⟨a,rfl,n,g,o⟩:=rr
     refine ⟨a,rfl,F'.free n,g,fun i hp=>?_,o⟩
     obtain ⟨w,e⟩:=Qmb hp.1.choose_spec
     obtain ⟨_,t,ob,ea,_⟩:=PrvAt.at F' ⟨⟨w,e⟩,hp.2⟩
     rw [n] at ea
     cases ea
 ·rw [if_neg hb] at h1
  exact False.elim h1
theorem Q7x (h:Qyz X.prog X.w X.K X.mg X.base x ps k (spF p.cf p.mg f)) (pz:Qe6 X p.R) (hr:Room k X.A) (ha:QA X (e::es) (tA p es')) (hg:Gl X x) (hdb:(x==("__debug__" : Str))=false) (h1:Q9 e=true) (h2:es.all Q9=true) :
  QE X (.Call (.Name x p1) (e::es) [] pos) (tE p (.call f es')):=(Qaax h pz hr ha hg hdb (Qb6 h1) (Qje h2)).weak fun σ H Q h=>Q3c h
end
section
variable {B:Bs} {H H1:Hp} {G G1:Addr→Prop} {σ:St} {ρ ρ':En} {i:Nat} {v:V} {t:T}
theorem Qmc {w:Option V} (h:i<σ.length):(σ.set i w)[i]?=some w:=by rw [getElem?_set_self h]
theorem Qg6 {j:Nat} {w:Option V} (h:j≠i):(σ.set i w)[j]?=σ[j]?:=by rw [getElem?_set_ne (fun z=>h z.symm)]
theorem FI.lay (F:FI B H G σ ρ) (hi:i<ρ.length) {s:Slot} {w:Option V} (hs:Ql5 H G (σ.set i w) i s) (hp:∀ a,(∃ t,s.prv=some t)→w=some (.ref a)→∀ j,j≠i→¬ PrvAt σ ρ j a)
  (ho:∀ t a,s=.ow t→w=some (.ref a)→B.H a=none∨B.O a) (hm:∀ t,s≠.ml t) (hr:∀ t,s≠.ro t) (hx:∀ t,s≠.fx t:=by intro _ z;cases z):FI B H G (σ.set i w) (ρ.set i s):=by
 have hl:i<σ.length:=by rw [F.len];exact hi
 have sa:∀ j,Qa (ρ.set i s) j=if j=i then s else Qa ρ j:=fun j=>by
  rw [Qdx]
  by_cases e:j=i
  ·rw [if_pos ⟨e,hi⟩,if_pos e]
  ·rw [if_neg (fun z=>e z.1),if_neg e]
 have old:∀ j a,PrvAt (σ.set i w) (ρ.set i s) j a→j≠i→PrvAt σ ρ j a:=fun j a h n=>by
  obtain ⟨⟨u,e⟩,q⟩:=h
  rw [sa,if_neg n] at e
  rw [Qg6 n] at q
  exact ⟨⟨u,e⟩,q⟩
 have here:∀ a,PrvAt (σ.set i w) (ρ.set i s) i a→(∃ t,s.prv=some t)∧w=some (.ref a):=fun a h=>by
  obtain ⟨⟨u,e⟩,q⟩:=h
  rw [sa,if_pos rfl] at e
  rw [Qmc hl] at q
  exact ⟨⟨u,e⟩,Option.some.inj q⟩
 exact {
  len:=by rw [length_set,length_set];exact F.len
  slot:=fun j=>by
   rw [sa]
   by_cases e:j=i
   ·rw [if_pos e,e];exact hs
   ·rw [if_neg e]
    have q:=F.slot j
    cases hh:Qa ρ j with
    | un=>trivial
    | pin a=>rw [hh] at q;show (σ.set i _)[j]?=_;rw [Qg6 e];exact q
    | fz t=>rw [hh] at q;obtain ⟨v,a,b⟩:=q;exact ⟨v,by rw [Qg6 e];exact a,b⟩
    | fx t=>rw [hh] at q;obtain ⟨v,o,a,b⟩:=q;exact ⟨v,o,by rw [Qg6 e];exact a,b⟩
    | ow t=>rw [hh] at q;obtain ⟨v,a,b⟩:=q;exact ⟨v,by rw [Qg6 e];exact a,b⟩
    | ml t=>rw [hh] at q;obtain ⟨v,a,b⟩:=q;exact ⟨v,by rw [Qg6 e];exact a,b⟩
    | ro t=>rw [hh] at q;obtain ⟨v,a,b⟩:=q;exact ⟨v,by rw [Qg6 e];exact a,b⟩
  apart:=fun j k a h1 h2=>by
   by_cases e1:j=i
   ·by_cases e2:k=i
    ·rw [e1,e2]
    ·rw [e1] at h1
     exact (hp a (here a h1).1 (here a h1).2 k e2 (old k a h2 e2)).elim
   ·by_cases e2:k=i
    ·rw [e2] at h2
     exact (hp a (here a h2).1 (here a h2).2 j e1 (old j a h1 e1)).elim
    ·exact F.apart j k a (old j a h1 e1) (old k a h2 e2)
  prv:=F.prv
  chg:=F.chg
  keep:=F.keep
  newO:=fun a h=>by
   obtain ⟨j,u,e,q⟩:=h
   rw [sa] at e
   by_cases z:j=i
   ·rw [if_pos z] at e
    rw [z,Qmc hl] at q
    exact ho u a e (Option.some.inj q)
   ·rw [if_neg z] at e
    rw [Qg6 z] at q
    exact F.newO a ⟨j,u,e,q⟩
  newM:=fun a h=>by
   obtain ⟨j,u,e,q⟩:=h
   rw [sa] at e
   by_cases z:j=i
   ·rw [if_pos z] at e;exact (hm u e).elim
   ·rw [if_neg z] at e
    rw [Qg6 z] at q
    exact F.newM a ⟨j,u,e,q⟩
  fix:=fun j a h=>by
   obtain ⟨⟨u,e⟩,q⟩:=h
   rw [sa] at e
   by_cases z:j=i
   ·rw [if_pos z] at e
    rcases e with e | e | e
    ·exact (hm u e).elim
    ·exact (hr u e).elim
    ·exact (hx u e).elim
   ·rw [if_neg z] at e
    rw [Qg6 z] at q
    exact F.fix j a ⟨⟨u,e⟩,q⟩
  gg:=F.gg
  gn:=F.gn
  bp:=F.bp }
theorem FI.setFz (F:FI B H G σ ρ) (hi:i<ρ.length) (hv:Is (dls H G) v t):FI B H G (σ.set i (some v)) (ρ.set i (.fz t)) :=
 F.lay hi ⟨v,Qmc (by rw [F.len];exact hi),hv⟩ (fun a h=>by obtain ⟨u,e⟩:=h;cases e) (fun _ _ e=>by cases e) (fun _ e=>by cases e) (fun _ e=>by cases e)
theorem Qkf {s:Slot} (h:Qb0 i s ρ=some ρ'):i<ρ.length∧ρ'=ρ.set i s:=by
 unfold Qb0 at h
 by_cases z:i<ρ.length
 ·rw [if_pos z] at h
  cases hs:Qa ρ i <;> rw [hs] at h <;> first | (cases h;done) | exact ⟨z,(Option.some.inj h).symm⟩
 ·rw [if_neg z] at h;cases h
theorem FI.setS (F:FI B H G σ ρ) (h:L2.Qb0 i (.fz t) ρ=some ρ') (hv:Is (dls H G) v t):FI B H G (σ.set i (some v)) ρ':=by
 obtain ⟨h1,rfl⟩:=Qkf h
 exact F.setFz h1 hv
theorem FI.setOw {H0:Hp} (F:FI B H G σ ρ) (hb:B.H=H0) (h:L2.Qb0 i (.ow t) ρ=some ρ') (hv:TmpR H0 H G σ ρ v t):FI B H G (σ.set i (some v)) ρ':=by
 obtain ⟨h1,rfl⟩:=Qkf h
 obtain ⟨a,rfl,n,g,np,o⟩:=hv
 refine F.lay h1 ⟨a,Qmc (by rw [F.len];exact h1),g,o⟩ (fun b _ e j _=>?_) (fun _ b _ e=>?_) (fun _ e=>by cases e) (fun _ e=>by cases e)
 ·cases e;exact np j
 ·cases e;exact .inl (by rw [hb];exact n)
theorem FI.changeO (F:FI B H G σ ρ) {t0 u0:T} {ob:HO} {s':Slot} (hs:(Qa ρ i=.ow t0∧s'=.ow u0)∨(Qa ρ i=.ml t0∧s'=.ml u0)) {a:Addr} (e:σ[i]?=some (some (.ref a))) (il:OwnO (dls H G) u0 ob) :
  FI B (upd H a ob) G σ (ρ.set i s')∧Same (dls H G) (dls (upd H a ob) G):=by
 have hpv:(Qa ρ i).prv=some t0:=by rcases hs with ⟨h,_⟩ | ⟨h,_⟩ <;> rw [h] <;> rfl
 have hi:i<ρ.length:=Qke (by rcases hs with ⟨h,_⟩ | ⟨h,_⟩ <;> rw [h] <;> intro z <;> cases z)
 obtain ⟨a',e',g,o',ea,_⟩:=F.prvAt hpv
 rw [e] at e'
 cases e'
 have sa:∀ j,Qa (ρ.set i s') j=if j=i then s' else Qa ρ j:=fun j=>by
  rw [Qdx]
  by_cases e:j=i
  ·rw [if_pos ⟨e,hi⟩,if_pos e]
  ·rw [if_neg (fun z=>e z.1),if_neg e]
 have sm:Same (dls H G) (dls (upd H a ob) G):=fun b o eb=>by
  obtain ⟨n,eb⟩:=Q2 eb
  rw [Qca n,Q6 (fun (z:b=a)=>n (by rw [z];exact g))]
  exact eb
 have pv':∀ j b,PrvAt σ (ρ.set i s') j b→PrvAt σ ρ j b:=fun j b h=>by
  obtain ⟨⟨u,e1⟩,q⟩:=h
  rw [sa] at e1
  by_cases hj:j=i
  ·rw [hj] at q ⊢;exact ⟨⟨_,hpv⟩,q⟩
  ·rw [if_neg hj] at e1;exact ⟨⟨u,e1⟩,q⟩
 have own:OwnAt (upd H a ob) G a u0:=⟨ob,Qp,il.mono sm⟩
 refine ⟨{
  len:=by rw [length_set];exact F.len
  slot:=fun j=>by
   rw [sa]
   by_cases hj:j=i
   ·rw [if_pos hj,hj]
    rcases hs with ⟨_,h⟩ | ⟨_,h⟩ <;> rw [h] <;> exact ⟨a,e,g,own⟩
   ·rw [if_neg hj]
    refine Qim (F.slot j) sm fun b o hb1 hb2 eb=>?_
    have nb:b≠a:=fun z=>hj (F.apart j i a ⟨hb1,z ▸ hb2⟩ ⟨⟨_,hpv⟩,e⟩)
    exact ⟨by rw [Q6 nb];exact eb,(PrvAt.at F ⟨hb1,hb2⟩).1⟩
  apart:=fun j k b h1 h2=>F.apart j k b (pv' j b h1) (pv' k b h2)
  prv:=fun b hb=>by
   by_cases h:b=a
   ·exact ⟨ob,by rw [h,Qp],il.pen⟩
   ·rw [Q6 h];exact F.prv b hb
  chg:=fun b o h1 h2 eb=>by
   have nb:b≠a:=fun z=>by
    rcases hs with ⟨h,_⟩ | ⟨h,_⟩
    ·rcases F.newO a ⟨i,_,h,e⟩ with y | y
     ·rw [z,y] at eb;cases eb
     ·exact h1 (z ▸ y)
    ·exact h2 (z ▸ F.newM a ⟨i,_,h,e⟩)
   rw [Q6 nb]
   exact F.chg b o h1 h2 eb
  keep:=fun b o eb=>by
   by_cases h:b=a
   ·exact ⟨_,by rw [h,Qp]⟩
   ·rw [Q6 h];exact F.keep b o eb
  newO:=fun b h=>by
   obtain ⟨j,u,e1,q⟩:=h
   rw [sa] at e1
   by_cases hj:j=i
   ·rw [if_pos hj] at e1
    rcases hs with ⟨h,h2⟩ | ⟨h,h2⟩
    ·exact F.newO b ⟨i,_,h,hj ▸ q⟩
    ·rw [h2] at e1;cases e1
   ·rw [if_neg hj] at e1;exact F.newO b ⟨j,u,e1,q⟩
  newM:=fun b h=>by
   obtain ⟨j,u,e1,q⟩:=h
   rw [sa] at e1
   by_cases hj:j=i
   ·rw [if_pos hj] at e1
    rcases hs with ⟨h,h2⟩ | ⟨h,h2⟩
    ·rw [h2] at e1;cases e1
    ·exact F.newM b ⟨i,_,h,hj ▸ q⟩
   ·rw [if_neg hj] at e1;exact F.newM b ⟨j,u,e1,q⟩
  fix:=fun j b h=>by
   obtain ⟨⟨u,e1⟩,q⟩:=h
   rw [sa] at e1
   by_cases hj:j=i
   ·rw [if_pos hj] at e1
    rcases hs with ⟨h,h2⟩ | ⟨h,h2⟩
    ·rw [h2] at e1;rcases e1 with e1 | e1 | e1 <;> cases e1
    ·exact F.fix j b ⟨⟨_,.inl (by rw [hj];exact h)⟩,q⟩
   ·rw [if_neg hj] at e1;exact F.fix j b ⟨⟨u,e1⟩,q⟩
  gg:=F.gg
  gn:=F.gn
  bp:=F.bp },sm⟩
theorem FI.change (F:FI B H G σ ρ) {ts us:List T} {ws:List V} {s':Slot} (hs:(Qa ρ i=.ow (.lst ts)∧s'=.ow (.lst us))∨(Qa ρ i=.ml (.lst ts)∧s'=.ml (.lst us))) {a:Addr} (e:σ[i]?=some (some (.ref a))) (il:IsL (dls H G) ws us) (z:us.length≤100000) :
  FI B (upd H a (.lst ws)) G σ (ρ.set i s')∧Same (dls H G) (dls (upd H a (.lst ws)) G):=F.changeO hs e ⟨z,il⟩
end
theorem QG.weak {X:Cx} {e:Expr} {t t':TG} (h:QG X e t) (q:∀ v σ H Q,t' v σ H Q→t v σ H Q):QG X e t':=⟨fun pins s σ H v u Q I r z=>h.h pins s σ H v u Q I r (q _ _ _ _ z)⟩
theorem QI.weak {X:Cx} {tg e:Expr} {t t':TI} (h:QI X tg e t) (q:∀ σ H R,t' σ H R→t σ H R):QI X tg e t':=⟨fun pins s σ H R I z=>h.h pins s σ H R I (q _ _ _ z)⟩
theorem QC.weak {X:Cx} {e:List Expr} {t t':TT} (h:QC X e t) (q:∀ σ H Q,t' σ H Q→t σ H Q):QC X e t':=⟨fun pins s σ H Q I z=>h.h pins s σ H Q I (q _ _ _ z)⟩
def tG (tg:Tg):TG:=fun v σ H Q=>∃ B G ρ t ρ',FI B H G σ ρ∧Is (dls H G) v t∧Qgq tg t ρ=some ρ'∧∀ σ',FI B H G σ' ρ'→(∀ k a,PrvAt σ' ρ' k a→PrvAt σ ρ k a)→Q σ' H
theorem Qq9 {i:Nat} {t:T} {σ:St} {ρ ρ':En} {v:V} (h:Qb0 i (.fz t) ρ=some ρ'):∀ k a,PrvAt (σ.set i (some v)) ρ' k a→PrvAt σ ρ k a:=fun k a hk=>by
 obtain ⟨h1,rfl⟩:=Qkf h
 obtain ⟨⟨u,e⟩,q⟩:=hk
 rw [Qdx] at e
 by_cases z:k=i∧i<ρ.length
 ·rw [if_pos z] at e;cases e
 ·rw [if_neg z] at e
  have hk:k≠i:=fun y=>z ⟨y,h1⟩
  rw [Qg6 hk] at q
  exact ⟨⟨u,e⟩,q⟩
noncomputable def Qzy:List Nat→TGs
 | []=>Q1p
 | i::is=>Qqf (Qgo i) (Qzy is)
section
variable {X:Cx} {e:Expr} {es:List Expr} {pos:Pos}
theorem Qag {i:Nat} (h:QG X e (Qgo i)):QG X e (tG (.nm i)):=h.weak fun v σ H Q ⟨B,G,ρ,t,ρ',F,hv,hs,q⟩=>q _ (F.setS hs hv) (Qq9 hs)
theorem Qux {B:Bs} {H:Hp} {G:Addr→Prop} {Q:St→Hp→Prop}:∀ {is:List Nat} {ts:List T} {xs:List V} {σ:St} {ρ ρ':En},FI B H G σ ρ→IsL (dls H G) xs ts→Qdn is ts ρ=some ρ'→(∀ σ',FI B H G σ' ρ'→(∀ k a,PrvAt σ' ρ' k a→PrvAt σ ρ k a)→Q σ' H)→Qzy is xs σ H Q
 | [],[],xs,σ,ρ,ρ',F,r,e,q=>by
  cases e
  exact ⟨r.nil_inv,q σ F fun _ _ h=>h⟩
 | i::is,t::ts,xs,σ,ρ,ρ',F,r,e,q=>by
  obtain ⟨v,w,rfl,a,r⟩:=r.cons_inv
  unfold Qdn at e
  cases h:Qb0 i (.fz t) ρ with
  | none=>rw [h] at e;cases e
  | some ρ1 =>
   rw [h] at e
   exact ⟨v,w,rfl,Qux (F.setS h a) r e fun σ' F' o=>q σ' F' fun k b hk=>Qq9 h k b (o k b hk)⟩
 | [],_::_,_,_,_,_,_,_,e,_=>by cases e
 | _::_,[],_,_,_,_,_,_,e,_=>by cases e
theorem Qkx:∀ {is:List Nat} {ts:List T} {ρ ρ':En},Qdn is ts ρ=some ρ'→ts.length=is.length
 | [],[],_,_,_=>rfl
 | i::is,t::ts,ρ,ρ',e=>by
  unfold Qdn at e
  cases h:Qb0 i (.fz t) ρ with
  | none=>rw [h] at e;cases e
  | some ρ1=>rw [h] at e;rw [length_cons,length_cons,Qkx e]
 | [],_::_,_,_,e=>by cases e
 | _::_,[],_,_,e=>by cases e
theorem Qmd {K:PySem.W.Frag} {n:Nat} {is:List Nat} (h:QG X e (Qxq K n (Qzy is))) (hn:is.length=n):QG X e (tG (.tp is)):=h.weak fun v σ H Q ⟨B,G,ρ,t,ρ',F,hv,hs,q⟩=>by
 cases t <;> first | (cases hs;done) | skip
 have hs:Qdn is _ ρ=some ρ':=hs
 obtain ⟨a,vs,rfl,ea,r⟩:=hv.tup_inv
 exact ⟨a,vs,rfl,SqT.of (Q2 ea).2,by rw [r.length,Qkx hs,hn],Qux F r hs q⟩
end
structure WkR (J:It) (H0:Hp) (G0:Addr→Prop) (Ok:Hp→Prop) (ts:List T):Prop where
 go:∀ i H,i<ts.length→Ok H→J.go i H
 stop:∀ i H,ts.length≤i→Ok H→J.stop i H
 yld:∀ i H x H',i<ts.length→Ok H→J.yld i H x H'→Same H H'∧∃ t,ts[i]?=some t∧∀ G,Pen H G→Same (dls H0 G0) (dls H G)→Is (dls H' G) x t
def tW (p:Pr) (w:W):TI:=fun σ H R=>∃ G ρ,FI (Qa3 H G σ ρ) H G σ ρ∧Fin p (Qa3 H G σ ρ) σ (evW p.cf w ρ) fun its ρ1=>its.2=none∧∀ J H1 G1 Ok,FI (Qa3 H G σ ρ) H1 G1 σ ρ1→WkR J H1 G1 Ok its.1→(∀ H' G',Same (dls H1 G1) (dls H' G')→Ok H')→R J H1
section
variable {X:Cx} {p:Pr} {e a b tg:Expr} {a' b' e':E} {pos p1:Pos} {K:PySem.W.Frag}
theorem wk_l {H:Hp} {G:Addr→Prop} {l:Addr} {vs:List V} {ts:List T} (r:IsL (dls H G) vs ts):WkR (Itl K l) H G (fun H'=>SqL K H' l vs) ts where
 go:=fun i H' hi ok=>⟨vs,_,ok,getElem?_eq_getElem (by rw [r.length];exact hi)⟩
 stop:=fun i H' hi ok=>⟨vs,ok,by rw [r.length];exact hi⟩
 yld:=fun i H' x H2 hi ok y=>by
  obtain ⟨rfl,hx⟩:=y
  obtain ⟨t,et,it⟩:=r.get (hx vs ok)
  exact ⟨Same.refl _,t,et,fun G' _ s=>it.mono s⟩
theorem wk_t {H:Hp} {G:Addr→Prop} {l:Addr} {vs:List V} {ts:List T} (r:IsL (dls H G) vs ts):WkR (Itt K l) H G (fun H'=>SqT K H' l vs) ts where
 go:=fun i H' hi ok=>⟨vs,_,ok,getElem?_eq_getElem (by rw [r.length];exact hi)⟩
 stop:=fun i H' hi ok=>⟨vs,ok,by rw [r.length];exact hi⟩
 yld:=fun i H' x H2 hi ok y=>by
  obtain ⟨rfl,hx⟩:=y
  obtain ⟨t,et,it⟩:=r.get (hx vs ok)
  exact ⟨Same.refl _,t,et,fun G' _ s=>it.mono s⟩
theorem Qap (lo:Int) (n:Nat):(Qan lo n).length=n:=by unfold Qan;rw [length_map,length_range]
theorem Qhu {lo:Int} {n i:Nat} (hi:i<n):(Qan lo n)[i]?=some (.int (lo+i)):=by
 unfold Qan
 rw [getElem?_map,List.getElem?_range hi]
 rfl
theorem wk_r {H:Hp} {G:Addr→Prop} {lo:Int} {n:Nat}:WkR (Itr lo n) H G (fun _=>True) (Qan lo n) where
 go:=fun i H' hi _=>by rw [Qap] at hi;exact hi
 stop:=fun i H' hi _=>by rw [Qap] at hi;exact hi
 yld:=fun i H' x H2 hi _ y=>by
  rw [Qap] at hi
  obtain ⟨rfl,rfl⟩:=y
  exact ⟨Same.refl _,_,Qhu hi,fun _ _ _=>Is.int⟩
theorem Qme:∀ (xs ys:List T),(Qfh xs ys).length=min xs.length ys.length
 | [],ys=>by unfold Qfh;simp
 | x::xs,[]=>by unfold Qfh;simp
 | x::xs,y::ys=>by unfold Qfh;rw [length_cons,length_cons,length_cons,Qme xs ys];omega
theorem Qra:∀ (xs ys:List T) (i:Nat) (x y:T),xs[i]?=some x→ys[i]?=some y→(Qfh xs ys)[i]?=some (.tup [x,y])
 | [],_,_,_,_,e,_=>by simp at e
 | _::_,[],_,_,_,_,e=>by simp at e
 | a::xs,b::ys,0,x,y,e,f=>by
  simp at e f
  subst e f
  rfl
 | a::xs,b::ys,i+1,x,y,e,f=>by
  rw [getElem?_cons_succ] at e f
  unfold Qfh
  rw [getElem?_cons_succ]
  exact Qra xs ys i x y e f
theorem Q7y {H:Hp} {G:Addr→Prop} {l m:Addr} {vs ws:List V} {ts us:List T} (r:IsL (dls H G) vs ts) (r2:IsL (dls H G) ws us) {lb lc:Bool}:WkR (Itz lb lc K l m) H G (fun H'=>SqB lb K H' l vs∧SqB lc K H' m ws) (Qfh ts us) where
 go:=fun i H' hi ok=>by
  rw [Qme,←r.length,←r2.length] at hi
  exact ⟨vs,ws,_,_,ok.1,ok.2,getElem?_eq_getElem (by omega),getElem?_eq_getElem (by omega)⟩
 stop:=fun i H' hi ok=>by
  rw [Qme,←r.length,←r2.length] at hi
  exact ⟨vs,ws,ok.1,ok.2,by omega⟩
 yld:=fun i H' x H2 hi ok y=>by
  obtain ⟨q,x,y,rfl,hq,hx,hy,rfl⟩:=y
  obtain ⟨t,et,it⟩:=r.get (hx vs ok.1)
  obtain ⟨u,eu,iu⟩:=r2.get (hy ws ok.2)
  refine ⟨Same.upd hq,_,Qra ts us i t u et eu,fun G' pn s=>?_⟩
  exact Qf1 (pn.mono (Same.upd hq)) Qp (.cons (it.mono (s.trans (Qbh (Same.upd hq)))) (.one (iu.mono (s.trans (Qbh (Same.upd hq)))))) (by show 2≤100000;decide)
theorem Qzz {r:PV} {ρ:En} {t:T} (h:Qk7 r=none) (e:cont ρ r=some t):frz r=some t:=by
 cases r with
 | fz t=>exact e
 | ow t=>exact e
 | sl i=>cases h
theorem Qci (hK:X.K=K) (ha:QE X e (tE p e')):QI X tg e (tW p (.seq e')):=(Qyr K hK ha).weak fun σ H R ⟨G,ρ,F,h⟩=>by
 unfold evW at h
 refine ⟨G,ρ,F,h.bind.imp fun r ρ1 h1 v H1 G1 F1 r1=>?_⟩
 cases ec:cont ρ1 r with
 | none=>rw [ec] at h1;exact False.elim h1
 | some t =>
  rw [ec] at h1
  cases es:Qg5 t with
  | none =>
   replace h1:Fin p (Qa3 H G σ ρ) σ (match Qg5 t with | some ts=>.ok (ts,Qk7 r) ρ1 | none=>.no) _:=h1
   rw [es] at h1
   exact False.elim h1
  | some ts =>
   replace h1:Fin p (Qa3 H G σ ρ) σ (match Qg5 t with | some ts=>.ok (ts,Qk7 r) ρ1 | none=>.no) _:=h1
   rw [es] at h1
   obtain ⟨hn,k⟩:=h1
   obtain ⟨G',F',hv,_⟩:=PVR.lay (B:=Qa3 H G σ ρ) r1 F1 (Qzz hn ec)
   cases t <;> first | (cases es;done) | skip
   ·cases es
    obtain ⟨l,vs,rfl,el,rl⟩:=hv.tup_inv
    exact ⟨l,rfl,.inr ⟨⟨vs,SqT.of (Q2 el).2⟩,k _ H1 G' _ F' (wk_t rl) fun H' G2 s=>SqT.of (Q2 (s _ _ el)).2⟩⟩
   ·cases es
    obtain ⟨l,vs,rfl,el,rl⟩:=hv.lst_inv
    exact ⟨l,rfl,.inl ⟨⟨vs,SqL.of (Q2 el).2⟩,k _ H1 G' _ F' (wk_l rl) fun H' G2 s=>SqL.of (Q2 (s _ _ el)).2⟩⟩
theorem Q3d (hm:X.mg "range" = none) (ha:QE X a (tE p a')) (hg:Gl X "range") (hs:Q9 a=true):QI X tg (.Call (.Name "range" p1) [a] [] pos) (tW p (.rng1 a')):=(Q6v hm (Q7 ha Qbz hs) hg hs).weak fun σ H R ⟨G,ρ,F,h⟩=>by
 unfold evW at h
 refine ⟨G,ρ,F,h.bind.imp fun r ρ1 h1 v H1 G1 F1 r1=>?_⟩
 cases r with
 | ow t=>exact False.elim h1
 | sl i=>exact False.elim h1
 | fz t =>
  cases t <;> first | exact False.elim h1 | skip
  rename_i j
  replace h1:Fin p (Qa3 H G σ ρ) σ (if j.natAbs≤100000 then .ok (Qan 0 j.toNat,none) ρ1 else .no) _:=h1
  by_cases z:j.natAbs≤100000
  ·rw [if_pos z] at h1
   obtain rfl:=r1.is.int_inv
   exact ⟨j,rfl,by omega,by omega,h1.2 _ H1 G1 _ F1 wk_r fun _ _ _=>trivial⟩
  ·rw [if_neg z] at h1;exact False.elim h1
theorem Q7z {es:List Expr} {x1} {tp:Pos} (hK:X.K=K) (hm:X.mg "zip" = none) (hb:PySem.bootBuiltins "zip" = some (.type "zip")) (ha:QE X a (tE p a')) (hb':QE X b (tE p b')) (hg:Gl X "zip") (hs:Q9 a=true) (hs2:Q9 b=true):QI X (.Tuple es x1 tp) (.Call (.Name "zip" p1) [a,b] [] pos) (tW p (.zip a' b')):=(Qaa8 K hK hm hb (Q7 ha (Q7 hb' Qbz hs2) hs) hg hs hs2).weak fun σ H R ⟨G,ρ,F,h⟩=>by
 unfold evW at h
 refine tE2 F h fun ra rb ρ2 x y H2 G2 F2 r1 r2 h2=>?_
 cases ra with
 | ow t=>cases rb <;> exact False.elim h2
 | sl i=>cases rb <;> exact False.elim h2
 | fz t =>
  cases rb with
  | ow u=>cases t <;> exact False.elim h2
  | sl i=>cases t <;> exact False.elim h2
  | fz u =>
   cases t <;> first | exact False.elim h2 | skip
   ·cases u <;> first | exact False.elim h2 | skip
    obtain ⟨l,vs,rfl,el,rl⟩:=r1.is.tup_inv
    obtain ⟨m,ws,rfl,em,rm⟩:=r2.is.tup_inv
    exact ⟨false,false,l,m,vs,ws,rfl,SqT.of (Q2 el).2,SqT.of (Q2 em).2,h2.2 _ H2 G2 _ F2 (Q7y (lb:=false) (lc:=false) rl rm) fun H' G3 s=>⟨SqT.of (Q2 (s _ _ el)).2,SqT.of (Q2 (s _ _ em)).2⟩⟩
   ·cases u <;> first | exact False.elim h2 | skip
    ·obtain ⟨l,vs,rfl,el,rl⟩:=r1.is.lst_inv
     obtain ⟨m,ws,rfl,em,rm⟩:=r2.is.tup_inv
     exact ⟨true,false,l,m,vs,ws,rfl,SqL.of (Q2 el).2,SqT.of (Q2 em).2,h2.2 _ H2 G2 _ F2 (Q7y (lb:=true) (lc:=false) rl rm) fun H' G3 s=>⟨SqL.of (Q2 (s _ _ el)).2,SqT.of (Q2 (s _ _ em)).2⟩⟩
    ·obtain ⟨l,vs,rfl,el,rl⟩:=r1.is.lst_inv
     obtain ⟨m,ws,rfl,em,rm⟩:=r2.is.lst_inv
     exact ⟨true,true,l,m,vs,ws,rfl,SqL.of (Q2 el).2,SqL.of (Q2 em).2,h2.2 _ H2 G2 _ F2 (Q7y (lb:=true) (lc:=true) rl rm) fun H' G3 s=>⟨SqL.of (Q2 (s _ _ el)).2,SqL.of (Q2 (s _ _ em)).2⟩⟩
end
theorem Qdg (js:List (Option Nat)) (ρ:En) (k:Nat):Qa (Qch js ρ) k=match js[k]? with
  | some (some j)=>(Qa ρ j).lend
  | _=>.un:=by
 show (match (js.map fun o=>match o with | none=>Slot.un | some j=>(Qa ρ j).lend)[k]? with | some s=>s | none=>Slot.un)=_
 rw [getElem?_map]
 cases js[k]? with
 | none=>rfl
 | some o=>cases o <;> rfl
theorem Qg7 (js:List (Option Nat)) (σ:St) (k:Nat):(Qef js σ)[k]?=match js[k]? with
  | some (some j)=>some ((σ[j]?).join)
  | some none=>some none
  | none=>none:=by
 unfold Qef
 rw [getElem?_map]
 cases js[k]? with
 | none=>rfl
 | some o=>cases o <;> rfl
theorem Qg8 (js:List (Option Nat)) (ρi:En):∀ (ρ:En) (n j:Nat),Qa (Qd3 js ρi n ρ) j=if j<ρ.length then Qie js ρi (n+j) (Qa ρ j) else .un
 | [],n,j=>by
  unfold Qd3
  rw [if_neg (by simp),Qf4]
 | s::ρ,n,0=>by unfold Qd3;rw [if_pos (by simp)];rfl
 | s::ρ,n,j+1=>by
  unfold Qd3
  rw [Qd,Qd,Qg8 js ρi ρ (n+1) j,show n+1+j=n+(j+1) by omega]
  by_cases h:j<ρ.length
  ·rw [if_pos h,if_pos (by rw [length_cons];omega)]
  ·rw [if_neg h,if_neg (by rw [length_cons];omega)]
theorem Qky (js:List (Option Nat)) (ρi:En):∀ (ρ:En) (n:Nat),(Qd3 js ρi n ρ).length=ρ.length
 | [],_=>rfl
 | s::ρ,n=>by unfold Qd3;rw [length_cons,length_cons,Qky js ρi ρ (n+1)]
theorem Qdh (js:List (Option Nat)) (ρi:En) (j:Nat) (s:Slot):Qie js ρi j s=s∨∃ k t,js.idxOf? (some j)=some k∧Qa ρi k=.ml t∧Qie js ρi j s=s.put t:=by
 unfold Qie
 cases h1:js.idxOf? (some j) with
 | none=>exact .inl rfl
 | some k =>
  cases h2:Qa ρi k with
  | ml t=>exact .inr ⟨k,t,rfl,h2,by simp only [h2]⟩
  | un=>exact .inl (by simp only [h2])
  | pin _=>exact .inl (by simp only [h2])
  | fx _=>exact .inl (by simp only [h2])
  | fz t=>exact .inl (by simp only [h2])
  | ow t=>exact .inl (by simp only [h2])
  | ro t=>exact .inl (by simp only [h2])
theorem Qe8 (js:List (Option Nat)) (ρi ρ:En) (j:Nat):Qa (Qjc js ρi ρ) j=Qie js ρi j (Qa ρ j):=by
 unfold Qjc
 rw [Qg8,Nat.zero_add]
 by_cases h:j<ρ.length
 ·rw [if_pos h]
 ·rw [if_neg h]
  have e:Qa ρ j=.un:=by
   unfold Qa
   rw [List.getElem?_eq_none_iff.mpr (by omega)]
  rw [e]
  rcases Qdh js ρi j .un with z | ⟨k,t,_,_,z⟩ <;> rw [z] <;> rfl
theorem Q3e:∀ {js:List (Option Nat)} {j k:Nat},js.idxOf? (some j)=some k→js[k]?=some (some j):=by
 intro js j k h
 have:=List.idxOf?_eq_some_iff.mp h
 obtain ⟨h1,h2,_⟩:=this
 rw [getElem?_eq_getElem h1,h2]
theorem Qz0 {js:List (Option Nat)} {j k:Nat} (h:js.idxOf? (some j)=none):js[k]?≠some (some j):=fun e=>by
 have:=List.idxOf?_eq_none_iff.mp h
 exact this (mem_of_getElem? e)
theorem Qmf:∀ {js:List (Option Nat)},Qb1 js=true→∀ (i k j:Nat),js[i]?=some (some j)→js[k]?=some (some j)→i=k
 | [],_,i,k,j,e,_=>by simp at e
 | r::js,h,i,k,j,e1,e2=>by
  have tl:Qb1 js=true:=by
   cases r with
   | some q=>unfold Qb1 at h;rw [Bool.and_eq_true] at h;exact h.2
   | none=>exact h
  have hd:∀ (m:Nat),r=some j→js[m]?=some (some j)→False:=fun m er em=>by
   subst er
   unfold Qb1 at h
   rw [Bool.and_eq_true] at h
   have q:=all_eq_true.mp h.1 _ (mem_of_getElem? em)
   simp at q
  cases i with
  | zero =>
   cases k with
   | zero=>rfl
   | succ k=>simp at e1;rw [getElem?_cons_succ] at e2;exact (hd k e1 e2).elim
  | succ i =>
   cases k with
   | zero=>simp at e2;rw [getElem?_cons_succ] at e1;exact (hd i e2 e1).elim
   | succ k =>
    rw [getElem?_cons_succ] at e1 e2
    rw [Qmf tl i k j e1 e2]
theorem Qod:∀ {ρ0 ρ:En},Qea ρ0 ρ=true→∀ (i:Nat) (t:T),Qa ρ0 i=.ml t→∃ t',Qa ρ i=.ml t'
 | [],[],_,i,t,e=>by rw [Qf4] at e;cases e
 | [],_::_,h,_,_,_=>by cases h
 | s0::ρ0,[],h,_,_,_=>by cases s0 <;> cases h
 | s0::ρ0,s::ρ,h,i,t,e=>by
  have tl:Qea ρ0 ρ=true:=by
   cases s0 <;> first | exact h | skip
   unfold Qea at h
   rw [Bool.and_eq_true] at h
   exact h.2
  cases i with
  | zero =>
   rw [Qb] at e
   subst e
   unfold Qea at h
   rw [Bool.and_eq_true] at h
   cases s <;> first | (simp at h;done) | exact ⟨_,rfl⟩
  | succ i =>
   rw [Qd] at e ⊢
   exact Qod tl i t e
section
variable {B:Bs} {H H1 H2:Hp} {G G1 G2:Addr→Prop} {σ σ2:St} {ρ ρi:En} {js:List (Option Nat)}
theorem Qz1 {s:Slot} {t:T} (h:s.lend.prv=some t):s.prv=some t:=by cases s <;> exact h
theorem FI.cap (F:FI B H G σ ρ) (hj:Qb1 js=true):FI (Qa3 H G (Qef js σ) (Qch js ρ)) H G (Qef js σ) (Qch js ρ):=by
 have pv:∀ k a,PrvAt (Qef js σ) (Qch js ρ) k a→∃ j,js[k]?=some (some j)∧PrvAt σ ρ j a:=fun k a h=>by
  obtain ⟨⟨t,e⟩,q⟩:=h
  rw [Qdg] at e
  rw [Qg7] at q
  cases hk:js[k]? with
  | none=>rw [hk] at e;cases e
  | some o =>
   cases o with
   | none=>rw [hk] at e;cases e
   | some j =>
    rw [hk] at e q
    refine ⟨j,rfl,⟨t,Qz1 e⟩,?_⟩
    replace q:some (σ[j]?.join)=some (some (.ref a)):=q
    cases hs:σ[j]? with
    | none=>rw [hs] at q;cases q
    | some w=>rw [hs] at q;exact q
 refine ⟨by unfold Qef Qch;rw [length_map,length_map],fun k=>?_,fun i k a h1 h2=>?_,F.prv,fun _ _ _ _ e=>e,fun _ o e=>⟨o,e⟩,fun _ h=>.inr h,fun _ h=>h,fun _ _ h=>h,fun _ h=>h,fun _ h=>.inl h,fun b h=>let ⟨xs,e,_⟩:=F.prv b h;⟨_,e⟩⟩
 ·rw [Qdg]
  cases hk:js[k]? with
  | none=>trivial
  | some o =>
   cases o with
   | none=>trivial
   | some j =>
    have q:=F.slot j
    have gt:∀ v,σ[j]?=some (some v)→(Qef js σ)[k]?=some (some v):=fun v e=>by
     rw [Qg7,hk]
     show some (σ[j]?.join)=_
     rw [e]
     rfl
    show Ql5 H G (Qef js σ) k (Qa ρ j).lend
    cases hs:Qa ρ j with
    | un=>trivial
    | pin a=>trivial
    | fx t=>rw [hs] at q;obtain ⟨v,o,e,_,i⟩:=q;exact ⟨_,gt _ e,i⟩
    | fz t=>rw [hs] at q;obtain ⟨v,e,i⟩:=q;exact ⟨v,gt _ e,i⟩
    | ow t=>rw [hs] at q;obtain ⟨v,e,i⟩:=q;exact ⟨v,gt _ e,i⟩
    | ml t=>rw [hs] at q;obtain ⟨v,e,i⟩:=q;exact ⟨v,gt _ e,i⟩
    | ro t=>rw [hs] at q;obtain ⟨v,e,i⟩:=q;exact ⟨v,gt _ e,i⟩
 ·obtain ⟨j1,e1,p1⟩:=pv i a h1
  obtain ⟨j2,e2,p2⟩:=pv k a h2
  have ej:=F.apart j1 j2 a p1 p2
  subst ej
  exact Qmf hj i k j1 e1 e2
theorem FI.uncap (F:FI B H G σ ρ) (hj:Qb1 js=true) (I:FI (Qa3 H G (Qef js σ) (Qch js ρ)) H2 G2 σ2 ρi) (hk:Qea (Qch js ρ) ρi=true):FI B H2 G2 σ (Qjc js ρi ρ):=by
 have Fc:=F.cap hj
 have sm:=Fc.same I
 have noO:∀ a,¬ OwA (Qef js σ) (Qch js ρ) a:=fun a h=>by
  obtain ⟨k,t,e,_⟩:=h
  rw [Qdg] at e
  cases hk:js[k]? with
  | none=>rw [hk] at e;cases e
  | some o =>
   cases o with
   | none=>rw [hk] at e;cases e
   | some j =>
    rw [hk] at e
    have e:(Qa ρ j).lend=.ow t:=e
    cases hs:Qa ρ j <;> rw [hs] at e <;> cases e
 have isM:∀ a,MlA (Qef js σ) (Qch js ρ) a→∃ (k j:Nat) (t:T),js[k]?=some (some j)∧(Qa ρ j=.ow t∨Qa ρ j=.ml t)∧σ[j]?=some (some (.ref a)):=fun a h=>by
  obtain ⟨k,t,e,q⟩:=h
  rw [Qdg] at e
  rw [Qg7] at q
  cases hk:js[k]? with
  | none=>rw [hk] at e;cases e
  | some o =>
   cases o with
   | none=>rw [hk] at e;cases e
   | some j =>
    rw [hk] at e q
    have e:(Qa ρ j).lend=.ml t:=e
    refine ⟨k,j,t,hk,?_,?_⟩
    ·cases hs:Qa ρ j <;> rw [hs] at e <;> cases e
     ·exact .inl rfl
     ·exact .inr rfl
    ·replace q:some (σ[j]?.join)=some (some (.ref a)):=q
     cases hs:σ[j]? with
     | none=>rw [hs] at q;cases q
     | some w=>rw [hs] at q;exact q
 -- a list of the frame that the block can't change
 have stay:∀ j a t,(Qa ρ j).prv=some t→σ[j]?=some (some (.ref a))→OwnAt H G a t→((∀ t,Qa ρ j≠.ow t)∧(∀ t,Qa ρ j≠.ml t)∨js.idxOf? (some j)=none)→OwnAt H2 G2 a t:=fun j a t e s o h=>by
  refine o.mono sm fun u eu=>I.chg a u (noO a) (fun z=>?_) eu
  obtain ⟨k,j',t',e1,hs,e2⟩:=isM a z
  have ej:j'=j:=F.apart j' j a ⟨⟨t',by rcases hs with hs | hs <;> rw [hs] <;> rfl⟩,e2⟩ ⟨⟨t,e⟩,s⟩
  subst ej
  rcases h with ⟨h1,h2⟩ | h
  ·rcases hs with hs | hs
   ·exact h1 _ hs
   ·exact h2 _ hs
  ·exact Qz0 h e1
 -- one that it may
 have lent:∀ j a t k,(Qa ρ j=.ow t∨Qa ρ j=.ml t)→σ[j]?=some (some (.ref a))→js.idxOf? (some j)=some k→∃ t',Qa ρi k=.ml t'∧OwnAt H2 G2 a t':=fun j a t k hs s hx=>by
  have e1:=Q3e hx
  have e0:Qa (Qch js ρ) k=.ml t:=by
   rw [Qdg,e1]
   show (Qa ρ j).lend=_
   rcases hs with hs | hs <;> rw [hs] <;> rfl
  obtain ⟨t',e2⟩:=Qod hk k t e0
  have q:=I.slot k
  rw [e2] at q
  obtain ⟨a',q1,_,q3⟩:=q
  obtain ⟨_,q4⟩:=I.fix k a' ⟨⟨t',.inl e2⟩,q1⟩
  rw [Qg7,e1] at q4
  replace q4:some (σ[j]?.join)=some (some (.ref a')):=q4
  rw [s] at q4
  have q5:a=a':=by
   have:=Option.some.inj q4
   have:=Option.some.inj (show some (V.ref a)=some (V.ref a') from this)
   cases this
   rfl
  subst q5
  exact ⟨t',e2,q3⟩
 have kd:∀ j s',Qa (Qjc js ρi ρ) j=s'→(s'=Qa ρ j∨∃ t,s'=(Qa ρ j).put t):=fun j s' h=>by
  rw [Qe8] at h
  rcases Qdh js ρi j (Qa ρ j) with z | ⟨k,t,_,_,z⟩
  ·rw [z] at h;exact .inl h.symm
  ·rw [z] at h;exact .inr ⟨t,h.symm⟩
 have pv:∀ j a,PrvAt σ (Qjc js ρi ρ) j a→PrvAt σ ρ j a:=fun j a h=>by
  obtain ⟨⟨u,e⟩,q⟩:=h
  refine ⟨?_,q⟩
  rcases kd j _ rfl with z | ⟨t,z⟩
  ·rw [z] at e;exact ⟨u,e⟩
  ·rw [z] at e;exact Qlg e
 exact {
  len:=by unfold Qjc;rw [Qky];exact F.len
  slot:=fun j=>by
   have q:=F.slot j
   have bc:=Qdh js ρi j (Qa ρ j)
   rw [Qe8]
   cases hs:Qa ρ j with
   | un =>
    rw [hs] at bc
    rcases bc with e | ⟨k,t,_,_,e⟩ <;> rw [e] <;> trivial
   | pin a =>
    rw [hs] at q bc
    rcases bc with e | ⟨k,t,_,_,e⟩ <;> rw [e] <;> exact q
   | fz t =>
    rw [hs] at q bc
    obtain ⟨v,e1,e2⟩:=q
    rcases bc with e | ⟨k,t,_,_,e⟩ <;> rw [e] <;> exact ⟨v,e1,e2.mono sm⟩
   | fx t =>
    rw [hs] at q bc
    obtain ⟨v,o,e1,e3,e2⟩:=q
    rcases bc with e | ⟨k,t,_,_,e⟩ <;> rw [e] <;> exact ⟨v,o,e1,sm _ _ e3,e2.mono sm⟩
   | ro t =>
    rw [hs] at q bc
    obtain ⟨a,e1,g,o⟩:=q
    have o':=stay j a t (by rw [hs];rfl) e1 o (.inl ⟨fun t z=>(by rw [hs] at z;cases z),fun t z=>(by rw [hs] at z;cases z)⟩)
    rcases bc with e | ⟨k,t,_,_,e⟩ <;> rw [e] <;> exact ⟨a,e1,I.gg a g,o'⟩
   | ow t =>
    rw [hs] at q bc
    obtain ⟨a,e1,g,o⟩:=q
    cases hp:js.idxOf? (some j) with
    | none =>
     have o':=stay j a t (by rw [hs];rfl) e1 o (.inr hp)
     rcases bc with e | ⟨k,t',h,_,e⟩
     ·rw [e];exact ⟨a,e1,I.gg a g,o'⟩
     ·rw [hp] at h;cases h
    | some k =>
     obtain ⟨t',ef,o'⟩:=lent j a t k (.inl hs) e1 hp
     have e:Qie js ρi j (.ow t)=.ow t':=by unfold Qie;rw [hp];simp only [ef];rfl
     rw [e]
     exact ⟨a,e1,I.gg a g,o'⟩
   | ml t =>
    rw [hs] at q bc
    obtain ⟨a,e1,g,o⟩:=q
    cases hp:js.idxOf? (some j) with
    | none =>
     have o':=stay j a t (by rw [hs];rfl) e1 o (.inr hp)
     rcases bc with e | ⟨k,t',h,_,e⟩
     ·rw [e];exact ⟨a,e1,I.gg a g,o'⟩
     ·rw [hp] at h;cases h
    | some k =>
     obtain ⟨t',ef,o'⟩:=lent j a t k (.inr hs) e1 hp
     have e:Qie js ρi j (.ml t)=.ml t':=by unfold Qie;rw [hp];simp only [ef];rfl
     rw [e]
     exact ⟨a,e1,I.gg a g,o'⟩
  apart:=fun i j a h1 h2=>F.apart i j a (pv i a h1) (pv j a h2)
  prv:=I.prv
  chg:=fun b o h1 h2 e=>I.chg b o (noO b) (fun z=>by
   obtain ⟨k,j,t,_,hs,q⟩:=isM b z
   rcases hs with hs | hs
   ·rcases F.newO b ⟨j,t,hs,q⟩ with y | y
    ·rw [e] at y;cases y
    ·exact h1 y
   ·exact h2 (F.newM b ⟨j,t,hs,q⟩)) (F.chg b o h1 h2 e)
  keep:=fun b o e=>by
   obtain ⟨o1,e1⟩:=F.keep b o e
   exact I.keep b o1 e1
  newO:=fun a h=>by
   obtain ⟨j,t,e,s⟩:=h
   rcases kd j _ e with z | ⟨u,z⟩
   ·exact F.newO a ⟨j,t,z.symm,s⟩
   ·cases hs:Qa ρ j <;> rw [hs] at z <;> cases z
    exact F.newO a ⟨j,_,hs,s⟩
  newM:=fun a h=>by
   obtain ⟨j,t,e,s⟩:=h
   rcases kd j _ e with z | ⟨u,z⟩
   ·exact F.newM a ⟨j,t,z.symm,s⟩
   ·cases hs:Qa ρ j <;> rw [hs] at z <;> cases z
    exact F.newM a ⟨j,_,hs,s⟩
  fix:=fun j a h=>by
   obtain ⟨⟨t,e⟩,s⟩:=h
   refine F.fix j a ⟨?_,s⟩
   rcases e with e | e | e
   ·rcases kd j _ e with z | ⟨u,z⟩
    ·exact ⟨t,.inl z.symm⟩
    ·cases hs:Qa ρ j <;> rw [hs] at z <;> cases z
     exact ⟨_,.inl rfl⟩
   ·rcases kd j _ e with z | ⟨u,z⟩
    ·exact ⟨t,.inr (.inl z.symm)⟩
    ·cases hs:Qa ρ j <;> rw [hs] at z <;> cases z
     exact ⟨_,.inr (.inl rfl)⟩
   ·rcases kd j _ e with z | ⟨u,z⟩
    ·exact ⟨t,.inr (.inr z.symm)⟩
    ·cases hs:Qa ρ j <;> rw [hs] at z <;> cases z
     exact ⟨_,.inr (.inr rfl)⟩
  gg:=fun b h=>I.gg b (F.gg b h)
  gn:=fun b h=>by
   rcases I.gn b h with z | z
   ·exact F.gn b z
   ·exact .inr (F.free z)
  bp:=F.bp }
end
def tCs (p:Pr) (cs:Es):TT:=fun σ H Q=>∃ G ρ,FI (Qa3 H G σ ρ) H G σ ρ∧Fin p (Qa3 H G σ ρ) σ (evC p.cf cs ρ) fun b ρ1=>∀ H1 G1,FI (Qa3 H G σ ρ) H1 G1 σ ρ1→Q b H1
section
variable {X:Cx} {p:Pr} {a:Expr} {a':E}
theorem Qbd:QC X [] (tCs p .nil):=q_c0.weak fun σ H Q ⟨G,ρ,F,h⟩=>by unfold evC at h;exact h H G F
end
noncomputable abbrev Pr.calm (p:Pr):Pr:={ p with R:=fun _ _ _ _=>False }
theorem Qlh {α β:Type} {o:Out α} {k:α→En→Out β} {b:β} {ρ:En} (h:o.bind k=.ok b ρ):∃ a ρ1,o=.ok a ρ1∧k a ρ1=.ok b ρ:=by
 cases o with
 | ok a ρ1=>exact ⟨a,ρ1,rfl,h⟩
 | xn x ρ1=>cases h
 | no=>cases h
theorem FI.under {B:Bs} {H:Hp} {G:Addr→Prop} {σ:St} {ρ:En} (F:FI B H G σ ρ) {l:Addr} {ys:List V} (g:G l) (np:∀ k,¬ PrvAt σ ρ k l) (hb:B.H l=none):FI B (upd H l (.lst ys)) G σ ρ∧Same (dls H G) (dls (upd H l (.lst ys)) G):=by
 have sm:Same (dls H G) (dls (upd H l (.lst ys)) G):=fun b o eb=>by
  obtain ⟨n,eb⟩:=Q2 eb
  rw [Qca n,Q6 (fun (z:b=l)=>n (by rw [z];exact g))]
  exact eb
 refine ⟨{ F with
  slot:=fun j=>Qim (F.slot j) sm fun b o hb1 hb2 eb=>?_
  prv:=fun b hb=>?_
  chg:=fun b o h1 h2 eb=>?_
  keep:=fun b o eb=>?_ },sm⟩
 ·have nb:b≠l:=fun z=>np j ⟨hb1,z ▸ hb2⟩
  exact ⟨by rw [Q6 nb];exact eb,(PrvAt.at F ⟨hb1,hb2⟩).1⟩
 ·by_cases h:b=l
  ·exact ⟨.lst ys,by rw [h,Qp],rfl⟩
  ·rw [Q6 h];exact F.prv b hb
 ·have nb:b≠l:=fun z=>by rw [z,hb] at eb;cases eb
  rw [Q6 nb]
  exact F.chg b o h1 h2 eb
 ·by_cases h:b=l
  ·exact ⟨_,by rw [h,Qp]⟩
  ·rw [Q6 h];exact F.keep b o eb
theorem Quy {p:Pr} {js:List (Option Nat)} {w:W} {tg:Tg} {cs:Es} {e':E} {σ:St} {H:Hp} {Q:VK} (h:tE p (.comp w js tg cs e') σ H Q):Qnw (tW p w) js (tG tg) (tCs p.calm cs) (tE p.calm e') σ H Q:=by
  obtain ⟨G,ρ,F,h⟩:=h
  unfold evE at h
  refine ⟨G,ρ,F,h.bind.imp fun its ρ1 h1=>?_⟩
  obtain ⟨ts,lk⟩:=its
  cases lk with
  | some _=>exact False.elim h1
  | none =>
   refine ⟨rfl,fun J H1 G1 Ok F1 wk stab l hl=>?_⟩
   replace wk:WkR J H1 G1 Ok ts:=wk
   replace h1:Fin p (Qa3 H G σ ρ) σ (match Qcf tg (evC p.cf cs) (evE p.cf e') ts [] (Qch js ρ1) with
    | .ok us ρi=>if Qea (Qch js ρ1) ρi=true∧Qb1 js=true then Out.ok (PV.ow (.lst us)) (Qjc js ρi ρ1) else .no
    | _=>.no) _:=h1
   cases ec:Qcf tg (evC p.cf cs) (evE p.cf e') ts [] (Qch js ρ1) with
   | no=>rw [ec] at h1;exact False.elim h1
   | xn x ρx=>rw [ec] at h1;exact False.elim h1
   | ok tsF ρF =>
    rw [ec] at h1
    by_cases hz:Qea (Qch js ρ1) ρF=true∧Qb1 js=true
    ·simp only [if_pos hz] at h1
     obtain ⟨hkept,hap⟩:=hz
     have Fc:=F1.cap hap
     refine ⟨fun i m ys σ2 H2=>i+m=ts.length∧∃ G2 ρi acc,FI (Qa3 H1 G1 (Qef js σ) (Qch js ρ1)) H2 G2 σ2 ρi∧G2 l∧(∀ k,¬ PrvAt σ2 ρi k l)∧H2 l=some (.lst ys)∧IsL (dls H2 G2) ys acc∧acc.length≤100000 ∧
      Qcf tg (evC p.cf cs) (evE p.cf e') (ts.drop i) acc ρi=.ok tsF ρF,⟨ts.length,Nat.zero_add _,_,_,[],Fc.addG hl (Same.upd hl) Qp rfl,.inr rfl,fun k hk=>?_,Qp,.nil,Nat.zero_le _,ec⟩,?_⟩
     ·obtain ⟨_,t,ob,ea,_⟩:=PrvAt.at Fc hk
      rw [hl] at ea
      cases ea
     rintro i m ys σ2 H2 ⟨him,G2,ρi,acc,I2,gl,np,el,il,zl,cl⟩
     have ok2:Ok H2:=stab H2 G2 (Fc.same I2)
     by_cases hlt:i<ts.length
     ·refine .inr ⟨wk.go i H2 hlt ok2,fun x H3 y=>?_⟩
      obtain ⟨s3,t,et,ix⟩:=wk.yld i H2 x H3 hlt ok2 y
      have I3:=I2.grow s3
      have ix3:=ix G2 I2.prv (Fc.same I2)
      rw [List.drop_eq_getElem_cons hlt] at cl
      have et':ts[i]=t:=by rw [getElem?_eq_getElem hlt] at et;exact Option.some.inj et
      rw [et'] at cl
      unfold Qcf at cl
      cases est:Qgq tg t ρi with
      | none=>rw [est] at cl;cases cl
      | some ρ4 =>
       rw [est] at cl
       replace cl:(evC p.cf cs ρ4).bind _=.ok tsF ρF:=cl
       obtain ⟨b,ρ5,eb,cl⟩:=Qlh cl
       refine ⟨_,G2,ρi,t,ρ4,I3,ix3,est,fun σ4 I4 old=>?_⟩
       have np4:∀ k,¬ PrvAt σ4 ρ4 k l:=fun k hk=>np k (old k l hk)
       refine ⟨G2,ρ4,I4.self,?_⟩
       rw [show p.calm.cf=p.cf from rfl,eb]
       intro H5 G5 I5
       have np5:=I4.nobody I5 (s3 _ _ el) np4
       have I5':=I4.trans I5
       have el5:H5 l=some (.lst ys):=I5.chg l _ (fun z=>by obtain ⟨j,z⟩:=OwA.prv z;exact np4 j z) (fun z=>by obtain ⟨j,z⟩:=MlA.prv z;exact np4 j z) (s3 _ _ el)
       have il5:IsL (dls H5 G5) ys acc:=(il.mono (Qbh s3)).mono (I4.same I5)
       cases b with
       | false =>
        simp only [Bool.false_eq_true,if_false] at cl ⊢
        exact ⟨m-1,by omega,by omega,G5,ρ5,acc,I5',I5.gg l gl,np5,el5,il5,zl,cl⟩
       | true =>
        simp only [if_true] at cl ⊢
        obtain ⟨r,ρ6,er,cl⟩:=Qlh cl
        refine ⟨G5,ρ5,I5'.self,?_⟩
        rw [show p.calm.cf=p.cf from rfl,er]
        intro v H6 G6 I6 r6
        cases ef:frz r with
        | none=>rw [ef] at cl;cases cl
        | some t6 =>
         rw [ef] at cl
         replace cl:(if acc.length<100000 then Qcf tg (evC p.cf cs) (evE p.cf e') (ts.drop (i+1)) (acc++[t6]) ρ6 else .no)=.ok tsF ρF:=cl
         by_cases za:acc.length<100000
         ·rw [if_pos za] at cl
          have np6:=I5'.nobody I6 el5 np5
          have el6:H6 l=some (.lst ys):=I6.chg l _ (fun z=>by obtain ⟨j,z⟩:=OwA.prv z;exact np5 j z) (fun z=>by obtain ⟨j,z⟩:=MlA.prv z;exact np5 j z) el5
          have il6:IsL (dls H6 G6) ys acc:=il5.mono (I5'.same I6)
          obtain ⟨G7,I7,i7,s7⟩:=PVR.lay (B:=Qa3 H5 G5 σ4 ρ5) r6 I6 ef
          have g7:G7 l:=I7.gg l (I5.gg l gl)
          have I7':=I5'.trans I7
          have hb:(Qa3 H1 G1 (Qef js σ) (Qch js ρ1)).H l=none:=hl
          obtain ⟨I8,s8⟩:=I7'.under (ys:=ys++[v]) g7 np6 hb
          have zy:=il6.length
          refine ⟨el6,by rw [zy,sizeLine_eq];omega,m-1,by omega,by omega,G7,ρ6,acc++[t6],I8,g7,np6,Qp,((il6.mono (Qdl s7)).append (.one i7)).mono s8,by rw [length_append,length_singleton];omega,cl⟩
         ·rw [if_neg za] at cl;cases cl
     ·have e0:ts.drop i=[]:=List.drop_of_length_le (by omega)
      rw [e0] at cl
      cases cl
      refine .inl ⟨wk.stop i H2 (by omega) ok2,h1 _ H2 G2 (F1.uncap hap I2 hkept) ?_⟩
      refine ⟨l,rfl,F1.free hl,gl,fun k hk=>?_,.lst ys,el,zl,il⟩
      obtain ⟨⟨u,eu⟩,q⟩:=hk
      rw [Qe8] at eu
      have:∃ u,(Qa ρ1 k).prv=some u:=by
       rcases Qdh js ρF k (Qa ρ1 k) with z | ⟨_,t,_,_,z⟩
       ·rw [z] at eu;exact ⟨u,eu⟩
       ·rw [z] at eu;exact Qlg eu
      obtain ⟨_,t,ob,ea,_⟩:=PrvAt.at F1 ⟨this,q⟩
      rw [hl] at ea
      cases ea
    ·simp only [if_neg hz] at h1
     exact False.elim h1
theorem Q70 {X:Cx} {p:Pr} {tgE elt iter:Expr} {ifs:List Expr} {scope:Scope} {pos:Pos} {N:List Str} {js:List (Option Nat)} {w:W} {tg:Tg} {cs:Es} {e':E} (hcalm:X.calm=true)
  (hi:QI X tgE iter (tW p w)) (hg:∀ s H fp,QG (Qac X scope N s H fp) tgE (tG tg)) (hc:∀ s H fp,QC (Qac X scope N s H fp) ifs (tCs p.calm cs)) (he:∀ s H fp,QE (Qac X scope N s H fp) elt (tE p.calm e'))
  (hk:scope.kind=.function) (h1:scOk X scope=true) (h2:Qg1 X scope N js=true) (hs:∀ x,foldedSetIterable iter X.env x=pure x):QE X (.ListComp elt [⟨tgE,iter,ifs,0⟩] scope pos) (tE p (.comp w js tg cs e')) :=
 (Qys N js hcalm hi hg hc he hk h1 h2 hs).weak fun σ H Q h=>Quy h
theorem QS.weak {X:Cx} {e:Stmt} {t t':TS} (h:QS X e t) (q:∀ D σ H,t' D σ H→t D σ H):QS X e t':=⟨fun pins s σ H D I z=>h.h pins s σ H D I (q _ _ _ z)⟩
theorem QB.weak {X:Cx} {e:List Stmt} {t t':TS} (h:QB X e t) (q:∀ D σ H,t' D σ H→t D σ H):QB X e t':=⟨fun pins s σ H D I z=>h.h pins s σ H D I (q _ _ _ z)⟩
def SFin (p:Pr) (B:Bs) (H:Hp) (G:Addr→Prop) (D:Ends):SO→Prop
 | .nx ρ1=>∀ σ1 H1 G1,FI B H1 G1 σ1 ρ1→Same (dls H G) (dls H1 G1)→D.nx σ1 H1
 | .bk ρ1=>∀ σ1 H1 G1,FI B H1 G1 σ1 ρ1→Same (dls H G) (dls H1 G1)→D.bk σ1 H1
 | .ct ρ1=>∀ σ1 H1 G1,FI B H1 G1 σ1 ρ1→Same (dls H G) (dls H1 G1)→D.ct σ1 H1
 | .rt r ρ1=>∀ v σ1 H1 G1,FI B H1 G1 σ1 ρ1→PVR B.H H1 G1 σ1 ρ1 v r→D.rt v H1
 | .xn x ρ1=>∀ cls dx σ1 H1 G1,FI B H1 G1 σ1 ρ1→Q2y p.mg H1 x cls dx→p.R cls dx σ1 H1
 | .no=>False
def tS (p:Pr) (s:S):TS:=fun D σ H=>∃ B G ρ,FI B H G σ ρ∧(∀ a,¬ B.O a)∧SFin p B H G D (exS p.cf s ρ)
section
variable {p:Pr} {B:Bs} {H H1:Hp} {G G1:Addr→Prop} {D:Ends} {σ:St} {ρ ρ1:En} {α:Type}
theorem SFin.late {o:SO} (h:SFin p B H G D o) (s:Same (dls H G) (dls H1 G1)):SFin p B H1 G1 D o:=by
 cases o with
 | nx ρ1=>exact fun σ1 H2 G2 F q=>h σ1 H2 G2 F (s.trans q)
 | bk ρ1=>exact fun σ1 H2 G2 F q=>h σ1 H2 G2 F (s.trans q)
 | ct ρ1=>exact fun σ1 H2 G2 F q=>h σ1 H2 G2 F (s.trans q)
 | rt r ρ1=>exact h
 | xn x ρ1=>exact h
 | no=>exact h
theorem Qg9 {o:Out α} {k:α→En→SO} (h:SFin p B H G D (ofO o k)):Fin p B σ o fun a ρ1=>SFin p B H G D (k a ρ1):=by
 cases o with
 | ok a ρ1=>exact h
 | xn x ρ1=>exact fun cls dx H1 G1 F xr=>h cls dx σ H1 G1 F xr
 | no=>exact h
theorem Qeu {o:Option α} {k:α→SO} (h:SFin p B H G D (Qak o k)):∃ a,o=some a∧SFin p B H G D (k a):=by
 cases o with
 | none=>exact False.elim h
 | some a=>exact ⟨a,rfl,h⟩
theorem PVR.base {H2:Hp} {G2:Addr→Prop} {ρ2:En} {v:V} {r:PV} (h:PVR H1 H2 G2 σ ρ2 v r) (F:FI B H1 G1 σ ρ1):PVR B.H H2 G2 σ ρ2 v r:=by
 cases r with
 | fz t=>exact h
 | sl i=>exact h
 | ow t =>
  obtain ⟨a,rfl,n,g⟩:=h
  exact ⟨a,rfl,F.free n,g⟩
theorem Qif {e:E} {Q:VK} {K:PV→En→SO} (F:FI B H G σ ρ) (h:SFin p B H G D (ofO (evE p.cf e ρ) K)) (q:∀ r ρ2 v H2 G2,SFin p B H2 G2 D (K r ρ2)→FI B H2 G2 σ ρ2→FI (Qa3 H G σ ρ) H2 G2 σ ρ2→PVR B.H H2 G2 σ ρ2 v r→Same (dls H G) (dls H2 G2)→Q v H2):tE p e σ H Q :=
 Qq2 F (Qg9 h) fun r ρ2 v H2 G2 k F2 F2' r2=>q r ρ2 v H2 G2 (k.late (F.same F2')) F2 F2' (r2.base F) (F.same F2')
theorem Qz2 {e:E} {Q:Bool→Hp→Prop} {K:Bool→En→SO} (F:FI B H G σ ρ) (h:SFin p B H G D (ofO (Qar (evE p.cf e ρ)) K)) (q:∀ b ρ2 H2 G2,SFin p B H2 G2 D (K b ρ2)→FI B H2 G2 σ ρ2→Same (dls H G) (dls H2 G2)→Q b H2):tT p e σ H Q :=
 Qzl F (Qg9 h) fun b ρ2 H2 G2 k F2 F2'=>q b ρ2 H2 G2 (k.late (F.same F2')) F2 (F.same F2')
end
section
variable {X:Cx} {p:Pr} {e a b:Expr} {e' a' b' c':E} {st:Stmt} {sts:List Stmt} {s s1 s2:S} {pos p1 p2:Pos} {x:Str}
theorem Qc4:QB X [] (tS p .nil):=Qo5.weak fun D σ H ⟨B,G,ρ,F,hO,h⟩=>h σ H G F (Same.refl _)
theorem Q71 {D:Ends} {σ:St} {H:Hp} (h:tS p (.seq s1 s2) D σ H):Qxn (tS p s1) (tS p s2) D σ H:=by
 obtain ⟨B,G,ρ,F,hO,h⟩:=h
 refine ⟨B,G,ρ,F,hO,?_⟩
 unfold exS at h
 cases e:exS p.cf s1 ρ with
 | nx ρ1=>rw [e] at h;exact fun σ1 H1 G1 F1 q=>⟨B,G1,ρ1,F1,hO,SFin.late (p:=p) (D:=D) h q⟩
 | bk ρ1=>rw [e] at h;exact h
 | ct ρ1=>rw [e] at h;exact h
 | rt r ρ1=>rw [e] at h;exact h
 | xn x ρ1=>rw [e] at h;exact h
 | no=>rw [e] at h;exact h
theorem Qx (h1:QS X st (tS p s1)) (h2:QB X sts (tS p s2)):QB X (st::sts) (tS p (.seq s1 s2)):=(Qei h1 h2).weak fun D σ H h=>Q71 h
theorem Q3 (h1:QS X st (tS p s1)):QB X [st] (tS p s1):=Qij h1
theorem Q72 (he:QE X e (tE p e')) (hs:swapsWith e none pos.line X.env=pure false):QS X (.Expr e pos) (tS p (.expr e')):=(Qkb he hs).weak fun D σ H ⟨B,G,ρ,F,hO,h⟩=>by
 unfold exS at h
 exact Qif F h fun r ρ2 v H2 G2 k F2 _ _ sm=>k σ H2 G2 F2 (Same.refl _)
theorem Qaq (he:QE X e (tE p e')):QS X (.Return (some e) pos) (tS p (.ret e')):=(Qlw he).weak fun D σ H ⟨B,G,ρ,F,hO,h⟩=>by
 unfold exS at h
 exact Qif F h fun r ρ2 v H2 G2 k F2 _ pv _=>k v σ H2 G2 F2 pv
theorem Qek {c:Expr} {bs cs:List Stmt} (hc:QT X c (tT p c')) (ha:QB X bs (tS p s1)) (hb:QB X cs (tS p s2)):QS X (.If c bs cs pos) (tS p (.ite c' s1 s2)):=(Qui hc ha hb).weak fun D σ H ⟨B,G,ρ,F,hO,h⟩=>by
 unfold exS at h
 refine Qz2 F h fun k ρ2 H2 G2 h2 F2 sm=>?_
 cases k with
 | true=>exact ⟨B,G2,ρ2,F2,hO,h2⟩
 | false=>exact ⟨B,G2,ρ2,F2,hO,h2⟩
theorem Q3f {B:Bs} {H:Hp} {G:Addr→Prop} {D:Ends} {σ:St} {ρ:En} {i:Nat} {r:PV} {v:V} (F:FI B H G σ ρ) (pv:PVR B.H H G σ ρ v r) (h:SFin p B H G D (Qq0 i r ρ)):D.nx (σ.set i (some v)) H:=by
 cases r with
 | sl j=>exact False.elim h
 | fz t =>
  obtain ⟨ρ',e,k⟩:=Qeu h
  exact k _ H G (F.setS e pv.is) (Same.refl _)
 | ow t =>
  obtain ⟨ρ',e,k⟩:=Qeu h
  exact k _ H G (F.setOw rfl e pv) (Same.refl _)
theorem Qmg {i:Nat} (h:QS X st (Qlo (tE p e') (Qgo i))):QS X st (tS p (.set i e')):=h.weak fun D σ H ⟨B,G,ρ,F,hO,h⟩=>by
 unfold exS at h
 exact Qif F h fun r ρ2 v H2 G2 k F2 _ pv _=>Q3f F2 pv k
theorem Qbo {i:Nat} (h:QS X st (Qlo (tE p e') (Qgo i))):QS X st (tS p (.setF i e')):=h.weak fun D σ H ⟨B,G,ρ,F,hO,h⟩=>by
 unfold exS at h
 refine Qif F h fun r ρ2 v H2 G2 k F2 _ pv _=>?_
 cases ef:frz r with
 | none=>rw [ef] at k;exact False.elim k
 | some t =>
  rw [ef] at k
  obtain ⟨ρ',e,k⟩:=Qeu k
  obtain ⟨G3,F3,i3,s3⟩:=PVR.lay pv F2 ef
  exact k _ H2 G3 (F3.setS e i3) (Qdl s3)
theorem Qab0 {is:List Nat} (h:QS X st (Qlo (tE p e') (tG (.tp is)))):QS X st (tS p (.unp is e')):=h.weak fun D σ H ⟨B,G,ρ,F,hO,h⟩=>by
 unfold exS at h
 refine Qif F h fun r ρ2 v H2 G2 k F2 _ pv _=>?_
 cases r with
 | ow t=>exact False.elim k
 | sl i=>exact False.elim k
 | fz t =>
  cases t <;> first | exact False.elim k | skip
  obtain ⟨ρ',e,k⟩:=Qeu k
  exact ⟨B,G2,ρ2,_,ρ',F2,pv.is,e,fun σ' F' _=>k σ' H2 G2 F' (Same.refl _)⟩
end
section
variable {X:Cx} {p:Pr} {e a b:Expr} {e' a' b' c':E} {st:Stmt} {sts:List Stmt} {s s1 s2:S} {pos p1 p2:Pos} {x:Str} {K:PySem.W.Frag}
theorem FI.mutAt {B:Bs} {H:Hp} {G:Addr→Prop} {σ:St} {ρ:En} {i:Nat} (F:FI B H G σ ρ) (h:(Qa ρ i).mut=true):∃ a vs,σ[i]?=some (some (.ref a))∧H a=some (.lst vs):=by
 have:∃ t,(Qa ρ i).prv=some (.lst t):=by
  cases hs:Qa ρ i <;> rw [hs] at h <;> first | (cases h;done) | skip
  all_goals (rename_i t;cases t <;> first | exact ⟨_,rfl⟩ | cases h)
 obtain ⟨t,e⟩:=this
 obtain ⟨a,s,_,o⟩:=F.prvAt e
 obtain ⟨vs,_,ea,_⟩:=o.lst_inv
 exact ⟨a,vs,s,ea⟩
theorem IsL.set {D:Hp} {v:V} {t:T} (hv:Is D v t):∀ {vs:List V} {ts:List T} (n:Nat),IsL D vs ts→IsL D (vs.set n v) (ts.set n t)
 | vs,[],n,r=>by rw [r.nil_inv];exact .nil
 | vs,u::us,0,r=>by
  obtain ⟨w,ws,rfl,a,q⟩:=r.cons_inv
  exact .cons hv q
 | vs,u::us,n+1,r=>by
  obtain ⟨w,ws,rfl,a,q⟩:=r.cons_inv
  exact .cons a (IsL.set hv n q)
theorem Quz {i:Nat} (h:QS X st (Qua (tBM K "list" Qlc (Qh4 i) (Qku (tE p e') Qv4)))):QS X st (tS p (.app i e')):=h.weak fun D σ H ⟨B,G,ρ,F,hO,h⟩=>by
 unfold exS at h
 by_cases hm:(Qa ρ i).mut=true
 ·simp only [if_pos hm] at h
  obtain ⟨a,vs0,sa,ea⟩:=F.mutAt hm
  refine ⟨_,sa,.inl ⟨rfl,_,SqL.of ea⟩,?_⟩
  refine Qif F h fun r ρ2 v H2 G2 k F2 _ pv _=>?_
  cases ef:frz r with
  | none=>rw [ef] at k;exact False.elim k
  | some t =>
   rw [ef] at k
   obtain ⟨G3,F3,i3,s3⟩:=PVR.lay pv F2 ef
   have sl:=F3.slot i
   replace k:SFin p B H2 G2 D (match Qa ρ2 i with
    | .ow (.lst ts)=>if ts.length<100000 then .nx (ρ2.set i (.ow (.lst (ts++[t])))) else .no
    | .ml (.lst ts)=>if ts.length<100000 then .nx (ρ2.set i (.ml (.lst (ts++[t])))) else .no
    | _=>.no):=k
   have fin:∀ ts s',(Qa ρ2 i=.ow (.lst ts)∧s'=Slot.ow (.lst (ts++[t])))∨(Qa ρ2 i=.ml (.lst ts)∧s'=Slot.ml (.lst (ts++[t])))→SFin p B H2 G2 D (if ts.length<100000 then .nx (ρ2.set i s') else .no)→Qlc (.ref a) [v] H2 fun _ H1=>D.nx σ H1:=fun ts s' hs k=>by
    have hp:(Qa ρ2 i).prv=some (.lst ts):=by rcases hs with ⟨h,_⟩ | ⟨h,_⟩ <;> rw [h] <;> rfl
    obtain ⟨a',sa',g,o1⟩:=F3.prvAt hp
    obtain ⟨vs,z,el,il⟩:=o1.lst_inv
    rw [sa] at sa'
    cases sa'
    by_cases zt:ts.length<100000
    ·rw [if_pos zt] at k
     have lz:=il.length
     obtain ⟨F4,s4⟩:=F3.change hs sa (il.append (.one i3)) (by rw [length_append,length_singleton];omega)
     exact ⟨a,vs,v,rfl,rfl,el,by rw [lz,sizeLine_eq];omega,k σ _ G3 F4 ((Qdl s3).trans s4)⟩
    ·rw [if_neg zt] at k;exact False.elim k
   cases hs:Qa ρ2 i with
   | un=>rw [hs] at k;exact False.elim k
   | pin _=>rw [hs] at k;exact False.elim k
   | fx _=>rw [hs] at k;exact False.elim k
   | fz t=>rw [hs] at k;exact False.elim k
   | ro t=>rw [hs] at k;exact False.elim k
   | ow u =>
    rw [hs] at k sl
    cases u <;> first | exact False.elim k | skip
    exact fin _ _ (.inl ⟨hs,rfl⟩) k
   | ml u =>
    rw [hs] at k sl
    cases u <;> first | exact False.elim k | skip
    exact fin _ _ (.inr ⟨hs,rfl⟩) k
 ·simp only [if_neg hm] at h
  exact False.elim h
theorem Qab1 {i:Nat} (h:QS X st (Qua (tBM K "list" (Qg2 K) (Qh4 i) (Qku (tE p e') Qv4)))):QS X st (tS p (.ext i e')):=h.weak fun D σ H ⟨B,G,ρ,F,hO,h⟩=>by
 unfold exS at h
 by_cases hm:(Qa ρ i).mut=true
 ·simp only [if_pos hm] at h
  obtain ⟨a,vs0,sa,ea⟩:=F.mutAt hm
  refine ⟨_,sa,.inl ⟨rfl,_,SqL.of ea⟩,?_⟩
  refine Qif F h fun r ρ2 v H2 G2 k F2 _ pv _=>?_
  cases r with
  | ow t=>exact False.elim k
  | sl j=>exact False.elim k
  | fz t =>
   cases t <;> first | exact False.elim k | skip
   rename_i us
   have iv:=pv.is
   obtain ⟨b,ws,rfl,eb,rb⟩:=iv.tup_inv
   replace k:SFin p B H2 G2 D (match Qa ρ2 i with
    | .ow (.lst ts)=>if ts.length+us.length≤100000 then .nx (ρ2.set i (.ow (.lst (ts++us)))) else .no
    | .ml (.lst ts)=>if ts.length+us.length≤100000 then .nx (ρ2.set i (.ml (.lst (ts++us)))) else .no
    | _=>.no):=k
   have fin:∀ ts s',(Qa ρ2 i=.ow (.lst ts)∧s'=Slot.ow (.lst (ts++us)))∨(Qa ρ2 i=.ml (.lst ts)∧s'=Slot.ml (.lst (ts++us)))→SFin p B H2 G2 D (if ts.length+us.length≤100000 then .nx (ρ2.set i s') else .no)→Qg2 K (.ref a) [.ref b] H2 fun _ H1=>D.nx σ H1:=fun ts s' hs k=>by
    have hp:(Qa ρ2 i).prv=some (.lst ts):=by rcases hs with ⟨h,_⟩ | ⟨h,_⟩ <;> rw [h] <;> rfl
    obtain ⟨a',sa',g,o1⟩:=F2.prvAt hp
    obtain ⟨vs,z,el,il⟩:=o1.lst_inv
    rw [sa] at sa'
    cases sa'
    by_cases zt:ts.length+us.length≤100000
    ·rw [if_pos zt] at k
     have lz:=il.length
     have lb:=rb.length
     obtain ⟨F4,s4⟩:=F2.change hs sa (il.append rb) (by rw [length_append];exact zt)
     exact ⟨a,b,vs,ws,rfl,rfl,el,SqT.of (Q2 eb).2,Qcp (by rw [lz,lb];exact zt),k σ _ G2 F4 s4⟩
    ·rw [if_neg zt] at k;exact False.elim k
   cases hs:Qa ρ2 i with
   | un=>rw [hs] at k;exact False.elim k
   | pin _=>rw [hs] at k;exact False.elim k
   | fx _=>rw [hs] at k;exact False.elim k
   | fz t=>rw [hs] at k;exact False.elim k
   | ro t=>rw [hs] at k;exact False.elim k
   | ow u =>
    rw [hs] at k
    cases u <;> first | exact False.elim k | skip
    exact fin _ _ (.inl ⟨hs,rfl⟩) k
   | ml u =>
    rw [hs] at k
    cases u <;> first | exact False.elim k | skip
    exact fin _ _ (.inr ⟨hs,rfl⟩) k
 ·simp only [if_neg hm] at h
  exact False.elim h
theorem Qu0 {i:Nat} (h:QS X st (Qlo (tE p e') (Qxr (Qh4 i) (tE p a') Qnu))):QS X st (tS p (.put i a' e')):=h.weak fun D σ H ⟨B,G,ρ,F,hO,h⟩=>by
 unfold exS at h
 refine Qif F h fun r ρ2 v H2 G2 k F2 _ pv _=>?_
 cases ef:frz r with
 | none=>rw [ef] at k;exact False.elim k
 | some t =>
  rw [ef] at k
  obtain ⟨G3,F3,i3,s3⟩:=PVR.lay pv F2 ef
  by_cases hm:(Qa ρ2 i).mut=true
  ·simp only [if_pos hm] at k
   obtain ⟨a,vs0,sa,ea⟩:=F3.mutAt hm
   refine ⟨_,sa,?_⟩
   refine Qif F3 (SFin.late k (Qdl s3)) fun rk ρ4 w H4 G4 k4 F4 F4' pk sm=>?_
   have i4:=i3.mono sm
   cases rk with
   | ow t=>exact False.elim k4
   | sl j=>exact False.elim k4
   | fz u =>
    cases u <;> first | exact False.elim k4 | skip
    rename_i j
    obtain rfl:=pk.is.int_inv
    replace k4:SFin p B H4 G4 D (match Qa ρ4 i with
     | .ow (.lst ts)=>Qak (ixN ts.length j) fun n=>.nx (ρ4.set i (.ow (.lst (ts.set n t))))
     | .ml (.lst ts)=>Qak (ixN ts.length j) fun n=>.nx (ρ4.set i (.ml (.lst (ts.set n t))))
     | _=>.no):=k4
    have fin:∀ ts (s':Nat→Slot),(∀ n,(Qa ρ4 i=.ow (.lst ts)∧s' n=Slot.ow (.lst (ts.set n t)))∨(Qa ρ4 i=.ml (.lst ts)∧s' n=Slot.ml (.lst (ts.set n t))))→SFin p B H4 G4 D (Qak (ixN ts.length j) fun n=>.nx (ρ4.set i (s' n)))→Qnu (.ref a) (.int j) v H4 fun H1=>D.nx σ H1:=fun ts s' hs k=>by
     have hp:(Qa ρ4 i).prv=some (.lst ts):=by rcases hs 0 with ⟨h,_⟩ | ⟨h,_⟩ <;> rw [h] <;> rfl
     obtain ⟨a',sa',g,o1⟩:=F4.prvAt hp
     obtain ⟨vs,z,el,il⟩:=o1.lst_inv
     rw [sa] at sa'
     cases sa'
     obtain ⟨n,en,k⟩:=Qeu k
     have lz:=il.length
     obtain ⟨F5,s5⟩:=F4.change (hs n) sa (il.set i4 n) (by rw [length_set];exact z)
     exact ⟨a,vs,j,n,rfl,rfl,el,by rw [lz];exact en,k σ _ G4 F5 s5⟩
    cases hs:Qa ρ4 i with
    | un=>rw [hs] at k4;exact False.elim k4
    | pin _=>rw [hs] at k4;exact False.elim k4
    | fx _=>rw [hs] at k4;exact False.elim k4
    | fz t=>rw [hs] at k4;exact False.elim k4
    | ro t=>rw [hs] at k4;exact False.elim k4
    | ow u =>
     rw [hs] at k4
     cases u <;> first | exact False.elim k4 | skip
     exact fin _ _ (fun n=>.inl ⟨hs,rfl⟩) k4
    | ml u =>
     rw [hs] at k4
     cases u <;> first | exact False.elim k4 | skip
     exact fin _ _ (fun n=>.inr ⟨hs,rfl⟩) k4
  ·simp only [if_neg hm] at k
   exact False.elim k
theorem Qoe {p:Pr} {B:Bs} {H:Hp} {G:Addr→Prop} {D:Ends} {o:SO} (h:SFin p B H G D (Qqz o)):SFin p.calm B H G D o:=by
 cases o with
 | xn x ρ1=>exact False.elim h
 | nx ρ1=>exact h
 | bk ρ1=>exact h
 | ct ρ1=>exact h
 | rt r ρ1=>exact h
 | no=>exact h
theorem s_whl {c:Expr} {body:List Stmt} (hc:QT X.nox c (tT p.calm c')) (hb:QB X.nox body (tS p.calm s)):QS X (.While c body [] pos) (tS p (.whl c' s)) :=
 (q_sx (Q2o PassesOwn.never hc hb)).weak fun D σ H ⟨B,G,ρ,F,hO,h⟩=>by
  unfold exS at h
  have h:=Qoe h
  refine ⟨fun m σ2 H2=>∃ G2 ρ2,FI B H2 G2 σ2 ρ2∧SFin p.calm B H2 G2 D (Qqy (fun ρ=>Qar (evE p.cf c' ρ)) (exS p.cf s) m ρ2),⟨1000000,G,ρ,F,h⟩,?_⟩
  rintro m σ2 H2 ⟨G2,ρ2,F2,h2⟩
  cases m with
  | zero=>exact False.elim h2
  | succ m =>
   unfold Qqy at h2
   refine Qz2 (p:=p.calm) F2 h2 fun k ρ3 H3 G3 h3 F3 sm=>?_
   cases k with
   | false=>exact h3 σ2 H3 G3 F3 (Same.refl _)
   | true =>
    refine ⟨fun σ' H'=>∃ G' ρ',FI B H' G' σ' ρ'∧SFin p.calm B H' G' D (Qqy (fun ρ=>Qar (evE p.cf c' ρ)) (exS p.cf s) m ρ'),fun σ' H' q=>⟨m,Nat.lt_succ_self m,q⟩,B,G3,ρ3,F3,hO,?_⟩
    replace h3:SFin p.calm B H3 G3 D (match exS p.cf s ρ3 with
     | .nx ρ2=>Qqy (fun ρ=>Qar (evE p.cf c' ρ)) (exS p.cf s) m ρ2
     | .ct ρ2=>Qqy (fun ρ=>Qar (evE p.cf c' ρ)) (exS p.cf s) m ρ2
     | .bk ρ2=>.nx ρ2
     | o=>o):=h3
    show SFin p.calm B H3 G3 _ (exS p.cf s ρ3)
    cases eb:exS p.cf s ρ3 with
    | nx ρ4=>rw [eb] at h3;exact fun σ4 H4 G4 F4 s4=>⟨G4,ρ4,F4,SFin.late h3 s4⟩
    | ct ρ4=>rw [eb] at h3;exact fun σ4 H4 G4 F4 s4=>⟨G4,ρ4,F4,SFin.late h3 s4⟩
    | bk ρ4=>rw [eb] at h3;exact h3
    | rt r ρ4=>rw [eb] at h3;exact h3
    | xn x ρ4=>rw [eb] at h3;exact h3
    | no=>rw [eb] at h3;exact h3
theorem Qab2 {iter tgE:Expr} {body:List Stmt} {w:W} {tg:Tg} (hc:X.calm=true) (hi:QI X.nox tgE iter (tW p.calm w)) (hg:QG X.nox tgE (tG tg)) (hb:QB X.nox body (tS p.calm s)) (hs:∀ x,foldedSetIterable iter X.env x=pure x):QS X (.For tgE iter body [] pos) (tS p (.for_ w tg s)) :=
 (q_sx (Q4p PassesOwn.never hc hi hg hb hs)).weak fun D σ H ⟨B,G,ρ,F,hO,h⟩=>by
  unfold exS at h
  have h:=Qoe h
  refine ⟨G,ρ,F.self,(Qg9 (σ:=σ) h).rebase F fun its ρ1 h1=>?_⟩
  obtain ⟨ts,lk⟩:=its
  cases lk with
  | some _=>exact False.elim h1
  | none =>
   refine ⟨rfl,fun J H1 G1 Ok F1 wk stab=>?_⟩
   replace wk:WkR J H1 G1 Ok ts:=wk
   have F1':=F.trans F1
   have s1:=F.same F1
   refine ⟨fun i m σ2 H2=>i+m=ts.length∧∃ G2 ρ2,FI B H2 G2 σ2 ρ2∧Same (dls H1 G1) (dls H2 G2)∧SFin p.calm B H2 G2 D (Qe4 tg (exS p.cf s) (ts.drop i) ρ2),⟨ts.length,Nat.zero_add _,G1,ρ1,F1',Same.refl _,SFin.late h1 s1⟩,?_⟩
   rintro i m σ2 H2 ⟨him,G2,ρ2,F2,s2,h2⟩
   have ok2:=stab H2 G2 s2
   by_cases hlt:i<ts.length
   ·refine .inr ⟨wk.go i H2 hlt ok2,fun σ' H'=>∃ G' ρ',FI B H' G' σ' ρ'∧Same (dls H1 G1) (dls H' G')∧SFin p.calm B H' G' D (Qe4 tg (exS p.cf s) (ts.drop (i+1)) ρ'),fun σ' H' q=>⟨m-1,by omega,by omega,q⟩,fun x H3 y=>?_⟩
    obtain ⟨s3,t,et,ix⟩:=wk.yld i H2 x H3 hlt ok2 y
    have F3:=F2.grow s3
    have ix3:=ix G2 F2.prv s2
    rw [List.drop_eq_getElem_cons hlt] at h2
    have et':ts[i]=t:=by rw [getElem?_eq_getElem hlt] at et;exact Option.some.inj et
    rw [et'] at h2
    unfold Qe4 at h2
    cases est:Qgq tg t ρ2 with
    | none=>rw [est] at h2;exact False.elim h2
    | some ρ4 =>
     rw [est] at h2
     refine ⟨B,G2,ρ2,t,ρ4,F3,ix3,est,fun σ4 F4 _=>⟨B,G2,ρ4,F4,hO,?_⟩⟩
     replace h2:SFin p.calm B H2 G2 D (match exS p.cf s ρ4 with
      | .nx ρ2=>Qe4 tg (exS p.cf s) (ts.drop (i+1)) ρ2
      | .ct ρ2=>Qe4 tg (exS p.cf s) (ts.drop (i+1)) ρ2
      | .bk ρ2=>.nx ρ2
      | o=>o):=h2
     have s23:Same (dls H2 G2) (dls H3 G2):=Qbh s3
     have h2:=SFin.late h2 s23
     have s13:=s2.trans s23
     show SFin p.calm B H3 G2 _ (exS p.cf s ρ4)
     cases eb:exS p.cf s ρ4 with
     | nx ρ5=>rw [eb] at h2;exact fun σ5 H5 G5 F5 s5=>⟨G5,ρ5,F5,s13.trans s5,SFin.late h2 s5⟩
     | ct ρ5=>rw [eb] at h2;exact fun σ5 H5 G5 F5 s5=>⟨G5,ρ5,F5,s13.trans s5,SFin.late h2 s5⟩
     | bk ρ5=>rw [eb] at h2;exact h2
     | rt r ρ5=>rw [eb] at h2;exact h2
     | xn x ρ5=>rw [eb] at h2;exact h2
     | no=>rw [eb] at h2;exact h2
   ·have e0:ts.drop i=[]:=List.drop_of_length_le (by omega)
    rw [e0] at h2
    exact .inl ⟨wk.stop i H2 (by omega) ok2,h2 σ2 H2 G2 F2 (Same.refl _)⟩
end
section
variable {X:Cx} {p:Pr} {s:S} {pos:Pos} {K:PySem.W.Frag}
end
noncomputable def Qtg:Arg→Slot
 | .fz t=>.fz t
 | .ml t=>.ml t
 | .ro t=>.ro t
theorem Qof (fn:Fn) (as:List Arg):Qfi fn as=as.map Qtg++List.replicate (fn.sz-fn.ps) .un:=by
 unfold Qfi
 congr 1
theorem Qdo (fn:Fn) (as:List Arg) (i:Nat):Qa (Qfi fn as) i=match as[i]? with
  | some a=>Qtg a
  | none=>.un:=by
 rw [Qof]
 unfold Qa
 rcases Nat.lt_or_ge i as.length with h | h
 ·rw [List.getElem?_append_left (by rw [length_map];exact h),getElem?_map,getElem?_eq_getElem h]
  rfl
 ·rw [List.getElem?_append_right (by rw [length_map];exact h),List.getElem?_eq_none_iff.mpr h,getElem?_replicate]
  split <;> rename_i e
  ·split at e
   ·cases e;rfl
   ·cases e
  ·rfl
theorem Qog {N:List Str} {vs:List V} {i:Nat} {v:V} (h:vs[i]?=some v):(Qbt N vs)[i]?=some (some v):=by
 unfold Qbt
 have hi:i<vs.length:=(List.getElem?_eq_some_iff.mp h).1
 rw [List.getElem?_append_left (by rw [length_map];exact hi),getElem?_map,h]
 rfl
theorem Qoh {N:List Str} {vs:List V} {i:Nat} {v:V} (h:(Qbt N vs)[i]?=some (some v)):vs[i]?=some v:=by
 unfold Qbt at h
 rcases Nat.lt_or_ge i vs.length with hi | hi
 ·rw [List.getElem?_append_left (by rw [length_map];exact hi),getElem?_map] at h
  cases e:vs[i]? with
  | none=>rw [e] at h;cases h
  | some w=>rw [e] at h;cases h;rfl
 ·rw [List.getElem?_append_right (by rw [length_map];exact hi),getElem?_replicate] at h
  split at h <;> cases h
noncomputable abbrev Qz3 (H:Hp) (G:Addr→Prop) (vs:List V) (as:List Arg):Bs:=⟨H,G,fun _=>False,Quv vs as,fun i a=>(∃ x,as[i]?=some x∧x.prv=true)∧vs[i]?=some (.ref a)⟩
section
variable {H H1:Hp} {G G1:Addr→Prop} {vs:List V} {as:List Arg} {fn:Fn} {N:List Str} {σ1:St} {ρ1:En} {fin:List T} {mg:Str→Option Value}
theorem Qth {x:Arg} {t:T} (h:(Qtg x).prv=some t):x.prv=true:=by
 cases x <;> first | rfl | cases h
theorem Qz4 (A:ArgsR H G vs as) (pn:Pen H G) (h1:vs.length≤N.length) (h2:fn.ps=as.length) (h3:fn.sz=N.length):FI (Qz3 H G vs as) H G (Qbt N vs) (Qfi fn as):=by
 have pv:∀ i a,PrvAt (Qbt N vs) (Qfi fn as) i a→(∃ x,as[i]?=some x∧x.prv=true)∧vs[i]?=some (.ref a):=fun i a h=>by
  obtain ⟨⟨t,e⟩,q⟩:=h
  rw [Qdo] at e
  cases hx:as[i]? with
  | none=>rw [hx] at e;cases e
  | some x=>rw [hx] at e;exact ⟨⟨x,rfl,Qth e⟩,Qoh q⟩
 refine ⟨?_,fun i=>?_,fun i j a h1 h2=>?_,pn,fun _ _ _ _ e=>e,fun _ o e=>⟨o,e⟩,fun a h=>?_,fun a h=>?_,fun i a h=>?_,fun _ h=>h,fun _ h=>.inl h,fun b h=>let ⟨xs,e,_⟩:=pn b h;⟨_,e⟩⟩
 ·rw [Qof]
  unfold Qbt
  have:=A.len
  simp only [length_append,length_map,length_replicate]
  omega
 ·rw [Qdo]
  cases hx:as[i]? with
  | none=>trivial
  | some x =>
   have hi:i<vs.length:=by rw [A.len];exact (List.getElem?_eq_some_iff.mp hx).1
   have ev:vs[i]?=some vs[i]:=getElem?_eq_getElem hi
   have q:=A.get i _ x ev hx
   have s:=Qog (N:=N) ev
   cases x with
   | fz t=>exact ⟨_,s,q⟩
   | ml t=>obtain ⟨a,e,g,o⟩:=q;rw [e] at s;exact ⟨a,s,g,o⟩
   | ro t=>obtain ⟨a,e,g,o⟩:=q;rw [e] at s;exact ⟨a,s,g,o⟩
 ·obtain ⟨⟨x,ex,px⟩,vx⟩:=pv i a h1
  obtain ⟨⟨y,ey,py⟩,vy⟩:=pv j a h2
  exact A.apart i j a x y ex ey px py vx vy
 ·obtain ⟨i,t,e,q⟩:=h
  rw [Qdo] at e
  cases hx:as[i]? with
  | none=>rw [hx] at e;cases e
  | some x=>rw [hx] at e;cases x <;> cases e
 ·obtain ⟨i,t,e,q⟩:=h
  rw [Qdo] at e
  cases hx:as[i]? with
  | none=>rw [hx] at e;cases e
  | some x =>
   rw [hx] at e
   cases x <;> cases e
   exact ⟨i,_,hx,Qoh q⟩
 ·obtain ⟨⟨t,e⟩,q⟩:=h
  refine pv i a ⟨⟨t,?_⟩,q⟩
  rcases e with e | e | e
  ·rw [e];rfl
  ·rw [e];rfl
  ·rw [Qdo] at e
   cases hx:as[i]? with
   | none=>rw [hx] at e;cases e
   | some x=>rw [hx] at e;cases x <;> cases e
theorem Qhv:∀ {as:List Arg} {ρ:En} {fin:List T},Q1 as ρ=some fin→∀ (i:Nat) (t:T),as[i]?=some (.ml t)→∃ t',Qa ρ i=.ml t'∧fin[i]?=some t'
 | [],_,_,_,i,t,h=>by simp at h
 | .ml u::as,[],fin,e,_,_,_=>by cases e
 | .fz u::as,[],fin,e,_,_,_=>by cases e
 | .ro u::as,[],fin,e,_,_,_=>by cases e
 | .ml u::as,s::ρ,fin,e,i,t,h=>by
  cases s <;> first | (cases e;done) | skip
  rename_i w
  replace e:(Q1 as ρ).map (w :: ·)=some fin:=e
  cases e2:Q1 as ρ with
  | none=>rw [e2] at e;cases e
  | some f2 =>
   rw [e2] at e
   cases e
   cases i with
   | zero=>exact ⟨w,rfl,rfl⟩
   | succ i=>rw [getElem?_cons_succ] at h ⊢;rw [Qd];exact Qhv e2 i t h
 | .fz u::as,s::ρ,fin,e,i,t,h=>by
  replace e:(Q1 as ρ).map (T.non :: ·)=some fin:=e
  cases e2:Q1 as ρ with
  | none=>rw [e2] at e;cases e
  | some f2 =>
   rw [e2] at e
   cases e
   cases i with
   | zero=>simp at h
   | succ i=>rw [getElem?_cons_succ] at h ⊢;rw [Qd];exact Qhv e2 i t h
 | .ro u::as,s::ρ,fin,e,i,t,h=>by
  replace e:(Q1 as ρ).map (T.non :: ·)=some fin:=e
  cases e2:Q1 as ρ with
  | none=>rw [e2] at e;cases e
  | some f2 =>
   rw [e2] at e
   cases e
   cases i with
   | zero=>simp at h
   | succ i=>rw [getElem?_cons_succ] at h ⊢;rw [Qd];exact Qhv e2 i t h
theorem Qmh (F:FI (Qz3 H G vs as) H1 G1 σ1 ρ1) (e:Q1 as ρ1=some fin):CallP H G vs as H1 G1 fin where
 prv:=F.prv
 chg:=fun b o h e=>F.chg b o (fun z=>z) h e
 keep:=F.keep
 gg:=F.gg
 gn:=F.gn
 fin:=fun i t a h1 h2=>by
  obtain ⟨t',e1,e2⟩:=Qhv e i t h1
  have q:=F.slot i
  rw [e1] at q
  obtain ⟨a',q1,_,q3⟩:=q
  have q4:=(F.fix i a' ⟨⟨t',.inl e1⟩,q1⟩).2
  rw [h2] at q4
  cases q4
  exact ⟨t',e2,q3⟩
theorem Q3g {v:V} {r r':PV} (F:FI (Qz3 H G vs as) H1 G1 σ1 ρ1) (pv:PVR H H1 G1 σ1 ρ1 v r) (e:Qas ρ1 r=some r'):RetR H H1 G1 v r':=by
 cases r with
 | fz t=>cases e;exact pv
 | ow t =>
  cases e
  obtain ⟨a,rfl,n,g,_,o⟩:=pv
  exact ⟨a,rfl,n,g,o⟩
 | sl i =>
  have e:(match Qa ρ1 i with | .ow t=>some (PV.ow t) | _=>none)=some r':=e
  have q:=F.slot i
  cases hs:Qa ρ1 i with
  | un=>rw [hs] at e;cases e
  | pin _=>rw [hs] at e;cases e
  | fx _=>rw [hs] at e;cases e
  | fz t=>rw [hs] at e;cases e
  | ml t=>rw [hs] at e;cases e
  | ro t=>rw [hs] at e;cases e
  | ow t =>
   rw [hs] at e q
   cases e
   obtain ⟨a,q1,g,o⟩:=q
   have pv:σ1[i]?=some (some v):=pv
   rw [q1] at pv
   cases pv
   refine ⟨a,rfl,?_,g,o⟩
   rcases F.newO a ⟨i,t,hs,q1⟩ with z | z
   ·exact z
   ·exact z.elim
theorem Q73 {cf:CF} {Q:VK} {E:XK} (A:ArgsR H G vs as) (pn:Pen H G) (h1:vs.length≤N.length) (h3:fn.sz=N.length) (h:FROk mg H G vs as (Qbw cf fn as) Q E):tS ⟨cf,fun cls dx _ H=>E cls dx H,mg⟩ fn.body { nx:=fun _ H'=>Q .non H',rt:=Q } (Qbt N vs) H:=by
 unfold Qbw at h
 by_cases h2:as.length=fn.ps
 ·rw [if_pos h2] at h
  refine ⟨_,G,_,Qz4 A pn h1 h2.symm h3,fun _ z=>z,?_⟩
  show SFin _ _ _ _ _ (exS cf fn.body (Qfi fn as))
  cases e:exS cf fn.body (Qfi fn as) with
  | no=>rw [e] at h;exact False.elim h
  | bk ρ=>rw [e] at h;exact False.elim h
  | ct ρ=>rw [e] at h;exact False.elim h
  | nx ρ =>
   rw [e] at h
   intro σ1 H1 G1 F _
   cases ef:Q1 as ρ with
   | none=>simp only [ef] at h;exact False.elim h
   | some fin=>simp only [ef] at h;exact h .non H1 G1 (Qmh F ef) (show Is (dls H1 G1) .non .non from Is.non)
  | rt r ρ =>
   rw [e] at h
   intro v σ1 H1 G1 F pv
   cases er:Qas ρ r with
   | none=>simp only [er] at h;exact False.elim h
   | some r' =>
    cases ef:Q1 as ρ with
    | none=>simp only [er,ef] at h;exact False.elim h
    | some fin=>simp only [er,ef] at h;exact h v H1 G1 (Qmh F ef) (Q3g F pv er)
  | xn x ρ =>
   rw [e] at h
   intro cls dx σ1 H1 G1 F xr
   cases ef:Q1 as ρ with
   | none=>simp only [ef] at h;exact False.elim h
   | some fin=>simp only [ef] at h;exact h cls dx H1 G1 (Qmh F ef) xr
 ·rw [if_neg h2] at h
  exact False.elim h
end
theorem Qn {X:Cx}:Qe6 X (fun _ _ _ _=>False):=fun pins σ H s e s' I h=>by
 obtain ⟨a,cls,dx,H',_,_,_,_,_,_,z⟩:=h
 exact z.elim
structure Df where
 x:Str
 st:Stmt
 N:List Str
 ps:List Str
 fn:Fn
 fc:Str→Bool:=fun _=>true
 f1:Str→Bool:=fc
noncomputable abbrev Qjk (ds:List Df):Nat→Option Fn:=fun f=>match ds[f]? with
 | some d=>some d.fn
 | none=>none
structure DfOk (K:PySem.W.Frag) (mg:Str→Option Value) (d:Df):Prop where
 dfn:Dfn K mg d.x d.st
 sc:FnScope d.N d.ps (Qf d.st)
 bd:Qaf d.x d.st d.ps
 ps:d.fn.ps=d.ps.length
 sz:d.fn.sz=d.N.length
def Qti (P:Program) (w:World) (K:PySem.W.Frag) (mg:Str→Option Value) (base:Heap) (ds:List Df) (cf:CF) (n:Nat):Prop:=∀ (f:Nat) (d:Df),ds[f]?=some d→Qyz P w K mg base d.x d.ps n (spF cf mg f)
def Qat (P:Program) (w:World) (K:PySem.W.Frag) (mg:Str→Option Value) (base:Heap) (ds:List Df) (d:Df):Prop :=
 ∀ (cf:CF) (n:Nat) (R:XR) (f:Addr) (cdv:Value) (A:Around) (outer:List Env) (s:Shared) (H:Hp) (E:XK),Qti P w K mg base ds cf n→1≤n→Qs3 K mg d.x cdv→Qe6 (Qh5 d.fc (CXE P w) P w K mg base d.N d.x (Qf d.st) f cdv A outer s H E) R →
  Room n (A.deeper (envOfC d.x (Qf d.st) s.heap.objs.size f cdv))→QB (Qh5 d.fc (CXE P w) P w K mg base d.N d.x (Qf d.st) f cdv A outer s H E) (Qaj d.st) (tS ⟨cf,R,mg⟩ d.fn.body)
section
variable {P:Program} {w:World} {K:PySem.W.Frag} {mg:Str→Option Value} {base:Heap} {ds:List Df}
theorem Qu1 {cf:CF} {f:Nat} {vs:List V} {H:Hp} {Q:VK} {E:XK} {d:Df} (h:spF (evF (Qjk ds) 0) mg f vs H Q E):False:=by
 obtain ⟨G,as,_,_,z⟩:=h
 exact z
theorem Qoi (ok:∀ (f:Nat) (d:Df),ds[f]?=some d→DfOk K mg d∧Qat P w K mg base ds d):∀ n,Qti P w K mg base ds (evF (Qjk ds) n) (n+1)
 | 0,f,d,e=>by
  obtain ⟨g,fd,F,m⟩:=(ok f d e).1.dfn.ex
  exact ⟨g,fd,F.kp,m,F.binds (ok f d e).1.bd,⟨fun vs H Q E h=>(Qu1 (d:=d) (cf:=fun _ _=>.no) h).elim,fun A outer s H args us vs Q E _ _ _ _ h=>(Qu1 (d:=d) (cf:=fun _ _=>.no) h).elim⟩⟩
 | n+1,f,d,e=>by
  obtain ⟨o,b⟩:=ok f d e
  have ih:=Qoi ok n
  have hcf:∀ as,evF (Qjk ds) (n+1) f as=Qbw (evF (Qjk ds) n) d.fn as:=fun as=>by
   show (match Qjk ds f with | some fn=>Qbw (evF (Qjk ds) n) fn as | none=>.no)=_
   unfold Qjk
   rw [e]
  refine Q67 (g:=d.fc) o.dfn o.sc o.bd (fun vs H Q E h=>?_) (fun X g cdv A outer s H vs Q E _ hcd pz hr h=>?_)
  ·obtain ⟨G,as,a,_,z⟩:=h
   rw [hcf] at z
   unfold Qbw at z
   by_cases h2:as.length=d.fn.ps
   ·rw [a.len,h2,o.ps]
   ·rw [if_neg h2] at z;exact z.elim
  ·obtain ⟨G,as,a,pn,z⟩:=h
   refine ⟨_,b (evF (Qjk ds) n) (n+1) _ g cdv A outer s H E ih (Nat.le_add_left 1 n) hcd pz hr,?_⟩
   rw [hcf] at z
   have hl:as.length=d.fn.ps:=by
    unfold Qbw at z
    by_cases h2:as.length=d.fn.ps
    ·exact h2
    ·rw [if_neg h2] at z;exact z.elim
   have hN:d.ps.length≤d.N.length:=by
    have:=congrArg List.length o.sc.pre
    rw [length_take] at this
    omega
   exact Q73 a pn (by rw [a.len,hl,o.ps];exact hN) o.sz z
end
section
variable {X:Cx} {p:Pr} {e a b c:Expr} {es rest:List Expr} {e' a' b' c':E} {es':Es} {pos p1 p2 p3:Pos} {x:Str} {st:Stmt} {s:S} {K:PySem.W.Frag}
theorem Qe (i:Nat) (hN:X.N[i]?=some x:=by rfl) (hv:Vis X.env.scope x:=by first | exact Or.inl rfl | exact Or.inr (Or.inl rfl) | exact Or.inr (Or.inr rfl)) (hd:(x==("__debug__" : Str))=false:=by decide)
  (hcd:(x==("__classdict__" : Str))=false:=by decide):QE X (.Name x pos) (tE p (.var i)):=Qabm hN hv hd hcd
theorem Qz5 {i:Int} (h:∃ u,X.mg x=some u∧RelV (.int i) u) (hg:Gl X x:=by rfl) (hd:(x==("__debug__" : Str))=false:=by decide):QE X (.Name x pos) (tE p (.int i)):=Q7m h hg hd
theorem Qab3 {t:T} (h:QE X e (tTh t)):QE X e (tE p (.lit t)):=h.weak fun σ H Q ⟨G,ρ,F,h⟩=>by
 unfold evE at h
 exact fun v H' s i=>h v H' G (F.grow s) (Q66 F.prv i)
theorem Qc (ha:QE X e (tE p e')) (hr:QA X es (tA p es')) (hs:Q9 e=true:=by rfl):QA X (e::es) (tA p (.cons e' es')):=Q7n ha hr hs
theorem Qev (hK:X.K=K) (ha:QE X a (tE p a')) (hb:QE X b (tE p b')):QE X (.BinOp a .Add b pos) (tE p (.bin .add a' b')):=Qn8 (Quj K hK) (Q2z K) ha hb
theorem Qoj (ha:QE X a (tE p a')) (hb:QE X b (tE p b')):QE X (.BinOp a .Sub b pos) (tE p (.bin .sub a' b')):=Qn8 Qaal Q20 ha hb
theorem Qfu (ha:QE X a (tE p a')) (hb:QE X b (tE p b')):QE X (.BinOp a .Mult b pos) (tE p (.bin .mul a' b')):=Qn8 Q7o Q22 ha hb
theorem Qab4 (ha:QE X a (tE p a')) (hb:QE X b (tE p b')):QE X (.BinOp a .FloorDiv b pos) (tE p (.bin .fdv a' b')):=Qn8 Q7p Q23 ha hb
theorem Qmi (ha:QE X a (tE p a')) (hb:QE X b (tE p b')):QE X (.BinOp a .Mod b pos) (tE p (.bin .mod a' b')):=Qn8 Q7q Q24 ha hb
theorem Qrb (ha:QE X a (tE p a')) (hb:QE X b (tE p b')):QE X (.BinOp a .Pow b pos) (tE p (.bin .pow a' b')):=Qn8 Qaam Q25 ha hb
theorem Qpb {op:CmpOp} (h1:op≠.In) (h2:op≠.NotIn):behindInMarks op b=false:=by
 unfold behindInMarks
 cases b <;> try rfl
 cases op <;> simp_all
theorem g_eq (hu:X.A.units+64<cLine) (ha:QE X a (tE p a')) (hb:QE X b (tE p b')):QE X (.Compare a [.Eq] [b] pos) (tE p (.cmp .eq a' b')):=Qzp (Q45 hu) Qzq ha hb (Qpb (by decide) (by decide))
theorem g_lt (ha:QE X a (tE p a')) (hb:QE X b (tE p b')):QE X (.Compare a [.Lt] [b] pos) (tE p (.cmp .lt a' b')):=Qzp Q6w Qzr ha hb (Qpb (by decide) (by decide))
theorem g_ge (ha:QE X a (tE p a')) (hb:QE X b (tE p b')):QE X (.Compare a [.GtE] [b] pos) (tE p (.cmp .ge a' b')):=Qzp o_ge Q7t ha hb (Qpb (by decide) (by decide))
theorem Qz6 (hu:X.A.units+64<cLine) (ha:QE X a (tE p a')) (hb:QE X b (tE p b')):QT X (.Compare a [.Eq] [b] pos) (tT p (.cmp .eq a' b')):=Qoa (Q45 hu) Qzq ha hb (Qpb (by decide) (by decide))
theorem Qnb (hu:X.A.units+64<cLine) (ha:QE X a (tE p a')) (hb:QE X b (tE p b')):QT X (.Compare a [.NotEq] [b] pos) (tT p (.cmp .ne a' b')):=Qoa (Qabt hu) Q7r ha hb (Qpb (by decide) (by decide))
theorem Q3h (ha:QE X a (tE p a')) (hb:QE X b (tE p b')):QT X (.Compare a [.Lt] [b] pos) (tT p (.cmp .lt a' b')):=Qoa Q6w Qzr ha hb (Qpb (by decide) (by decide))
theorem t_gt (ha:QE X a (tE p a')) (hb:QE X b (tE p b')):QT X (.Compare a [.Gt] [b] pos) (tT p (.cmp .gt a' b')):=Qoa o_gt Q7s ha hb (Qpb (by decide) (by decide))
theorem Qab6 (ha:QE X a (tE p a')) (hb:QE X b (tE p b')):QT X (.Compare a [.Is] [b] pos) (tT p (.cmp .isn a' b')):=Qoa Qaaq Q26 ha hb (Qpb (by decide) (by decide))
theorem Q74 (ha:QE X a (tE p a')) (hb:QE X b (tE p b')):QT X (.Compare a [.IsNot] [b] pos) (tT p (.cmp .isnn a' b')):=Qoa Q6x Qzs ha hb (Qpb (by decide) (by decide))
theorem Qcj (ha:QE X e (tE p e')) (he:∀ whole,isTrue e X.env whole=(do let v ← whole;standAt e.pos;holding [v] (truthy v)):=by intro _;rfl):QT X e (tT p e'):=Qabp ha he
theorem Qha {n:String} {tn:Expr} (hm:X.mg "isinstance" = none) (hv:bootBuiltins "isinstance" = some (.builtin "isinstance")) (ha:QE X a (tE p a')) (ht:QE X tn (tC (.ty n))) (hg:Gl X "isinstance" := by rfl) (h1:Q9 a=true:=by rfl) (h2:Q9 tn=true:=by rfl):QE X (.Call (.Name "isinstance" p1) [a,tn] [] pos) (tE p (.isI a' n)):=Qabu hm hv ha ht hg h1 h2
theorem Qcw {id:String} {r:List V→Hp→VK→Prop} {b:Bi} (hc:QCl X (.builtin id) r) (hs:Ob r b) (hm:X.mg x=none) (hv:bootBuiltins x=some (.builtin id)) (ha:QA X (e::es) (tA p es')) (hg:Gl X x:=by rfl) (hn:x ≠ "__name__" := by decide) (hdb:(x==("__debug__" : Str))=false:=by decide) (h1:Q9 e=true:=by rfl) (h2:es.all Q9=true:=by rfl) :
  QE X (.Call (.Name x p1) (e::es) [] pos) (tE p (.bi b es')):=s_bi hc hs hm hv ha hg hn hdb h1 h2
theorem Qdi {T:String} {r:List V→Hp→VK→Prop} {b:Bi} (hc:QCl X (.type T) r) (hs:Ob r b) (hm:X.mg x=none) (hv:bootBuiltins x=some (.type T)) (ha:QA X (e::es) (tA p es')) (hg:Gl X x:=by rfl) (hn:x ≠ "__name__" := by decide) (hdb:(x==("__debug__" : Str))=false:=by decide) (h1:Q9 e=true:=by rfl) (h2:es.all Q9=true:=by rfl) :
  QE X (.Call (.Name x p1) (e::es) [] pos) (tE p (.bi b es')):=Qabv hc hs hm hv ha hg hn hdb h1 h2
theorem Qew (hK:X.K=K) (ha:QE X a (tE p a')) (hb:QE X b (tE p b')) (hs:Qlb b:=by exact fun _ _=>rfl):QE X (.Subscript a b pos) (tE p (.ix a' b')):=s_ix K hK ha hb hs
theorem Qrc (hK:X.K=K) {lo hi:Option Expr} {lo' hi':Es} (ha:QE X a (tE p a')) (hl:QO X lo (tO p lo')) (hh:QO X hi (tO p hi')):QE X (.Subscript a (.Slice lo hi none p2) pos) (tE p (.slc a' lo' hi')):=Qabw K hK ha hl hh
theorem Qz {f k:Nat} {ps:List Str} (h:Qyz X.prog X.w X.K X.mg X.base x ps k (spF p.cf p.mg f)) (pz:Qe6 X p.R) (hr:Room k X.A) (ha:QA X (e::es) (tA p es')) (hg:Gl X x:=by rfl) (hdb:(x==("__debug__" : Str))=false:=by decide) (h1:Q9 e=true:=by rfl) (h2:es.all Q9=true:=by rfl) :
  QE X (.Call (.Name x p1) (e::es) [] pos) (tE p (.call f es')):=Q7x h pz hr ha hg hdb h1 h2
theorem Qbl {tgE elt iter:Expr} {ifs:List Expr} {scope:Scope} (N:List Str) (js:List (Option Nat)) {w:W} {tg:Tg} {cs:Es} (hcalm:X.calm=true)
  (hi:QI X tgE iter (tW p w)) (hg:∀ s H fp,QG (Qac X scope N s H fp) tgE (tG tg)) (hc:∀ s H fp,QC (Qac X scope N s H fp) ifs (tCs p.calm cs)) (he:∀ s H fp,QE (Qac X scope N s H fp) elt (tE p.calm e'))
  (hk:scope.kind=.function:=by rfl) (h1:scOk X scope=true:=by rfl) (h2:Qg1 X scope N js=true:=by rfl) (hs:∀ x,foldedSetIterable iter X.env x=pure x:=by intro _;rfl):QE X (.ListComp elt [⟨tgE,iter,ifs,0⟩] scope pos) (tE p (.comp w js tg cs e')):=Q70 hcalm hi hg hc he hk h1 h2 hs
theorem Q75 {tgE elt iter:Expr} {ifs:List Expr} {scope:Scope} (N:List Str) (js:List (Option Nat)) {w:W} {tg:Tg} {cs:Es} {i:Nat} (hcalm:X.calm=true)
  (hi:QI X tgE iter (tW p w)) (hg:∀ s H fp,QG (Qac X scope N s H fp) tgE (tG tg)) (hc:∀ s H fp,QC (Qac X scope N s H fp) ifs (tCs p.calm cs)) (he:∀ s H fp,QE (Qac X scope N s H fp) elt (tE p.calm e')) (hn:QG X (.Name x p2) (Qgo i))
  (hk:scope.kind=.function:=by rfl) (h1:scOk X scope=true:=by rfl) (h2:Qg1 X scope N js=true:=by rfl) (hs:∀ x,foldedSetIterable iter X.env x=pure x:=by intro _;rfl)
  (hsw:swapsWithSole [.Name x p2] (.ListComp elt [⟨tgE,iter,ifs,0⟩] scope p1) pos.line X.env=pure true:=by rfl) (ha:(assignEach [.Name x p2] X.env).map (·.2)=[assign (.Name x p2) X.env]:=by rfl) :
  QS X (.Assign [.Name x p2] (.ListComp elt [⟨tgE,iter,ifs,0⟩] scope p1) pos) (Qlo (tE p (.comp w js tg cs e')) (Qgo i)) :=
 QS.weak ⟨Qtc hcalm hi.h (fun s H fp=>(hg s H fp).h) (fun s H fp=>(hc s H fp).h) (fun s H fp=>(he s H fp).h) hn.h hk h1 h2 hs hsw ha⟩ fun D σ H h=>Quy h
variable {tg:Expr}
theorem Qdp (hm:X.mg "range" = none) (ha:QE X a (tE p a')) (hg:Gl X "range" := by rfl) (hs:Q9 a=true:=by rfl):QI X tg (.Call (.Name "range" p1) [a] [] pos) (tW p (.rng1 a')):=Q3d hm ha hg hs
theorem Qu2 {es:List Expr} {x1} {tp:Pos} (hK:X.K=K) (hm:X.mg "zip" = none) (hb:PySem.bootBuiltins "zip" = some (.type "zip")) (ha:QE X a (tE p a')) (hb':QE X b (tE p b')) (hg:Gl X "zip" := by rfl) (hs:Q9 a=true:=by rfl) (hs2:Q9 b=true:=by rfl):QI X (.Tuple es x1 tp) (.Call (.Name "zip" p1) [a,b] [] pos) (tW p (.zip a' b')):=Q7z hK hm hb ha hb' hg hs hs2
theorem Qz7 (he:QE X e (tE p e')) (hs:swapsWith e none pos.line X.env=pure false:=by rfl):QS X (.Expr e pos) (tS p (.expr e')):=Q72 he hs
theorem Qig {iter tgE:Expr} {body:List Stmt} {w:W} {tg:Tg} (hc:X.calm=true) (hi:QI X.nox tgE iter (tW p.calm w)) (hg:QG X.nox tgE (tG tg)) (hb:QB X.nox body (tS p.calm s)) (hs:∀ x,foldedSetIterable iter X.env x=pure x:=by intro _;rfl):QS X (.For tgE iter body [] pos) (tS p (.for_ w tg s)):=Qab2 hc hi hg hb hs
end
end L2
set_option maxHeartbeats 2000000
namespace L2
open PySem PySem.Spec PyProof.Rows PySem.W PySem.Calls
variable {X:Cx} {p:Pr} {st:Stmt}
noncomputable abbrev swpE (i j k:Nat):E:=.tup (.cons (.ix (.var i) (.var k)) (.cons (.ix (.var i) (.var j)) .nil))
theorem Qab7 {K:PySem.W.Frag} {i j k:Nat} (h:QS X st (Qlo (tE p (swpE i j k)) (Qxq K 2 (Qqf (Qxr (Qh4 i) (Qh4 j) Qnu) (Qqf (Qxr (Qh4 i) (Qh4 k) Qnu) Q1p))))):QS X st (tS p (.swp i j k)):=h.weak fun D σ H ⟨B,G,ρ,F,hO,h⟩=>by
 unfold exS at h
 refine Qif F h fun r ρ2 v H2 G2 k2 F2 _ pv _=>?_
 cases r with
 | ow t=>exact False.elim k2
 | sl i=>exact False.elim k2
 | fz t =>
  cases t <;> first | exact False.elim k2 | skip
  rename_i ts
  match ts,k2,pv with
  | [],k2,pv=>exact False.elim k2
  | [_],k2,pv=>exact False.elim k2
  | _::_::_::_,k2,pv=>exact False.elim k2
  | [u,w],k2,pv =>
   obtain ⟨a,vs,rfl,ha,il⟩:=pv.is.tup_inv
   obtain ⟨x1,r1,rfl,i1,r1'⟩:=il.cons_inv
   obtain ⟨x2,r2,rfl,i2,r2'⟩:=r1'.cons_inv
   obtain rfl:=r2'.nil_inv
   replace k2:SFin p B H2 G2 D (match Qa ρ2 j,Qa ρ2 k,Qa ρ2 i with
    | .fz (.int x),.fz (.int y),.ow (.lst ts)=>Qak (ixN ts.length x) fun m=>Qak (ixN ts.length y) fun n=>.nx (ρ2.set i (.ow (.lst ((ts.set m u).set n w))))
    | _,_,_=>.no):=k2
   have sj:=F2.slot j
   have sk:=F2.slot k
   generalize hj:Qa ρ2 j=s1 at k2 sj
   generalize hk:Qa ρ2 k=s2 at k2 sk
   generalize hi:Qa ρ2 i=s3 at k2
   match s1,s2,s3,k2,sj,sk,hi with
   | .fz (.int x),.fz (.int y),.ow (.lst ts),k2,sj,sk,hi =>
    obtain ⟨vj,ej,ij⟩:=sj
    obtain rfl:=ij.int_inv
    obtain ⟨vk,ek,ik⟩:=sk
    obtain rfl:=ik.int_inv
    obtain ⟨m,em,k2⟩:=Qeu k2
    obtain ⟨n,en,k2⟩:=Qeu k2
    have hp:(Qa ρ2 i).prv=some (.lst ts):=by rw [hi];rfl
    obtain ⟨b,sb,g,o1⟩:=F2.prvAt hp
    obtain ⟨ws,z,el,il2⟩:=o1.lst_inv
    have lz:=il2.length
    have il3:=(il2.set i1 m).set i2 n
    obtain ⟨F5,s5⟩:=F2.change (.inl ⟨hi,rfl⟩) sb il3 (by rw [length_set,length_set];exact z)
    have eu:upd (upd H2 b (.lst (ws.set m x1))) b (.lst ((ws.set m x1).set n x2))=upd H2 b (.lst ((ws.set m x1).set n x2)):=by
     funext c
     unfold upd
     split <;> rfl
    refine ⟨a,[x1,x2],rfl,SqT.of (Q2 ha).2,rfl,x1,[x2],rfl,_,sb,_,ej,b,ws,x,m,rfl,rfl,el,by rw [lz];exact em,x2,[],rfl,_,sb,_,ek,b,ws.set m x1,y,n,rfl,rfl,by unfold upd;rw [if_pos rfl],by rw [length_set,lz];exact en,rfl,?_⟩
    rw [eu]
    exact k2 σ _ G2 F5 s5
end L2
namespace L2
open PySem PySem.Spec PyProof.Rows PySem.W PySem.Calls
theorem Qok {f:Slot→Slot} (hf:f .un=.un) (ρ:En) (j:Nat):Qa (ρ.map f) j=f (Qa ρ j):=by
 unfold Qa
 rw [getElem?_map]
 cases ρ[j]? with
 | none=>exact hf.symm
 | some s=>rfl
theorem Qip {ρ ρ1:En} (h:ρ1.length=ρ.length) (j:Nat):Qa (List.zipWith lkB ρ ρ1) j=lkB (Qa ρ j) (Qa ρ1 j):=by
 unfold Qa
 by_cases hj:j<ρ.length
 ·have h1:j<ρ1.length:=by omega
  rw [getElem?_eq_getElem hj,getElem?_eq_getElem h1,getElem?_eq_getElem (by rw [length_zipWith];omega),List.getElem_zipWith]
 ·have h0:(List.zipWith lkB ρ ρ1)[j]?=none:=List.getElem?_eq_none (by rw [length_zipWith];omega)
  have h1:ρ[j]?=none:=List.getElem?_eq_none (by omega)
  have h2:ρ1[j]?=none:=List.getElem?_eq_none (by omega)
  rw [h0,h1,h2]
  rfl
section
variable {X:Cx} {p:Pr} {st:Stmt} {B:Bs} {H H1:Hp} {G G1:Addr→Prop} {σ σ1:St} {ρ ρ1:En} {i:Nat} {ts:List T}
theorem Qrd {f:Slot→Bool} (hf:f .un=true) (h:ρ.all f=true) (j:Nat):f (Qa ρ j)=true:=by
 unfold Qa
 cases e:ρ[j]? with
 | none=>exact hf
 | some s=>exact all_eq_true.mp h s (mem_of_getElem? e)
noncomputable abbrev lkE (i:Nat) (ts:List T) (ρ:En):En:=(ρ.set i (.fz (.lst ts))).map lkS
theorem Qpc (hi:i<ρ.length) (j:Nat):Qa (lkE i ts ρ) j=if j=i then .fx (.lst ts) else lkS (Qa ρ j):=by
 rw [Qok rfl,Qdx]
 by_cases e:j=i
 ·rw [if_pos ⟨e,hi⟩,if_pos e];rfl
 ·rw [if_neg (fun z=>e z.1),if_neg e]
theorem FI.look (F:FI B H G σ ρ) (hO:∀ a,¬ B.O a) (hs:Qa ρ i=.ow (.lst ts)) (hk:(ρ.set i .un).all Qq1=true) :
  ∃ a G',σ[i]?=some (some (.ref a))∧G a∧B.H a=none∧(∀ b,G' b↔G b∧b≠a)∧FI ⟨B.H,B.G,B.O,B.M,PnA σ (lkE i ts ρ)⟩ H G' σ (lkE i ts ρ):=by
 have hi:i<ρ.length:=Qke (by rw [hs];intro z;cases z)
 have q:=F.slot i
 rw [hs] at q
 obtain ⟨a,e,g,ob,ea,il⟩:=q
 have hb:B.H a=none:=by
  rcases F.newO a ⟨i,_,hs,e⟩ with z | z
  ·exact z
  ·exact (hO a z).elim
 have ok:∀ j,j≠i→Qq1 (Qa ρ j)=true:=fun j hj=>by
  have:=Qrd rfl hk j
  rwa [Qdx,if_neg (fun z=>hj z.1)] at this
 have sub:Same (dls H G) (dls H fun b=>G b∧b≠a):=Qdl fun b h=>h.1
 refine ⟨a,fun b=>G b∧b≠a,e,g,hb,fun b=>Iff.rfl,?_⟩
 have npv:∀ j c,¬ PrvAt σ (lkE i ts ρ) j c:=fun j c h=>by
  obtain ⟨⟨u,h⟩,_⟩:=h
  rw [Qpc hi] at h
  by_cases z:j=i
  ·rw [if_pos z] at h;cases h
  ·rw [if_neg z] at h
   have k:=ok j z
   cases hs2:Qa ρ j <;> rw [hs2] at h k <;> first | (cases h;done) | (cases k;done) | skip
   rename_i t
   have h:(if Qtf t=true then Slot.fx t else Slot.fz t).prv=some u:=h
   by_cases r:Qtf t=true
   ·rw [if_pos r] at h;cases h
   ·rw [if_neg r] at h;cases h
 exact {
  len:=by rw [length_map,length_set];exact F.len
  slot:=fun j=>by
   rw [Qpc hi]
   by_cases z:j=i
   ·rw [if_pos z,z]
    refine ⟨a,ob,e,by rw [Qca fun y=>y.2 rfl];exact ea,il.is (by rw [Qca fun y=>y.2 rfl];exact ea) sub⟩
   ·rw [if_neg z]
    have q:=F.slot j
    have k:=ok j z
    cases hs2:Qa ρ j <;> rw [hs2] at q k <;> first | (cases k;done) | trivial | exact q | skip
    rename_i t
    obtain ⟨v,ev,iv⟩:=q
    have iv:=iv.mono sub
    by_cases r:Qtf t=true
    ·show Ql5 _ _ _ _ (if Qtf t=true then _ else _)
     rw [if_pos r]
     cases t <;> first | (cases r;done) | skip
     ·obtain ⟨c,vs,rfl,hc,_⟩:=iv.tup_inv;exact ⟨c,_,ev,hc,iv⟩
     ·obtain ⟨c,vs,rfl,hc,_⟩:=iv.lst_inv;exact ⟨c,_,ev,hc,iv⟩
    ·show Ql5 _ _ _ _ (if Qtf t=true then _ else _)
     rw [if_neg r]
     exact ⟨v,ev,iv⟩
  apart:=fun j k c h _=>(npv j c h).elim
  prv:=fun b h=>F.prv b h.1
  chg:=F.chg
  keep:=F.keep
  newO:=fun c h=>let ⟨j,h⟩:=OwA.prv h;(npv j c h).elim
  newM:=fun c h=>let ⟨j,h⟩:=MlA.prv h;(npv j c h).elim
  fix:=fun _ _ h=>h
  gg:=fun b h=>⟨F.gg b h,fun z=>by obtain ⟨o,e⟩:=F.bp b h;rw [z,hb] at e;cases e⟩
  gn:=fun b h=>F.gn b h.1
  bp:=F.bp }
theorem Qol (s0 s1:Slot):(∃ t,s1=.fx t∧lkB s0 s1=s0)∨(∃ t,s1=.fz t∧flaT t=true∧lkB s0 s1=.fz t)∨(∃ a,s1=.pin a∧lkB s0 s1=.pin a)∨lkB s0 s1=.un:=by
 cases s1 with
 | fx t=>exact .inl ⟨t,rfl,rfl⟩
 | fz t =>
  by_cases h:flaT t=true
  ·exact .inr (.inl ⟨t,rfl,h,if_pos h⟩)
  ·exact .inr (.inr (.inr (if_neg h)))
 | pin a=>exact .inr (.inr (.inl ⟨a,rfl,rfl⟩))
 | un=>exact .inr (.inr (.inr rfl))
 | ow t=>exact .inr (.inr (.inr rfl))
 | ml t=>exact .inr (.inr (.inr rfl))
 | ro t=>exact .inr (.inr (.inr rfl))
theorem Q3i {D D1:Hp} {v:V} {t:T} (h:flaT t=true) (r:Is D v t):Is D1 v t:=by
 cases t <;> first | (cases h;done) | (unfold Is at r ⊢;exact r)
theorem FI.unlook {a:Addr} {G':Addr→Prop} (F:FI B H G σ ρ) (hO:∀ a,¬ B.O a) (hs:Qa ρ i=.ow (.lst ts)) (hk:(ρ.set i .un).all Qq1=true) (ea:σ[i]?=some (some (.ref a))) (ga:G a) (hb:B.H a=none) (hG:∀ b,G' b↔G b∧b≠a)
  (F1:FI ⟨B.H,B.G,B.O,B.M,PnA σ (lkE i ts ρ)⟩ H1 G1 σ1 ρ1) (s1:Same (dls H G') (dls H1 G1)) (hx:Qzj (Qa ρ1 i)=true) (hl:ρ1.length=ρ.length) :
  FI B H1 (fun b=>G1 b∨b=a) σ1 (List.zipWith lkB ρ ρ1)∧Same (dls H G) (dls H1 fun b=>G1 b∨b=a):=by
 have hi:i<ρ.length:=Qke (by rw [hs];intro z;cases z)
 have ok:∀ j,j≠i→Qq1 (Qa ρ j)=true:=fun j hj=>by
  have:=Qrd rfl hk j
  rwa [Qdx,if_neg (fun z=>hj z.1)] at this
 obtain ⟨ob,eo,il⟩:∃ ob,H a=some ob∧OwnO (dls H G) (.lst ts) ob:=by
  have q:=F.slot i
  rw [hs] at q
  obtain ⟨c,e,_,ob,eo,il⟩:=q
  rw [ea] at e
  cases e
  exact ⟨ob,eo,il⟩
 have a0:dls H G' a=some ob:=by rw [Qca fun z=>((hG a).mp z).2 rfl];exact eo
 obtain ⟨na,a1⟩:=Q2 (s1 _ _ a0)
 have sm:Same (dls H G) (dls H1 fun b=>G1 b∨b=a):=fun b o e=>by
  obtain ⟨nb,e⟩:=Q2 e
  have nba:b≠a:=fun z=>nb (z ▸ ga)
  have e2:dls H G' b=some o:=by rw [Qca fun z=>nb ((hG b).mp z).1];exact e
  obtain ⟨n1,e3⟩:=Q2 (s1 _ _ e2)
  rw [Qca fun z=>z.elim n1 nba]
  exact e3
 have fx1:∀ j t,Qa ρ1 j=.fx t→∃ c,σ1[j]?=some (some (.ref c))∧σ[j]?=some (some (.ref c)):=fun j t e=>by
  have q:=F1.slot j
  rw [e] at q
  obtain ⟨c,o,ec,_,_⟩:=q
  have:=F1.fix j c ⟨⟨t,.inr (.inr e)⟩,ec⟩
  exact ⟨c,ec,this.2⟩
 have fx0:∀ j t,Qa ρ1 j=.fx t→j≠i→∃ u,Qa ρ j=.fz u:=fun j t e hj=>by
  obtain ⟨c,ec,_⟩:=fx1 j t e
  obtain ⟨⟨u,z⟩,_⟩:=F1.fix j c ⟨⟨t,.inr (.inr e)⟩,ec⟩
  rw [Qpc hi,if_neg hj] at z
  have k:=ok j hj
  cases hs2:Qa ρ j with
  | fz u=>exact ⟨u,rfl⟩
  | un=>rw [hs2] at z;rcases z with z | z | z <;> cases z
  | ow t=>rw [hs2] at k;cases k
  | ml t=>rw [hs2] at k;cases k
  | ro t=>rw [hs2] at k;cases k
  | pin a=>rw [hs2] at z;rcases z with z | z | z <;> cases z
  | fx t=>rw [hs2] at k;cases k
 have ei:Qa (List.zipWith lkB ρ ρ1) i=.ow (.lst ts):=by
  rw [Qip hl,hs]
  cases h:Qa ρ1 i <;> rw [h] at hx <;> first | (cases hx;done) | rfl
 have ai:σ1[i]?=some (some (.ref a)):=by
  cases h:Qa ρ1 i <;> rw [h] at hx <;> first | (cases hx;done) | skip
  obtain ⟨c,ec,ec0⟩:=fx1 i _ h
  rw [ea] at ec0
  cases ec0
  exact ec
 have kinds:∀ j,j≠i→Qa (List.zipWith lkB ρ ρ1) j=.un∨(∃ t,Qa (List.zipWith lkB ρ ρ1) j=.fz t)∨∃ c,Qa (List.zipWith lkB ρ ρ1) j=.pin c:=fun j hj=>by
  rw [Qip hl]
  rcases Qol (Qa ρ j) (Qa ρ1 j) with ⟨t,e1,e2⟩ | ⟨t,e1,f,e2⟩ | ⟨c,e1,e2⟩ | e2
  ·obtain ⟨u,e3⟩:=fx0 j t e1 hj
   rw [e2,e3]
   exact .inr (.inl ⟨u,rfl⟩)
  ·rw [e2];exact .inr (.inl ⟨t,rfl⟩)
  ·rw [e2];exact .inr (.inr ⟨c,rfl⟩)
  ·rw [e2];exact .inl rfl
 have only:∀ j c,PrvAt σ1 (List.zipWith lkB ρ ρ1) j c→j=i∧c=a:=fun j c h=>by
  obtain ⟨⟨u,h⟩,q⟩:=h
  by_cases hj:j=i
  ·subst hj;rw [ai] at q;cases q;exact ⟨rfl,rfl⟩
  ·rcases kinds j hj with z | ⟨t,z⟩ | ⟨c,z⟩ <;> rw [z] at h <;> cases h
 refine ⟨?_,sm⟩
 exact {
  len:=by rw [length_zipWith,F1.len];omega
  slot:=fun j=>by
   by_cases hj:j=i
   ·subst hj
    rw [ei]
    exact ⟨a,ai,.inr rfl,ob,a1,il.mono sm⟩
   ·rw [Qip hl]
    rcases Qol (Qa ρ j) (Qa ρ1 j) with ⟨t,e1,e2⟩ | ⟨t,e1,f,e2⟩ | ⟨c,e1,e2⟩ | e2
    ·obtain ⟨u,e3⟩:=fx0 j t e1 hj
     obtain ⟨c,ec,ec0⟩:=fx1 j t e1
     rw [e2,e3]
     have q:=F.slot j
     rw [e3] at q
     obtain ⟨v,ev,iv⟩:=q
     rw [ec0] at ev
     cases ev
     exact ⟨_,ec,iv.mono sm⟩
    ·rw [e2]
     have q:=F1.slot j
     rw [e1] at q
     obtain ⟨v,ev,iv⟩:=q
     exact ⟨v,ev,Q3i f iv⟩
    ·rw [e2]
     have q:=F1.slot j
     rw [e1] at q
     exact q
    ·rw [e2];trivial
  apart:=fun j k c h1 h2=>by rw [(only j c h1).1,(only k c h2).1]
  prv:=fun b h=>by
   rcases h with h | h
   ·exact F1.prv b h
   ·rw [h];exact ⟨ob,a1,il.pen⟩
  chg:=F1.chg
  keep:=F1.keep
  newO:=fun c h=>by
   obtain ⟨j,h⟩:=OwA.prv h
   rw [(only j c h).2]
   exact .inl hb
  newM:=fun c h=>by
   obtain ⟨j,t,e,q⟩:=h
   by_cases hj:j=i
   ·subst hj;rw [ei] at e;cases e
   ·rcases kinds j hj with z | ⟨t,z⟩ | ⟨c,z⟩ <;> rw [z] at e <;> cases e
  fix:=fun j c h=>by
   obtain ⟨⟨t,e⟩,q⟩:=h
   by_cases hj:j=i
   ·subst hj;rw [ei] at e;rcases e with e | e | e <;> cases e
   ·rcases kinds j hj with z | ⟨t,z⟩ | ⟨c,z⟩ <;> rw [z] at e <;> rcases e with e | e | e <;> cases e
  gg:=fun b h=>.inl (F1.gg b h)
  gn:=fun b h=>by
   rcases h with h | h
   ·exact F1.gn b h
   ·rw [h];exact .inr hb
  bp:=F1.bp }
theorem Qtj {s:S} (h:QS X st (tS p s)):QS X st (tS p (.look i s)):=h.weak fun D σ H ⟨B,G,ρ,F,hO,h⟩=>by
 unfold exS at h
 cases hs:Qa ρ i with
 | un=>rw [hs] at h;exact False.elim h
 | fz t=>rw [hs] at h;exact False.elim h
 | ml t=>rw [hs] at h;exact False.elim h
 | ro t=>rw [hs] at h;exact False.elim h
 | pin t=>rw [hs] at h;exact False.elim h
 | fx t=>rw [hs] at h;exact False.elim h
 | ow t =>
  rw [hs] at h
  cases t <;> first | exact False.elim h | skip
  rename_i ts
  replace h:SFin p B H G D (if (ρ.set i .un).all Qq1=true then lkO i ρ (exS p.cf s (lkE i ts ρ)) else .no):=h
  by_cases hk:(ρ.set i .un).all Qq1=true
  ·rw [if_pos hk] at h
   obtain ⟨a,G',ea,ga,hb,hG,F0⟩:=F.look hO hs hk
   refine ⟨_,G',_,F0,hO,?_⟩
   cases e:exS p.cf s (lkE i ts ρ) with
   | nx ρ1 =>
    rw [e] at h
    replace h:SFin p B H G D (if Qzj (Qa ρ1 i)=true∧ρ1.length=ρ.length then .nx (List.zipWith lkB ρ ρ1) else .no):=h
    by_cases c:Qzj (Qa ρ1 i)=true∧ρ1.length=ρ.length
    ·rw [if_pos c] at h
     intro σ1 H1 G1 F1 s1
     obtain ⟨F2,s2⟩:=F.unlook hO hs hk ea ga hb hG F1 s1 c.1 c.2
     exact h σ1 H1 _ F2 s2
    ·rw [if_neg c] at h;exact False.elim h
   | rt r ρ1 =>
    rw [e] at h
    cases r with
    | ow t=>exact False.elim h
    | sl j=>exact False.elim h
    | fz t =>
     cases t <;> first | exact False.elim h | skip
     rename_i b
     replace h:SFin p B H G D (.rt (.fz (.bl b)) (ρ1.map fun _=>.un)):=h
     intro v σ1 H1 G1 F1 pv
     have un:∀ j,Qa (ρ1.map fun _=>Slot.un) j=.un:=fun j=>by rw [Qok rfl]
     refine h v σ1 H1 G1 ?_ pv
     exact {
      len:=by rw [length_map];exact F1.len
      slot:=fun j=>by rw [un];trivial
      apart:=fun j k c h1 _=>by obtain ⟨⟨u,z⟩,_⟩:=h1;rw [un] at z;cases z
      prv:=F1.prv
      chg:=F1.chg
      keep:=F1.keep
      newO:=fun c z=>by obtain ⟨j,t,e,_⟩:=z;rw [un] at e;cases e
      newM:=fun c z=>by obtain ⟨j,t,e,_⟩:=z;rw [un] at e;cases e
      fix:=fun j c z=>by obtain ⟨⟨t,e⟩,_⟩:=z;rw [un] at e;rcases e with e | e | e <;> cases e
      gg:=F1.gg
      gn:=F1.gn
      bp:=F1.bp }
   | bk ρ1=>rw [e] at h;exact False.elim h
   | ct ρ1=>rw [e] at h;exact False.elim h
   | xn x ρ1=>rw [e] at h;exact False.elim h
   | no=>rw [e] at h;exact False.elim h
  ·rw [if_neg hk] at h;exact False.elim h
end
section
variable {X:Cx} {p:Pr} {e a b:Expr} {e' a' b':E} {pos p1 p2 pos':Pos} {x:Str}
end
section
variable {P:Program} {w:World} {H:Hp}
end
section
variable {X:Cx} {p:Pr} {a b:Expr} {a' b':E} {pos:Pos}
end
section
variable {X:Cx} {k v:Expr} {tk tv:TE} {pos:Pos}
end
section
variable {X:Cx} {p:Pr} {a b:Expr} {a' b':E} {pos:Pos}
end
section
variable {prog:Program} {w:World} {A:Around} {E:Value→Shared→Prop} {s:Shared}
end
section
variable {X:Cx}
end
end L2
namespace L2
open PySem PySem.Spec PyProof.Rows PySem.W
section
variable {prog:Program} {w:World} {A:Around} {E:Value→Shared→Prop} {s:Shared} {it d:Addr} {i ep:Nat} {es:Array DictEntry}
end
section
variable {X:Cx}
end
section
variable {prog:Program} {w:World} {A:Around} {E:Value→Shared→Prop} {h:Heap} {g:Array GenState} {d:Drawn} {t:Nat} {os:OsState} {a:Addr} {its:Array Value} {n:Nat}
end
section
variable {prog:Program} {w:World} {A:Around} {E:Value→Shared→Prop} {s:Shared}
end
section
variable {X:Cx}
end
section
variable {prog:Program} {w:World} {A:Around} {E:Value→Shared→Prop} {s:Shared} {l:Addr} {xs:Array (Int×Tok)}
end
section
variable {X:Cx}
end
end L2
namespace L2
open PySem PySem.Spec PyProof.Rows PySem.W PySem.Calls
section
variable {prog:Program} {w:World} {A:Around} {E:Value→Shared→Prop} {s:Shared}
end
inductive TupsI (h:Heap):List Value→List (List Int)→Prop
 | nil:TupsI h [] []
 | cons {a:Addr} {its:List Value} {k:List Int} {vs:List Value} {ks:List (List Int)} (ht:h.IsTuple a its.toArray) (hi:IntsAre its k) (t:TupsI h vs ks):TupsI h (.ref a::vs) (k::ks)
section
variable {prog:Program} {w:World} {A:Around} {E:Value→Shared→Prop} {s:Shared}
end
section
variable {prog:Program} {w:World} {A:Around} {E:Value→Shared→Prop} {s:Shared}
end
inductive TupsV (K:PySem.W.Frag) (H:Hp):List V→List (List Int)→Prop
 | nil:TupsV K H [] []
 | cons {b:Addr} {k:List Int} {ys:List V} {ks:List (List Int)} (hq:SqT K H b (k.map V.int)) (t:TupsV K H ys ks):TupsV K H (.ref b::ys) (k::ks)
section
variable {X:Cx}
end
end L2
namespace L2
open PySem PySem.Spec PyProof.Rows PySem.W PySem.Calls
section
variable {prog:Program} {w:World} {A:Around} {E:Value→Shared→Prop} {s:Shared}
noncomputable def elt (vs:List Value) (ks:List (List Int)) (j:Nat):Int×Value:=(Quo (Ql2 ks j),vs.getD j Value.none)
structure MOk (ks:List (List Int)) (led:Bool) (r:SetTable×Array Nat):Prop where
 fits:r.1.fits r.2.size=true
 plain:r.1.plain=true
 gave:r.1.gaveWay=false
 led:r.1.led=led
 size:r.2.size≤1000
 lt:∀ x∈r.2,x<ks.length
end
section
variable {prog:Program} {w:World} {A:Around} {R:Result→Shared→Prop} {I:Addr} {fp wr:List Addr} {G:Array GenState→Array GenState→Prop} {n:Nat} {P:Nat→Value→Prop} {St:Nat→Shared→Prop}
end
section
variable {prog:Program} {w:World} {A:Around} {E:Value→Shared→Prop} {s:Shared}
end
end L2
namespace L2
open PySem PySem.Spec PyProof.Rows PySem.W PySem.Calls
section
variable {prog:Program} {w:World} {A:Around} {E:Value→Shared→Prop} {s:Shared}
end
section
variable {X:Cx}
end
theorem Q3j {js:List (Option Nat)} {σ:St} {ρ:En} {k:Nat} {a:Addr} (h:PrvAt (Qef js σ) (Qch js ρ) k a):∃ j,js[k]?=some (some j)∧PrvAt σ ρ j a:=by
 obtain ⟨⟨t,e1⟩,e2⟩:=h
 rw [Qdg] at e1
 rw [Qg7] at e2
 cases hj:js[k]? with
 | none=>rw [hj] at e1;cases e1
 | some o =>
  cases o with
  | none=>rw [hj] at e1;cases e1
  | some j =>
   rw [hj] at e1 e2
   refine ⟨j,rfl,?_,?_⟩
   ·have e1:((Qa ρ j).lend).prv=some t:=e1
    cases hs:Qa ρ j <;> rw [hs] at e1 <;> first | (cases e1;done) | exact ⟨_,rfl⟩
   ·have e2:some ((σ[j]?).join)=some (some (.ref a)):=e2
    cases hσ:σ[j]? with
    | none=>rw [hσ] at e2;cases e2
    | some v=>rw [hσ] at e2;exact e2
theorem WkR.imp {J:It} {H:Hp} {G:Addr→Prop} {Ok Ok':Hp→Prop} {ts:List T} (h:WkR J H G Ok ts) (q:∀ H,Ok' H→Ok H):WkR J H G Ok' ts:=⟨fun i H' hi ok=>h.go i H' hi (q _ ok),fun i H' hi ok=>h.stop i H' hi (q _ ok),fun i H' x H2 hi ok=>h.yld i H' x H2 hi (q _ ok)⟩
theorem Qz8 {K:PySem.W.Frag} {p:Pr} {i0:Nat} {js:List (Option Nat)} {tg:Tg} {cs:Es} {e':E} {σ:St} {ρ:En} {H:Hp} {G:Addr→Prop} {Q:VK} {lw l:Addr} {vs:List V} {ts:List T} {J:It} {Z:Hp→Prop} (F:FI (Qa3 H G σ ρ) H G σ ρ) (pw:PrvAt σ ρ i0 lw) (elw:H lw=some (.lst vs))
  (wk:WkR J H G (fun H'=>SqL K H' lw vs∧Z H') ts) (hZ:∀ H' G',Same (dls H G) (dls H' G')→Z H')
  (h1:Fin p (Qa3 H G σ ρ) σ (if js.all (fun j=>decide (j≠some i0))=true then (match Qcf tg (evC p.cf cs) (evE p.cf e') ts [] (Qch js ρ) with
   | .ok us ρi=>if Qea (Qch js ρ) ρi=true∧Qb1 js=true then .ok (.ow (.lst us)) (Qjc js ρi ρ) else .no
   | _=>.no) else .no) fun r ρ1=>∀ v H1 G1,FI (Qa3 H G σ ρ) H1 G1 σ ρ1→PVR H H1 G1 σ ρ1 v r→Q v H1) (hl:H l=none):Q4h J l (Qef js σ) H (tG tg) (tCs p.calm cs) (tE p.calm e') Q:=by
 by_cases hj:js.all (fun j=>decide (j≠some i0))=true
 ·simp only [if_pos hj] at h1
  have F1:=F
  have hne:lw≠l:=fun z=>by rw [z,hl] at elw;cases elw
  have npw0:∀ k,¬ PrvAt (Qef js σ) (Qch js ρ) k lw:=fun k hk=>by
   obtain ⟨j,ej,pj⟩:=Q3j hk
   have:=F.apart j i0 lw pj pw
   subst this
   have:=all_eq_true.mp hj _ (mem_of_getElem? ej)
   simp at this
  cases ec:Qcf tg (evC p.cf cs) (evE p.cf e') ts [] (Qch js ρ) with
  | no=>rw [ec] at h1;exact False.elim h1
  | xn x ρx=>rw [ec] at h1;exact False.elim h1
  | ok tsF ρF =>
   rw [ec] at h1
   by_cases hz:Qea (Qch js ρ) ρF=true∧Qb1 js=true
   ·simp only [if_pos hz] at h1
    obtain ⟨hkept,hap⟩:=hz
    have Fc:=F1.cap hap
    refine ⟨fun i m ys σ2 H2=>i+m=ts.length∧∃ G2 ρi acc,FI (Qa3 H G (Qef js σ) (Qch js ρ)) H2 G2 σ2 ρi∧G2 l∧(∀ k,¬ PrvAt σ2 ρi k l)∧H2 l=some (.lst ys)∧IsL (dls H2 G2) ys acc∧acc.length≤100000 ∧
     (∀ k,¬ PrvAt σ2 ρi k lw)∧H2 lw=some (.lst vs) ∧
     Qcf tg (evC p.cf cs) (evE p.cf e') (ts.drop i) acc ρi=.ok tsF ρF,⟨ts.length,Nat.zero_add _,_,_,[],Fc.addG hl (Same.upd hl) Qp rfl,.inr rfl,fun k hk=>?_,Qp,.nil,Nat.zero_le _,npw0,by rw [Q6 hne];exact elw,ec⟩,?_⟩
    ·obtain ⟨_,t,ob,ea,_⟩:=PrvAt.at Fc hk
     rw [hl] at ea
     cases ea
    rintro i m ys σ2 H2 ⟨him,G2,ρi,acc,I2,gl,np,el,il,zl,npw,ew,cl⟩
    have ok2:SqL K H2 lw vs∧Z H2:=⟨SqL.of ew,hZ H2 G2 (Fc.same I2)⟩
    by_cases hlt:i<ts.length
    ·refine .inr ⟨wk.go i H2 hlt ok2,fun x H3 y=>?_⟩
     obtain ⟨s3,t,et,ix⟩:=wk.yld i H2 x H3 hlt ok2 y
     have I3:=I2.grow s3
     have ix3:=ix G2 I2.prv (Fc.same I2)
     rw [List.drop_eq_getElem_cons hlt] at cl
     have et':ts[i]=t:=by rw [getElem?_eq_getElem hlt] at et;exact Option.some.inj et
     rw [et'] at cl
     unfold Qcf at cl
     cases est:Qgq tg t ρi with
     | none=>rw [est] at cl;cases cl
     | some ρ4 =>
      rw [est] at cl
      replace cl:(evC p.cf cs ρ4).bind _=.ok tsF ρF:=cl
      obtain ⟨b,ρ5,eb,cl⟩:=Qlh cl
      refine ⟨_,G2,ρi,t,ρ4,I3,ix3,est,fun σ4 I4 old=>?_⟩
      have np4:∀ k,¬ PrvAt σ4 ρ4 k l:=fun k hk=>np k (old k l hk)
      have npw4:∀ k,¬ PrvAt σ4 ρ4 k lw:=fun k hk=>npw k (old k lw hk)
      refine ⟨G2,ρ4,I4.self,?_⟩
      rw [show p.calm.cf=p.cf from rfl,eb]
      intro H5 G5 I5
      have np5:=I4.nobody I5 (s3 _ _ el) np4
      have npw5:=I4.nobody I5 (s3 _ _ ew) npw4
      have I5':=I4.trans I5
      have el5:H5 l=some (.lst ys):=I5.chg l _ (fun z=>by obtain ⟨j,z⟩:=OwA.prv z;exact np4 j z) (fun z=>by obtain ⟨j,z⟩:=MlA.prv z;exact np4 j z) (s3 _ _ el)
      have ew5:H5 lw=some (.lst vs):=I5.chg lw _ (fun z=>by obtain ⟨j,z⟩:=OwA.prv z;exact npw4 j z) (fun z=>by obtain ⟨j,z⟩:=MlA.prv z;exact npw4 j z) (s3 _ _ ew)
      have il5:IsL (dls H5 G5) ys acc:=(il.mono (Qbh s3)).mono (I4.same I5)
      cases b with
      | false =>
       simp only [Bool.false_eq_true,if_false] at cl ⊢
       exact ⟨m-1,by omega,by omega,G5,ρ5,acc,I5',I5.gg l gl,np5,el5,il5,zl,npw5,ew5,cl⟩
      | true =>
       simp only [if_true] at cl ⊢
       obtain ⟨r,ρ6,er,cl⟩:=Qlh cl
       refine ⟨G5,ρ5,I5'.self,?_⟩
       rw [show p.calm.cf=p.cf from rfl,er]
       intro v H6 G6 I6 r6
       cases ef:frz r with
       | none=>rw [ef] at cl;cases cl
       | some t6 =>
        rw [ef] at cl
        replace cl:(if acc.length<100000 then Qcf tg (evC p.cf cs) (evE p.cf e') (ts.drop (i+1)) (acc++[t6]) ρ6 else .no)=.ok tsF ρF:=cl
        by_cases za:acc.length<100000
        ·rw [if_pos za] at cl
         have np6:=I5'.nobody I6 el5 np5
         have npw6:=I5'.nobody I6 ew5 npw5
         have el6:H6 l=some (.lst ys):=I6.chg l _ (fun z=>by obtain ⟨j,z⟩:=OwA.prv z;exact np5 j z) (fun z=>by obtain ⟨j,z⟩:=MlA.prv z;exact np5 j z) el5
         have ew6:H6 lw=some (.lst vs):=I6.chg lw _ (fun z=>by obtain ⟨j,z⟩:=OwA.prv z;exact npw5 j z) (fun z=>by obtain ⟨j,z⟩:=MlA.prv z;exact npw5 j z) ew5
         have il6:IsL (dls H6 G6) ys acc:=il5.mono (I5'.same I6)
         obtain ⟨G7,I7,i7,s7⟩:=PVR.lay (B:=Qa3 H5 G5 σ4 ρ5) r6 I6 ef
         have g7:G7 l:=I7.gg l (I5.gg l gl)
         have I7':=I5'.trans I7
         have hb:(Qa3 H G (Qef js σ) (Qch js ρ)).H l=none:=hl
         obtain ⟨I8,s8⟩:=I7'.under (ys:=ys++[v]) g7 np6 hb
         have zy:=il6.length
         refine ⟨el6,by rw [zy,sizeLine_eq];omega,m-1,by omega,by omega,G7,ρ6,acc++[t6],I8,g7,np6,Qp,((il6.mono (Qdl s7)).append (.one i7)).mono s8,by rw [length_append,length_singleton];omega,npw6,by rw [Q6 hne];exact ew6,cl⟩
        ·rw [if_neg za] at cl;cases cl
    ·have e0:ts.drop i=[]:=List.drop_of_length_le (by omega)
     rw [e0] at cl
     cases cl
     refine .inl ⟨wk.stop i H2 (by omega) ok2,h1 _ H2 G2 (F1.uncap hap I2 hkept) ?_⟩
     refine ⟨l,rfl,F1.free hl,gl,fun k hk=>?_,.lst ys,el,zl,il⟩
     obtain ⟨⟨u,eu⟩,q⟩:=hk
     rw [Qe8] at eu
     have:∃ u,(Qa ρ k).prv=some u:=by
      rcases Qdh js ρF k (Qa ρ k) with z | ⟨_,t,_,_,z⟩
      ·rw [z] at eu;exact ⟨u,eu⟩
      ·rw [z] at eu;exact Qlg eu
     obtain ⟨_,t,ob,ea,_⟩:=PrvAt.at F1 ⟨this,q⟩
     rw [hl] at ea
     cases ea
   ·simp only [if_neg hz] at h1
    exact False.elim h1
 ·simp only [if_neg hj] at h1
  exact False.elim h1
theorem Q76 {σ:St} {ρ:En} {B:Bs} {H:Hp} {G:Addr→Prop} {i0:Nat} {ts:List T} (F:FI B H G σ ρ) (hs:(Qa ρ i0).prv=some (.lst ts)):∃ lw vs,σ[i0]?=some (some (.ref lw))∧PrvAt σ ρ i0 lw∧H lw=some (.lst vs)∧IsL (dls H G) vs ts:=by
 have hpv:∃ lw,σ[i0]?=some (some (.ref lw))∧OwnAt H G lw (.lst ts):=by
  have q:=F.slot i0
  cases he:Qa ρ i0 <;> rw [he] at hs q <;> first | (cases hs;done) | skip
  all_goals
   cases hs
   obtain ⟨l,sl,gl,o0⟩:=q
   exact ⟨l,sl,o0⟩
 obtain ⟨lw,sl,o0⟩:=hpv
 obtain ⟨vs,z,elw,ilw⟩:=o0.lst_inv
 exact ⟨lw,vs,sl,⟨⟨_,hs⟩,sl⟩,elw,ilw⟩
theorem Qz9 {K:PySem.W.Frag} {p:Pr} {i0:Nat} {js:List (Option Nat)} {tg:Tg} {cs:Es} {e':E} {σ:St} {H:Hp} {Q:VK} (h:tE p (.compS i0 js tg cs e') σ H Q):Qnw (Qsy K (Qh4 i0)) js (tG tg) (tCs p.calm cs) (tE p.calm e') σ H Q:=by
 obtain ⟨G,ρ,F,h1⟩:=h
 unfold evE at h1
 cases hs:(Qa ρ i0).prv with
 | none=>rw [hs] at h1;exact False.elim h1
 | some t0 =>
  rw [hs] at h1
  cases t0 <;> first | exact False.elim h1 | skip
  obtain ⟨lw,vs,sl,pw,elw,ilw⟩:=Q76 F hs
  exact ⟨_,sl,lw,rfl,.inl ⟨⟨vs,SqL.of elw⟩,fun l hl=>Qz8 (K:=K) F pw elw (Z:=fun _=>True) ((wk_l ilw).imp fun _ z=>z.1) (fun _ _ _=>trivial) h1 hl⟩⟩
theorem Q3k {X:Cx} {p:Pr} {K:PySem.W.Frag} {tgE elt iter:Expr} {ifs:List Expr} {scope:Scope} {pos:Pos} {N:List Str} {js:List (Option Nat)} {i0:Nat} {tg:Tg} {cs:Es} {e':E} (hcalm:X.calm=true)
  (hi:QI X tgE iter (Qsy K (Qh4 i0))) (hg:∀ s H fp,QG (Qac X scope N s H fp) tgE (tG tg)) (hc:∀ s H fp,QC (Qac X scope N s H fp) ifs (tCs p.calm cs)) (he:∀ s H fp,QE (Qac X scope N s H fp) elt (tE p.calm e'))
  (hk:scope.kind=.function) (h1:scOk X scope=true) (h2:Qg1 X scope N js=true) (hs:∀ x,foldedSetIterable iter X.env x=pure x):QE X (.ListComp elt [⟨tgE,iter,ifs,0⟩] scope pos) (tE p (.compS i0 js tg cs e')) :=
 (Qys N js hcalm hi hg hc he hk h1 h2 hs).weak fun σ H Q h=>Qz9 h
theorem Q3l {X:Cx} {p:Pr} {K:PySem.W.Frag} {tgE elt iter:Expr} {ifs:List Expr} {scope:Scope} {pos:Pos} {e':E} (N:List Str) (js:List (Option Nat)) {i0:Nat} {tg:Tg} {cs:Es} (hcalm:X.calm=true)
  (hi:QI X tgE iter (Qsy K (Qh4 i0))) (hg:∀ s H fp,QG (Qac X scope N s H fp) tgE (tG tg)) (hc:∀ s H fp,QC (Qac X scope N s H fp) ifs (tCs p.calm cs)) (he:∀ s H fp,QE (Qac X scope N s H fp) elt (tE p.calm e'))
  (hk:scope.kind=.function:=by rfl) (h1:scOk X scope=true:=by rfl) (h2:Qg1 X scope N js=true:=by rfl) (hs:∀ x,foldedSetIterable iter X.env x=pure x:=by intro _;rfl):QE X (.ListComp elt [⟨tgE,iter,ifs,0⟩] scope pos) (tE p (.compS i0 js tg cs e')):=Q3k hcalm hi hg hc he hk h1 h2 hs
section
variable {H H1:Hp} {b:Addr} {o:HO}
end
section
variable {X:Cx}
end
section
variable {X:Cx} {p:Pr} {e a b:Expr} {e' a' k':E} {st:Stmt} {pos p1 apos:Pos} {x:Str} {K:PySem.W.Frag}
end
end L2
namespace L2
open PySem PySem.Spec PyProof.Rows PySem.W
section
variable {X:Cx} {tg l e:Expr} {tl:TE}
end
section
variable {X:Cx} {p:Pr} {tg e:Expr} {e':E}
end
section
variable {B:Bs} {H H1:Hp} {G G1:Addr→Prop} {σ σ1:St} {ρ ρ1:En} {b:Addr} {o:HO}
def RowR (H:Hp) (G:Addr→Prop) (r:Addr) (is:List Int):Prop:=¬ G r∧H r=some (.lst (is.map V.int))∧is.length≤1000
def TabR (H:Hp) (G:Addr→Prop) (q:Addr×List Addr) (M:List (List Int)):Prop:=¬ G q.1∧H q.1=some (.lst (q.2.map V.ref))∧Paired (RowR H G) q.2 M∧M.length≤1000
noncomputable abbrev Q3m (ps:List (Addr×List Addr)):List Addr:=ps.map (·.1)++ps.flatMap (·.2)
structure Tree (H:Hp) (G:Addr→Prop) (lf:Addr) (ps:List (Addr×List Addr)) (Ms:List (List (List Int))):Prop where
 own:G lf
 top:H lf=some (.lst (ps.map fun q=>V.ref q.1))
 tabs:Paired (TabR H G) ps Ms
 nd:(Q3m ps).Nodup
structure Lv (B:Bs) (iF iR:Nat) (H:Hp) (G:Addr→Prop) (σ:St) (ρ:En) (lf lr:Addr) (ps:List (Addr×List Addr)) (Ms:List (List (List Int))) (rs:List Addr) (R:List (List Int)):Prop where
 F:FI B H G σ ρ
 sF:Qa ρ iF=.ow (.lst (Ms.map Qeh))
 eF:σ[iF]?=some (some (.ref lf))
 sR:Qa ρ iR=.ow (.lst (R.map Qn6))
 eR:σ[iR]?=some (some (.ref lr))
 tr:Tree H G lf ps Ms
 hr:H lr=some (.lst (rs.map V.ref))
 rows:Paired (RowR H G) rs R
 nd:(rs++Q3m ps).Nodup
 fr:∀ b∈rs++Q3m ps,B.H b=none
structure Lf (B:Bs) (iF:Nat) (H:Hp) (G:Addr→Prop) (σ:St) (ρ:En) (lf:Addr) (ps:List (Addr×List Addr)) (Ms:List (List (List Int))):Prop where
 F:FI B H G σ ρ
 sF:Qa ρ iF=.ow (.lst (Ms.map Qeh))
 eF:σ[iF]?=some (some (.ref lf))
 tr:Tree H G lf ps Ms
 fr:∀ b∈Q3m ps,B.H b=none
variable {iF iR iH:Nat} {lf lr:Addr} {ps:List (Addr×List Addr)} {Ms:List (List (List Int))} {rs:List Addr} {R:List (List Int)} {is:List Int}
end
theorem argR.mono {H H':Hp} {dx:Option Addr} (s:Same H H'):∀ {arg:List Int},argR H dx arg→argR H' dx arg
 | [],h=>h
 | [_],⟨d,e,q⟩=>⟨d,e,s _ _ q⟩
 | [_,_],⟨d,e,q⟩=>⟨d,e,s _ _ q⟩
 | _::_::_::_,h=>h.elim
def ExAt (mg:Str→Option Value) (H:Hp) (a:Addr) (c:Nat) (arg:List Int):Prop:=∃ nm dx,Qbk[c]?=some nm∧H a=some (Qs5 a (.ref (cad mg nm)) dx)∧argR H dx arg
noncomputable def Q0a:T→Option V
 | .non=>some .non
 | .bl b=>some (.bl b)
 | .int i=>some (.int i)
 | .str s=>some (.str s)
 | _=>none
noncomputable def Qu3:List T→Option (List V)
 | []=>some []
 | t::ts=>match Q0a t,Qu3 ts with
  | some v,some vs=>some (v::vs)
  | _,_=>none
def NewT (H H2:Hp) (v:V) (t:T):Prop:=Q0a t=some v∨∃ ts vs q,t=.tup ts∧ts.length≤1000∧Qu3 ts=some vs∧v=.ref q∧H q=none∧H2 q=some (.tup vs)
theorem Qu4 {D:Hp} {t:T} {v:V} (h:Q0a t=some v):Is D v t:=by
 cases t <;> first | (cases h;done) | skip
 ·cases h;exact Is.non
 ·cases h;exact Is.bl
 ·cases h;exact Is.int
 ·cases h;exact Is.str
theorem Qre {D:Hp}:∀ {ts:List T} {vs:List V},Qu3 ts=some vs→IsL D vs ts
 | [],vs,h=>by cases h;exact .nil
 | t::ts,vs,h=>by
  unfold Qu3 at h
  split at h
  ·rename_i v ws e1 e2
   cases h
   exact .cons (Qu4 e1) (Qre e2)
  ·cases h
def Q77 (mg:Str→Option Value) (i n:Nat) (h:Nat→List Int→Option T):TS:=fun D σ H=>∃ a c arg t,σ.length=n∧σ[i]?=some (some (.ref a))∧ExAt mg H a c arg∧h c arg=some t∧∀ v H2,Same H H2→NewT H H2 v t→D.rt v H2
section
variable {X:Cx} {p:Pr} {body suite:List Stmt} {b0:Stmt} {n:Str} {np hpos pos:Pos} {i:Nat} {b:S} {h:Nat→List Int→Option T}
theorem Q3n (ex:Exs X.K p.mg) {D:Ends} {σ:St} {H:Hp} (hi:i<σ.length) (q:tS p (.tryR i b h) D σ H):tTry i X.K (cad p.mg "NoughtError") (fun R=>tS ⟨p.cf,R,p.mg⟩ b) (Q77 p.mg i σ.length h) D σ H:=by
 obtain ⟨B,G,ρ,F,hO,q⟩:=q
 unfold exS at q
 refine ⟨fun cls dx σ' H'=>∃ x ρ1 G',FI B H' G' σ' ρ1∧Q2y p.mg H' x cls dx∧exS p.cf b ρ=.xn x ρ1,⟨B,G,ρ,F,hO,?_⟩,?_⟩
 ·cases e:exS p.cf b ρ with
  | nx ρ1=>rw [e] at q;exact q
  | rt r ρ1=>rw [e] at q;exact q
  | bk ρ1=>rw [e] at q;exact q
  | ct ρ1=>rw [e] at q;exact q
  | no=>rw [e] at q;exact q
  | xn x ρ1=>exact fun cls dx σ1 H1 G1 F1 xr=>⟨x,ρ1,G1,F1,xr,rfl⟩
 ·rintro cls dx σ' H' a ⟨x,ρ1,G',F1,xr,e⟩ ha hl
  rw [e] at q
  obtain ⟨nm,hn,rfl,hd⟩:=xr
  refine ⟨⟨_,rfl,ex.sub x.c hn⟩,?_⟩
  dsimp only at q
  cases ht:h x.c x.arg with
  | none=>rw [ht] at q;exact q.elim
  | some t =>
   rw [ht] at q
   have sa:Same H' (upd H' a (Qs5 a (.ref (cad p.mg nm)) dx)):=Same.upd ha
   refine ⟨a,x.c,x.arg,t,by rw [length_set,hl],Qmc (by rw [hl];exact hi),⟨nm,dx,hn,Qp,?_⟩,ht,fun v H2 s2 nw=>?_⟩
   ·exact hd.mono sa
   ·have s3:=sa.trans s2
    have F2:=F1.grow s3
    refine q v σ' H2 G' F2 ?_
    show Is (dls H2 G') v t
    rcases nw with z | ⟨ts,vs,w,rfl,hz,e1,rfl,e2,e3⟩
    ·exact Qu4 z
    ·have hw:H' w=none:=by
      cases z:H' w with
      | none=>rfl
      | some o=>rw [sa _ _ z] at e2;cases e2
     have ng:¬ G' w:=fun g=>by
      obtain ⟨_,z,_⟩:=F1.prv w g
      rw [hw] at z
      cases z
     exact .tup (by rw [Qca ng];exact e3) (Qre e1) (by omega)
end
section
variable {X:Cx} {p:Pr} {e:Expr} {es:List Expr} {es':Es} {x nm:Str} {np cpos pos:Pos} {c k:Nat} {D:Ends} {σ:St} {H:Hp}
theorem Qwu (hx:Qbk[c]?=some nm) (hc:c<6) (h:tS p (.raise c es') D σ H):tA p es' σ H (fun vs H1=>vs.length≤sizeLine∧p.R (.ref (cad p.mg nm)) none σ H1):=by
 obtain ⟨B,G,ρ,F,hO,h⟩:=h
 unfold exS at h
 refine Qzk F (Qg9 h) fun rs ρ2 vs H2 G2 k F2 _ r2=>?_
 split at k
 ·rw [if_neg (by omega)] at k
  exact False.elim k
 ·rw [if_pos hc] at k
  cases r2 with
  | cons pv r3 =>
   cases r3
   exact ⟨by show 1≤sizeLine;decide,k _ _ σ H2 G2 F2 ⟨nm,hx,rfl,rfl⟩⟩
 ·rw [if_neg (by omega)] at k
  exact False.elim k
 ·exact False.elim k
theorem Qwv (hx:Qbk[c]?=some nm) (hc:6≤c∧c<9) (h:tS p (.raise c es') D σ H):tA p es' σ H (fun vs H1=>∃ v,vs=[v]∧∀ d,H1 d=none→p.R (.ref (cad p.mg nm)) (some d) σ (upd H1 d (.xd [("at",v)]))):=by
 obtain ⟨B,G,ρ,F,hO,h⟩:=h
 unfold exS at h
 refine Qzk F (Qg9 h) fun rs ρ2 vs H2 G2 k F2 _ r2=>?_
 split at k
 ·rw [if_pos hc] at k
  cases r2 with
  | cons pv r3 =>
   cases r3
   have e:=pv.is
   unfold Is at e
   subst e
   exact ⟨_,rfl,fun d hd=>k _ _ σ _ G2 (F2.grow (Same.upd hd)) ⟨nm,hx,rfl,d,rfl,Qp⟩⟩
 ·rw [if_neg (by omega)] at k
  exact False.elim k
 ·rw [if_neg (by omega)] at k
  exact False.elim k
 ·exact False.elim k
theorem Qmj (c:Nat) (pz:Qe6 X p.R) (hc:X.calm=true) (ex:Exs X.K p.mg) (hx:Qbk[c]?=some x) (h6:c<6) (ha:QA X (e::es) (tA p es')) (hm:X.mg x=p.mg x:=by rfl) (hg:Gl X x:=by rfl)
  (hdb:(x==("__debug__" : Str))=false:=by decide) (he:starEach (e::es) X.env=(false,eval e X.env)::starEach es X.env:=by rfl) (hpl:(backTo cpos (starEach es X.env)).any (·.1)=false:=by rfl) :
  QS X (.Raise (some (.Call (.Name x np) (e::es) [] cpos)) none pos) (tS p (.raise c es')) :=
 (Q2p pz hc F.excBase_ValueError (ex.rz c h6 hx) (hm.trans (ex.m c x hx)) ha hg hdb he hpl).weak fun D σ H h=>Qwu hx h6 h
theorem Q0b (c:Nat) (pz:Qe6 X p.R) (hc:X.calm=true) (ex:Exs X.K p.mg) (i:Ini X.K (cad p.mg "NoughtError") (cad p.mg x)) (hr:Room k X.A) (hx:Qbk[c]?=some x) (h6:6≤c∧c<9) (ha:QA X [e] (tA p es')) (hm:X.mg x=p.mg x:=by rfl) (hg:Gl X x:=by rfl)
  (hdb:(x==("__debug__" : Str))=false:=by decide) (he:starEach [e] X.env=[(false,eval e X.env)]:=by rfl) :
  QS X (.Raise (some (.Call (.Name x np) [e] [] cpos)) none pos) (tS p (.raise c es')) :=
 (Qzc pz hc i hr (hm.trans (ex.m c x hx)) ha hg hdb he).weak fun D σ H h=>Qwv hx h6 h
end
section
variable {X:Cx} {p:Pr} {body suite:List Stmt} {b0:Stmt} {n:Str} {np hpos pos:Pos} {i:Nat} {b:S} {h:Nat→List Int→Option T}
theorem Q78 (ex:Exs X.K p.mg) (hb:∀ (pins:List (Addr×Obj)) (R:XR),Qe6 (Qly X pins R) R→QB (Qly X pins R) body (tS ⟨p.cf,R,p.mg⟩ b)) (hs:∀ (pins:List (Addr×Obj)) (e:Addr),QB (Qlz X pins e) (b0::suite) (Q77 p.mg i X.N.length h))
  (hN:X.N.Nodup) (hm:X.mg "NoughtError" = p.mg "NoughtError" := by rfl) (hi:X.N[i]?=some n:=by rfl) (hl:X.env.scope.names.lookup n=some .local:=by rfl) (hg:Gl X "NoughtError" := by rfl)
  (hst:∃ env outer L,X.stack=env::outer∧X.env=env∧env.frame=some L:=by exact ⟨_,_,_,rfl,rfl,rfl⟩):QS X (.Try body [.ExceptHandler (some (.Name "NoughtError" np)) (some n) (b0::suite) hpos] [] [] pos) (tS p (.tryR i b h)) :=
 ⟨fun pins s σ H D I z=>(Qaa0 hb hs hN ex.nou F.excBase_ValueError.hasBase (hm.trans ex.m0) hi hl hg hst (by decide)).h pins s σ H D I (I.len ▸ Q3n ex (by rw [I.len];exact (List.getElem?_eq_some_iff.mp hi).1) z)⟩
end
section
variable {X:Cx} {p:Pr} {a b c:Expr} {a' b' c':E} {pos:Pos}
end
section
variable {prog:Program} {w:World} {A:Around} {E:Value→Shared→Prop} {s:Shared}
end
section
variable {X:Cx} {a b:Expr} {rest:List Expr} {ta tb:TE} {pos:Pos}
end
section
variable {cf:CF} {ρ:En}
end
section
variable {X:Cx} {pins:List (Addr×Obj)} {σ:St} {H:Hp} {s:Shared}
end
section
variable {X:Cx} {p:Pr}
end
section
variable {X:Cx} {p:Pr} {x:Str} {i n:Nat} {e:Expr} {es:List Expr} {es':Es} {p1 pos:Pos}
end
structure LamSc (l:LamT):Prop where
 kind:l.scope.kind=.function
 co:l.scope.isCoroutine=false
 gen:l.scope.isGenerator=false
 nd:(l.ps++l.caps).Nodup
 par:∀ x∈l.ps,l.scope.names.lookup x=some .local
 cap:∀ x∈l.caps,l.scope.names.lookup x=some .free
 nocell:∀ y∈l.scope.names,y.2≠.cell
 free:∀ y∈l.scope.names,y.2=.free→y.1∈l.caps
 bind:∀ (cl:List (Str×Addr)) (pm cdv ctv:Value) (us:List Value),us.length=l.ps.length→bindArgs (PySem.W.kla_fn "<lambda>" l.qual l.params l.body l.scope cl pm cdv ctv) ⟨us,[]⟩=pure (l.ps.zip us)
section
variable {P:Program} {w:World} {K:PySem.W.Frag} {mg:Str→Option Value} {base:Heap}
noncomputable abbrev swX (X:Cx) (g:Str→Bool):Cx:={ X with fn:=g }
structure QB0 (X:Cx) (g:Str→Bool) (st:List Stmt) (t:TS):Prop where
 h:∀ (pins:List (Addr×Obj)) (s:Shared) (σ:St) (H:Hp) (D:Ends),Inv X pins σ H s→t D σ H→wpAny (model X.prog X.w) X.A (execs st X.env) (SP (swX X g) pins D) X.xe s
end
section
variable {K:PySem.W.Frag} {tb:Addr} {qn:Str} {mg:Str→Option Value}
structure MakesL (K:PySem.W.Frag) (mg:Str→Option Value) (x:Str) (c tb:Addr):Prop where
 tab:K.lookup tb=none
 of:Qs3 K mg x (.ref c)
 hd:∃ o vs file tf flags tg inF text tt,K.lookup c=some o∧o.cls=.type "code" ∧ o.data=.fields vs∧vs[11]?=some (.ref tb)∧vs.getD 11 .none=.ref tb∧vs.getD 18 .none=.str file tf∧vs.getD 7 .none=.int flags tg∧vs.getD 9 .none=.bool inF∧vs.getD 10 .none=.int text tt
end
section
variable {X:Cx} {p:Pr} {x:Str} {e:Expr} {es:List Expr} {es':Es} {p1 pos:Pos}
end
noncomputable abbrev uns (n:Nat):En:=List.replicate n .un
theorem Qdc (n i:Nat):Qa (uns n) i=.un:=by
 unfold Qa uns
 rw [getElem?_replicate]
 split <;> rename_i e
 ·split at e <;> cases e
  rfl
 ·rfl
noncomputable abbrev bs0 (H:Hp):Bs:=⟨H,fun _=>False,fun _=>False,fun _=>False,fun _ _=>False⟩
theorem Q0c (H:Hp) {σ:St} {n:Nat} (hl:σ.length=n):FI (bs0 H) H (fun _=>False) σ (uns n) where
 len:=by rw [hl,length_replicate]
 slot:=fun i=>by rw [Qdc];trivial
 apart:=fun i j a h _=>by obtain ⟨⟨t,e⟩,_⟩:=h;rw [Qdc] at e;cases e
 prv:=fun b h=>h.elim
 chg:=fun _ _ _ _ e=>e
 keep:=fun _ o e=>⟨o,e⟩
 newO:=fun a h=>by obtain ⟨i,t,e,_⟩:=h;rw [Qdc] at e;cases e
 newM:=fun a h=>by obtain ⟨i,t,e,_⟩:=h;rw [Qdc] at e;cases e
 fix:=fun i a h=>by obtain ⟨⟨t,e⟩,_⟩:=h;rw [Qdc] at e;rcases e with e | e | e <;> cases e
 gg:=fun _ h=>h
 gn:=fun _ h=>.inl h
 bp:=fun _ h=>h.elim
theorem Q79 {p:Pr} {c':E} {σ:St} {H:Hp} {n:Nat} {ρ1:En} {Q:Bool→Hp→Prop} {b:Bool} (hl:σ.length=n) (e:Qar (evE p.cf c' (uns n))=.ok b ρ1) (q:∀ H1,Same H H1→Q b H1):tT p c' σ H Q:=by
 refine ⟨fun _=>False,uns n,(Q0c H hl).self,?_⟩
 rw [e]
 intro H1 G1 F1
 refine q H1 fun b o eb=>F1.chg b o (fun h=>?_) (fun h=>?_) eb
 ·obtain ⟨i,t,e,_⟩:=h;rw [Qdc] at e;cases e
 ·obtain ⟨i,t,e,_⟩:=h;rw [Qdc] at e;cases e
def Qmk (K:PySem.W.Frag):Sp:=fun vs H Q _=>∃ (a:Addr) (ns:List Int) (k:Nat),vs=[.ref a,.int k]∧SqL K H a (ns.map V.int)∧∀ i:Int,Q (.int i) H
abbrev Q0d (K:PySem.W.Frag) (hi:Int):TI:=Qsy K (tOp (Qnx K) (Q4m (Qku (Qqg (Qmk K) [] E0 (Qku (Qh4 0) (Qku (tC (.int 0)) Qv4))) Qv4)) (tSl (Qyg K) (Qh4 0) (Qug (tC (.int 1))) (Qug (tC (.int hi)))))
theorem Q0e {p:Pr} {K:PySem.W.Frag} {σ:St} {H:Hp} {D:Ends} {a:Addr} {ns:List Int} {ic n:Nat} {body:S} {hi:Int} (hσ:σ[0]?=some (some (.ref a))) (hs:SqL K H a (ns.map V.int)) (hns:ns.length≤63) (hl:σ.length=n) (hic:ic<n)
  (hb:∀ m:Int,∃ ρ',exS p.cf body ((uns n).set ic (.fz (.int m)))=.nx ρ'∧ρ'.length=n) (hD:∀ σ' H',D.nx σ' H'):Q1r (Q0d K hi) (Qgo ic) (tS p body) D σ H:=by
 refine ⟨_,hσ,a,ns,0,rfl,hs,fun c0=>⟨by show 1≤sizeLine;decide,fun l7 n7=>?_⟩⟩
 have hs7:=(Same.upd (o:=.lst [.int c0]) n7).seq hs
 refine ⟨_,hσ,_,rfl,_,rfl,.inl ⟨a,_,rfl,hs7,fun l8 n8=>?_⟩⟩
 have n78:l7≠l8:=Qbs Qp n8
 have hcl:=Qg0 (ns.map V.int) (some 1) (some hi)
 refine .inr (.inl ⟨l7,l8,_,_,rfl,rfl,by rw [Q6 n78,Qp],Qp,?_,fun l9 n9=>?_⟩)
 ·refine Qcp ?_
  rw [length_map] at hcl
  show 1+_≤100000
  omega
 generalize hH9:upd (upd (upd H l7 (.lst [.int c0])) l8 (.lst (Qgz (ns.map V.int) (some 1) (some hi)))) l9 (.lst ([.int c0]++Qgz (ns.map V.int) (some 1) (some hi)))=H9
 have e9:H9 l9=some (.lst ([.int c0]++Qgz (ns.map V.int) (some 1) (some hi))):=by rw [←hH9,Qp]
 have allI:∀ x∈[V.int c0]++Qgz (ns.map V.int) (some 1) (some hi),∃ i:Int,x=.int i:=fun x hx=>by
  rcases mem_append.mp hx with hx | hx
  ·exact ⟨c0,mem_singleton.mp hx⟩
  ·have hx:=mem_of_mem_drop (mem_of_mem_take hx)
   obtain ⟨n,_,e⟩:=mem_map.mp hx
   exact ⟨n,e.symm⟩
 refine ⟨l9,rfl,.inl ⟨⟨_,SqL.of e9⟩,Qxw (K:=K) (a:=l9) (xs:=[V.int c0]++Qgz (ns.map V.int) (some 1) (some hi)) (fun i σ H10=>σ.length=n∧H10 l9=some (.lst ([.int c0]++Qgz (ns.map V.int) (some 1) (some hi)))) ⟨hl,e9⟩ (fun i σ H10 _ h=>SqL.of h.2) ?_ ?_⟩⟩
 ·rintro i x σ2 H2 hx ⟨hl2,e2⟩
  obtain ⟨m,rfl⟩:=allI x (mem_of_getElem? hx)
  obtain ⟨ρ',eb,lb⟩:=hb m
  have F0:=(Q0c H2 hl2).setFz (i:=ic) (v:=.int m) (t:=.int m) (by rw [length_replicate];exact hic) Is.int
  refine ⟨bs0 H2,fun _=>False,_,F0,fun _ z=>z,?_⟩
  rw [eb]
  exact fun σ1 H1 G1 F1 _=>⟨by rw [F1.len,lb],F1.chg l9 _ (fun z=>z) (fun z=>z) e2⟩
 ·rintro σ2 H2 _
  exact hD σ2 H2
def Qtk (K:PySem.W.Frag):Sp:=fun vs H Q _=>∃ (a:Addr) (ns:List Int),vs=[.ref a]∧SqL K H a (ns.map V.int)∧ns.length≤63∧∀ H',Q (.bl true) H'
abbrev Q48 (p:Pr) (K:PySem.W.Frag) (c:E) (ic:Nat) (hi:Int) (body:S):TS:=Qxn (Q5u (tT p c) (fun _ _ _=>False) Qxm) (Qxn (Q1r (Q0d K hi) (Qgo ic) (tS p body)) (Q5s (tC (.bl true))))
theorem Q3o {p:Pr} {K:PySem.W.Frag} {H:Hp} {vs:List V} {Q:VK} {E:XK} {N:List Str} {c:L2.E} {ic:Nat} {hi:Int} {body:S} {ρ1:En} (h:Qtk K vs H Q E) (hN:1≤N.length) (hic:ic<N.length) (hc:Qar (evE p.cf c (uns N.length))=.ok false ρ1)
  (hb:∀ m:Int,∃ ρ',exS p.cf body ((uns N.length).set ic (.fz (.int m)))=.nx ρ'∧ρ'.length=N.length):Q48 p K c ic hi body { nx:=fun _ H'=>Q .non H',rt:=Q } (Qbt N vs) H:=by
 obtain ⟨a,ns,rfl,hs,hns,q⟩:=h
 have hl:(Qbt N [.ref a]).length=N.length:=by unfold Qbt;simp only [length_append,length_map,length_replicate,length_cons,length_nil];omega
 refine Q79 hl hc fun H1 s1=>?_
 refine Q6j ?_
 refine Q0e (Qog rfl) (s1.seq hs) hns hl hic hb fun σ' H'=>q H'
noncomputable def Qgt:Slot→Bool
 | .ml _=>false
 | _=>true
theorem Qu5:∀ {ρ:En},ρ.all Qgt=true→∀ k t,Qa ρ k≠.ml t
 | [],_,k,t,e=>by rw [Qf4] at e;cases e
 | s::ρ,h,0,t,e=>by
  rw [Qb] at e
  subst e
  simp [Qgt] at h
 | s::ρ,h,k+1,t,e=>by
  rw [all_cons,Bool.and_eq_true] at h
  rw [Qd] at e
  exact Qu5 h.2 k t e
theorem Qml {js:List (Option Nat)} {ρi:En} (h:ρi.all Qgt=true):∀ (ρ:En) (n:Nat),Qd3 js ρi n ρ=ρ
 | [],_=>rfl
 | s::ρ,n=>by
  unfold Qd3
  rw [Qml h ρ (n+1)]
  rcases Qdh js ρi n s with e | ⟨k,t,_,e,_⟩
  ·rw [e]
  ·exact absurd e (Qu5 h k t)
theorem Qu6 {js:List (Option Nat)} {ρi ρ:En} (h:ρi.all Qgt=true):Qjc js ρi ρ=ρ:=Qml h ρ 0
theorem Qmm:∀ {ρ0 ρ:En},ρ0.all Qgt=true→ρ0.length=ρ.length→Qea ρ0 ρ=true
 | [],[],_,_=>rfl
 | [],_::_,_,h=>by cases h
 | _::_,[],_,h=>by cases h
 | s0::ρ0,s::ρ,h,hl=>by
  rw [all_cons,Bool.and_eq_true] at h
  have q:=Qmm (ρ0:=ρ0) (ρ:=ρ) h.2 (by simpa using hl)
  cases s0 <;> first | exact q | (simp [Qgt] at h)
noncomputable def Qcx:Slot→Bool
 | .un=>true
 | .fz _=>true
 | _=>false
theorem Qrf {s:Slot} {rest:En} {x:T} (h:Qcx s=true):Qgq (.nm 0) x (s::rest)=some (.fz x::rest):=by
 cases s <;> first | rfl | cases h
theorem Qmn {c:En→Out Bool} {el:En→Out PV} {rest:En} {g:T→Bool} {f:T→T}:∀ {xs acc:List T} {s0:Slot},Qcx s0=true→(∀ x∈xs,c (.fz x::rest)=.ok (g x) (.fz x::rest))→(∀ x∈xs,g x=true→∃ r,el (.fz x::rest)=.ok r (.fz x::rest)∧frz r=some (f x))→acc.length+xs.length≤100000 →
  ∃ s,Qcf (.nm 0) c el xs acc (s0::rest)=.ok (acc++(xs.filter g).map f) (s::rest)∧Qcx s=true
 | [],acc,s0,h0,hc,he,hz=>⟨s0,by unfold Qcf;simp,h0⟩
 | x::xs,acc,s0,h0,hc,he,hz=>by
  rw [length_cons] at hz
  have ih:=fun acc' (hz':acc'.length+xs.length≤100000)=>Qmn (c:=c) (el:=el) (rest:=rest) (g:=g) (f:=f) (xs:=xs) (acc:=acc') (s0:=.fz x) rfl (fun y hy=>hc y (mem_cons_of_mem _ hy)) (fun y hy=>he y (mem_cons_of_mem _ hy)) hz'
  unfold Qcf
  rw [Qrf h0]
  simp only [hc x mem_cons_self,Out.bind]
  cases hg:g x with
  | false =>
   obtain ⟨s,e,o⟩:=ih acc (by omega)
   refine ⟨s,?_,o⟩
   simp only [Bool.false_eq_true,if_false,e,List.filter_cons,hg]
  | true =>
   obtain ⟨r,er,fr⟩:=he x mem_cons_self hg
   simp only [if_true,er,fr]
   have za:acc.length<100000:=by omega
   rw [if_pos za]
   obtain ⟨s,e,o⟩:=ih (acc++[f x]) (by rw [length_append,length_singleton];omega)
   refine ⟨s,?_,o⟩
   simp only [e,List.filter_cons,hg,if_true,map_cons,append_assoc,List.singleton_append]
theorem Q3p {cf:CF} {w:W} {js:List (Option Nat)} {cs:Es} {e:E} {ρ rest:En} {xs:List T} {g:T→Bool} {f:T→T} (hw:evW cf w ρ=.ok (xs,none) ρ) (hcap:Qch js ρ=.un::rest) (hml:rest.all Qgt=true) (hap:Qb1 js=true)
  (hc:∀ x∈xs,evC cf cs (.fz x::rest)=.ok (g x) (.fz x::rest)) (he:∀ x∈xs,g x=true→∃ r,evE cf e (.fz x::rest)=.ok r (.fz x::rest)∧frz r=some (f x)) (hz:xs.length≤100000) :
  evE cf (.comp w js (.nm 0) cs e) ρ=.ok (.ow (.lst ((xs.filter g).map f))) ρ:=by
 obtain ⟨s,e1,o⟩:=Qmn (c:=evC cf cs) (el:=evE cf e) (rest:=rest) (g:=g) (f:=f) (xs:=xs) (acc:=[]) (s0:=.un) rfl hc he (by simpa using hz)
 have hs:(s::rest).all Qgt=true:=by
  rw [all_cons,hml]
  cases s <;> first | rfl | cases o
 unfold evE
 rw [hw]
 simp only [Out.bind,hcap,e1]
 rw [if_pos ⟨Qmm (by rw [all_cons,hml];rfl) rfl,hap⟩,Qu6 hs]
 rfl
theorem Qao {cf:CF} {w:W} {js:List (Option Nat)} {e:E} {ρ rest:En} {xs:List T} {f:T→T} (hw:evW cf w ρ=.ok (xs,none) ρ) (hcap:Qch js ρ=.un::rest) (hml:rest.all Qgt=true) (hap:Qb1 js=true)
  (he:∀ x∈xs,∃ r,evE cf e (.fz x::rest)=.ok r (.fz x::rest)∧frz r=some (f x)) (hz:xs.length≤100000) :
  evE cf (.comp w js (.nm 0) .nil e) ρ=.ok (.ow (.lst (xs.map f))) ρ:=by
 rw [Q3p (g:=fun _=>true) (f:=f) hw hcap hml hap (fun x _=>by unfold evC;rfl) (fun x hx _=>he x hx) hz,List.filter_eq_self.mpr (fun _ _=>rfl)]
theorem Qec {tg:Tg} {b:En→SO} (J:Nat→En→Prop):∀ {xs:List T} {n:Nat} {ρ:En},J n ρ→(∀ (i:Nat) x ρ,xs[i]?=some x→J (n+i) ρ→∃ ρ1 ρ2,Qgq tg x ρ=some ρ1∧(b ρ1=.nx ρ2∨b ρ1=.ct ρ2)∧J (n+i+1) ρ2)→∃ ρ',Qe4 tg b xs ρ=.nx ρ'∧J (n+xs.length) ρ'
 | [],n,ρ,h,_=>⟨ρ,rfl,h⟩
 | x::xs,n,ρ,h,hs=>by
  obtain ⟨ρ1,ρ2,e1,e2,j⟩:=hs 0 x ρ rfl h
  obtain ⟨ρ',e3,j3⟩:=Qec (tg:=tg) (b:=b) J (xs:=xs) (n:=n+1) (ρ:=ρ2) (by simpa using j) fun i y ρ hy hj=>by
   have:=hs (i+1) y ρ (by rw [getElem?_cons_succ];exact hy) (by rw [show n+(i+1)=n+1+i by omega];exact hj)
   rw [show n+(i+1)+1=n+1+i+1 by omega] at this
   exact this
  refine ⟨ρ',?_,by rw [length_cons,show n+(xs.length+1)=n+1+xs.length by omega];exact j3⟩
  unfold Qe4
  rw [e1]
  rcases e2 with e2 | e2 <;> simp only [e2] <;> exact e3
noncomputable def isF:Out Bool→Bool
 | .ok false _=>true
 | _=>false
theorem Q8a {o:Out Bool} (h:isF o=true):∃ ρ,o=.ok false ρ:=by
 cases o with
 | ok b ρ=>cases b <;> first | exact ⟨ρ,rfl⟩ | cases h
 | xn x ρ=>cases h
 | no=>cases h
def Q8b (Q:Df→Prop):List Df→Prop
 | []=>True
 | d::ds=>Q d∧Q8b Q ds
theorem Q0f {Q:Df→Prop}:∀ {ds:List Df},Q8b Q ds→∀ (f:Nat) (d:Df),ds[f]?=some d→Q d
 | [],_,f,d,e=>by simp at e
 | c::ds,h,0,d,e=>by simp at e;subst e;exact h.1
 | c::ds,h,f+1,d,e=>by rw [getElem?_cons_succ] at e;exact Q0f h.2 f d e
theorem Q0g {X:Cx} {sts:List Stmt}:QB X sts (fun _ _ _=>False):=⟨fun _ _ _ _ _ _ h=>h.elim⟩
variable {cf:CF} {ρ ρ1 ρ2:En} {α β:Type}
theorem Q0 {a:α} {k:α→En→Out β}:(Out.ok a ρ).bind k=k a ρ:=rfl
noncomputable def Q8 (i:Nat) (ρ:En):Slot→Out PV
 | .fz t=>.ok (.fz t) ρ
 | .un=>.no
 | .pin _=>.no
 | .fx t=>.ok (.fz t) ρ
 | _=>.ok (.sl i) ρ
theorem Qm {i:Nat}:evE cf (.var i) ρ=Q8 i ρ (Qa ρ i):=by rw [evE];cases Qa ρ i <;> rfl
theorem Qay {i:Int}:evE cf (.int i) ρ=.ok (.fz (.int i)) ρ:=by rw [evE]
theorem Qrg {i:Bool}:evE cf (.bl i) ρ=.ok (.fz (.bl i)) ρ:=by rw [evE]
theorem Qmo:evE cf .non ρ=.ok (.fz .non) ρ:=by rw [evE]
theorem Qrh {i:Str}:evE cf (.str i) ρ=.ok (.fz (.str i)) ρ:=by rw [evE]
noncomputable def Qtl (rs:List PV) (ρ:En):Out PV:=match Qe3 rs with
 | some ts=>if ts.length≤100000 then .ok (.fz (.tup ts)) ρ else .no
 | none=>.no
noncomputable def Qpd (rs:List PV) (ρ:En):Out PV:=match Qe3 rs with
 | some ts=>if ts.length≤100000 then .ok (.ow (.lst ts)) ρ else .no
 | none=>.no
theorem Qom {es:Es}:evE cf (.tup es) ρ=(evA cf es ρ).bind Qtl:=by rw [evE];rfl
theorem Qkz {es:Es}:evE cf (.lst es) ρ=(evA cf es ρ).bind Qpd:=by rw [evE];rfl
noncomputable def Qcq (o:BOp) (ρ:En):Option T→Option T→Out PV
 | some x,some y=>.opt (opB o x y) ρ
 | _,_=>.no
noncomputable def Qcr (o:BOp) (ra rb:PV) (ρ:En):Out PV:=Qcq o ρ (cont ρ ra) (cont ρ rb)
noncomputable def Qcs (cf:CF) (o:BOp) (b:E) (ra:PV) (ρ:En):Out PV:=(evE cf b ρ).bind (Qcr o ra)
theorem Qc5 {o:BOp} {a b:E}:evE cf (.bin o a b) ρ=(evE cf a ρ).bind (Qcs cf o b):=by rw [evE];rfl
noncomputable def Qtm:PV→En→Out PV
 | .fz (.int i),ρ=>.ok (.fz (.int (-i))) ρ
 | _,_=>.no
theorem Qon {a:E}:evE cf (.neg a) ρ=(evE cf a ρ).bind Qtm:=by rw [evE];congr 1;funext r ρ1;cases r with
 | fz t=>cases t <;> rfl
 | ow t=>rfl
 | sl i=>rfl
noncomputable def yBl:PV→En→Out Bool
 | .fz (.bl b),ρ=>.ok b ρ
 | _,_=>.no
theorem Qaa {o:Out PV}:Qar o=o.bind yBl:=by unfold Qar;congr 1;funext r ρ1;cases r with
 | fz t=>cases t <;> rfl
 | ow t=>rfl
 | sl i=>rfl
noncomputable def Qe5 (b:Bool) (ρ:En):Out PV:=.ok (.fz (.bl (!b))) ρ
theorem Qc9 {a:E}:evE cf (.not a) ρ=(Qar (evE cf a ρ)).bind Qe5:=by rw [evE];rfl
noncomputable def yB (b:Bool) (ρ:En):Out PV:=.ok (.fz (.bl b)) ρ
noncomputable def yAnd (cf:CF) (b:E):Bool→En→Out PV
 | true,ρ=>(Qar (evE cf b ρ)).bind yB
 | false,ρ=>.ok (.fz (.bl false)) ρ
noncomputable def yOr (cf:CF) (b:E):Bool→En→Out PV
 | false,ρ=>(Qar (evE cf b ρ)).bind yB
 | true,ρ=>.ok (.fz (.bl true)) ρ
theorem Qacb {a b:E}:evE cf (.and a b) ρ=(Qar (evE cf a ρ)).bind (yAnd cf b):=by rw [evE];congr 1;funext c ρ1;cases c <;> rfl
theorem Qf6 {a b:E}:evE cf (.or a b) ρ=(Qar (evE cf a ρ)).bind (yOr cf b):=by rw [evE];congr 1;funext c ρ1;cases c <;> rfl
noncomputable def Q8c (cf:CF) (a b:E):Bool→En→Out PV
 | true,ρ=>evE cf a ρ
 | false,ρ=>evE cf b ρ
theorem Q49 {c a b:E}:evE cf (.ite c a b) ρ=(Qar (evE cf c ρ)).bind (Q8c cf a b):=by rw [evE];congr 1;funext c ρ1;cases c <;> rfl
noncomputable def Qa7 (ρ:En):Option Bool→Out PV
 | some k=>.ok (.fz (.bl k)) ρ
 | none=>.no
noncomputable def Qa8 (o:COp) (ρ:En):Option T→Option T→Out PV
 | some x,some y=>Qa7 ρ (opC o x y)
 | _,_=>.no
noncomputable def Qa9 (o:COp) (ra rb:PV) (ρ:En):Out PV:=Qa8 o ρ (cont ρ ra) (cont ρ rb)
noncomputable def Qba (cf:CF) (o:COp) (b:E) (ra:PV) (ρ:En):Out PV:=(evE cf b ρ).bind (Qa9 o ra)
theorem Qbe {o:COp} {a b:E}:evE cf (.cmp o a b) ρ=(evE cf a ρ).bind (Qba cf o b):=by
 rw [evE]
 rfl
noncomputable def Qfv (n:String) (ρ:En):Option T→Out PV
 | some t=>if Ql4 n && !Qdv t then .ok (.fz (.bl (Qlv (tyT t) n))) ρ else .no
 | none=>.no
noncomputable def Qkg (n:String) (ra:PV) (ρ:En):Out PV:=Qfv n ρ (cont ρ ra)
theorem Qgu {a:E} {n:String}:evE cf (.isI a n) ρ=(evE cf a ρ).bind (Qkg n):=by
 rw [evE]
 rfl
theorem Qab {f:Nat} {es:Es}:evE cf (.call f es) ρ=(evA cf es ρ).bind (Qkw cf f):=by rw [evE]
theorem Qacc {t:T}:evE cf (.lit t) ρ=.ok (.fz t) ρ:=by rw [evE]
noncomputable def Qbp (b:Bi) (ρ:En):Option (List T)→Out PV
 | some ts=>.opt (Qh6 b ts) ρ
 | none=>.no
noncomputable def yBi (b:Bi) (rs:List PV) (ρ:En):Out PV:=Qbp b ρ (Qah ρ rs)
theorem Qbr {b:Bi} {es:Es}:evE cf (.bi b es) ρ=(evA cf es ρ).bind (yBi b):=by
 rw [evE]
 rfl
noncomputable def Qgv (ρ:En):Option T→Out PV
 | some t=>.ok (.fz t) ρ
 | none=>.no
noncomputable def Qgw (ρ:En):Option T→Option T→Out PV
 | some x,some y=>Qgv ρ (Qzi x y)
 | _,_=>.no
noncomputable def Qgx (ra rb:PV) (ρ:En):Out PV:=Qgw ρ (cont ρ ra) (cont ρ rb)
noncomputable def Qgy (cf:CF) (b:E) (ra:PV) (ρ:En):Out PV:=(evE cf b ρ).bind (Qgx ra)
theorem Qhb {a b:E}:evE cf (.ix a b) ρ=(evE cf a ρ).bind (Qgy cf b):=by
 rw [evE]
 rfl
noncomputable def Qacd (ρ:En):PV→Option (List Int)→Out PV
 | .fz (.int j),some is=>.ok (.fz (.int (is.count j:Nat))) ρ
 | _,_=>.no
noncomputable def Qace (ts:List T) (rb:PV) (ρ:En):Out PV:=Qacd ρ rb (Qd9 ts)
noncomputable def yCnt1 (cf:CF) (b:E):PV→En→Out PV
 | .fz (.tup ts),ρ=>(evE cf b ρ).bind (Qace ts)
 | _,_=>.no
noncomputable def Qww (l h:Option Int) (ρ:En):Option T→Out PV
 | some x=>.opt (Q2x x l h) ρ
 | none=>.no
noncomputable def Qoo (ra:PV) (l:Option Int) (ρ:En):Option (Option Int)→Out PV
 | none=>.no
 | some h=>Qww l h ρ (cont ρ ra)
noncomputable def Qwx (ra:PV) (l:Option Int) (rh:List PV) (ρ:En):Out PV:=Qoo ra l ρ (Qkd rh)
noncomputable def Qop (cf:CF) (hi:Es) (ra:PV) (ρ:En):Option (Option Int)→Out PV
 | none=>.no
 | some l=>(evA cf hi ρ).bind (Qwx ra l)
noncomputable def Qwy (cf:CF) (hi:Es) (ra:PV) (rl:List PV) (ρ:En):Out PV:=Qop cf hi ra ρ (Qkd rl)
noncomputable def Qwz (cf:CF) (lo hi:Es) (ra:PV) (ρ:En):Out PV:=(evA cf lo ρ).bind (Qwy cf hi ra)
theorem Qri {a:E} {lo hi:Es}:evE cf (.slc a lo hi) ρ=(evE cf a ρ).bind (Qwz cf lo hi):=by
 rw [evE]
 rfl
theorem Qq:evA cf .nil ρ=.ok [] ρ:=by rw [evA]
noncomputable def yC2 (r:PV) (rs:List PV) (ρ:En):Out (List PV):=.ok (r::rs) ρ
noncomputable def yC1 (cf:CF) (es:Es) (r:PV) (ρ:En):Out (List PV):=(evA cf es ρ).bind (yC2 r)
theorem Qj {e:E} {es:Es}:evA cf (.cons e es) ρ=(evE cf e ρ).bind (yC1 cf es):=by rw [evA];rfl
noncomputable def Qoq (r:PV) (ρ:En):Option (List T)→Out (List T×Option Nat)
 | some ts=>.ok (ts,Qk7 r) ρ
 | none=>.no
noncomputable def Qor (r:PV) (ρ:En):Option T→Out (List T×Option Nat)
 | some t=>Qoq r ρ (Qg5 t)
 | none=>.no
noncomputable def Qw0 (r:PV) (ρ:En):Out (List T×Option Nat):=Qor r ρ (cont ρ r)
theorem Qrj {e:E}:evW cf (.seq e) ρ=(evE cf e ρ).bind Qw0:=by
 rw [evW]
 rfl
noncomputable def Qos:PV→En→Out (List T×Option Nat)
 | .fz (.int j),ρ=>if j.natAbs≤100000 then .ok (Qan 0 j.toNat,none) ρ else .no
 | _,_=>.no
theorem Qdq {a:E}:evW cf (.rng1 a) ρ=(evE cf a ρ).bind Qos:=by
 rw [evW]
 congr 1;funext r ρ1
 cases r with
 | fz t=>cases t <;> rfl
 | ow t=>rfl
 | sl i=>rfl
noncomputable def Qrk:PV→PV→En→Out (List T×Option Nat)
 | .fz (.tup xs),.fz (.tup ys),ρ=>.ok (Qfh xs ys,none) ρ
 | .fz (.lst xs),.fz (.tup ys),ρ=>.ok (Qfh xs ys,none) ρ
 | .fz (.lst xs),.fz (.lst ys),ρ=>.ok (Qfh xs ys,none) ρ
 | _,_,_=>.no
noncomputable def Q0h (cf:CF) (b:E) (r:PV) (ρ:En):Out (List T×Option Nat):=(evE cf b ρ).bind (Qrk r)
theorem Qu7 {a b:E}:evW cf (.zip a b) ρ=(evE cf a ρ).bind (Q0h cf b):=by
 rw [evW]
 congr 1;funext r ρ1
 show _=(evE cf b ρ1).bind _
 congr 1;funext r2 ρ2
 cases r with
 | fz t=>cases t <;> cases r2 <;> first | rfl | (rename_i u;cases u <;> rfl)
 | ow t=>cases r2 <;> rfl
 | sl i=>cases r2 <;> rfl
noncomputable def Q4 (rs:List PV) (ρ:En):FR→Out PV
 | .ok r fin=>.ok r (Qav ρ rs fin)
 | .xn x fin=>.xn x (Qav ρ rs fin)
 | .no=>.no
noncomputable def Q5 (cf:CF) (f:Nat) (rs:List PV) (ρ:En):Option (List Arg)→Out PV
 | some as=>Q4 rs ρ (cf f as)
 | none=>.no
theorem Q3q {f:Nat} {rs:List PV} (h:Qt rs=true):Qkw cf f rs ρ=Q5 cf f rs ρ (Qw ρ rs):=by
 unfold Qkw
 rw [if_pos h]
 cases Qw ρ rs with
 | none=>rfl
 | some as =>
  show (match cf f as with | .ok r fin=>Out.ok r (Qav ρ rs fin) | .xn x fin=>.xn x (Qav ρ rs fin) | .no=>.no)=Q4 rs ρ (cf f as)
  cases cf f as <;> rfl
theorem Qal {a:α} {k:α→En→SO}:ofO (.ok a ρ) k=k a ρ:=rfl
theorem Qa6 {k:En→SO}:(SO.nx ρ).seq k=k ρ:=rfl
theorem Qrl {r:PV} {k:En→SO}:(SO.rt r ρ).seq k=.rt r ρ:=rfl
theorem Qcn:exS cf .nil ρ=.nx ρ:=by rw [exS]
theorem Qad {a b:S}:exS cf (.seq a b) ρ=(exS cf a ρ).seq (exS cf b):=by rw [exS]
noncomputable def Qmp (_:PV) (ρ:En):SO:=.nx ρ
theorem Qkh {e:E}:exS cf (.expr e) ρ=ofO (evE cf e ρ) Qmp:=by rw [exS];rfl
theorem Qrm {i:Nat} {e:E}:exS cf (.set i e) ρ=ofO (evE cf e ρ) (Qq0 i):=by rw [exS]
noncomputable def Qbu (i:Nat) (ρ:En):Option T→SO
 | some t=>Qak (Qb0 i (.fz t) ρ) .nx
 | none=>.no
noncomputable def Qct (i:Nat) (r:PV) (ρ:En):SO:=Qbu i ρ (frz r)
theorem Qbv {i:Nat} {e:E}:exS cf (.setF i e) ρ=ofO (evE cf e ρ) (Qct i):=by
 rw [exS]
 rfl
noncomputable def yUnp (is:List Nat):PV→En→SO
 | .fz (.tup ts),ρ=>Qak (Qdn is ts ρ) .nx
 | _,_=>.no
theorem Qacg {is:List Nat} {e:E}:exS cf (.unp is e) ρ=ofO (evE cf e ρ) (yUnp is):=by
 rw [exS]
 congr 1;funext r ρ1
 cases r with
 | fz t=>cases t <;> rfl
 | ow t=>rfl
 | sl i=>rfl
noncomputable def Qrn (i:Nat) (ρ:En) (t:T):Slot→SO
 | .ow (.lst ts)=>if ts.length<100000 then .nx (ρ.set i (.ow (.lst (ts++[t])))) else .no
 | .ml (.lst ts)=>if ts.length<100000 then .nx (ρ.set i (.ml (.lst (ts++[t])))) else .no
 | _=>.no
noncomputable def Qro (i:Nat) (ρ:En):Option T→SO
 | none=>.no
 | some t=>Qrn i ρ t (Qa ρ i)
noncomputable def Qw1 (i:Nat) (r:PV) (ρ:En):SO:=Qro i ρ (frz r)
theorem Qach {i:Nat} {e:E} (h:(Qa ρ i).mut=true):exS cf (.app i e) ρ=ofO (evE cf e ρ) (Qw1 i):=by
 rw [exS,if_pos h]
 rfl
noncomputable def Qrp (i:Nat) (t:T) (j:Int) (ρ:En):Slot→SO
 | .ow (.lst ts)=>Qak (ixN ts.length j) fun n=>.nx (ρ.set i (.ow (.lst (ts.set n t))))
 | .ml (.lst ts)=>Qak (ixN ts.length j) fun n=>.nx (ρ.set i (.ml (.lst (ts.set n t))))
 | _=>.no
noncomputable def Qot (i:Nat) (t:T):PV→En→SO
 | .fz (.int j),ρ=>Qrp i t j ρ (Qa ρ i)
 | _,_=>.no
noncomputable def Qrq (cf:CF) (i:Nat) (k:E) (ρ:En):Option T→SO
 | none=>.no
 | some t=>if (Qa ρ i).mut=true then ofO (evE cf k ρ) (Qot i t) else .no
noncomputable def Qw2 (cf:CF) (i:Nat) (k:E) (r:PV) (ρ:En):SO:=Qrq cf i k ρ (frz r)
theorem Qu8 {i:Nat} {k e:E}:exS cf (.put i k e) ρ=ofO (evE cf e ρ) (Qw2 cf i k):=by
 rw [exS]
 congr 1;funext r ρ1
 unfold Qw2
 cases frz r with
 | none=>rfl
 | some t =>
  show _=(if (Qa ρ1 i).mut=true then ofO (evE cf k ρ1) (Qot i t) else .no)
  by_cases h:(Qa ρ1 i).mut=true
  ·simp only [if_pos h]
   congr 1;funext rk ρ2
   cases rk with
   | fz u=>cases u <;> rfl
   | ow u=>rfl
   | sl j=>rfl
  ·simp only [if_neg h]
theorem Qpe {i:Nat} {e:E}:exS cf (.app i e) ρ=if (Qa ρ i).mut=true then ofO (evE cf e ρ) (Qw1 i) else .no:=by
 by_cases h:(Qa ρ i).mut=true
 ·rw [if_pos h,Qach h]
 ·rw [if_neg h,exS,if_neg h]
theorem Qv {f:Nat} {rs:List PV}:Qkw cf f rs ρ=if Qt rs=true then Q5 cf f rs ρ (Qw ρ rs) else .no:=by
 by_cases h:Qt rs=true
 ·rw [if_pos h,Q3q h]
 ·rw [if_neg h];unfold Qkw;rw [if_neg h]
noncomputable def Qck (r:PV) (ρ:En):SO:=.rt r ρ
theorem Qbb {e:E}:exS cf (.ret e) ρ=ofO (evE cf e ρ) Qck:=by rw [exS];rfl
noncomputable def yIf (cf:CF) (a b:S):Bool→En→SO
 | true,ρ=>exS cf a ρ
 | false,ρ=>exS cf b ρ
theorem Qbf {c:E} {a b:S}:exS cf (.ite c a b) ρ=ofO (Qar (evE cf c ρ)) (yIf cf a b):=by rw [exS];congr 1;funext k ρ1;cases k <;> rfl
noncomputable def Qnc (cf:CF) (tg:Tg) (b:S):List T×Option Nat→En→SO
 | (ts,none),ρ=>Qe4 tg (exS cf b) ts ρ
 | (_,some _),_=>.no
theorem Qjl {w:W} {tg:Tg} {b:S}:exS cf (.for_ w tg b) ρ=Qqz (ofO (evW cf w ρ) (Qnc cf tg b)):=by
 rw [exS]
 congr 2;funext its ρ1
 obtain ⟨ts,lk⟩:=its
 cases lk <;> rfl
noncomputable def Qax (r:PV):Option (List T)→FR
 | some fin=>.ok r fin
 | none=>.no
noncomputable def Qa2 (o:Option (List T)):Option PV→FR
 | some r=>Qax r o
 | none=>.no
noncomputable def Qb7 (as:List Arg):SO→FR
 | .nx ρ=>Qax (.fz .non) (Q1 as ρ)
 | .rt r ρ=>Qa2 (Q1 as ρ) (Qas ρ r)
 | .xn x ρ=>match Q1 as ρ with
  | some fin=>.xn x fin
  | none=>.no
 | _=>.no
theorem Qbc {fn:Fn} {as:List Arg} (h:as.length=fn.ps):Qbw cf fn as=Qb7 as (exS cf fn.body (Qfi fn as)):=by
 unfold Qbw
 rw [if_pos h]
 cases exS cf fn.body (Qfi fn as) with
 | nx ρ=>show (match Q1 as ρ with | some fin=>FR.ok (.fz .non) fin | none=>.no)=Qax _ (Q1 as ρ);cases Q1 as ρ <;> rfl
 | rt r ρ =>
  show (match Qas ρ r,Q1 as ρ with | some r,some fin=>FR.ok r fin | _,_=>.no)=Qa2 (Q1 as ρ) (Qas ρ r)
  cases Qas ρ r <;> cases Q1 as ρ <;> rfl
 | xn x ρ=>rfl
 | bk ρ=>rfl
 | ct ρ=>rfl
 | no=>rfl
section
variable {b:Bool} {i:Int} {x:Str} {ts:List T}
theorem Qdr:Ql4 "tuple" = true:=rfl
theorem Qpf:Ql4 "list" = true:=rfl
theorem Qbq:Qlv (tyT (.tup ts)) "tuple" = true:=rfl
theorem Qhc:Qlv (tyT (.lst ts)) "list" = true:=rfl
end
theorem Q0i {as:List Arg} {ρ:En}:Qb7 as (.nx ρ)=Qax (.fz .non) (Q1 as ρ):=rfl
theorem Qam {as:List Arg} {ρ:En} {r:PV}:Qb7 as (.rt r ρ)=Qa2 (Q1 as ρ) (Qas ρ r):=rfl
theorem Qel {ρ:En}:Qqz (.nx ρ)=.nx ρ:=rfl
theorem Qjm {α:Type} (g:α→Bool):∀ (xs:List α),Qk5 (xs.map fun x=>T.bl (g x))=some (xs.map g)
 | []=>rfl
 | x::xs=>by
  rw [map_cons,map_cons]
  unfold Qk5
  rw [Qjm g xs]
  rfl
theorem Qtn {a:T} {l:List T}:atI (a::l) 0=some a:=by
 have:atI (a::l) ((0:Nat):Int)=some a:=Qcl rfl
 exact this
theorem at_1 {a b:T} {l:List T}:atI (a::b::l) 1=some b:=by
 have:atI (a::b::l) ((1:Nat):Int)=some b:=Qcl rfl
 exact this
theorem Q5a {n:Nat}:ixN (n+1) 0=some 0:=by
 unfold ixN
 rw [if_pos (by omega),if_pos (by omega)]
 rfl
inductive All2 (F:T→T→Prop):List T→List T→Prop where
 | nil:All2 F [] []
 | cons {x y xs ys}:F x y→All2 F xs ys→All2 F (x::xs) (y::ys)
inductive Ran (F:T→T→Prop):List T→List T→Prop where
 | nil:Ran F [] []
 | skip {x xs ys}:Ran F xs ys→Ran F (x::xs) ys
 | take {x y xs ys}:F x y→Ran F xs ys→Ran F (x::xs) (y::ys)
variable {cf:CF} {P:T→Prop} {F:T→T→Prop} {rest:T→En}
theorem Qou {el:En→Out PV}:∀ {xs acc:List T} {s0:Slot} {q:T},Qcx s0=true→P q→(∀ x∈xs,∀ q,P q→∃ r y q',el (.fz x::rest q)=.ok r (.fz x::rest q')∧frz r=some y∧P q'∧F x y)→acc.length+xs.length≤100000 →
  ∃ s ys q',Qcf (.nm 0) (evC cf .nil) el xs acc (s0::rest q)=.ok (acc++ys) (s::rest q')∧Qcx s=true∧P q'∧All2 F xs ys
 | [],acc,s0,q,h0,hp,he,hz=>⟨s0,[],q,by unfold Qcf;simp,h0,hp,.nil⟩
 | x::xs,acc,s0,q,h0,hp,he,hz=>by
  rw [length_cons] at hz
  obtain ⟨r,y,q1,er,fr,p1,f1⟩:=he x mem_cons_self q hp
  obtain ⟨s,ys,q2,e2,o,p2,f2⟩:=Qou (el:=el) (xs:=xs) (acc:=acc++[y]) (s0:=.fz x) (q:=q1) rfl p1 (fun z hz=>he z (mem_cons_of_mem _ hz)) (by rw [length_append,length_singleton];omega)
  refine ⟨s,y::ys,q2,?_,o,p2,.cons f1 f2⟩
  unfold Qcf
  rw [Qrf h0]
  have ec:evC cf .nil (.fz x::rest q)=.ok true (.fz x::rest q):=by rw [evC]
  simp only [ec,Out.bind,if_true,er,fr]
  have za:acc.length<100000:=by omega
  rw [if_pos za,e2,append_assoc,List.singleton_append]
theorem Q8d {w:W} {js:List (Option Nat)} {e:E} {ρ:En} {ρ':T→En} {xs:List T} {q:T} (hq:P q) (hw:evW cf w ρ=.ok (xs,none) ρ) (hcap:Qch js ρ=.un::rest q) (hk:∀ s q',Qea (.un::rest q) (s::rest q')=true) (hap:Qb1 js=true) (hb:∀ s q',Qcx s=true→Qjc js (s::rest q') ρ=ρ' q')
  (he:∀ x∈xs,∀ q,P q→∃ r y q',evE cf e (.fz x::rest q)=.ok r (.fz x::rest q')∧frz r=some y∧P q'∧F x y) (hz:xs.length≤100000) :
  ∃ ys q',evE cf (.comp w js (.nm 0) .nil e) ρ=.ok (.ow (.lst ys)) (ρ' q')∧P q'∧All2 F xs ys:=by
 obtain ⟨s,ys,q',e1,o,p1,f1⟩:=Qou (cf:=cf) (el:=evE cf e) (rest:=rest) (P:=P) (F:=F) (xs:=xs) (acc:=[]) (s0:=.un) (q:=q) rfl hq he (by simpa using hz)
 refine ⟨ys,q',?_,p1,f1⟩
 unfold evE
 rw [hw]
 simp only [Out.bind,hcap,e1]
 rw [if_pos ⟨hk s q',hap⟩,hb s q' o]
 rfl
theorem Q0j {s t:Slot} {rest:En} {x y:T} (hs:Qcx s=true) (ht:Qcx t=true):Qgq (.tp [0,1]) (.tup [x,y]) (s::t::rest)=some (.fz x::.fz y::rest):=by
 cases s <;> first | (cases hs;done) | (cases t <;> first | (cases ht;done) | rfl)
theorem Qmq {α:Type} {el:En→Out PV} {rest:En} {a b f:α→T}:∀ {xs:List α} {acc:List T} {s0 s1:Slot},Qcx s0=true→Qcx s1=true→(∀ p∈xs,∃ r,el (.fz (a p)::.fz (b p)::rest)=.ok r (.fz (a p)::.fz (b p)::rest)∧frz r=some (f p))→acc.length+xs.length≤100000 →
  ∃ s t,Qcf (.tp [0,1]) (evC cf .nil) el (xs.map fun p=>T.tup [a p,b p]) acc (s0::s1::rest)=.ok (acc++xs.map f) (s::t::rest)∧Qcx s=true∧Qcx t=true
 | [],acc,s0,s1,h0,h1,he,hz=>⟨s0,s1,by rw [map_nil];unfold Qcf;simp,h0,h1⟩
 | p::xs,acc,s0,s1,h0,h1,he,hz=>by
  rw [length_cons] at hz
  obtain ⟨r,er,fr⟩:=he p mem_cons_self
  obtain ⟨s,t,e,o,o1⟩:=Qmq (el:=el) (rest:=rest) (a:=a) (b:=b) (f:=f) (xs:=xs) (acc:=acc++[f p]) (s0:=.fz (a p)) (s1:=.fz (b p)) rfl rfl (fun z hz=>he z (mem_cons_of_mem _ hz)) (by rw [length_append,length_singleton];omega)
  refine ⟨s,t,?_,o,o1⟩
  rw [map_cons]
  unfold Qcf
  rw [Q0j h0 h1]
  have ec:evC cf .nil (.fz (a p)::.fz (b p)::rest)=.ok true (.fz (a p)::.fz (b p)::rest):=by rw [evC]
  simp only [ec,Out.bind,if_true,er,fr]
  have za:acc.length<100000:=by omega
  rw [if_pos za,e,append_assoc,List.singleton_append,map_cons]
theorem Qki {α:Type} {w:W} {js:List (Option Nat)} {e:E} {ρ rest:En} {xs:List α} {a b f:α→T} (hw:evW cf w ρ=.ok (xs.map fun p=>T.tup [a p,b p],none) ρ) (hcap:Qch js ρ=.un::.un::rest) (hml:rest.all Qgt=true) (hap:Qb1 js=true)
  (he:∀ p∈xs,∃ r,evE cf e (.fz (a p)::.fz (b p)::rest)=.ok r (.fz (a p)::.fz (b p)::rest)∧frz r=some (f p)) (hz:xs.length≤100000) :
  evE cf (.comp w js (.tp [0,1]) .nil e) ρ=.ok (.ow (.lst (xs.map f))) ρ:=by
 obtain ⟨s,t,e1,o,o1⟩:=Qmq (cf:=cf) (el:=evE cf e) (rest:=rest) (a:=a) (b:=b) (f:=f) (xs:=xs) (acc:=[]) (s0:=.un) (s1:=.un) rfl rfl he (by simpa using hz)
 have hs:(s::t::rest).all Qgt=true:=by
  rw [all_cons,all_cons,hml]
  cases s <;> first | (cases o;done) | (cases t <;> first | rfl | (cases o1;done))
 unfold evE
 rw [hw]
 simp only [Out.bind,hcap,e1]
 rw [if_pos ⟨Qmm (by rw [all_cons,all_cons,hml];rfl) rfl,hap⟩,Qu6 hs]
 rfl
theorem rngI {j:Int} {ρ:En} (h0:0≤j) (h:j≤100000):Qos (.fz (.int j)) ρ=.ok (Qan 0 j.toNat,none) ρ:=by
 show (if j.natAbs≤100000 then _ else _)=_
 rw [if_pos (by omega)]
theorem Qk8 {n:Nat} {ρ:En} (h:n≤100000):Qos (.fz (.int (n:Int))) ρ=.ok (Qan 0 n,none) ρ:=by
 rw [rngI (by omega) (by omega),Int.toNat_natCast]
theorem Qjn {α:Type} {xs:List α}:Qk5 (xs.map fun _=>T.bl true)=some (xs.map fun _=>true):=Qjm (fun _=>true) xs
theorem Qmr {α:Type} {xs:List α}:(xs.map fun _=>true).all id=true:=by rw [all_eq_true];intro b hb;obtain ⟨_,_,rfl⟩:=mem_map.mp hb;rfl
theorem rngA {j:Int} {ρ:En} (h:j.natAbs≤100000):Qos (.fz (.int j)) ρ=.ok (Qan 0 j.toNat,none) ρ:=by
 show (if j.natAbs≤100000 then _ else _)=_
 rw [if_pos h]
theorem Qa4 {i j:Int}:eqO (.int i) (.int j)=some (decide (i=j)):=rfl
theorem Q3r {i j:Str}:eqO (.str i) (.str j)=some (decide (i=j)):=rfl
end L2
namespace L2
variable {i j:Int} {a b:List T} {x y:T} {lo hi:Option Int} {c:Bool}
theorem uo1:opB .add (.int i) (.int j)=some (.fz (.int (i+j))):=rfl
theorem uo4:opB .sub (.int i) (.int j)=some (.fz (.int (i-j))):=rfl
theorem uo5:opB .mul (.int i) (.int j)=if Qbm i j=true then some (.fz (.int (i*j))) else none:=rfl
theorem uo7:opB .fdv (.int i) (.int j)=if 0<j∧j.natAbs<2^64 then some (.fz (.int (i / j))) else if j≠0∧j.natAbs<2^250 then some (.fz (.int (i.fdiv j))) else none:=rfl
theorem uo8:opB .mod (.int i) (.int j)=if 0<j then some (.fz (.int (i%j))) else if j<0 then some (.fz (.int (i.fmod j))) else none:=rfl
theorem uo9:opB .pow (.int i) (.int j)=if 0≤j∧j.natAbs≤1000000∧i.natAbs<2^64 then some (.fz (.int (i^j.toNat))) else none:=rfl
theorem uc1:opC .eq x y=eqO x y:=rfl
theorem uc2:opC .ne x y=(eqO x y).map (!·):=rfl
theorem uc3:opC .lt (.int i) (.int j)=some (decide (i<j)):=rfl
theorem uc5:opC .gt (.int i) (.int j)=some (decide (j<i)):=rfl
theorem uc6:opC .ge (.int i) (.int j)=some (decide (j≤i)):=rfl
theorem uc7:opC .isn x .non=some (Qgp x):=rfl
theorem uc8:opC .isnn x .non=some (!Qgp x):=rfl
theorem ui1:Qzi (.lst a) (.int i)=atI a i:=rfl
theorem ui2:Qzi (.tup a) (.int i)=atI a i:=rfl
theorem ui4:Q2x (.tup a) lo hi=some (.fz (.tup (Qf2 a lo hi))):=rfl
theorem ub1:Qh6 .len [.lst a]=some (.fz (.int a.length)):=rfl
theorem ub2:Qh6 .len [.tup a]=some (.fz (.int a.length)):=rfl
theorem ub3:Qh6 .all [.lst a]=(Qk5 a).map fun bs=>.fz (.bl (bs.all id)):=rfl
theorem ub5:Qh6 .sum [.lst a]=(Qd9 a).map fun is=>.fz (.int is.sum):=rfl
theorem ub6:Qh6 .max [.int i,.int j]=some (.fz (.int (if j>i then j else i))):=rfl
theorem ub7:Qh6 .dvm [.int i,.int j]=if 0<j∧j.natAbs<2^64 then some (.fz (.tup [.int (i / j),.int (i%j)])) else none:=rfl
theorem ub8:Qh6 .int [.bl c]=some (.fz (.int (if c then 1 else 0))):=rfl
theorem ub9:Qh6 .tup [.lst a]=some (.fz (.tup a)):=rfl
section
variable {cf:CF} {ρ:En}
end
section
variable {cf:CF} {ρ ρ1 ρ2:En}
theorem intL_mp:∀ (xs:List Int),Qd9 (xs.map T.int)=some xs
 | []=>rfl
 | x::xs=>by
  show (match Qd9 (xs.map T.int) with | some is=>some (x::is) | none=>none)=_
  rw [intL_mp xs]
end
section
variable {fA f0:En→SO} {fc:En→Out Bool} {fV f1 f2:En→Out PV} {iF iR iH iW iS iT iN:Nat} {Ms:List (List (List Int))} {R M:List (List Int)} {is:List Int} {ρ ρ1 ρ2 ρ3:En}
end
noncomputable def Qu9 (K:PySem.W.Frag):Bool:=match K.getLast? with
 | some (_,o)=>(match o.data with
  | .fields a=>a.size != 2
  | _=>true)
 | none=>true
theorem Qacj {K:PySem.W.Frag} (h:Qu9 K=true) (a:PySem.Addr) (q:PySem.Str):¬ Qxh K a q:=fun ⟨b,t,e⟩=>by
 unfold Qu9 at h
 rw [e] at h
 cases h
section
variable {cf:CF} {ρ ρ1 ρ2:En}
end
section
variable {cf:CF} {ρ:En} {x:Xn} {α β:Type}
theorem o_xn {k:α→En→SO}:ofO (Out.xn x ρ:Out α) k=.xn x ρ:=rfl
theorem Q8e {k:En→SO}:(SO.xn x ρ).seq k=.xn x ρ:=rfl
noncomputable def yRev:PV→En→Out PV
 | .fz (.tup ts),ρ=>.ok (.fz (.tup ts.reverse)) ρ
 | _,_=>.no
noncomputable def yXn (x:Xn):Option (List T)→FR
 | some fin=>.xn x fin
 | none=>.no
theorem Qto {as:List Arg}:Qb7 as (.xn x ρ)=yXn x (Q1 as ρ):=by
 show (match Q1 as ρ with | some fin=>FR.xn x fin | none=>.no)=_
 cases Q1 as ρ <;> rfl
theorem Qms {fin:List T}:yXn x (some fin)=.xn x fin:=rfl
noncomputable def Q0k (c:Nat) (rs:List PV) (ρ1:En):SO:=match rs with
 | [.fz (.int i)]=>if 6≤c∧c<9 then .xn ⟨c,[i]⟩ ρ1 else .no
 | [.fz (.str _)]=>if c<6 then .xn ⟨c,[]⟩ ρ1 else .no
 | [.fz (.int i),.fz (.int j)]=>if c=9 then .xn ⟨c,[i,j]⟩ ρ1 else .no
 | _=>.no
theorem Qpg {c:Nat} {es:Es}:exS cf (.raise c es) ρ=ofO (evA cf es ρ) (Q0k c):=by rw [exS];rfl
noncomputable def Q8f (h:Nat→List Int→Option T):SO→SO
 | .xn x ρ1=>match h x.c x.arg with
  | some t=>.rt (.fz t) ρ1
  | none=>.no
 | o=>o
theorem Q0l {i:Nat} {b:S} {h:Nat→List Int→Option T}:exS cf (.tryR i b h) ρ=Q8f h (exS cf b ρ):=by
 rw [exS]
 cases exS cf b ρ <;> rfl
theorem Q8g {h:Nat→List Int→Option T} {r:PV}:Q8f h (.rt r ρ)=.rt r ρ:=rfl
end
end L2
set_option maxHeartbeats 4000000
namespace My
open PySem L2
noncomputable def top (i:Nat):Stmt:=PySem.Challenge.pw_noughtways_k60_tables_changed.main.body.getD i (.Pass ⟨0,0,0,0⟩)
theorem Qiq {x:Str} {st:Stmt} {p0:Str} (h:∀ (kV doc pm:Value) (an:Option Addr) (cdv ct:Value) (a0:Value),bindArgs (PySem.W.fnOf x x (Qbg st) (Qaj st) (Qf st) .none kV doc pm an cdv ct) ⟨[a0],[]⟩=pure [(p0,a0)]):Qaf x st [p0]:=fun a b c d e f us hl=>match us,hl with | [a0],_=>h a b c d e f a0
theorem Qhd {x:Str} {st:Stmt} {p0 p1:Str} (h:∀ (kV doc pm:Value) (an:Option Addr) (cdv ct:Value) (a0 a1:Value),bindArgs (PySem.W.fnOf x x (Qbg st) (Qaj st) (Qf st) .none kV doc pm an cdv ct) ⟨[a0,a1],[]⟩=pure [(p0,a0),(p1,a1)]):Qaf x st [p0,p1]:=fun a b c d e f us hl=>match us,hl with | [a0,a1],_=>h a b c d e f a0 a1
theorem bdN3 {x:Str} {st:Stmt} {p0 p1 p2:Str} (h:∀ (kV doc pm:Value) (an:Option Addr) (cdv ct:Value) (a0 a1 a2:Value),bindArgs (PySem.W.fnOf x x (Qbg st) (Qaj st) (Qf st) .none kV doc pm an cdv ct) ⟨[a0,a1,a2],[]⟩=pure [(p0,a0),(p1,a1),(p2,a2)]):Qaf x st [p0,p1,p2]:=fun a b c d e f us hl=>match us,hl with | [a0,a1,a2],_=>h a b c d e f a0 a1 a2
noncomputable abbrev Qf7:Stmt:=top 15
theorem Qrr:FnScope ["thing"] ["thing"] (Qf Qf7):=⟨rfl,rfl,rfl,by decide +kernel,rfl,by decide +kernel,by decide +kernel⟩
theorem Qrs:Qaf "is_whole" Qf7 ["thing"]:=Qiq fun _ _ _ _ _ _ _=>rfl
noncomputable abbrev Qjo:Stmt:=top 16
theorem Qw3:FnScope ["thing","size"] ["thing","size"] (Qf Qjo):=⟨rfl,rfl,rfl,by decide +kernel,rfl,by decide +kernel,by decide +kernel⟩
theorem Qw4:Qaf "is_row" Qjo ["thing","size"]:=Qhd fun _ _ _ _ _ _ _ _=>rfl
noncomputable abbrev Qhw:Stmt:=top 17
theorem Qtp:FnScope ["thing"] ["thing"] (Qf Qhw):=⟨rfl,rfl,rfl,by decide +kernel,rfl,by decide +kernel,by decide +kernel⟩
theorem Qtq:Qaf "is_grid" Qhw ["thing"]:=Qiq fun _ _ _ _ _ _ _=>rfl
noncomputable abbrev Qem:Stmt:=top 18
theorem Qfj:FnScope ["grid","numbers","row"] ["grid"] (Qf Qem):=⟨rfl,rfl,rfl,by decide +kernel,rfl,by decide +kernel,by decide +kernel⟩
theorem Qnd:Qaf "numbers_of" Qem ["grid"]:=Qiq fun _ _ _ _ _ _ _=>rfl
noncomputable abbrev Qen:Stmt:=top 19
theorem Qne:FnScope ["grid"] ["grid"] (Qf Qen):=⟨rfl,rfl,rfl,by decide +kernel,rfl,by decide +kernel,by decide +kernel⟩
theorem Qnf:Qaf "is_bounded" Qen ["grid"]:=Qiq fun _ _ _ _ _ _ _=>rfl
noncomputable abbrev Qf8:Stmt:=top 20
theorem Qk0:FnScope ["thing","bounded","at"] ["thing","bounded"] (Qf Qf8):=⟨rfl,rfl,rfl,by decide +kernel,rfl,by decide +kernel,by decide +kernel⟩
theorem Qrt:Qaf "wrong_at" Qf8 ["thing","bounded"]:=Qhd fun _ _ _ _ _ _ _ _=>rfl
noncomputable abbrev Qeo:Stmt:=top 21
theorem Qng:FnScope ["thing"] ["thing"] (Qf Qeo):=⟨rfl,rfl,rfl,by decide +kernel,rfl,by decide +kernel,by decide +kernel⟩
theorem Qnh:Qaf "need_table" Qeo ["thing"]:=Qiq fun _ _ _ _ _ _ _=>rfl
noncomputable abbrev Qd4:Stmt:=top 22
theorem Qhe:FnScope ["thing","at"] ["thing"] (Qf Qd4):=⟨rfl,rfl,rfl,by decide +kernel,rfl,by decide +kernel,by decide +kernel⟩
theorem Qmt:Qaf "need_tables" Qd4 ["thing"]:=Qiq fun _ _ _ _ _ _ _=>rfl
noncomputable abbrev Qe9:Stmt:=top 24
theorem Qph:FnScope ["table","at"] ["table","at"] (Qf Qe9):=⟨rfl,rfl,rfl,by decide +kernel,rfl,by decide +kernel,by decide +kernel⟩
theorem Qpi:Qaf "column_at" Qe9 ["table","at"]:=Qhd fun _ _ _ _ _ _ _ _=>rfl
noncomputable abbrev Qep:Stmt:=top 25
theorem Qni:FnScope ["table"] ["table"] (Qf Qep):=⟨rfl,rfl,rfl,by decide +kernel,rfl,by decide +kernel,by decide +kernel⟩
theorem Qnj:Qaf "columns_of" Qep ["table"]:=Qiq fun _ _ _ _ _ _ _=>rfl
noncomputable abbrev Qcc:Stmt:=top 26
theorem Qh7:FnScope ["row","column"] ["row","column"] (Qf Qcc):=⟨rfl,rfl,rfl,by decide +kernel,rfl,by decide +kernel,by decide +kernel⟩
theorem Qh8:Qaf "row_times_column" Qcc ["row","column"]:=Qhd fun _ _ _ _ _ _ _ _=>rfl
noncomputable abbrev Qb5:Stmt:=top 27
theorem Qhf:FnScope ["row","columns"] ["row","columns"] (Qf Qb5):=⟨rfl,rfl,rfl,by decide +kernel,rfl,by decide +kernel,by decide +kernel⟩
theorem Qhg:Qaf "row_times_columns" Qb5 ["row","columns"]:=Qhd fun _ _ _ _ _ _ _ _=>rfl
noncomputable abbrev Qli:Stmt:=top 28
theorem Qru:FnScope ["one","other","columns"] ["one","other"] (Qf Qli):=⟨rfl,rfl,rfl,by decide +kernel,rfl,by decide +kernel,by decide +kernel⟩
theorem Q0m:Qaf "times" Qli ["one","other"]:=Qhd fun _ _ _ _ _ _ _ _=>rfl
noncomputable abbrev Qcy:Stmt:=top 30
theorem Qjp:FnScope ["rows","at"] ["rows","at"] (Qf Qcy):=⟨rfl,rfl,rfl,by decide +kernel,rfl,by decide +kernel,by decide +kernel⟩
theorem Qjq:Qaf "without_column" Qcy ["rows","at"]:=Qhd fun _ _ _ _ _ _ _ _=>rfl
noncomputable abbrev Qcz:Stmt:=top 31
theorem Qbj:FnScope ["rows","told","sign","at"] ["rows"] (Qf Qcz):=⟨rfl,rfl,rfl,by decide +kernel,rfl,by decide +kernel,by decide +kernel⟩
theorem Qjr:Qaf "determinant_of" Qcz ["rows"]:=Qiq fun _ _ _ _ _ _ _=>rfl
noncomputable abbrev Qd5:Stmt:=top 33
theorem Qhh:FnScope ["table","row","column","part"] ["table","row","column"] (Qf Qd5):=⟨rfl,rfl,rfl,by decide +kernel,rfl,by decide +kernel,by decide +kernel⟩
theorem Qmu:Qaf "signed_part" Qd5 ["table","row","column"]:=bdN3 fun _ _ _ _ _ _ _ _ _=>rfl
noncomputable abbrev Qjs:Stmt:=top 34
theorem Qkj:FnScope ["table","sign","size"] ["table"] (Qf Qjs):=⟨rfl,rfl,rfl,by decide +kernel,rfl,by decide +kernel,by decide +kernel⟩
theorem Qw5:Qaf "undone" Qjs ["table"]:=Qiq fun _ _ _ _ _ _ _=>rfl
noncomputable abbrev Qhx:Stmt:=top 35
theorem Qmv:FnScope ["tables","by","back"] ["tables","by"] (Qf Qhx):=⟨rfl,rfl,rfl,by decide +kernel,rfl,by decide +kernel,by decide +kernel⟩
theorem Qtr:Qaf "changed" Qhx ["tables","by"]:=Qhd fun _ _ _ _ _ _ _ _=>rfl
noncomputable abbrev Qex:Stmt:=top 37
theorem Qrv:FnScope ["_law_script","_law_k"] ["_law_script","_law_k"] (Qf Qex):=⟨rfl,rfl,rfl,by decide +kernel,rfl,by decide +kernel,by decide +kernel⟩
theorem Qrw:Qaf "_law_cell" Qex ["_law_script","_law_k"]:=Qhd fun _ _ _ _ _ _ _ _=>rfl
noncomputable abbrev Qhy:Stmt:=top 38
theorem Qmw:FnScope ["_law_cell_here","_law_left"] ["_law_cell_here"] (Qf Qhy):=⟨rfl,rfl,rfl,by decide +kernel,rfl,by decide +kernel,by decide +kernel⟩
theorem Qts:Qaf "_law_pen" Qhy ["_law_cell_here"]:=Qiq fun _ _ _ _ _ _ _=>rfl
noncomputable abbrev Qf9:Stmt:=top 39
theorem Qed:FnScope ["_law_pen_here","_law_many","_law_left","_law_found","_law_stir"] ["_law_pen_here","_law_many"] (Qf Qf9):=⟨rfl,rfl,rfl,by decide +kernel,rfl,by decide +kernel,by decide +kernel⟩
theorem Qrx:Qaf "_law_draw" Qf9 ["_law_pen_here","_law_many"]:=Qhd fun _ _ _ _ _ _ _ _=>rfl
noncomputable abbrev Qfa:Stmt:=top 40
theorem Qpj:FnScope ["_law_thing"] ["_law_thing"] (Qf Qfa):=⟨rfl,rfl,rfl,by decide +kernel,rfl,by decide +kernel,by decide +kernel⟩
theorem Qpk:Qaf "_law_whole" Qfa ["_law_thing"]:=Qiq fun _ _ _ _ _ _ _=>rfl
noncomputable abbrev Qhz:Stmt:=top 41
theorem Qmx:FnScope ["_law_pen_here","_law_some"] ["_law_pen_here"] (Qf Qhz):=⟨rfl,rfl,rfl,by decide +kernel,rfl,by decide +kernel,by decide +kernel⟩
theorem Qtt:Qaf "_law_odd" Qhz ["_law_pen_here"]:=Qiq fun _ _ _ _ _ _ _=>rfl
noncomputable abbrev Qey:Stmt:=top 42
theorem Qee:FnScope ["_law_e","_law_marks","_law_words"] ["_law_e"] (Qf Qey):=⟨rfl,rfl,rfl,by decide +kernel,rfl,by decide +kernel,by decide +kernel⟩
theorem Qry:Qaf "_law_kind" Qey ["_law_e"]:=Qiq fun _ _ _ _ _ _ _=>rfl
noncomputable abbrev Qeq:Stmt:=top 43
theorem Qb3:FnScope ["_law_pen_here","_law_size","_law_most","_law_many","_law_kind_here","_law_found","_law_turn","_law_rows","_law_i"] ["_law_pen_here","_law_size","_law_most"] (Qf Qeq):=⟨rfl,rfl,rfl,by decide +kernel,rfl,by decide +kernel,by decide +kernel⟩
theorem Qnk:Qaf "_law_tables" Qeq ["_law_pen_here","_law_size","_law_most"]:=bdN3 fun _ _ _ _ _ _ _ _ _=>rfl
noncomputable abbrev Qer:Stmt:=top 44
theorem Qnl:FnScope ["_law_pen_here","_law_kind_here"] ["_law_pen_here","_law_kind_here"] (Qf Qer):=⟨rfl,rfl,rfl,by decide +kernel,rfl,by decide +kernel,by decide +kernel⟩
theorem Qnm:Qaf "_law_number" Qer ["_law_pen_here","_law_kind_here"]:=Qhd fun _ _ _ _ _ _ _ _=>rfl
noncomputable abbrev Qfb:Stmt:=top 45
theorem Qga:FnScope ["_law_one","_law_other","_law_found","_law_row"] ["_law_one","_law_other"] (Qf Qfb):=⟨rfl,rfl,rfl,by decide +kernel,rfl,by decide +kernel,by decide +kernel⟩
theorem Qpl:Qaf "_law_times" Qfb ["_law_one","_law_other"]:=Qhd fun _ _ _ _ _ _ _ _=>rfl
noncomputable abbrev Qds:Stmt:=top 46
theorem Qk9:FnScope ["_law_found","_law_due"] ["_law_found","_law_due"] (Qf Qds):=⟨rfl,rfl,rfl,by decide +kernel,rfl,by decide +kernel,by decide +kernel⟩
theorem Qla:Qaf "_law_table_is" Qds ["_law_found","_law_due"]:=Qhd fun _ _ _ _ _ _ _ _=>rfl
noncomputable abbrev Qd6:Stmt:=top 47
theorem Qmy:FnScope ["_law_found","_law_due"] ["_law_found","_law_due"] (Qf Qd6):=⟨rfl,rfl,rfl,by decide +kernel,rfl,by decide +kernel,by decide +kernel⟩
theorem Qmz:Qaf "_law_list_is" Qd6 ["_law_found","_law_due"]:=Qhd fun _ _ _ _ _ _ _ _=>rfl
noncomputable abbrev Qgb:Stmt:=top 48
theorem Qrz:FnScope ["_law_size"] ["_law_size"] (Qf Qgb):=⟨rfl,rfl,rfl,by decide +kernel,rfl,by decide +kernel,by decide +kernel⟩
theorem Qr0:Qaf "_law_ones" Qgb ["_law_size"]:=Qiq fun _ _ _ _ _ _ _=>rfl
noncomputable abbrev Qgc:Stmt:=top 49
theorem Qcu:FnScope ["_law_pen_here","_law_size","_law_rows","_law_turn","_law_one","_law_other","_law_kind_here","_law_often"] ["_law_pen_here","_law_size"] (Qf Qgc):=⟨rfl,rfl,rfl,by decide +kernel,rfl,by decide +kernel,by decide +kernel⟩
theorem Qr1:Qaf "_law_made" Qgc ["_law_pen_here","_law_size"]:=Qhd fun _ _ _ _ _ _ _ _=>rfl
noncomputable abbrev Qgd:Stmt:=top 50
theorem Qk1:FnScope ["_law_tables_here","_law_by","_law_e"] ["_law_tables_here","_law_by"] (Qf Qgd):=⟨rfl,rfl,rfl,by decide +kernel,rfl,by decide +kernel,by decide +kernel⟩
theorem Qr2:Qaf "_law_told" Qgd ["_law_tables_here","_law_by"]:=Qhd fun _ _ _ _ _ _ _ _=>rfl
noncomputable abbrev Qfc:Stmt:=top 51
theorem Qdt:FnScope ["_law_tables_here","_law_by","_law_turn","_law_found","_law_one","_law_table"] ["_law_tables_here","_law_by"] (Qf Qfc):=⟨rfl,rfl,rfl,by decide +kernel,rfl,by decide +kernel,by decide +kernel⟩
theorem Qpm:Qaf "_law_right" Qfc ["_law_tables_here","_law_by"]:=Qhd fun _ _ _ _ _ _ _ _=>rfl
noncomputable abbrev Qk2:Stmt:=top 52
theorem Qhi:FnScope ["_law_script","_law_cell_here","_law_pen_here","_law_size","_law_tables_here","_law_other","_law_twice","_law_thing"] ["_law_script"] (Qf Qk2):=⟨rfl,rfl,rfl,by decide +kernel,rfl,by decide +kernel,by decide +kernel⟩
theorem Q8h:Qaf "law" Qk2 ["_law_script"]:=Qiq fun _ _ _ _ _ _ _=>rfl
theorem Qnn:PySem.bootBuiltins "ValueError" = some (.type "ValueError"):=by decide +kernel
theorem Q0n:PySem.bootBuiltins "abs" = some (.builtin "abs"):=by decide +kernel
theorem Qir:PySem.bootBuiltins "all" = some (.builtin "all"):=by decide +kernel
theorem Qva:PySem.bootBuiltins "bool" = some (.type "bool"):=by decide +kernel
theorem Qw6:PySem.bootBuiltins "divmod" = some (.builtin "divmod"):=by decide +kernel
theorem Qpn:PySem.bootBuiltins "int" = some (.type "int"):=by decide +kernel
theorem Qs:PySem.bootBuiltins "isinstance" = some (.builtin "isinstance"):=by decide +kernel
theorem Qbx:PySem.bootBuiltins "len" = some (.builtin "len"):=by decide +kernel
theorem Qjt:PySem.bootBuiltins "list" = some (.type "list"):=by decide +kernel
theorem Q8i:PySem.bootBuiltins "max" = some (.builtin "max"):=by decide +kernel
theorem Q0o:PySem.bootBuiltins "sum" = some (.builtin "sum"):=by decide +kernel
theorem Qa0:PySem.bootBuiltins "tuple" = some (.type "tuple"):=by decide +kernel
theorem Qpo:PySem.bootBuiltins "zip" = some (.type "zip"):=by decide +kernel
structure Txt (K:PySem.W.Frag) (mg:Str→Option Value):Prop where
 n_ValueError:mg "ValueError" = none
 n_abs:mg "abs" = none
 n_all:mg "all" = none
 n_bool:mg "bool" = none
 n_divmod:mg "divmod" = none
 n_int:mg "int" = none
 n_isinstance:mg "isinstance" = none
 n_len:mg "len" = none
 n_list:mg "list" = none
 n_max:mg "max" = none
 n_range:mg "range" = none
 n_sum:mg "sum" = none
 n_tuple:mg "tuple" = none
 n_zip:mg "zip" = none
 m_MOST_ROWS:∃ u,mg "MOST_ROWS" = some u∧RelV (.int (4)) u
 m_MOST_TABLES:∃ u,mg "MOST_TABLES" = some u∧RelV (.int (4)) u
 ex:Exs K mg
 i_NoTables:Ini K (cad mg "NoughtError") (cad mg "NoTables")
 k_kind:Dfn K mg "_law_kind" Qey
noncomputable def Qr3:List Str:=["table","way","set","rest","line","row","tables","below","text","great"]
noncomputable def Qvb:Nat→List Int→Option T:=fun c _=>(Qr3[c]?).map T.str
noncomputable abbrev Qcg:Stmt:=Q17 (top 8) 0
theorem Qkk:FnScope ["self","at"] ["self","at"] (Qf Qcg):=⟨rfl,rfl,rfl,by decide +kernel,rfl,by decide +kernel,by decide +kernel⟩
theorem Qkl:∀ (kV doc pm:Value) (an:Option Addr) (cdv ct:Value) (us:List Value),us.length=2→bindArgs (PySem.W.fnOf "__init__" "NoTables.__init__" (Qbg Qcg) (Qaj Qcg) (Qf Qcg) .none kV doc pm an cdv ct) ⟨us,[]⟩=pure ((["self","at"]:List Str).zip us):=fun _ _ _ _ _ _ us hl=>match us,hl with | [_,_],_=>rfl
noncomputable abbrev Qtu:L2.S:=(.ret (.and (.isI (.var 0) "int") (.not (.isI (.var 0) "bool"))))
noncomputable abbrev Qis:L2.Df:=⟨"is_whole",Qf7,["thing"],["thing"],⟨1,1,Qtu⟩,fun _=>true,fun _=>true⟩
noncomputable abbrev Qhj:L2.S:=(.seq (.ite (.or (.not (.isI (.var 0) "tuple")) (.cmp .ne (.bi .len (.cons (.var 0) .nil)) (.var 1))) (.ret (.bl false)) .nil)
 (.ret (.bi .all (.cons (.comp (.seq (.var 0)) [none] (.nm 0) .nil (.call 0 (.cons (.var 0) .nil))) .nil))))
noncomputable abbrev Qm0:L2.Df:=⟨"is_row",Qjo,["thing","size"],["thing","size"],⟨2,2,Qhj⟩,fun _=>true,fun _=>true⟩
noncomputable abbrev Qfw:L2.S:=(.seq (.ite (.or (.not (.isI (.var 0) "tuple")) (.or (.cmp .lt (.bi .len (.cons (.var 0) .nil)) (.int 1)) (.cmp .gt (.bi .len (.cons (.var 0) .nil)) (.int (4))))) (.ret (.bl false)) .nil)
 (.ret (.bi .all (.cons (.comp (.seq (.var 0)) [none,some 0] (.nm 0) .nil (.call 1 (.cons (.var 0) (.cons (.bi .len (.cons (.var 1) .nil)) .nil)))) .nil))))
noncomputable abbrev Qfx:L2.Df:=⟨"is_grid",Qhw,["thing"],["thing"],⟨1,1,Qfw⟩,fun _=>true,fun _=>true⟩
noncomputable abbrev Qpp:L2.S:=(.seq (.set 1 (.lst .nil))
 (.seq (.for_ (.seq (.var 0)) (.nm 2) (.ext 1 (.var 2)))
 (.ret (.var 1))))
noncomputable abbrev Qge:L2.Df:=⟨"numbers_of",Qem,["grid","numbers","row"],["grid"],⟨1,3,Qpp⟩,fun _=>true,fun _=>true⟩
noncomputable abbrev Qpq:L2.S:=(.ret (.bi .all (.cons (.comp (.seq (.call 3 (.cons (.var 0) .nil))) [none] (.nm 0) .nil (.cmp .lt (.bi .abs (.cons (.var 0) .nil)) (.bin .pow (.int 10) (.int 12)))) .nil)))
noncomputable abbrev Qgf:L2.Df:=⟨"is_bounded",Qen,["grid"],["grid"],⟨1,1,Qpq⟩,fun _=>true,fun _=>true⟩
noncomputable abbrev Qit:L2.S:=(.seq (.ite (.or (.not (.isI (.var 0) "list")) (.or (.cmp .lt (.bi .len (.cons (.var 0) .nil)) (.int 1)) (.cmp .gt (.bi .len (.cons (.var 0) .nil)) (.int (4))))) (.ret (.neg (.int 1))) .nil)
 (.seq (.for_ (.rng1 (.bi .len (.cons (.var 0) .nil))) (.nm 2) (.seq (.ite (.or (.not (.call 2 (.cons (.ix (.var 0) (.var 2)) .nil))) (.cmp .ne (.bi .len (.cons (.ix (.var 0) (.var 2)) .nil)) (.bi .len (.cons (.ix (.var 0) (.int 0)) .nil)))) (.ret (.var 2)) .nil)
 (.ite (.and (.var 1) (.not (.call 4 (.cons (.ix (.var 0) (.var 2)) .nil)))) (.ret (.var 2)) .nil)))
 (.ret .non)))
noncomputable abbrev Qiu:L2.Df:=⟨"wrong_at",Qf8,["thing","bounded","at"],["thing","bounded"],⟨2,3,Qit⟩,fun _=>true,fun _=>true⟩
noncomputable abbrev Qgg:L2.S:=(.ite (.not (.call 2 (.cons (.var 0) .nil))) (.raise 0 (.cons (.str "this is no table") .nil)) .nil)
noncomputable abbrev Qgh:L2.Df:=⟨"need_table",Qeo,["thing"],["thing"],⟨1,1,Qgg⟩,fun _=>true,fun _=>true⟩
noncomputable abbrev Qfk:L2.S:=(.seq (.setF 1 (.call 5 (.cons (.var 0) (.cons (.bl false) .nil))))
 (.ite (.cmp .isnn (.var 1) .non) (.raise 6 (.cons (.var 1) .nil)) .nil))
noncomputable abbrev Qfl:L2.Df:=⟨"need_tables",Qd4,["thing","at"],["thing"],⟨1,2,Qfk⟩,fun _=>true,fun _=>true⟩
noncomputable abbrev Qhk:L2.S:=(.ret (.bi .tup (.cons (.comp (.seq (.var 0)) [none,some 1] (.nm 0) .nil (.ix (.var 0) (.var 1))) .nil)))
noncomputable abbrev Qhl:L2.Df:=⟨"column_at",Qe9,["table","at"],["table","at"],⟨2,2,Qhk⟩,fun _=>true,fun _=>true⟩
noncomputable abbrev Qgi:L2.S:=(.ret (.bi .tup (.cons (.comp (.rng1 (.bi .len (.cons (.var 0) .nil))) [none,some 0] (.nm 0) .nil (.call 8 (.cons (.var 1) (.cons (.var 0) .nil)))) .nil)))
noncomputable abbrev Qgj:L2.Df:=⟨"columns_of",Qep,["table"],["table"],⟨1,1,Qgi⟩,fun _=>true,fun _=>true⟩
noncomputable abbrev Qdd:L2.S:=(.ret (.bi .sum (.cons (.comp (.rng1 (.bi .len (.cons (.var 0) .nil))) [none,some 0,some 1] (.nm 0) .nil (.bin .mul (.ix (.var 1) (.var 0)) (.ix (.var 2) (.var 0)))) .nil)))
noncomputable abbrev Qde:L2.Df:=⟨"row_times_column",Qcc,["row","column"],["row","column"],⟨2,2,Qdd⟩,fun _=>true,fun _=>true⟩
noncomputable abbrev Qc7:L2.S:=(.ret (.bi .tup (.cons (.comp (.seq (.var 1)) [none,some 0] (.nm 0) .nil (.call 10 (.cons (.var 1) (.cons (.var 0) .nil)))) .nil)))
noncomputable abbrev Qc8:L2.Df:=⟨"row_times_columns",Qb5,["row","columns"],["row","columns"],⟨2,2,Qc7⟩,fun _=>true,fun _=>true⟩
noncomputable abbrev Qpr:L2.S:=(.seq (.setF 2 (.call 9 (.cons (.var 1) .nil)))
 (.ret (.bi .tup (.cons (.comp (.seq (.var 0)) [none,some 2] (.nm 0) .nil (.call 11 (.cons (.var 0) (.cons (.var 1) .nil)))) .nil))))
noncomputable abbrev Qlj:L2.Df:=⟨"times",Qli,["one","other","columns"],["one","other"],⟨2,3,Qpr⟩,fun _=>true,fun _=>true⟩
noncomputable abbrev Qdy:L2.S:=(.ret (.comp (.seq (.var 0)) [none,some 1] (.nm 0) .nil (.bin .add (.slc (.var 0) .nil (.cons (.var 1) .nil)) (.slc (.var 0) (.cons (.bin .add (.var 1) (.int 1)) .nil) .nil))))
noncomputable abbrev Qc0:L2.Df:=⟨"without_column",Qcy,["rows","at"],["rows","at"],⟨2,2,Qdy⟩,fun _=>true,fun _=>true⟩
noncomputable abbrev Qb8:L2.S:=(.seq (.ite (.cmp .eq (.bi .len (.cons (.var 0) .nil)) (.int 0)) (.ret (.int 1)) .nil)
 (.seq (.setF 1 (.int 0))
 (.seq (.setF 2 (.int 1))
 (.seq (.for_ (.rng1 (.bi .len (.cons (.var 0) .nil))) (.nm 3) (.seq (.setF 1 (.bin .add (.var 1) (.bin .mul (.bin .mul (.var 2) (.ix (.ix (.var 0) (.int 0)) (.var 3))) (.call 14 (.cons (.call 13 (.cons (.slc (.var 0) (.cons (.int 1) .nil) .nil) (.cons (.var 3) .nil))) .nil)))))
 (.setF 2 (.neg (.var 2)))))
 (.ret (.var 1))))))
noncomputable abbrev Qb9:L2.Df:=⟨"determinant_of",Qcz,["rows","told","sign","at"],["rows"],⟨1,4,Qb8⟩,fun _=>true,fun _=>true⟩
noncomputable abbrev Qfm:L2.S:=(.seq (.setF 3 (.call 14 (.cons (.call 13 (.cons (.bin .add (.slc (.var 0) .nil (.cons (.var 1) .nil)) (.slc (.var 0) (.cons (.bin .add (.var 1) (.int 1)) .nil) .nil)) (.cons (.var 2) .nil))) .nil)))
 (.ret (.ite (.cmp .eq (.bin .mod (.bin .add (.var 1) (.var 2)) (.int 2)) (.int 0)) (.var 3) (.neg (.var 3)))))
noncomputable abbrev Qfn:L2.Df:=⟨"signed_part",Qd5,["table","row","column","part"],["table","row","column"],⟨3,4,Qfm⟩,fun _=>true,fun _=>true⟩
noncomputable abbrev Qm1:L2.S:=(.seq (.expr (.call 6 (.cons (.var 0) .nil)))
 (.seq (.setF 1 (.call 14 (.cons (.var 0) .nil)))
 (.seq (.ite (.cmp .ne (.bi .abs (.cons (.var 1) .nil)) (.int 1)) (.ret .non) .nil)
 (.seq (.setF 2 (.bi .len (.cons (.var 0) .nil)))
 (.ret (.bi .tup (.cons (.comp (.rng1 (.var 2)) [none,some 1,some 0,some 2] (.nm 0) .nil (.bi .tup (.cons (.comp (.rng1 (.var 3)) [none,some 1,some 2,some 0] (.nm 0) .nil (.bin .mul (.var 1) (.call 15 (.cons (.var 2) (.cons (.var 0) (.cons (.var 3) .nil)))))) .nil))) .nil)))))))
noncomputable abbrev Qju:L2.Df:=⟨"undone",Qjs,["table","sign","size"],["table"],⟨1,3,Qm1⟩,fun _=>true,fun _=>true⟩
noncomputable abbrev Qc1:L2.S:=(.seq (.expr (.call 7 (.cons (.var 0) .nil)))
 (.seq (.ite (.or (.not (.call 2 (.cons (.var 1) .nil))) (.cmp .ne (.bi .len (.cons (.var 1) .nil)) (.bi .len (.cons (.ix (.var 0) (.int 0)) .nil)))) (.raise 0 (.cons (.str "this is no table of the size of these tables") .nil)) .nil)
 (.seq (.setF 2 (.call 16 (.cons (.var 1) .nil)))
 (.seq (.ite (.cmp .isn (.var 2) .non) (.raise 0 (.cons (.str "no table undoes this one") .nil)) .nil)
 (.ret (.comp (.seq (.var 0)) [none,some 1,some 2] (.nm 0) .nil (.call 12 (.cons (.call 12 (.cons (.var 2) (.cons (.var 0) .nil))) (.cons (.var 1) .nil)))))))))
noncomputable abbrev Qh0:L2.Df:=⟨"changed",Qhx,["tables","by","back"],["tables","by"],⟨2,3,Qc1⟩,fun _=>true,fun _=>true⟩
noncomputable abbrev Qkm:L2.S:=(.seq (.setF 1 (.bi .max (.cons (.var 0) (.cons (.bin .sub (.int 0) (.var 0)) .nil))))
 (.ret (.lst (.cons (.var 1) (.cons (.bi .int (.cons (.cmp .ge (.var 1) (.bin .pow (.int 10) (.int 18))) .nil)) .nil)))))
noncomputable abbrev Qkn:L2.Df:=⟨"_law_pen",Qhy,["_law_cell_here","_law_left"],["_law_cell_here"],⟨1,2,Qkm⟩,fun _=>true,fun _=>true⟩
noncomputable abbrev Qez:L2.S:=(.seq (.ite (.cmp .eq (.ix (.var 0) (.int 1)) (.int 1)) (.seq (.unp [2,3] (.bi .dvm (.cons (.ix (.var 0) (.int 0)) (.cons (.var 1) .nil))))
 (.seq (.put 0 (.int 0) (.var 2))
 (.ret (.var 3)))) .nil)
 (.seq (.setF 4 (.bin .mod (.bin .mul (.bin .add (.bin .mod (.ix (.var 0) (.int 0)) (.int 2147483647)) (.int 40503)) (.int 69621)) (.int 2147483629)))
 (.seq (.setF 4 (.bin .mod (.bin .add (.bin .mul (.var 4) (.var 4)) (.int 7817)) (.int 2147483587)))
 (.seq (.put 0 (.int 0) (.bin .mod (.bin .add (.bin .mul (.var 4) (.int 48271)) (.int 11)) (.int 2147483629)))
 (.ret (.bin .mod (.bin .fdv (.ix (.var 0) (.int 0)) (.int 32)) (.var 1)))))))
noncomputable abbrev Qa5:L2.Df:=⟨"_law_draw",Qf9,["_law_pen_here","_law_many","_law_left","_law_found","_law_stir"],["_law_pen_here","_law_many"],⟨2,5,Qez⟩,fun _=>true,fun _=>true⟩
noncomputable abbrev Qr4:L2.S:=(.ret (.and (.isI (.var 0) "int") (.not (.isI (.var 0) "bool"))))
noncomputable abbrev Qhm:L2.Df:=⟨"_law_whole",Qfa,["_law_thing"],["_law_thing"],⟨1,1,Qr4⟩,fun _=>true,fun _=>true⟩
noncomputable abbrev Qko:L2.S:=(.seq (.setF 1 (.lst (.cons .non (.cons (.bl true) (.cons (.bl false) (.cons (.neg (.int 1)) (.cons (.str "1") (.cons (.str "") (.cons (.tup .nil) (.cons (.lst .nil) (.cons (.tup (.cons (.int 0) .nil)) (.cons (.lst (.cons (.int 0) .nil)) (.cons (.lit (.dct [Sum.inr "a"] [.int 1])) (.cons (.tup (.cons (.int 0) (.cons (.int 1) .nil))) (.cons (.bin .pow (.int 10) (.int 30)) (.cons (.tup (.cons (.tup (.cons (.int 0) .nil)) .nil)) (.cons (.tup (.cons (.str "ab") .nil)) .nil)))))))))))))))))
 (.ret (.ix (.bin .add (.var 1) (.lst (.cons (.tup (.cons (.bl true) .nil)) .nil))) (.call 19 (.cons (.var 0) (.cons (.int 16) .nil))))))
noncomputable abbrev Qkp:L2.Df:=⟨"_law_odd",Qhz,["_law_pen_here","_law_some"],["_law_pen_here"],⟨1,2,Qko⟩,fun _=>true,fun _=>true⟩
noncomputable abbrev Qgk:L2.S:=(.seq (.setF 3 (.bin .add (.int 1) (.call 19 (.cons (.var 0) (.cons (.var 2) .nil)))))
 (.seq (.setF 4 (.call 19 (.cons (.var 0) (.cons (.int 8) .nil))))
 (.seq (.set 5 (.lst .nil))
 (.seq (.for_ (.rng1 (.var 3)) (.nm 6) (.seq (.set 7 (.lst .nil))
 (.seq (.for_ (.rng1 (.var 1)) (.nm 8) (.app 7 (.bi .tup (.cons (.comp (.rng1 (.var 1)) [none,some 0,some 4] (.nm 0) .nil (.call 23 (.cons (.var 1) (.cons (.var 2) .nil)))) .nil))))
 (.app 5 (.bi .tup (.cons (.var 7) .nil))))))
 (.ret (.var 5))))))
noncomputable abbrev Qgl:L2.Df:=⟨"_law_tables",Qeq,["_law_pen_here","_law_size","_law_most","_law_many","_law_kind_here","_law_found","_law_turn","_law_rows","_law_i"],["_law_pen_here","_law_size","_law_most"],⟨3,9,Qgk⟩,fun _=>true,fun _=>true⟩
noncomputable abbrev Qcd:L2.S:=(.seq (.ite (.cmp .lt (.var 1) (.int 3)) (.ret (.ix (.lst (.cons (.int 0) (.cons (.int 0) (.cons (.int 1) (.cons (.int 0) (.cons (.int 1) (.cons (.neg (.int 1)) .nil))))))) (.call 19 (.cons (.var 0) (.cons (.int 6) .nil))))) .nil)
 (.seq (.ite (.cmp .lt (.var 1) (.int 7)) (.ret (.bin .sub (.call 19 (.cons (.var 0) (.cons (.int 7) .nil))) (.int 3))) .nil)
 (.ret (.bin .add (.bin .sub (.call 19 (.cons (.var 0) (.cons (.bin .sub (.bin .mul (.int 2) (.bin .pow (.int 10) (.int 12))) (.int 1)) .nil))) (.bin .pow (.int 10) (.int 12))) (.int 1)))))
noncomputable abbrev Qgm:L2.Df:=⟨"_law_number",Qer,["_law_pen_here","_law_kind_here"],["_law_pen_here","_law_kind_here"],⟨2,2,Qcd⟩,fun _=>true,fun _=>true⟩
noncomputable abbrev Qhn:L2.S:=(.seq (.set 2 (.lst .nil))
 (.seq (.for_ (.seq (.var 0)) (.nm 3) (.app 2 (.bi .tup (.cons (.comp (.rng1 (.bi .len (.cons (.var 1) .nil))) [none,some 3,some 1] (.nm 0) .nil (.bi .sum (.cons (.comp (.zip (.var 1) (.var 2)) [none,none,some 0] (.tp [0,1]) .nil (.bin .mul (.var 0) (.ix (.var 1) (.var 2)))) .nil))) .nil))))
 (.ret (.bi .tup (.cons (.var 2) .nil)))))
noncomputable abbrev Qfd:L2.Df:=⟨"_law_times",Qfb,["_law_one","_law_other","_law_found","_law_row"],["_law_one","_law_other"],⟨2,4,Qhn⟩,fun _=>true,fun _=>true⟩
noncomputable abbrev Qe0:L2.S:=(.seq (.ite (.or (.not (.isI (.var 0) "tuple")) (.or (.cmp .ne (.var 0) (.var 1)) (.not (.bi .all (.cons (.comp (.seq (.var 0)) [none] (.nm 0) .nil (.isI (.var 0) "tuple")) .nil))))) (.ret (.bl false)) .nil)
 (.ret (.bi .all (.cons (.comp (.seq (.var 0)) [none] (.nm 0) .nil (.bi .all (.cons (.comp (.seq (.var 0)) [none] (.nm 0) .nil (.call 20 (.cons (.var 0) .nil))) .nil))) .nil))))
noncomputable abbrev Qdu:L2.Df:=⟨"_law_table_is",Qds,["_law_found","_law_due"],["_law_found","_law_due"],⟨2,2,Qe0⟩,fun _=>true,fun _=>true⟩
noncomputable abbrev Qfo:L2.S:=(.seq (.ite (.or (.not (.isI (.var 0) "list")) (.cmp .ne (.bi .len (.cons (.var 0) .nil)) (.bi .len (.cons (.var 1) .nil)))) (.ret (.bl false)) .nil)
 (.ret (.bi .all (.cons (.comp (.zip (.var 0) (.var 1)) [none,none] (.tp [0,1]) .nil (.call 25 (.cons (.var 0) (.cons (.var 1) .nil)))) .nil))))
noncomputable abbrev Qfp:L2.Df:=⟨"_law_list_is",Qd6,["_law_found","_law_due"],["_law_found","_law_due"],⟨2,2,Qfo⟩,fun _=>true,fun _=>true⟩
noncomputable abbrev Qiv:L2.S:=(.ret (.bi .tup (.cons (.comp (.rng1 (.var 0)) [none,some 0] (.nm 0) .nil (.bi .tup (.cons (.comp (.rng1 (.var 1)) [none,some 0] (.nm 0) .nil (.bi .int (.cons (.cmp .eq (.var 1) (.var 0)) .nil))) .nil))) .nil)))
noncomputable abbrev Qdz:L2.Df:=⟨"_law_ones",Qgb,["_law_size"],["_law_size"],⟨1,1,Qiv⟩,fun _=>true,fun _=>true⟩
noncomputable abbrev Qiw:L2.S:=(.seq (.set 2 (.comp (.seq (.call 27 (.cons (.var 1) .nil))) [none] (.nm 0) .nil (.bi .list (.cons (.var 0) .nil))))
 (.seq (.for_ (.rng1 (.call 19 (.cons (.var 0) (.cons (.int 7) .nil)))) (.nm 3) (.seq (.setF 4 (.call 19 (.cons (.var 0) (.cons (.var 1) .nil))))
 (.seq (.setF 5 (.call 19 (.cons (.var 0) (.cons (.var 1) .nil))))
 (.seq (.setF 6 (.call 19 (.cons (.var 0) (.cons (.int 3) .nil))))
 (.ite (.cmp .eq (.var 6) (.int 0)) (.put 2 (.var 4) (.comp (.seq (.ix (.var 2) (.var 4))) [none] (.nm 0) .nil (.bin .sub (.int 0) (.var 0)))) (.ite (.cmp .eq (.var 6) (.int 1)) (.swp 2 4 5) (.ite (.cmp .ne (.var 4) (.var 5)) (.seq (.setF 7 (.bin .sub (.call 19 (.cons (.var 0) (.cons (.int 7) .nil))) (.int 3)))
 (.put 2 (.var 4) (.comp (.zip (.ix (.var 2) (.var 4)) (.ix (.var 2) (.var 5))) [none,none,some 7] (.tp [0,1]) .nil (.bin .add (.var 0) (.bin .mul (.var 2) (.var 1)))))) .nil)))))))
 (.ret (.bi .tup (.cons (.compS 2 [none] (.nm 0) .nil (.bi .tup (.cons (.var 0) .nil))) .nil)))))
noncomputable abbrev Qix:L2.Df:=⟨"_law_made",Qgc,["_law_pen_here","_law_size","_law_rows","_law_turn","_law_one","_law_other","_law_kind_here","_law_often"],["_law_pen_here","_law_size"],⟨2,8,Qiw⟩,fun _=>true,fun _=>true⟩
noncomputable abbrev Qe1:L2.S:=(.tryR 2 (.ret (.call 17 (.cons (.var 0) (.cons (.var 1) .nil)))) Qvb)
noncomputable abbrev Qgn:L2.Df:=⟨"_law_told",Qgd,["_law_tables_here","_law_by","_law_e"],["_law_tables_here","_law_by"],⟨2,3,Qe1⟩,fun _=>true,fun _=>true⟩
noncomputable abbrev Qho:L2.S:=(.seq (.for_ (.rng1 (.int 2)) (.nm 2) (.seq (.set 3 (.call 29 (.cons (.var 0) (.cons (.var 1) .nil))))
 (.seq (.look 3 (.ite (.or (.not (.isI (.var 3) "list")) (.cmp .ne (.bi .len (.cons (.var 3) .nil)) (.bi .len (.cons (.var 0) .nil)))) (.ret (.bl false)) .nil))
 (.seq (.look 3 (.for_ (.zip (.var 3) (.var 0)) (.tp [4,5]) (.ite (.or (.not (.call 25 (.cons (.var 4) (.cons (.var 4) .nil)))) (.cmp .ne (.call 24 (.cons (.var 1) (.cons (.var 4) .nil))) (.call 24 (.cons (.var 5) (.cons (.var 1) .nil))))) (.ret (.bl false)) .nil)))
 (.seq (.look 3 (.ite (.not (.call 26 (.cons (.call 17 (.cons (.var 3) (.cons (.call 16 (.cons (.var 1) .nil)) .nil))) (.cons (.var 0) .nil)))) (.ret (.bl false)) .nil))
 (.app 3 (.tup .nil)))))))
 (.ret (.bl true)))
noncomputable abbrev Qdj:L2.Df:=⟨"_law_right",Qfc,["_law_tables_here","_law_by","_law_turn","_law_found","_law_one","_law_table"],["_law_tables_here","_law_by"],⟨2,6,Qho⟩,fun _=>true,fun _=>true⟩
noncomputable abbrev ds:List L2.Df:=[Qis,Qm0,Qfx,Qge,Qgf,Qiu,Qgh,Qfl,Qhl,Qgj,Qde,Qc8,Qlj,Qc0,Qb9,Qfn,Qju,Qh0,Qkn,Qa5,Qhm,Qkp,Qgl,Qgm,Qfd,Qdu,Qfp,Qdz,Qix,Qgn,Qdj]
section
variable {P:Program} {w:World} {K:PySem.W.Frag} {mg:Str→Option Value} {base:Heap}
def XcAt (mg:Str→Option Value) (H:Hp) (a:Addr) (i:Nat):Prop:=∃ x dx,Qbk[i]?=some x∧H a=some (Qs5 a (.ref (cad mg x)) dx)∧∀ d,dx=some d→∃ fs,H d=some (.xd fs)
def Qvc (mg:Str→Option Value):Sp:=fun vs H Q _=>∃ a i x,vs=[.ref a]∧XcAt mg H a i∧Qr3[i]?=some x∧∀ H',Same H H'→Q (.str x) H'
theorem Qfq {H:Hp} {a:Addr} {i:Nat} {y:Str} {Q:VK} (ex:Exs K mg) (j:Nat) (h:XcAt mg H a i) (hy:Qbk[j]?=some y) (k:Q (.bl (i==j)) H):Qo7 K [.ref a,.ref (cad mg y)] H Q:=by
 obtain ⟨x,dx,hx,ha,hd⟩:=h
 exact ⟨a,_,dx,_,_,rfl,ha,hd,ex.xc i hx,.inl ⟨_,rfl⟩,ex.kit i j hx hy,k⟩
theorem Q8j {H:Hp} {a:Addr} {i:Nat} {Q:VK} (ex:Exs K mg) (h:XcAt mg H a i) (k:Q (.bl true) H):Qo7 K [.ref a,.ty "ValueError"] H Q:=by
 obtain ⟨x,dx,hx,ha,hd⟩:=h
 exact ⟨a,_,dx,_,_,rfl,ha,hd,ex.xc i hx,.inr ⟨_,rfl⟩,ex.val i hx,k⟩
theorem XcAt.mono {H H':Hp} {a:Addr} {i:Nat} (h:XcAt mg H a i) (s:Same H H'):XcAt mg H' a i:=by
 obtain ⟨x,dx,hx,ha,hd⟩:=h
 exact ⟨x,dx,hx,s _ _ ha,fun d e=>let ⟨fs,q⟩:=hd d e;⟨fs,s _ _ q⟩⟩
noncomputable def Qh1 (i:Nat):List Bool:=[i==0,i==1,i==2,i==3]++[i==4,i==5,i==6,i==7]++[i==8,i==9]
theorem Q0p:∀ i,i<10→(Qh1 i).count true=1∧(Qh1 i)[i]?=some true∧∀ m,m<i→(Qh1 i)[m]?≠some true:=by decide
theorem Qps (d:Dfn K mg "_law_kind" Qey) (tx:Txt K mg):Q2u P w K mg base "_law_kind" ["_law_e"] 1 (Qvc mg):=by
 refine Q7a (k:=0) d Qee Qry (fun vs H Q E h=>?_) (fun f cdv A outer s H vs Q E hr h=>?_)
 ·obtain ⟨a,i,x,rfl,_⟩:=h
  rfl
 ·obtain ⟨a,i,x,rfl,xa,hi,q⟩:=h
  refine ⟨_,(Qei (Qbi (i:=1) Qee.nd (Qqo (Q7 (Qi9 (Qdm K rfl) tx.n_isinstance Qs (Q7 (Qce 0) (Q7 (Qid (tx.ex.m 0 _ rfl)) Qbz))) (Q7 (Qi9 (Qdm K rfl) tx.n_isinstance Qs (Q7 (Qce 0) (Q7 (Qid (tx.ex.m 1 _ rfl)) Qbz))) (Q7 (Qi9 (Qdm K rfl) tx.n_isinstance Qs (Q7 (Qce 0) (Q7 (Qid (tx.ex.m 2 _ rfl)) Qbz))) (Q7 (Qi9 (Qdm K rfl) tx.n_isinstance Qs (Q7 (Qce 0) (Q7 (Qid (tx.ex.m 3 _ rfl)) Qbz))) Qbz))))))
   (Qei (Qbi (i:=1) Qee.nd (Q2l (Quj K rfl) (Qce 1) (Qqo (Q7 (Qi9 (Qdm K rfl) tx.n_isinstance Qs (Q7 (Qce 0) (Q7 (Qid (tx.ex.m 4 _ rfl)) Qbz))) (Q7 (Qi9 (Qdm K rfl) tx.n_isinstance Qs (Q7 (Qce 0) (Q7 (Qid (tx.ex.m 5 _ rfl)) Qbz))) (Q7 (Qi9 (Qdm K rfl) tx.n_isinstance Qs (Q7 (Qce 0) (Q7 (Qid (tx.ex.m 6 _ rfl)) Qbz))) (Q7 (Qi9 (Qdm K rfl) tx.n_isinstance Qs (Q7 (Qce 0) (Q7 (Qid (tx.ex.m 7 _ rfl)) Qbz))) Qbz)))))))
   (Qei (Qbi (i:=1) Qee.nd (Q2l (Quj K rfl) (Qce 1) (Qqo (Q7 (Qi9 (Qdm K rfl) tx.n_isinstance Qs (Q7 (Qce 0) (Q7 (Qid (tx.ex.m 8 _ rfl)) Qbz))) (Q7 (Qi9 (Qdm K rfl) tx.n_isinstance Qs (Q7 (Qce 0) (Q7 (Qid (tx.ex.m 9 _ rfl)) Qbz))) Qbz)))))
   (Qei (Qui (q_wt (Q4o (Qyp (Qyo (Qi9 (Qdm K rfl) tx.n_isinstance Qs (Q7 (Qce 0) (Q7 (Qk4 "ValueError" tx.n_ValueError Qnn) Qbz))))) (Qyq (Qs0 o_ne (Qs1 K rfl PySem.F.plainAttrs_list PySem.F.slot_list_count PySem.F.type_list_count (Qy6 K rfl) (Qce 1) (Q7 Q2k Qbz)) Qny (Qxy _))))) (Qij (Qlw Q4n)) Qo5)
   (Qei (Qbi (i:=2) Qee.nd (Qaai (Qfg Qic (Qfg Qic (Qfg Qic (Qfg Qic (Qfg Qic (Qfg Qic (Qfg Qic (Qfg Qic (Qfg Qic (Qfg Qic Qaah))))))))))))
   (Qij (Qlw (Q6u (Q6y K rfl) (Qce 2) (Qs1 K rfl PySem.F.plainAttrs_list PySem.F.slot_list_index PySem.F.type_list_index (Qy7 K rfl) (Qce 1) (Q7 Q2k Qbz)))))))))),?_⟩
  have hi10:i<10:=(List.getElem?_eq_some_iff.mp hi).1
  obtain ⟨mc,mi,mn⟩:=Q0p i hi10
  refine ⟨_,rfl,Qfq tx.ex 0 xa rfl ⟨_,rfl,Qfq tx.ex 1 xa rfl ⟨_,rfl,Qfq tx.ex 2 xa rfl ⟨_,rfl,Qfq tx.ex 3 xa rfl ⟨by show 4≤sizeLine;decide,fun l1 n1=>?_⟩⟩⟩⟩⟩
  have xa1:=xa.mono (Same.upd (o:=.lst [.bl (i==0),.bl (i==1),.bl (i==2),.bl (i==3)]) n1)
  refine ⟨_,rfl,_,rfl,Qfq tx.ex 4 xa1 rfl ⟨_,rfl,Qfq tx.ex 5 xa1 rfl ⟨_,rfl,Qfq tx.ex 6 xa1 rfl ⟨_,rfl,Qfq tx.ex 7 xa1 rfl ⟨by show 4≤sizeLine;decide,fun l2 n2=>?_⟩⟩⟩⟩⟩
  have n12:l1≠l2:=Qbs Qp n2
  have S2:=Same.upd (o:=.lst [.bl (i==4),.bl (i==5),.bl (i==6),.bl (i==7)]) n2
  refine .inr (.inl ⟨l1,l2,_,_,rfl,rfl,by rw [Q6 n12,Qp],Qp,by show 4+4≤sizeLine;decide,fun l3 n3=>?_⟩)
  have S3:=S2.trans (Same.upd (o:=.lst ([.bl (i==0),.bl (i==1),.bl (i==2),.bl (i==3)]++[.bl (i==4),.bl (i==5),.bl (i==6),.bl (i==7)])) n3)
  have xa3:=xa1.mono S3
  refine ⟨_,rfl,_,rfl,Qfq tx.ex 8 xa3 rfl ⟨_,rfl,Qfq tx.ex 9 xa3 rfl ⟨by show 2≤sizeLine;decide,fun l4 n4=>?_⟩⟩⟩
  have n34:l3≠l4:=Qbs Qp n4
  have S4:=S3.trans (Same.upd (o:=.lst [.bl (i==8),.bl (i==9)]) n4)
  refine .inr (.inl ⟨l3,l4,_,_,rfl,rfl,by rw [Q6 n34,Qp],Qp,by show 8+2≤sizeLine;decide,fun l5 n5=>?_⟩)
  have S5:=S4.trans (Same.upd (o:=.lst ([.bl (i==0),.bl (i==1),.bl (i==2),.bl (i==3)]++[.bl (i==4),.bl (i==5),.bl (i==6),.bl (i==7)]++[.bl (i==8),.bl (i==9)])) n5)
  have xa5:=xa1.mono S5
  generalize hH5:upd _ l5 _=H5 at xa5 S5 ⊢
  have e5:H5 l5=some (.lst ((Qh1 i).map V.bl)):=by rw [←hH5,Qp];rfl
  have S50:=(Same.upd (o:=.lst [.bl (i==0),.bl (i==1),.bl (i==2),.bl (i==3)]) n1).trans S5
  refine ⟨_,rfl,Q8j tx.ex xa5 ⟨_,rfl,Q6j ?_⟩⟩
  refine ⟨_,rfl,.inl ⟨rfl,_,SqL.of e5⟩,l5,Qh1 i,true,rfl,rfl,e5,rfl,_,rfl,?_⟩
  rw [mc]
  refine Q6j ?_
  intro v6 H6 s6 r6
  obtain ⟨l6,ws,rfl,e6,i6⟩:=r6.lst_inv
  obtain ⟨n6,e6⟩:=Qg3 e6
  refine ⟨_,rfl,_,rfl,.inl ⟨rfl,_,SqL.of (s6 _ _ e5)⟩,l5,Qh1 i,true,i,rfl,rfl,s6 _ _ e5,by show 10≤1000;decide,mi,mn,?_⟩
  have ht:(Qr3.map T.str)[i]?=some (.str x):=by rw [getElem?_map,hi];rfl
  obtain ⟨v,hv,iv⟩:=IsL.getT (ts:=Qr3.map T.str) i6 ht
  have:v=.str x:=by unfold Is at iv;exact iv
  subst this
  exact .inl ⟨l6,_,_,_,rfl,rfl,SqL.of e6,Qcl hv,q H6 (S50.trans s6)⟩
theorem Qacl {H:Hp} {a:Addr} {c:Nat} {arg:List Int} (h:ExAt mg H a c arg):XcAt mg H a c:=by
 obtain ⟨nm,dx,hn,ha,hd⟩:=h
 refine ⟨nm,dx,hn,ha,fun d e=>?_⟩
 match arg,hd with
 | [],hd=>exact nomatch (hd.symm.trans e)
 | [_],⟨_,e',q⟩=>cases e'.symm.trans e;exact ⟨_,q⟩
 | [_,_],⟨_,e',q⟩=>cases e'.symm.trans e;exact ⟨_,q⟩
theorem Q3s {X:Cx} {n:Str} {p1 p2 p3 p4:Pos} {i m:Nat} (hk:Q2u X.prog X.w X.K X.mg X.base "_law_kind" ["_law_e"] 1 (Qvc mg)) (hr:RoomH 1 X.A) (hv:QE X (.Name n p2) (Qh4 i)) (hg:Gl X "_law_kind" := by rfl):QB X [.Return (some (.Call (.Name "_law_kind" p1) [.Name n p2] [] p3)) p4] (Q77 mg i m Qvb) :=
 (Qij (Qlw (Qaa6 hk hr (Q7 hv Qbz) hg))).weak fun D σ H ⟨a,c,arg,t,_,hs,xa,e,q⟩=>by
  unfold Qvb at e
  cases hx:Qr3[c]? with
  | none=>rw [hx] at e;cases e
  | some x =>
   rw [hx] at e
   cases e
   exact ⟨_,hs,a,c,x,rfl,Qacl xa,hx,fun H2 s2=>q _ _ s2 (.inl rfl)⟩
theorem Qtv (tx:Txt K mg):Qat P w K mg base ds Qis:=fun cf n R f cdv A outer s H E hc h1 co pz hr =>
 (Q3 (Qaq (Q43 (Qha tx.n_isinstance Qs (Qe 0) (Qk4 "int" tx.n_int Qpn)) (Q44 (Q42 (Qha tx.n_isinstance Qs (Qe 0) (Qk4 "bool" tx.n_bool Qva)))))))
theorem Q0q (tx:Txt K mg):Qat P w K mg base ds Qm0:=fun cf n R f cdv A outer s H E hc h1 co pz hr =>
 (Qx (Qek (t_w (Qjd (Qeb (Qcj (Qha tx.n_isinstance Qs (Qe 0) (Qk4 "tuple" tx.n_tuple Qa0)))) (Qgr (Qnb hr.units (Qcw (Qc3 K rfl) (Qb2 K) tx.n_len Qbx (Qc (Qe 0) Qh)) (Qe 1))))) (Q3 (Qaq Qin)) Qc4)
  (Q3 (Qaq (Qcw (Qlx K rfl) (Qio K) tx.n_all Qir (Qc (Qbl ["number"] [none] rfl (Qci rfl (Qe 0)) (fun _ _ _=>(Qag (Qae (i:=0) (show List.Nodup (["number"]:List PySem.Str) by decide +kernel)))) (fun _ _ _=>Qbd) (fun _ _ _=>(Qz (hc 0 Qis rfl) Qn hr (Qc (Qe 0) Qh)))) Qh)))))
theorem Qw7 (tx:Txt K mg):Qat P w K mg base ds Qfx:=fun cf n R f cdv A outer s H E hc h1 co pz hr =>
 (Qx (Qek (t_w (Qjd (Qeb (Qcj (Qha tx.n_isinstance Qs (Qe 0) (Qk4 "tuple" tx.n_tuple Qa0)))) (Qjd (Q3h (Qcw (Qc3 K rfl) (Qb2 K) tx.n_len Qbx (Qc (Qe 0) Qh)) Qo) (Qgr (t_gt (Qcw (Qc3 K rfl) (Qb2 K) tx.n_len Qbx (Qc (Qe 0) Qh)) (Qz5 tx.m_MOST_ROWS)))))) (Q3 (Qaq Qin)) Qc4)
  (Q3 (Qaq (Qcw (Qlx K rfl) (Qio K) tx.n_all Qir (Qc (Qbl ["row","thing"] [none,some 0] rfl (Qci rfl (Qe 0)) (fun _ _ _=>(Qag (Qae (i:=0) (show List.Nodup (["row","thing"]:List PySem.Str) by decide +kernel)))) (fun _ _ _=>Qbd) (fun _ _ _=>(Qz (hc 1 Qm0 rfl) Qn hr (Qc (Qe 0) (Qc (Qcw (Qc3 K rfl) (Qb2 K) tx.n_len Qbx (Qc (Qe 1) Qh)) Qh))))) Qh)))))
theorem Qpt (tx:Txt K mg):Qat P w K mg base ds Qge:=fun cf n R f cdv A outer s H E hc h1 co pz hr =>
 (Qx (Qmg (Qbi (i:=1) Qfj.nd (Qft Qh)))
  (Qx (Qig rfl (Qci rfl (Qe 0)) (Qag (Qae (i:=2) Qfj.nd)) (Q3 (Qab1 (Qkb (Qs1 K rfl PySem.F.plainAttrs_list PySem.F.slot_list_extend PySem.F.type_list_extend (Qwb K rfl) (Qce 1) (Q7 (Qe 2) Qbz))))))
  (Q3 (Qaq (Qe 1)))))
theorem Qpu (tx:Txt K mg):Qat P w K mg base ds Qgf:=fun cf n R f cdv A outer s H E hc h1 co pz hr =>
 (Q3 (Qaq (Qcw (Qlx K rfl) (Qio K) tx.n_all Qir (Qc (Qbl ["number"] [none] rfl (Qci rfl (Qz (hc 3 Qge rfl) pz hr (Qc (Qe 0) Qh))) (fun _ _ _=>(Qag (Qae (i:=0) (show List.Nodup (["number"]:List PySem.Str) by decide +kernel)))) (fun _ _ _=>Qbd) (fun _ _ _=>(g_lt (Qcw Q4t Qzu tx.n_abs Q0n (Qc (Qe 0) Qh)) (Qrb Qo Qo)))) Qh))))
theorem Qtw (tx:Txt K mg):Qat P w K mg base ds Qiu:=fun cf n R f cdv A outer s H E hc h1 co pz hr =>
 (Qx (Qek (t_w (Qjd (Qeb (Qcj (Qha tx.n_isinstance Qs (Qe 0) (Qk4 "list" tx.n_list Qjt)))) (Qjd (Q3h (Qcw (Qc3 K rfl) (Qb2 K) tx.n_len Qbx (Qc (Qe 0) Qh)) Qo) (Qgr (t_gt (Qcw (Qc3 K rfl) (Qb2 K) tx.n_len Qbx (Qc (Qe 0) Qh)) (Qz5 tx.m_MOST_TABLES)))))) (Q3 (Qaq (Qn9 Qo))) Qc4)
  (Qx (Qig rfl (Qdp tx.n_range (Qcw (Qc3 K rfl) (Qb2 K) tx.n_len Qbx (Qc (Qe 0) Qh))) (Qag (Qae (i:=2) Qk0.nd)) (Qx (Qek (t_w (Qjd (Qeb (Qcj (Qz (hc 2 Qfx rfl) Qn hr (Qc (Qew rfl (Qe 0) (Qe 2)) Qh)))) (Qgr (Qnb hr.units (Qcw (Qc3 K rfl) (Qb2 K) tx.n_len Qbx (Qc (Qew rfl (Qe 0) (Qe 2)) Qh)) (Qcw (Qc3 K rfl) (Qb2 K) tx.n_len Qbx (Qc (Qew rfl (Qe 0) Qo) Qh)))))) (Q3 (Qaq (Qe 2))) Qc4)
  (Q3 (Qek (t_w (Qabq (Qcj (Qe 1)) (Qgr (Qeb (Qcj (Qz (hc 4 Qgf rfl) Qn hr (Qc (Qew rfl (Qe 0) (Qe 2)) Qh))))))) (Q3 (Qaq (Qe 2))) Qc4))))
  (Q3 (Qaq Qn7))))
theorem Qpv (tx:Txt K mg):Qat P w K mg base ds Qgh:=fun cf n R f cdv A outer s H E hc h1 co pz hr =>
 (Q3 (Qek (Qeb (Qcj (Qz (hc 2 Qfx rfl) pz hr (Qc (Qe 0) Qh)))) (Q3 (Qmj 0 pz rfl tx.ex rfl (by decide) (Qc Ql6 Qh))) Qc4))
theorem Qno (tx:Txt K mg):Qat P w K mg base ds Qfl:=fun cf n R f cdv A outer s H E hc h1 co pz hr =>
 (Qx (Qbo (Qbi (i:=1) Qhe.nd (Qz (hc 5 Qiu rfl) pz hr (Qc (Qe 0) (Qc Qin Qh)))))
  (Q3 (Qek (Q74 (Qe 1) Qn7) (Q3 (Q0b 6 pz rfl tx.ex tx.i_NoTables hr rfl (by decide) (Qc (Qe 1) Qh))) Qc4)))
theorem Qr5 (tx:Txt K mg):Qat P w K mg base ds Qhl:=fun cf n R f cdv A outer s H E hc h1 co pz hr =>
 (Q3 (Qaq (Qdi (Qb4 K rfl) (Qc6 K) tx.n_tuple Qa0 (Qc (Qbl ["row","at"] [none,some 1] rfl (Qci rfl (Qe 0)) (fun _ _ _=>(Qag (Qae (i:=0) (show List.Nodup (["row","at"]:List PySem.Str) by decide +kernel)))) (fun _ _ _=>Qbd) (fun _ _ _=>(Qew rfl (Qe 0) (Qe 1)))) Qh))))
theorem Qpw (tx:Txt K mg):Qat P w K mg base ds Qgj:=fun cf n R f cdv A outer s H E hc h1 co pz hr =>
 (Q3 (Qaq (Qdi (Qb4 K rfl) (Qc6 K) tx.n_tuple Qa0 (Qc (Qbl ["at","table"] [none,some 0] rfl (Qdp tx.n_range (Qcw (Qc3 K rfl) (Qb2 K) tx.n_len Qbx (Qc (Qe 0) Qh))) (fun _ _ _=>(Qag (Qae (i:=0) (show List.Nodup (["at","table"]:List PySem.Str) by decide +kernel)))) (fun _ _ _=>Qbd) (fun _ _ _=>(Qz (hc 8 Qhl rfl) Qn hr (Qc (Qe 1) (Qc (Qe 0) Qh))))) Qh))))
theorem Qiy (tx:Txt K mg):Qat P w K mg base ds Qde:=fun cf n R f cdv A outer s H E hc h1 co pz hr =>
 (Q3 (Qaq (Qcw (Q4r K rfl) (Qzv K) tx.n_sum Q0o (Qc (Qbl ["k","row","column"] [none,some 0,some 1] rfl (Qdp tx.n_range (Qcw (Qc3 K rfl) (Qb2 K) tx.n_len Qbx (Qc (Qe 0) Qh))) (fun _ _ _=>(Qag (Qae (i:=0) (show List.Nodup (["k","row","column"]:List PySem.Str) by decide +kernel)))) (fun _ _ _=>Qbd) (fun _ _ _=>(Qfu (Qew rfl (Qe 1) (Qe 0)) (Qew rfl (Qe 2) (Qe 0))))) Qh))))
theorem Qh9 (tx:Txt K mg):Qat P w K mg base ds Qc8:=fun cf n R f cdv A outer s H E hc h1 co pz hr =>
 (Q3 (Qaq (Qdi (Qb4 K rfl) (Qc6 K) tx.n_tuple Qa0 (Qc (Qbl ["column","row"] [none,some 0] rfl (Qci rfl (Qe 1)) (fun _ _ _=>(Qag (Qae (i:=0) (show List.Nodup (["column","row"]:List PySem.Str) by decide +kernel)))) (fun _ _ _=>Qbd) (fun _ _ _=>(Qz (hc 10 Qde rfl) Qn hr (Qc (Qe 1) (Qc (Qe 0) Qh))))) Qh))))
theorem Q3t (tx:Txt K mg):Qat P w K mg base ds Qlj:=fun cf n R f cdv A outer s H E hc h1 co pz hr =>
 (Qx (Qbo (Qbi (i:=2) Qru.nd (Qz (hc 9 Qgj rfl) pz hr (Qc (Qe 1) Qh))))
  (Q3 (Qaq (Qdi (Qb4 K rfl) (Qc6 K) tx.n_tuple Qa0 (Qc (Qbl ["row","columns"] [none,some 2] rfl (Qci rfl (Qe 0)) (fun _ _ _=>(Qag (Qae (i:=0) (show List.Nodup (["row","columns"]:List PySem.Str) by decide +kernel)))) (fun _ _ _=>Qbd) (fun _ _ _=>(Qz (hc 11 Qc8 rfl) Qn hr (Qc (Qe 0) (Qc (Qe 1) Qh))))) Qh)))))
theorem Qkq (tx:Txt K mg):Qat P w K mg base ds Qc0:=fun cf n R f cdv A outer s H E hc h1 co pz hr =>
 (Q3 (Qaq (Qbl ["row","at"] [none,some 1] rfl (Qci rfl (Qe 0)) (fun _ _ _=>(Qag (Qae (i:=0) (show List.Nodup (["row","at"]:List PySem.Str) by decide +kernel)))) (fun _ _ _=>Qbd) (fun _ _ _=>(Qev rfl (Qrc rfl (Qe 0) Qjf (Qjg (Qe 1))) (Qrc rfl (Qe 0) (Qjg (Qev rfl (Qe 1) Qo)) Qjf))))))
theorem Qkr (tx:Txt K mg):Qat P w K mg base ds Qb9:=fun cf n R f cdv A outer s H E hc h1 co pz hr =>
 (Qx (Qek (Qz6 hr.units (Qcw (Qc3 K rfl) (Qb2 K) tx.n_len Qbx (Qc (Qe 0) Qh)) Qo) (Q3 (Qaq Qo)) Qc4)
  (Qx (Qbo (Qbi (i:=1) Qbj.nd Qo))
  (Qx (Qbo (Qbi (i:=2) Qbj.nd Qo))
  (Qx (Qig rfl (Qdp tx.n_range (Qcw (Qc3 K rfl) (Qb2 K) tx.n_len Qbx (Qc (Qe 0) Qh))) (Qag (Qae (i:=3) Qbj.nd)) (Qx (Qbo (Qbi (i:=1) Qbj.nd (Qev rfl (Qe 1) (Qfu (Qfu (Qe 2) (Qew rfl (Qew rfl (Qe 0) Qo) (Qe 3))) (Qz (hc 14 Qb9 rfl) Qn hr (Qc (Qz (hc 13 Qc0 rfl) Qn hr (Qc (Qrc rfl (Qe 0) (Qjg Qo) Qjf) (Qc (Qe 3) Qh))) Qh))))))
  (Q3 (Qbo (Qbi (i:=2) Qbj.nd (Qn9 (Qe 2)))))))
  (Q3 (Qaq (Qe 1)))))))
theorem Qnp (tx:Txt K mg):Qat P w K mg base ds Qfn:=fun cf n R f cdv A outer s H E hc h1 co pz hr =>
 (Qx (Qbo (Qbi (i:=3) Qhh.nd (Qz (hc 14 Qb9 rfl) pz hr (Qc (Qz (hc 13 Qc0 rfl) pz hr (Qc (Qev rfl (Qrc rfl (Qe 0) Qjf (Qjg (Qe 1))) (Qrc rfl (Qe 0) (Qjg (Qev rfl (Qe 1) Qo)) Qjf)) (Qc (Qe 2) Qh))) Qh))))
  (Q3 (Qaq (Qabo (Qz6 hr.units (Qmi (Qev rfl (Qe 1) (Qe 2)) Qo) Qo) (Qe 3) (Qn9 (Qe 3))))))
theorem Q0r (tx:Txt K mg):Qat P w K mg base ds Qju:=fun cf n R f cdv A outer s H E hc h1 co pz hr =>
 (Qx (Qz7 (Qz (hc 6 Qgh rfl) pz hr (Qc (Qe 0) Qh)))
  (Qx (Qbo (Qbi (i:=1) Qkj.nd (Qz (hc 14 Qb9 rfl) pz hr (Qc (Qe 0) Qh))))
  (Qx (Qek (Qnb hr.units (Qcw Q4t Qzu tx.n_abs Q0n (Qc (Qe 1) Qh)) Qo) (Q3 (Qaq Qn7)) Qc4)
  (Qx (Qbo (Qbi (i:=2) Qkj.nd (Qcw (Qc3 K rfl) (Qb2 K) tx.n_len Qbx (Qc (Qe 0) Qh))))
  (Q3 (Qaq (Qdi (Qb4 K rfl) (Qc6 K) tx.n_tuple Qa0 (Qc (Qbl ["i","sign","table","size"] [none,some 1,some 0,some 2] rfl (Qdp tx.n_range (Qe 2)) (fun _ _ _=>(Qag (Qae (i:=0) (show List.Nodup (["i","sign","table","size"]:List PySem.Str) by decide +kernel)))) (fun _ _ _=>Qbd) (fun _ _ _=>(Qdi (Qb4 K rfl) (Qc6 K) tx.n_tuple Qa0 (Qc (Qbl ["j","sign","table","i"] [none,some 1,some 2,some 0] rfl (Qdp tx.n_range (Qe 3)) (fun _ _ _=>(Qag (Qae (i:=0) (show List.Nodup (["j","sign","table","i"]:List PySem.Str) by decide +kernel)))) (fun _ _ _=>Qbd) (fun _ _ _=>(Qfu (Qe 1) (Qz (hc 15 Qfn rfl) Qn hr (Qc (Qe 2) (Qc (Qe 0) (Qc (Qe 3) Qh))))))) Qh)))) Qh))))))))
theorem Qw8 (tx:Txt K mg):Qat P w K mg base ds Qh0:=fun cf n R f cdv A outer s H E hc h1 co pz hr =>
 (Qx (Qz7 (Qz (hc 7 Qfl rfl) pz hr (Qc (Qe 0) Qh)))
  (Qx (Qek (t_w (Qjd (Qeb (Qcj (Qz (hc 2 Qfx rfl) pz hr (Qc (Qe 1) Qh)))) (Qgr (Qnb hr.units (Qcw (Qc3 K rfl) (Qb2 K) tx.n_len Qbx (Qc (Qe 1) Qh)) (Qcw (Qc3 K rfl) (Qb2 K) tx.n_len Qbx (Qc (Qew rfl (Qe 0) Qo) Qh)))))) (Q3 (Qmj 0 pz rfl tx.ex rfl (by decide) (Qc Ql6 Qh))) Qc4)
  (Qx (Qbo (Qbi (i:=2) Qmv.nd (Qz (hc 16 Qju rfl) pz hr (Qc (Qe 1) Qh))))
  (Qx (Qek (Qab6 (Qe 2) Qn7) (Q3 (Qmj 0 pz rfl tx.ex rfl (by decide) (Qc Ql6 Qh))) Qc4)
  (Q3 (Qaq (Qbl ["table","by","back"] [none,some 1,some 2] rfl (Qci rfl (Qe 0)) (fun _ _ _=>(Qag (Qae (i:=0) (show List.Nodup (["table","by","back"]:List PySem.Str) by decide +kernel)))) (fun _ _ _=>Qbd) (fun _ _ _=>(Qz (hc 12 Qlj rfl) Qn hr (Qc (Qz (hc 12 Qlj rfl) Qn hr (Qc (Qe 2) (Qc (Qe 0) Qh))) (Qc (Qe 1) Qh)))))))))))
theorem Qw9 (tx:Txt K mg):Qat P w K mg base ds Qkn:=fun cf n R f cdv A outer s H E hc h1 co pz hr =>
 (Qx (Qbo (Qbi (i:=1) Qmw.nd (Qcw (Q7u K rfl rfl) (Q7v K) tx.n_max Q8i (Qc (Qe 0) (Qc (Qoj Qo (Qe 0)) Qh)))))
  (Q3 (Qaq (Qft (Qc (Qe 1) (Qc (Qdi Qyt Qzw tx.n_int Qpn (Qc (g_ge (Qe 1) (Qrb Qo Qo)) Qh)) Qh))))))
theorem Qtx (tx:Txt K mg):Qat P w K mg base ds Qa5:=fun cf n R f cdv A outer s H E hc h1 co pz hr =>
 (Qx (Qek (Qz6 hr.units (Qew rfl (Qe 0) Qo) Qo) (Qx (Qab0 (Qnz (Qcw Qaau Q7w tx.n_divmod Qw6 (Qc (Qew rfl (Qe 0) Qo) (Qc (Qe 1) Qh))) (Qmd (is:=[2,3]) (Qj9 K rfl rfl (Qda (Qae (i:=2) Qed.nd) (Qda (Qae (i:=3) Qed.nd) Qj8))) rfl)))
  (Qx (Qu0 (Qnz (Qe 2) (Qka (Qce 0) Qo)))
  (Q3 (Qaq (Qe 3))))) Qc4)
  (Qx (Qbo (Qbi (i:=4) Qed.nd (Qmi (Qfu (Qev rfl (Qmi (Qew rfl (Qe 0) Qo) Qo) Qo) Qo) Qo)))
  (Qx (Qbo (Qbi (i:=4) Qed.nd (Qmi (Qev rfl (Qfu (Qe 4) (Qe 4)) Qo) Qo)))
  (Qx (Qu0 (Qnz (Qmi (Qev rfl (Qfu (Qe 4) Qo) Qo) Qo) (Qka (Qce 0) Qo)))
  (Q3 (Qaq (Qmi (Qab4 (Qew rfl (Qe 0) Qo) Qo) (Qe 1))))))))
theorem Qr6 (tx:Txt K mg):Qat P w K mg base ds Qhm:=fun cf n R f cdv A outer s H E hc h1 co pz hr =>
 (Q3 (Qaq (Q43 (Qha tx.n_isinstance Qs (Qe 0) (Qk4 "int" tx.n_int Qpn)) (Q44 (Q42 (Qha tx.n_isinstance Qs (Qe 0) (Qk4 "bool" tx.n_bool Qva)))))))
theorem Qxa (tx:Txt K mg):Qat P w K mg base ds Qkp:=fun cf n R f cdv A outer s H E hc h1 co pz hr =>
 (Qx (Qbo (Qbi (i:=1) Qmx.nd (Qft (Qc Qn7 (Qc Qin (Qc Qin (Qc (Qn9 Qo) (Qc Ql6 (Qc Ql6 (Qc (Qcm Qh) (Qc (Qft Qh) (Qc (Qcm (Qc Qo Qh)) (Qc (Qft (Qc Qo Qh)) (Qc (Qab3 (Q2n Qaag)) (Qc (Qcm (Qc Qo (Qc Qo Qh))) (Qc (Qrb Qo Qo) (Qc (Qcm (Qc (Qcm (Qc Qo Qh)) Qh)) (Qc (Qcm (Qc Ql6 Qh)) Qh))))))))))))))))))
  (Q3 (Qaq (Qew rfl (Qev rfl (Qe 1) (Qft (Qc (Qcm (Qc Qin Qh)) Qh))) (Qz (hc 19 Qa5 rfl) pz hr (Qc (Qe 0) (Qc Qo Qh)))))))
theorem Qpx (tx:Txt K mg):Qat P w K mg base ds Qgl:=fun cf n R f cdv A outer s H E hc h1 co pz hr =>
 (Qx (Qbo (Qbi (i:=3) Qb3.nd (Qev rfl Qo (Qz (hc 19 Qa5 rfl) pz hr (Qc (Qe 0) (Qc (Qe 2) Qh))))))
  (Qx (Qbo (Qbi (i:=4) Qb3.nd (Qz (hc 19 Qa5 rfl) pz hr (Qc (Qe 0) (Qc Qo Qh)))))
  (Qx (Qmg (Qbi (i:=5) Qb3.nd (Qft Qh)))
  (Qx (Qig rfl (Qdp tx.n_range (Qe 3)) (Qag (Qae (i:=6) Qb3.nd)) (Qx (Qmg (Qbi (i:=7) Qb3.nd (Qft Qh)))
  (Qx (Qig rfl (Qdp tx.n_range (Qe 1)) (Qag (Qae (i:=8) Qb3.nd)) (Q3 (Quz (Qkb (Qs1 K rfl PySem.F.plainAttrs_list PySem.F.slot_list_append PySem.F.type_list_append Qja (Qce 7) (Q7 (Qdi (Qb4 K rfl) (Qc6 K) tx.n_tuple Qa0 (Qc (Qbl ["_law_j","_law_pen_here","_law_kind_here"] [none,some 0,some 4] rfl (Qdp tx.n_range (Qe 1)) (fun _ _ _=>(Qag (Qae (i:=0) (show List.Nodup (["_law_j","_law_pen_here","_law_kind_here"]:List PySem.Str) by decide +kernel)))) (fun _ _ _=>Qbd) (fun _ _ _=>(Qz (hc 23 Qgm rfl) Qn hr (Qc (Qe 1) (Qc (Qe 2) Qh))))) Qh)) Qbz))))))
  (Q3 (Quz (Qkb (Qs1 K rfl PySem.F.plainAttrs_list PySem.F.slot_list_append PySem.F.type_list_append Qja (Qce 5) (Q7 (Qdi (Qb4 K rfl) (Qc6 K) tx.n_tuple Qa0 (Qc (Qe 7) Qh)) Qbz))))))))
  (Q3 (Qaq (Qe 5)))))))
theorem Qpy (tx:Txt K mg):Qat P w K mg base ds Qgm:=fun cf n R f cdv A outer s H E hc h1 co pz hr =>
 (Qx (Qek (Q3h (Qe 1) Qo) (Q3 (Qaq (Qew rfl (Qft (Qc Qo (Qc Qo (Qc Qo (Qc Qo (Qc Qo (Qc (Qn9 Qo) Qh))))))) (Qz (hc 19 Qa5 rfl) pz hr (Qc (Qe 0) (Qc Qo Qh)))))) Qc4)
  (Qx (Qek (Q3h (Qe 1) Qo) (Q3 (Qaq (Qoj (Qz (hc 19 Qa5 rfl) pz hr (Qc (Qe 0) (Qc Qo Qh))) Qo))) Qc4)
  (Q3 (Qaq (Qev rfl (Qoj (Qz (hc 19 Qa5 rfl) pz hr (Qc (Qe 0) (Qc (Qoj (Qfu Qo (Qrb Qo Qo)) Qo) Qh))) (Qrb Qo Qo)) Qo)))))
theorem Qr7 (tx:Txt K mg):Qat P w K mg base ds Qfd:=fun cf n R f cdv A outer s H E hc h1 co pz hr =>
 (Qx (Qmg (Qbi (i:=2) Qga.nd (Qft Qh)))
  (Qx (Qig rfl (Qci rfl (Qe 0)) (Qag (Qae (i:=3) Qga.nd)) (Q3 (Quz (Qkb (Qs1 K rfl PySem.F.plainAttrs_list PySem.F.slot_list_append PySem.F.type_list_append Qja (Qce 2) (Q7 (Qdi (Qb4 K rfl) (Qc6 K) tx.n_tuple Qa0 (Qc (Qbl ["_law_j","_law_row","_law_other"] [none,some 3,some 1] rfl (Qdp tx.n_range (Qcw (Qc3 K rfl) (Qb2 K) tx.n_len Qbx (Qc (Qe 1) Qh))) (fun _ _ _=>(Qag (Qae (i:=0) (show List.Nodup (["_law_j","_law_row","_law_other"]:List PySem.Str) by decide +kernel)))) (fun _ _ _=>Qbd) (fun _ _ _=>(Qcw (Q4r K rfl) (Qzv K) tx.n_sum Q0o (Qc (Qbl ["_law_a","_law_line","_law_j"] [none,none,some 0] rfl (Qu2 rfl tx.n_zip Qpo (Qe 1) (Qe 2)) (fun _ _ _=>(Qmd (is:=[0,1]) (Qj9 K rfl rfl (Qda (Qae (i:=0) (show List.Nodup (["_law_a","_law_line","_law_j"]:List PySem.Str) by decide +kernel)) (Qda (Qae (i:=1) (show List.Nodup (["_law_a","_law_line","_law_j"]:List PySem.Str) by decide +kernel)) Qj8))) rfl)) (fun _ _ _=>Qbd) (fun _ _ _=>(Qfu (Qe 0) (Qew rfl (Qe 1) (Qe 2))))) Qh)))) Qh)) Qbz))))))
  (Q3 (Qaq (Qdi (Qb4 K rfl) (Qc6 K) tx.n_tuple Qa0 (Qc (Qe 2) Qh))))))
theorem Qm2 (tx:Txt K mg):Qat P w K mg base ds Qdu:=fun cf n R f cdv A outer s H E hc h1 co pz hr =>
 (Qx (Qek (t_w (Qjd (Qeb (Qcj (Qha tx.n_isinstance Qs (Qe 0) (Qk4 "tuple" tx.n_tuple Qa0)))) (Qjd (Qnb hr.units (Qe 0) (Qe 1)) (Qgr (Qeb (Qcj (Qcw (Qlx K rfl) (Qio K) tx.n_all Qir (Qc (Qbl ["_law_row"] [none] rfl (Qci rfl (Qe 0)) (fun _ _ _=>(Qag (Qae (i:=0) (show List.Nodup (["_law_row"]:List PySem.Str) by decide +kernel)))) (fun _ _ _=>Qbd) (fun _ _ _=>(Qha tx.n_isinstance Qs (Qe 0) (Qk4 "tuple" tx.n_tuple Qa0)))) Qh)))))))) (Q3 (Qaq Qin)) Qc4)
  (Q3 (Qaq (Qcw (Qlx K rfl) (Qio K) tx.n_all Qir (Qc (Qbl ["_law_row"] [none] rfl (Qci rfl (Qe 0)) (fun _ _ _=>(Qag (Qae (i:=0) (show List.Nodup (["_law_row"]:List PySem.Str) by decide +kernel)))) (fun _ _ _=>Qbd) (fun _ _ _=>(Qcw (Qlx K rfl) (Qio K) tx.n_all Qir (Qc (Qbl ["_law_one"] [none] rfl (Qci rfl (Qe 0)) (fun _ _ _=>(Qag (Qae (i:=0) (show List.Nodup (["_law_one"]:List PySem.Str) by decide +kernel)))) (fun _ _ _=>Qbd) (fun _ _ _=>(Qz (hc 20 Qhm rfl) Qn hr (Qc (Qe 0) Qh)))) Qh)))) Qh)))))
theorem Qnq (tx:Txt K mg):Qat P w K mg base ds Qfp:=fun cf n R f cdv A outer s H E hc h1 co pz hr =>
 (Qx (Qek (t_w (Qjd (Qeb (Qcj (Qha tx.n_isinstance Qs (Qe 0) (Qk4 "list" tx.n_list Qjt)))) (Qgr (Qnb hr.units (Qcw (Qc3 K rfl) (Qb2 K) tx.n_len Qbx (Qc (Qe 0) Qh)) (Qcw (Qc3 K rfl) (Qb2 K) tx.n_len Qbx (Qc (Qe 1) Qh)))))) (Q3 (Qaq Qin)) Qc4)
  (Q3 (Qaq (Qcw (Qlx K rfl) (Qio K) tx.n_all Qir (Qc (Qbl ["_law_one","_law_other"] [none,none] rfl (Qu2 rfl tx.n_zip Qpo (Qe 0) (Qe 1)) (fun _ _ _=>(Qmd (is:=[0,1]) (Qj9 K rfl rfl (Qda (Qae (i:=0) (show List.Nodup (["_law_one","_law_other"]:List PySem.Str) by decide +kernel)) (Qda (Qae (i:=1) (show List.Nodup (["_law_one","_law_other"]:List PySem.Str) by decide +kernel)) Qj8))) rfl)) (fun _ _ _=>Qbd) (fun _ _ _=>(Qz (hc 25 Qdu rfl) Qn hr (Qc (Qe 0) (Qc (Qe 1) Qh))))) Qh)))))
theorem Qty (tx:Txt K mg):Qat P w K mg base ds Qdz:=fun cf n R f cdv A outer s H E hc h1 co pz hr =>
 (Q3 (Qaq (Qdi (Qb4 K rfl) (Qc6 K) tx.n_tuple Qa0 (Qc (Qbl ["_law_i","_law_size"] [none,some 0] rfl (Qdp tx.n_range (Qe 0)) (fun _ _ _=>(Qag (Qae (i:=0) (show List.Nodup (["_law_i","_law_size"]:List PySem.Str) by decide +kernel)))) (fun _ _ _=>Qbd) (fun _ _ _=>(Qdi (Qb4 K rfl) (Qc6 K) tx.n_tuple Qa0 (Qc (Qbl ["_law_j","_law_i"] [none,some 0] rfl (Qdp tx.n_range (Qe 1)) (fun _ _ _=>(Qag (Qae (i:=0) (show List.Nodup (["_law_j","_law_i"]:List PySem.Str) by decide +kernel)))) (fun _ _ _=>Qbd) (fun _ _ _=>(Qdi Qyt Qzw tx.n_int Qpn (Qc (g_eq hr.units (Qe 1) (Qe 0)) Qh)))) Qh)))) Qh))))
theorem Qtz (tx:Txt K mg):Qat P w K mg base ds Qix:=fun cf n R f cdv A outer s H E hc h1 co pz hr =>
 (Qx (Qmg (Q75 ["_law_row"] [none] rfl (Qci rfl (Qz (hc 27 Qdz rfl) pz hr (Qc (Qe 1) Qh))) (fun _ _ _=>(Qag (Qae (i:=0) (show List.Nodup (["_law_row"]:List PySem.Str) by decide +kernel)))) (fun _ _ _=>Qbd) (fun _ _ _=>(Qdi (Qyu K rfl) (Quu K) tx.n_list Qjt (Qc (Qe 0) Qh))) (Qae (i:=2) Qcu.nd)))
  (Qx (Qig rfl (Qdp tx.n_range (Qz (hc 19 Qa5 rfl) Qn hr (Qc (Qe 0) (Qc Qo Qh)))) (Qag (Qae (i:=3) Qcu.nd)) (Qx (Qbo (Qbi (i:=4) Qcu.nd (Qz (hc 19 Qa5 rfl) Qn hr (Qc (Qe 0) (Qc (Qe 1) Qh)))))
  (Qx (Qbo (Qbi (i:=5) Qcu.nd (Qz (hc 19 Qa5 rfl) Qn hr (Qc (Qe 0) (Qc (Qe 1) Qh)))))
  (Qx (Qbo (Qbi (i:=6) Qcu.nd (Qz (hc 19 Qa5 rfl) Qn hr (Qc (Qe 0) (Qc Qo Qh)))))
  (Q3 (Qek (Qz6 hr.units (Qe 6) Qo) (Q3 (Qu0 (Qnz (Qbl ["_law_number_here"] [none] rfl (Qci rfl (Qew rfl (Qe 2) (Qe 4))) (fun _ _ _=>(Qag (Qae (i:=0) (show List.Nodup (["_law_number_here"]:List PySem.Str) by decide +kernel)))) (fun _ _ _=>Qbd) (fun _ _ _=>(Qoj Qo (Qe 0)))) (Qka (Qce 2) (Qe 4))))) (Q3 (Qek (Qz6 hr.units (Qe 6) Qo) (Q3 (Qab7 (K:=K) (Qnz (Qcm (Qc (Qew rfl (Qe 2) (Qe 5)) (Qc (Qew rfl (Qe 2) (Qe 4)) Qh))) (Qj9 K rfl rfl (Qda (Qka (Qce 2) (Qce 4)) (Qda (Qka (Qce 2) (Qce 5)) Qj8)))))) (Q3 (Qek (Qnb hr.units (Qe 4) (Qe 5)) (Qx (Qbo (Qbi (i:=7) Qcu.nd (Qoj (Qz (hc 19 Qa5 rfl) Qn hr (Qc (Qe 0) (Qc Qo Qh))) Qo)))
  (Q3 (Qu0 (Qnz (Qbl ["_law_a","_law_b","_law_often"] [none,none,some 7] rfl (Qu2 rfl tx.n_zip Qpo (Qew rfl (Qe 2) (Qe 4)) (Qew rfl (Qe 2) (Qe 5))) (fun _ _ _=>(Qmd (is:=[0,1]) (Qj9 K rfl rfl (Qda (Qae (i:=0) (show List.Nodup (["_law_a","_law_b","_law_often"]:List PySem.Str) by decide +kernel)) (Qda (Qae (i:=1) (show List.Nodup (["_law_a","_law_b","_law_often"]:List PySem.Str) by decide +kernel)) Qj8))) rfl)) (fun _ _ _=>Qbd) (fun _ _ _=>(Qev rfl (Qe 0) (Qfu (Qe 2) (Qe 1))))) (Qka (Qce 2) (Qe 4)))))) Qc4))))))))))
  (Q3 (Qaq (Qdi (Qb4 K rfl) (Qc6 K) tx.n_tuple Qa0 (Qc (Q3l (K:=K) ["_law_row"] [none] rfl (Qyr K rfl (Qce 2)) (fun _ _ _=>(Qag (Qae (i:=0) (show List.Nodup (["_law_row"]:List PySem.Str) by decide +kernel)))) (fun _ _ _=>Qbd) (fun _ _ _=>(Qdi (Qb4 K rfl) (Qc6 K) tx.n_tuple Qa0 (Qc (Qe 0) Qh)))) Qh))))))
theorem Qt0 (tx:Txt K mg):Qat P w K mg base ds Qgn:=fun cf n R f cdv A outer s H E hc h1 co pz hr =>
 (Q3 (Q78 (i:=2) tx.ex (fun pins R' pz'=>(Q3 (Qaq (Qz (hc 17 Qh0 rfl) pz' hr (Qc (Qe 0) (Qc (Qe 1) Qh)))))) (fun pins e=>Q3s (Qps tx.k_kind tx) ((hr.mono h1).mark _) (Qce 2)) Qk1.nd))
theorem Qr8 (tx:Txt K mg):Qat P w K mg base ds Qdj:=fun cf n R f cdv A outer s H E hc h1 co pz hr =>
 (Qx (Qig rfl (Qdp tx.n_range Qo) (Qag (Qae (i:=2) Qdt.nd)) (Qx (Qmg (Qbi (i:=3) Qdt.nd (Qz (hc 29 Qgn rfl) Qn hr (Qc (Qe 0) (Qc (Qe 1) Qh)))))
  (Qx (Qtj (i:=3) (Qek (t_w (Qjd (Qeb (Qcj (Qha tx.n_isinstance Qs (Qe 3) (Qk4 "list" tx.n_list Qjt)))) (Qgr (Qnb hr.units (Qcw (Qc3 K rfl) (Qb2 K) tx.n_len Qbx (Qc (Qe 3) Qh)) (Qcw (Qc3 K rfl) (Qb2 K) tx.n_len Qbx (Qc (Qe 0) Qh)))))) (Q3 (Qaq Qin)) Qc4))
  (Qx (Qtj (i:=3) (Qig rfl (Qu2 rfl tx.n_zip Qpo (Qe 3) (Qe 0)) (Qmd (is:=[4,5]) (Qj9 K rfl rfl (Qda (Qae (i:=4) Qdt.nd) (Qda (Qae (i:=5) Qdt.nd) Qj8))) rfl) (Q3 (Qek (t_w (Qjd (Qeb (Qcj (Qz (hc 25 Qdu rfl) Qn hr (Qc (Qe 4) (Qc (Qe 4) Qh))))) (Qgr (Qnb hr.units (Qz (hc 24 Qfd rfl) Qn hr (Qc (Qe 1) (Qc (Qe 4) Qh))) (Qz (hc 24 Qfd rfl) Qn hr (Qc (Qe 5) (Qc (Qe 1) Qh))))))) (Q3 (Qaq Qin)) Qc4))))
  (Qx (Qtj (i:=3) (Qek (Qeb (Qcj (Qz (hc 26 Qfp rfl) Qn hr (Qc (Qz (hc 17 Qh0 rfl) Qn hr (Qc (Qe 3) (Qc (Qz (hc 16 Qju rfl) Qn hr (Qc (Qe 1) Qh)) Qh))) (Qc (Qe 0) Qh))))) (Q3 (Qaq Qin)) Qc4))
  (Q3 (Quz (Qkb (Qs1 K rfl PySem.F.plainAttrs_list PySem.F.slot_list_append PySem.F.type_list_append Qja (Qce 3) (Q7 (Qcm Qh) Qbz))))))))))
  (Q3 (Qaq Qin)))
theorem Qpz (d:Dfn K mg "_law_cell" Qex) (tx:Txt K mg):Has P w K mg base "_law_cell" ["_law_script","_law_k"] 1 (Qmk K):=by
 refine Qaav (k:=0) d Qrv Qrw (fun vs H Q E h=>?_) (fun f cdv A outer s H vs Q E hr h=>?_)
 ·obtain ⟨a,ns,k,rfl,_⟩:=h
  rfl
 ·obtain ⟨a,ns,k,rfl,hs,q⟩:=h
  refine ⟨_,(Qei (Qui (Qs0 Q6w (Qce 1) (Qi9 (Qc3 K rfl) tx.n_len Qbx (Q7 (Qce 0) Qbz)) (Qxy _)) (Qij (Qlw (Q6u (Q6y K rfl) (Qce 0) (Qce 1)))) Qo5)
   (Qij (Qlw Qny))),?_⟩
  refine ⟨_,rfl,_,rfl,a,_,rfl,.inl hs,_,_,rfl,rfl,_,rfl,?_⟩
  refine ite2 (fun c=>?_) (fun c=>?_)
  ·have c:(k:Int)<(ns.map V.int).length:=by simpa using c
   have hk:k<ns.length:=by rw [length_map] at c;omega
   refine ⟨_,rfl,_,rfl,.inl ⟨a,_,_,_,rfl,rfl,hs,Qcl (v:=V.int ns[k]) ?_,q _⟩⟩
   rw [getElem?_map,getElem?_eq_getElem hk]
   rfl
  ·exact q _
noncomputable abbrev Qvd:L2.E:=(.or (.not (.call 30 (.cons (.lst (.cons (.tup (.cons (.tup (.cons (.int 7) .nil)) .nil)) .nil)) (.cons (.tup (.cons (.tup (.cons (.neg (.int 1)) .nil)) .nil)) .nil)))) (.not (.call 30 (.cons (.lst (.cons (.tup (.cons (.tup (.cons (.int 0) (.cons (.int 1) .nil))) (.cons (.tup (.cons (.int 0) (.cons (.int 0) .nil))) .nil))) .nil)) (.cons (.tup (.cons (.tup (.cons (.int 0) (.cons (.int 1) .nil))) (.cons (.tup (.cons (.int 1) (.cons (.int 0) .nil))) .nil))) .nil)))))
noncomputable abbrev Qt1:L2.S:=(.seq (.set 2 (.call 18 (.cons (.var 1) .nil)))
 (.seq (.setF 3 (.bin .add (.int 1) (.call 19 (.cons (.var 2) (.cons (.int 4) .nil)))))
 (.seq (.setF 4 (.call 22 (.cons (.var 2) (.cons (.var 3) (.cons (.int 4) .nil)))))
 (.seq (.ite (.or (.not (.call 30 (.cons (.var 4) (.cons (.call 28 (.cons (.var 2) (.cons (.var 3) .nil))) .nil)))) (.not (.call 30 (.cons (.var 4) (.cons (.call 27 (.cons (.var 3) .nil)) .nil))))) (.ret (.bl false)) .nil)
 (.seq (.setF 5 (.call 27 (.cons (.bin .add (.int 1) (.bin .mod (.var 3) (.int 4))) .nil)))
 (.seq (.setF 6 (.bi .tup (.cons (.comp (.seq (.call 27 (.cons (.var 3) .nil))) [none] (.nm 0) .nil (.bi .tup (.cons (.comp (.seq (.var 0)) [none] (.nm 0) .nil (.bin .mul (.int 2) (.var 0))) .nil))) .nil)))
 (.for_ (.seq (.lst (.cons (.var 5) (.cons (.var 6) (.cons (.bin .mul (.tup (.cons (.bin .mul (.tup (.cons (.int 0) .nil)) (.var 3)) .nil)) (.var 3)) (.cons .non (.cons (.bi .list (.cons (.ix (.var 4) (.int 0)) .nil)) (.cons (.tup (.cons (.tup (.cons (.bl true) .nil)) .nil)) (.cons (.tup .nil) (.cons (.int 0) (.cons (.call 21 (.cons (.var 2) .nil)) .nil))))))))))) (.nm 7) (.ite (.cmp .ne (.call 29 (.cons (.var 4) (.cons (.var 7) .nil))) (.str "table")) (.ret (.bl false)) .nil))))))))
theorem Qacm (tx:Txt K mg) {cf:CF} {f:Addr} {cdv:Value} {A:Around} {outer:List Env} {s:Shared} {H:Hp} {E:XK} (hc:Qti P w K mg base ds cf 15) (h_cell:Has P w K mg base "_law_cell" ["_law_script","_law_k"] 1 (Qmk K)) (hr:Room 15 (A.deeper (PyProof.Rows.envOfC "law" (Qf Qk2) s.heap.objs.size f cdv))) :
  QB (Qh5 (fun _=>true) CX0 P w K mg base ["_law_script","_law_cell_here","_law_pen_here","_law_size","_law_tables_here","_law_other","_law_twice","_law_thing"] "law" (Qf Qk2) f cdv A outer s H E).nox (Qaj Qk2) (Q48 ⟨cf,fun _ _ _ _=>False,mg⟩ K Qvd 1 4 Qt1) :=
 Qei (Qui (t_w (Qjd (Qeb (Qcj (Qz (hc 30 Qdj rfl) Qn hr (Qc (Qft (Qc (Qcm (Qc (Qcm (Qc Qo Qh)) Qh)) Qh)) (Qc (Qcm (Qc (Qcm (Qc (Qn9 Qo) Qh)) Qh)) Qh))))) (Qgr (Qeb (Qcj (Qz (hc 30 Qdj rfl) Qn hr (Qc (Qft (Qc (Qcm (Qc (Qcm (Qc Qo (Qc Qo Qh))) (Qc (Qcm (Qc Qo (Qc Qo Qh))) Qh))) Qh)) (Qc (Qcm (Qc (Qcm (Qc Qo (Qc Qo Qh))) (Qc (Qcm (Qc Qo (Qc Qo Qh))) Qh))) Qh)))))))) Q0g Qo5)
  (Qei (Q4p PassesOwn.never rfl (Qyr K rfl (Q2l (Quj K rfl) (Qqo (Q7 (q_fn h_cell (hr.mono (by decide)) (Q7 (Qce 0) (Q7 Qny Qbz))) Qbz)) (q_sl (o_sl K rfl) (Qce 0) (Qs2 Qny) (Qs2 Qny)))) (Qae (i:=1) Qhi.nd)
   (Qx (Qmg (Qbi (i:=2) Qhi.nd (Qz (hc 18 Qkn rfl) Qn hr (Qc (Qe 1) Qh))))
  (Qx (Qbo (Qbi (i:=3) Qhi.nd (Qev rfl Qo (Qz (hc 19 Qa5 rfl) Qn hr (Qc (Qe 2) (Qc Qo Qh))))))
  (Qx (Qbo (Qbi (i:=4) Qhi.nd (Qz (hc 22 Qgl rfl) Qn hr (Qc (Qe 2) (Qc (Qe 3) (Qc Qo Qh))))))
  (Qx (Qek (t_w (Qjd (Qeb (Qcj (Qz (hc 30 Qdj rfl) Qn hr (Qc (Qe 4) (Qc (Qz (hc 28 Qix rfl) Qn hr (Qc (Qe 2) (Qc (Qe 3) Qh))) Qh))))) (Qgr (Qeb (Qcj (Qz (hc 30 Qdj rfl) Qn hr (Qc (Qe 4) (Qc (Qz (hc 27 Qdz rfl) Qn hr (Qc (Qe 3) Qh)) Qh)))))))) (Q3 (Qaq Qin)) Qc4)
  (Qx (Qbo (Qbi (i:=5) Qhi.nd (Qz (hc 27 Qdz rfl) Qn hr (Qc (Qev rfl Qo (Qmi (Qe 3) Qo)) Qh))))
  (Qx (Qbo (Qbi (i:=6) Qhi.nd (Qdi (Qb4 K rfl) (Qc6 K) tx.n_tuple Qa0 (Qc (Qbl ["_law_row"] [none] rfl (Qci rfl (Qz (hc 27 Qdz rfl) Qn hr (Qc (Qe 3) Qh))) (fun _ _ _=>(Qag (Qae (i:=0) (show List.Nodup (["_law_row"]:List PySem.Str) by decide +kernel)))) (fun _ _ _=>Qbd) (fun _ _ _=>(Qdi (Qb4 K rfl) (Qc6 K) tx.n_tuple Qa0 (Qc (Qbl ["_law_number_here"] [none] rfl (Qci rfl (Qe 0)) (fun _ _ _=>(Qag (Qae (i:=0) (show List.Nodup (["_law_number_here"]:List PySem.Str) by decide +kernel)))) (fun _ _ _=>Qbd) (fun _ _ _=>(Qfu Qo (Qe 0)))) Qh)))) Qh))))
  (Q3 (Qig rfl (Qci rfl (Qft (Qc (Qe 5) (Qc (Qe 6) (Qc (Qfu (Qcm (Qc (Qfu (Qcm (Qc Qo Qh)) (Qe 3)) Qh)) (Qe 3)) (Qc Qn7 (Qc (Qdi (Qyu K rfl) (Quu K) tx.n_list Qjt (Qc (Qew rfl (Qe 4) Qo) Qh)) (Qc (Qcm (Qc (Qcm (Qc Qin Qh)) Qh)) (Qc (Qcm Qh) (Qc Qo (Qc (Qz (hc 21 Qkp rfl) Qn hr (Qc (Qe 2) Qh)) Qh))))))))))) (Qag (Qae (i:=7) Qhi.nd)) (Q3 (Qek (Qnb hr.units (Qz (hc 29 Qgn rfl) Qn hr (Qc (Qe 4) (Qc (Qe 7) Qh))) Ql6) (Q3 (Qaq Qin)) Qc4)))))))))))
  (Qij (Qlw Q2k)))
end
end My
set_option maxHeartbeats 8000000
namespace My
noncomputable abbrev Tb:=List (List Int)
noncomputable def ge (r:List Int) (k:Nat):Int:=r.getD k 0
noncomputable def Qd0 (r c:List Int):Int:=((List.range r.length).map fun k=>ge r k*ge c k).sum
noncomputable def col (M:Tb) (j:Nat):List Int:=M.map fun l=>ge l j
noncomputable def rb (M:Tb) (r:List Int):List Int:=(List.range M.length).map fun j=>Qd0 r (col M j)
noncomputable def tms (A M:Tb):Tb:=A.map (rb M)
structure Shp (n:Nat) (M:Tb):Prop where
 len:M.length=n
 row:∀ r∈M,r.length=n
noncomputable def woc (rows:Tb) (j:Nat):Tb:=rows.map fun r=>r.take j++r.drop (j+1)
noncomputable def sg:Nat→Int
 | 0=>1
 | j+1=>-sg j
noncomputable def Qm3 (f:Nat→Int):Nat→Int
 | 0=>0
 | j+1=>Qm3 f j+f j
noncomputable def Qa1:Nat→Tb→Int
 | 0,_=>1
 | m+1,M=>Qm3 (fun j=>sg j*ge (M.headD []) j*Qa1 m (woc M.tail j)) (m+1)
noncomputable def sp (M:Tb) (r c:Nat):Int:=if (r+c)%2=0 then Qa1 (M.length-1) (woc (M.take r++M.drop (r+1)) c) else -Qa1 (M.length-1) (woc (M.take r++M.drop (r+1)) c)
noncomputable def adj (s:Int) (M:Tb):Tb:=(List.range M.length).map fun i=>(List.range M.length).map fun j=>s*sp M j i
noncomputable def sc (n:Nat) (x:Int):Tb:=(List.range n).map fun i=>(List.range n).map fun j=>if i=j then x else 0
theorem Qp0 {P:Nat→Tb→Prop} (p1:∀ a,P 1 [[a]]) (p2:∀ a b c d,P 2 [[a,b],[c,d]]) (p3:∀ a b c d e f g h i,P 3 [[a,b,c],[d,e,f],[g,h,i]])
  (p4:∀ a b c d e f g h i j k l m n o p,P 4 [[a,b,c,d],[e,f,g,h],[i,j,k,l],[m,n,o,p]]) {n:Nat} {M:Tb} (h:Shp n M) (h1:1≤n) (h4:n≤4):P n M:=by
 obtain ⟨hl,hr⟩:=h
 match n,M,hl with
 | 1,[r],_=>match r,hr r (by simp) with
  | [a],_=>exact p1 ..
 | 2,[r,s],_=>match r,s,hr r (by simp),hr s (by simp) with
  | [a,b],[c,d],_,_=>exact p2 ..
 | 3,[r,s,t],_=>match r,s,t,hr r (by simp),hr s (by simp),hr t (by simp) with
  | [a,b,c],[d,e,f],[g,h,i],_,_,_=>exact p3 ..
 | 4,[r,s,t,u],_=>match r,s,t,u,hr r (by simp),hr s (by simp),hr t (by simp),hr u (by simp) with
  | [a,b,c,d],[e,f,g,h],[i,j,k,l],[m,n,o,p],_,_,_,_=>exact p4 ..
theorem Q0s {n:Nat} {M:Tb} (h:Shp n M) (h1:1≤n) (h4:n≤4) (s:Int):tms (adj s M) M=sc n (s*Qa1 n M)∧tms M (adj s M)=sc n (s*Qa1 n M):=by
 refine Qp0 (P:=fun n M=>tms (adj s M) M=sc n (s*Qa1 n M)∧tms M (adj s M)=sc n (s*Qa1 n M)) ?_ ?_ ?_ ?_ h h1 h4 <;> intros <;> constructor <;>
  simp [tms,rb,Qd0,col,adj,sp,sc,Qa1,woc,ge,sg,Qm3,List.range,List.range.loop] <;> and_intros <;> grind
theorem Qp1 {n:Nat} {A B:Tb} (hA:Shp n A) (hB:Shp n B) (h1:1≤n) (h4:n≤4):Qa1 n (tms A B)=Qa1 n A*Qa1 n B:=by
 refine Qp0 (P:=fun n A=>∀ B,Shp n B→Qa1 n (tms A B)=Qa1 n A*Qa1 n B) ?_ ?_ ?_ ?_ hA h1 h4 B hB <;> intros <;> rename_i B hB <;>
  refine Qp0 (P:=fun m B=>m=_→Qa1 m (tms _ B)=Qa1 m _*Qa1 m B) ?_ ?_ ?_ ?_ hB (by omega) (by omega) rfl <;> intros <;> first | omega | (simp [tms,rb,Qd0,col,Qa1,woc,ge,sg,Qm3,List.range,List.range.loop] <;> grind)
theorem Qfe {n:Nat} {M:Tb} (h:Shp n M) (h1:1≤n) (h4:n≤4):tms (sc n 1) M=M∧tms M (sc n 1)=M:=by
 refine Qp0 (P:=fun n M=>tms (sc n 1) M=M∧tms M (sc n 1)=M) ?_ ?_ ?_ ?_ h h1 h4 <;> simp [tms,rb,Qd0,col,sc,ge,List.range,List.range.loop]
theorem Qve (t:Int) (f g c:Nat→Int):∀ l:List Nat,(l.map fun k=>(f k+t*g k)*c k).sum=(l.map fun k=>f k*c k).sum+t*(l.map fun k=>g k*c k).sum
 | []=>by simp
 | a::l=>by
  have:=Qve t f g c l
  simp only [map_cons,List.sum_cons,this]
  grind
noncomputable abbrev rop (t:Int):=List.zipWith fun u v=>u+t*v
theorem Q8k {n:Nat} {M:Tb} (t:Int) {a b:List Int} (ha:a.length=n) (hb:b.length=n):rb M (rop t a b)=rop t (rb M a) (rb M b):=by
 have e:∀ c,Qd0 (rop t a b) c=Qd0 a c+t*Qd0 b c:=fun c=>by
  unfold Qd0 rop
  rw [length_zipWith,ha,hb,Nat.min_self,←Qve]
  refine congrArg _ (map_congr_left fun k hk=>?_)
  have hk:=mem_range.mp hk
  simp [ge,List.getElem?_zipWith,getElem?_eq_getElem (ha.symm ▸ hk),getElem?_eq_getElem (hb.symm ▸ hk)]
 unfold rb rop
 rw [List.zipWith_map,List.zipWith_self]
 exact map_congr_left fun j _=>e _
theorem Qm4 {n k:Nat} (hk:k<n) (x:Int):(sc n x).getD k []=(List.range n).map fun j=>if k=j then x else 0:=by
 simp [sc,hk]
theorem Qp2 {n:Nat} {M:Tb} (h:Shp n M) (h1:1≤n) (h4:n≤4) {k:Nat} (hk:k<n):rb M ((sc n 1).getD k [])=M.getD k []:=by
 have e:=congrArg (·.getD k []) (Qfe h h1 h4).1
 rw [Qm4 hk]
 simpa [tms,sc,hk] using e
theorem Q0t {n:Nat} {x:Nat} {r:List Int} (hr:r.length=n):Shp n ((sc n 1).set x r):=⟨by simp [sc],fun s hs=>by
 rcases mem_or_eq_of_mem_set hs with z | rfl
 ·obtain ⟨i,_,rfl⟩:=mem_map.mp z
  simp
 ·exact hr⟩
theorem Q8l {n x:Nat} {r:List Int} (hr:r.length=n) (hx:x<n) (h4:n≤4):Qa1 n ((sc n 1).set x r)=ge r x:=by
 match n,r,hr,x,hx with
 | 1,[a],_,0,_ | 2,[a,b],_,0,_ | 2,[a,b],_,1,_ | 3,[a,b,c],_,0,_ | 3,[a,b,c],_,1,_ | 3,[a,b,c],_,2,_ | 4,[a,b,c,d],_,0,_ | 4,[a,b,c,d],_,1,_ | 4,[a,b,c,d],_,2,_ | 4,[a,b,c,d],_,3,_ =>
  simp [sc,Qa1,woc,ge,sg,Qm3,List.range,List.range.loop]
theorem Qvf {n:Nat} {M:Tb} (h:Shp n M) (h1:1≤n) (h4:n≤4) {x y:Nat} (hx:x<n) (hy:y<n) (t:Int):Qa1 n (M.set x (rop t (M.getD x []) (M.getD y [])))=(if x=y then 1+t else 1)*Qa1 n M:=by
 have lr:∀ {k},k<n→((sc n 1).getD k []).length=n:=fun h=>by rw [Qm4 h];simp
 have e:tms ((sc n 1).set x (rop t ((sc n 1).getD x []) ((sc n 1).getD y []))) M=M.set x (rop t (M.getD x []) (M.getD y [])):=by
  rw [tms,map_set,Q8k t (lr hx) (lr hy),Qp2 h h1 h4 hx,Qp2 h h1 h4 hy]
  exact congrArg (fun z:Tb=>z.set x _) (Qfe h h1 h4).1
 rw [←e,Qp1 (Q0t (by rw [length_zipWith,lr hx,lr hy,Nat.min_self])) h h1 h4]
 rw [Q8l (by rw [length_zipWith,lr hx,lr hy,Nat.min_self]) hx h4,ge,Qm4 hx,Qm4 hy]
 congr 1
 by_cases z:x=y
 ·simp [z,hy]
 ·simp [z,hx,Ne.symm z]
theorem Q3u {n:Nat} {M:Tb} (h:Shp n M) (h1:1≤n) (h4:n≤4) {x:Nat} (hx:x<n):Qa1 n (M.set x ((M.getD x []).map fun v=>0-v)) = -Qa1 n M:=by
 have e:=Qvf h h1 h4 hx hx (-2)
 rw [if_pos rfl,rop,List.zipWith_self] at e
 rw [show (fun v:Int=>0-v)=fun v=>v + -2*v from funext fun v=>by omega,e]
 omega
theorem Q0u {n:Nat} {M:Tb} (h:Shp n M) (h1:1≤n) (h4:n≤4) {x y:Nat} (hx:x<n) (hy:y<n) (hxy:x≠y):Qa1 n ((M.set x (M.getD y [])).set y (M.getD x [])) = -Qa1 n M:=by
 have lr:∀ {k},k<n→((sc n 1).getD k []).length=n:=fun h=>by rw [Qm4 h];simp
 have e:tms (((sc n 1).set x ((sc n 1).getD y [])).set y ((sc n 1).getD x [])) M=(M.set x (M.getD y [])).set y (M.getD x []):=by
  rw [tms,map_set,map_set,Qp2 h h1 h4 hx,Qp2 h h1 h4 hy]
  exact congrArg (fun z:Tb=>(z.set x _).set y _) (Qfe h h1 h4).1
 have s:Shp n (((sc n 1).set x ((sc n 1).getD y [])).set y ((sc n 1).getD x [])):=⟨by simp [sc],fun r hr=>(mem_or_eq_of_mem_set hr).elim (fun z=>(Q0t (lr hy)).row _ z) fun z=>z ▸ lr hx⟩
 rw [←e,Qp1 s h h1 h4,←Int.neg_one_mul]
 congr 1
 clear e lr h s
 rcases (by omega:n=1∨n=2∨n=3∨n=4) with rfl | rfl | rfl | rfl <;> rcases (by omega:x=0∨x=1∨x=2∨x=3) with rfl | rfl | rfl | rfl <;> rcases (by omega:y=0∨y=1∨y=2∨y=3) with rfl | rfl | rfl | rfl <;>
  first | omega | decide
theorem Qr9 {n:Nat} (h1:1≤n) (h4:n≤4):Qa1 n (sc n 1)=1:=by
 have hn:n=1∨n=2∨n=3∨n=4:=by omega
 rcases hn with rfl | rfl | rfl | rfl <;> decide
noncomputable def fb (B:Nat):Nat→Nat
 | 0=>1
 | m+1=>(m+1)*(B*fb B m)
theorem Q0v {B m j:Nat} {M:Tb} (hl:M.length=m) (hr:∀ r∈M,r.length=m+1) (hb:∀ r∈M,∀ x∈r,(x:Int).natAbs≤B) (hj:j<m+1):Shp m (woc M j)∧∀ r∈woc M j,∀ x∈r,(x:Int).natAbs≤B:=by
 refine ⟨⟨by unfold woc;rw [length_map,hl],fun r h=>?_⟩,fun r h x hx=>?_⟩ <;> obtain ⟨s,hs,rfl⟩:=mem_map.mp h
 ·have:=hr s hs
  rw [length_append,length_take,length_drop]
  omega
 ·exact hb s hs x ((mem_append.mp hx).elim mem_of_mem_take mem_of_mem_drop)
theorem Q0w {B:Nat}:∀ (m:Nat) (M:Tb),Shp m M→(∀ r∈M,∀ x∈r,(x:Int).natAbs≤B)→(Qa1 m M).natAbs≤fb B m
 | 0,_,_,_=>Nat.le_refl 1
 | m+1,[],h,_=>by have:=h.len;cases this
 | m+1,r0::Ms,h,hb=>by
  have hr0:=h.row r0 mem_cons_self
  have term:∀ j,j<m+1→(sg j*ge r0 j*Qa1 m (woc Ms j)).natAbs≤B*fb B m:=fun j hj=>by
   have sj:∀ k,(sg k).natAbs=1:=fun k=>by
    induction k with
    | zero=>rfl
    | succ k ih=>show (-sg k).natAbs=1;rw [Int.natAbs_neg,ih]
   have w:=Q0v (Nat.succ.inj h.len) (fun r z=>h.row r (mem_cons_of_mem _ z)) (fun r z=>hb r (mem_cons_of_mem _ z)) hj
   rw [Int.natAbs_mul,Int.natAbs_mul,sj,Nat.one_mul]
   refine Nat.mul_le_mul (hb r0 mem_cons_self _ ?_) (Q0w m (woc Ms j) w.1 w.2)
   unfold ge
   rw [getD_eq_getElem?_getD,getElem?_eq_getElem (by omega)]
   exact getElem_mem _
  have sum:∀ j,j≤m+1→(Qm3 (fun j=>sg j*ge r0 j*Qa1 m (woc Ms j)) j).natAbs≤j*(B*fb B m):=fun j hj=>by
   induction j with
   | zero=>exact Nat.zero_le _
   | succ j ih =>
    have a:=ih (by omega)
    have b:=term j (by omega)
    rw [Nat.add_mul,Nat.one_mul]
    exact Nat.le_trans (Int.natAbs_add_le _ _) (Nat.add_le_add a b)
  exact sum (m+1) (Nat.le_refl _)
theorem Q8m {n:Nat} {M:Tb} (h:Shp n M) (h1:1≤n) (h4:n≤4) (hb:∀ r∈M,∀ x∈r,(x:Int).natAbs≤4096) {s:Int} (hs:s.natAbs=1):∀ r∈adj s M,∀ x∈r,(x:Int).natAbs≤1000000000000:=fun r hr x hx=>by
 unfold adj at hr
 obtain ⟨i,hi,rfl⟩:=mem_map.mp hr
 obtain ⟨j,hj,rfl⟩:=mem_map.mp hx
 have hi:=mem_range.mp hi
 have hj:=mem_range.mp hj
 have hl:=h.len
 have hm:∀ s∈M.take j++M.drop (j+1),s∈M:=fun s hs=>(mem_append.mp hs).elim mem_of_mem_take mem_of_mem_drop
 have w:=Q0v (m:=M.length-1) (j:=i) (by rw [length_append,length_take,length_drop];omega) (fun s hs=>by rw [h.row s (hm s hs)];omega) (fun s hs=>hb s (hm s hs)) (by omega)
 have key:=Q0w _ _ w.1 w.2
 have m1:fb 4096 (M.length-1)≤1000000000000:=by
  have e:M.length-1=0∨M.length-1=1∨M.length-1=2∨M.length-1=3:=by omega
  rcases e with e | e | e | e <;> rw [e] <;> decide
 rw [Int.natAbs_mul,hs,Nat.one_mul]
 unfold sp
 split
 ·omega
 ·rw [Int.natAbs_neg];omega
end My
set_option maxHeartbeats 4000000
namespace My
open PySem L2
noncomputable abbrev cfn (k:Nat):CF:=evF (Qjk ds) k
noncomputable abbrev Ql (r:List Int):T:=.tup (r.map .int)
noncomputable abbrev Qg (M:Tb):T:=.tup (M.map Ql)
noncomputable abbrev Qu (Ms:List Tb):T:=.lst (Ms.map Qg)
structure Sq (n:Nat) (M:Tb):Prop where
 len:M.length=n
 row:∀ r∈M,r.length=n
 bd:∀ r∈M,∀ x∈r,(x:Int).natAbs≤1000000000000
theorem Sq.shp {n:Nat} {M:Tb} (h:Sq n M):Shp n M:=⟨h.len,h.row⟩
noncomputable def whole:T→Bool
 | .int _=>true
 | _=>false
noncomputable def nc:T→Bool
 | .clo _ _=>false
 | _=>true
theorem Qt2 (k:Nat) (t:T) (h:nc t=true:=by rfl):cfn (k+1) 0 [.fz t]=.ok (.fz (.bl (whole t))) [.non]:=by cases t <;> first | (cases h;done) | rfl
theorem Q0x (k:Nat) (r:List Int) (hr:r.length≤1000):cfn (k+2) 1 [.fz (Ql r),.fz (.int r.length)]=.ok (.fz (.bl true)) [.non,.non]:=by
 have hcomp:evE (cfn (k+1)) (.comp (.seq (.var 0)) [none] (.nm 0) .nil (.call 0 (.cons (.var 0) .nil))) [.fz (Ql r),.fz (.int r.length)]=.ok (.ow (.lst ((r.map T.int).map fun _=>T.bl true))) [.fz (Ql r),.fz (.int r.length)] :=
  Qao (rest:=[]) rfl rfl rfl rfl (fun x hx=>by
   obtain ⟨i,_,rfl⟩:=mem_map.mp hx
   exact ⟨.fz (.bl true),rfl,rfl⟩) (by rw [length_map];omega)
 show Qbw (cfn (k+1)) ⟨2,2,Qhj⟩ _=_
 rw [Qbc rfl]
 show Qb7 _ (exS _ Qhj [.fz (Ql r),.fz (.int r.length)])=_
 simp only [Qad,Qbf,Qf6,Qc9,Qgu,Qm,Q8,Qb,Q0,Qkg,Qfv,cont,Qdr,Qdv,Bool.not_false,Bool.and_true,Qbq,if_true,Qaa,yBl,Qe5,Bool.not_true,yOr,Qbe,Qbr,Qj,yC1,Qq,yC2,yBi,Qbp,Qah,Out.opt,ub2,length_map,Qba,Qd,Qa9,Qa8,Qa7,uc2,Option.map,Qa4,decide_true,yB,Qal,yIf,Qcn,Qa6,Qbb,hcomp,ub3,Qjn,Qmr,Qck,Qam,Qa2,Qas,Qax,Q1]
theorem Qfy (k:Nat) {n:Nat} {M:Tb} (h:Shp n M) (h1:1≤n) (h4:n≤4):cfn (k+3) 2 [.fz (Qg M)]=.ok (.fz (.bl true)) [.non]:=by
 have hl:=h.len
 have hcomp:evE (cfn (k+2)) (.comp (.seq (.var 0)) [none,some 0] (.nm 0) .nil (.call 1 (.cons (.var 0) (.cons (.bi .len (.cons (.var 1) .nil)) .nil)))) [.fz (Qg M)]=.ok (.ow (.lst ((M.map Ql).map fun _=>T.bl true))) [.fz (Qg M)] :=
  Qao (rest:=[.fz (Qg M)]) rfl rfl rfl rfl (fun x hx=>by
   obtain ⟨r,hr,rfl⟩:=mem_map.mp hx
   have hrl:=h.row r hr
   have q:=Q0x k r (by omega)
   rw [show ((r.length:Nat):Int)=(M.length:Nat) by omega] at q
   refine ⟨.fz (.bl true),?_,rfl⟩
   simp only [Qab,Qj,Qm,Q8,Qb,Q0,yC1,Qbr,Qd,Qq,yC2,yBi,Qbp,Qah,cont,Out.opt,ub2,length_map,Qv,Qt,Q5,Qw,Qai,Q4,q,Qav,Qk,Qy,L2.Qi,Option.map,if_true]) (by rw [length_map];omega)
 show Qbw (cfn (k+2)) ⟨1,1,Qfw⟩ _=_
 rw [Qbc rfl]
 show Qb7 _ (exS _ Qfw [.fz (Qg M)])=_
 have c1:¬ ((M.length:Int)<1):=by omega
 have c2:¬ (4<(M.length:Int)):=by omega
 simp only [Qad,Qbf,Qf6,Qc9,Qgu,Qm,Q8,Qb,Q0,Qkg,Qfv,cont,Qdr,Qdv,Bool.not_false,Bool.and_true,Qbq,if_true,Qaa,yBl,Qe5,Bool.not_true,yOr,Qbe,Qbr,Qj,yC1,Qq,yC2,yBi,Qbp,Qah,Out.opt,ub2,length_map,Qba,Qay,Qa9,Qa8,Qa7,uc3,c1,decide_false,uc5,c2,yB,Qal,yIf,Qcn,Qa6,Qbb,hcomp,ub3,Option.map,Qjn,Qmr,Qck,Qam,Qa2,Qas,Qax,Q1]
noncomputable def gd:Nat→T→Bool
 | _,.clo _ _=>false
 | n+1,.tup ts=>decide (ts.length≤1000)&&ts.all (gd n)
 | n+1,.lst ts=>decide (ts.length≤1000)&&ts.all (gd n)
 | 0,.tup _=>false
 | 0,.lst _=>false
 | _,_=>true
theorem Q0y {n:Nat} {t:T} (h:gd n t=true):nc t=true:=by
 cases t <;> first | rfl | (cases n <;> cases h)
theorem Qt3 {n:Nat} {ts:List T} (h:gd (n+1) (.tup ts)=true):ts.length≤1000∧∀ x∈ts,gd n x=true:=by
 have h:(decide (ts.length≤1000)&&ts.all (gd n))=true:=h
 rw [Bool.and_eq_true,decide_eq_true_eq,all_eq_true] at h
 exact h
theorem Q5b {n:Nat} {ts:List T} (h:ts.length≤1000) (h2:∀ x∈ts,gd n x=true):gd (n+1) (.tup ts)=true∧gd (n+1) (.lst ts)=true:=by
 have q:(decide (ts.length≤1000)&&ts.all (gd n))=true:=by rw [Bool.and_eq_true,decide_eq_true_eq,all_eq_true];exact ⟨h,h2⟩
 exact ⟨q,q⟩
noncomputable def Q3v:T→Bool
 | .tup _=>true
 | _=>false
noncomputable def Qp3 (n:Nat):T→Bool
 | .tup ts=>decide (ts.length=n)&&ts.all whole
 | _=>false
noncomputable def Qm5:T→Bool
 | .tup ts=>decide (1≤ts.length∧ts.length≤4)&&ts.all (Qp3 ts.length)
 | _=>false
theorem Q8n (k:Nat) (n:Nat) {t:T} (hn:nc t=true) (ht:Q3v t=false):cfn (k+2) 1 [.fz t,.fz (.int n)]=.ok (.fz (.bl false)) [.non,.non]:=by
 cases t <;> first | (cases hn;done) | (cases ht;done) | rfl
theorem Q8o (k:Nat) (n:Nat) {m:Nat} {t:T} (hg:gd (m+1) t=true):cfn (k+2) 1 [.fz t,.fz (.int n)]=.ok (.fz (.bl (Qp3 n t))) [.non,.non]:=by
 cases hi:Q3v t with
 | false =>
  have e:=Q8n k n (Q0y hg) hi
  cases t <;> first | exact e | (cases hi;done)
 | true =>
  cases t <;> first | (cases hi;done) | skip
  rename_i ts
  obtain ⟨hl,hx⟩:=Qt3 hg
  show Qbw (cfn (k+1)) ⟨2,2,Qhj⟩ _=_
  rw [Qbc rfl]
  show Qb7 _ (exS _ Qhj [.fz (.tup ts),.fz (.int n)])=_
  by_cases hn:ts.length=n
  ·have c1:(ts.length:Int)=(n:Int):=by omega
   have hcomp:evE (cfn (k+1)) (.comp (.seq (.var 0)) [none] (.nm 0) .nil (.call 0 (.cons (.var 0) .nil))) [.fz (.tup ts),.fz (.int n)]=.ok (.ow (.lst (ts.map fun x=>T.bl (whole x)))) [.fz (.tup ts),.fz (.int n)] :=
    Qao (rest:=[]) rfl rfl rfl rfl (fun x hx'=>by
     have q:=Qt2 k x (Q0y (hx x hx'))
     refine ⟨.fz (.bl (whole x)),?_,rfl⟩
     simp only [Qab,Qj,Qm,Q8,Qb,Q0,yC1,Qq,yC2,Qv,Qt,Q5,Qw,Qai,Q4,q,Qav,Qk,Qy,L2.Qi,Option.map,if_true]) (by omega)
   have ea:(ts.map whole).all id=ts.all whole:=by rw [all_map];rfl
   have er:Qp3 n (.tup ts)=ts.all whole:=by show (decide (ts.length=n)&&_)=_;rw [decide_eq_true hn,Bool.true_and]
   simp only [Qad,Qbf,Qf6,Qc9,Qgu,Qm,Q8,Qb,Q0,Qkg,Qfv,cont,Qdr,Qdv,Bool.not_false,Bool.and_true,Qbq,if_true,Qaa,yBl,Qe5,Bool.not_true,yOr,Qbe,Qbr,Qj,yC1,Qq,yC2,yBi,Qbp,Qah,Out.opt,ub2,c1,Qba,Qd,Qa9,Qa8,Qa7,uc2,Option.map,Qa4,decide_true,yB,Qal,yIf,Qcn,Qa6,Qbb,hcomp,ub3,Qjm,ea,Qck,Qam,Qa2,Qas,Qax,Q1,er]
  ·have c1:¬ (ts.length:Int)=(n:Int):=by omega
   have er:Qp3 n (.tup ts)=false:=by show (decide (ts.length=n)&&_)=_;rw [decide_eq_false hn,Bool.false_and]
   simp only [Qad,Qbf,Qf6,Qc9,Qgu,Qm,Q8,Qb,Q0,Qkg,Qfv,cont,Qdr,Qdv,Bool.not_false,Bool.and_true,Qbq,if_true,Qaa,yBl,Qe5,Bool.not_true,yOr,Qbe,Qbr,Qj,yC1,Qq,yC2,yBi,Qbp,Qah,Out.opt,ub2,Qba,Qd,Qa9,Qa8,Qa7,uc2,Option.map,Qa4,c1,decide_false,yB,Qal,yIf,Qbb,Qrg,Qck,Qrl,Qam,Qa2,Qas,Qax,Q1,er]
theorem Q3w (k:Nat) {t:T} (hn:nc t=true) (ht:Q3v t=false):cfn (k+3) 2 [.fz t]=.ok (.fz (.bl false)) [.non]:=by
 cases t <;> first | (cases hn;done) | (cases ht;done) | rfl
theorem Q3x (k:Nat) {m:Nat} {t:T} (hg:gd (m+2) t=true):cfn (k+3) 2 [.fz t]=.ok (.fz (.bl (Qm5 t))) [.non]:=by
 cases hi:Q3v t with
 | false =>
  have e:=Q3w k (Q0y hg) hi
  cases t <;> first | exact e | (cases hi;done)
 | true =>
  cases t <;> first | (cases hi;done) | skip
  rename_i ts
  obtain ⟨hl,hx⟩:=Qt3 hg
  show Qbw (cfn (k+2)) ⟨1,1,Qfw⟩ _=_
  rw [Qbc rfl]
  show Qb7 _ (exS _ Qfw [.fz (.tup ts)])=_
  have hcomp:evE (cfn (k+2)) (.comp (.seq (.var 0)) [none,some 0] (.nm 0) .nil (.call 1 (.cons (.var 0) (.cons (.bi .len (.cons (.var 1) .nil)) .nil)))) [.fz (.tup ts)]=.ok (.ow (.lst (ts.map fun x=>T.bl (Qp3 ts.length x)))) [.fz (.tup ts)] :=
   Qao (rest:=[.fz (.tup ts)]) rfl rfl rfl rfl (fun x hx'=>by
    have q:=Q8o k ts.length (hx x hx')
    refine ⟨.fz (.bl (Qp3 ts.length x)),?_,rfl⟩
    simp only [Qab,Qj,Qm,Q8,Qb,Q0,yC1,Qbr,Qd,Qq,yC2,yBi,Qbp,Qah,cont,Out.opt,ub2,Qv,Qt,Q5,Qw,Qai,Q4,q,Qav,Qk,Qy,L2.Qi,Option.map,if_true]) (by omega)
  have ea:(ts.map (Qp3 ts.length)).all id=ts.all (Qp3 ts.length):=by rw [all_map];rfl
  by_cases h1:(ts.length:Int)<1
  ·have er:Qm5 (.tup ts)=false:=by show (decide (1≤ts.length∧ts.length≤4)&&_)=_;rw [decide_eq_false (by omega),Bool.false_and]
   simp only [Qad,Qbf,Qf6,Qc9,Qgu,Qm,Q8,Qb,Q0,Qkg,Qfv,cont,Qdr,Qdv,Bool.not_false,Bool.and_true,Qbq,if_true,Qaa,yBl,Qe5,Bool.not_true,yOr,Qbe,Qbr,Qj,yC1,Qq,yC2,yBi,Qbp,Qah,Out.opt,ub2,Qba,Qay,Qa9,Qa8,Qa7,uc3,h1,decide_true,yB,Qal,yIf,Qbb,Qrg,Qck,Qrl,Qam,Qa2,Qas,Qax,Q1,Option.map,er]
  ·by_cases h4:(4:Int)<(ts.length:Int)
   ·have er:Qm5 (.tup ts)=false:=by show (decide (1≤ts.length∧ts.length≤4)&&_)=_;rw [decide_eq_false (by omega),Bool.false_and]
    simp only [Qad,Qbf,Qf6,Qc9,Qgu,Qm,Q8,Qb,Q0,Qkg,Qfv,cont,Qdr,Qdv,Bool.not_false,Bool.and_true,Qbq,if_true,Qaa,yBl,Qe5,Bool.not_true,yOr,Qbe,Qbr,Qj,yC1,Qq,yC2,yBi,Qbp,Qah,Out.opt,ub2,Qba,Qay,Qa9,Qa8,Qa7,uc3,h1,decide_false,uc5,h4,decide_true,yB,Qal,yIf,Qbb,Qrg,Qck,Qrl,Qam,Qa2,Qas,Qax,Q1,Option.map,er]
   ·have er:Qm5 (.tup ts)=ts.all (Qp3 ts.length):=by show (decide (1≤ts.length∧ts.length≤4)&&_)=_;rw [decide_eq_true (by omega),Bool.true_and]
    simp only [Qad,Qbf,Qf6,Qc9,Qgu,Qm,Q8,Qb,Q0,Qkg,Qfv,cont,Qdr,Qdv,Bool.not_false,Bool.and_true,Qbq,if_true,Qaa,yBl,Qe5,Bool.not_true,yOr,Qbe,Qbr,Qj,yC1,Qq,yC2,yBi,Qbp,Qah,Out.opt,ub2,Qba,Qay,Qa9,Qa8,Qa7,uc3,h1,decide_false,uc5,h4,yB,Qal,yIf,Qcn,Qa6,Qbb,hcomp,ub3,Option.map,Qjm,ea,Qck,Qam,Qa2,Qas,Qax,Q1,er]
theorem Qp4 (k:Nat) {n:Nat} {M:Tb} (h:Sq n M) (h1:1≤n) (h4:n≤4):cfn (k+4) 6 [.fz (Qg M)]=.ok (.fz .non) [.non]:=by
 have e1:=Qfy k h.shp h1 h4
 show Qbw (cfn (k+3)) ⟨1,1,Qgg⟩ _=_
 rw [Qbc rfl]
 show Qb7 _ (exS _ Qgg [.fz (Qg M)])=_
 simp only [Qbf,Qc9,Qab,Qj,Qm,Q8,Qb,Q0,yC1,Qq,yC2,Qv,Qt,Q5,Qw,Qai,Q4,e1,Qav,Qk,Qy,L2.Qi,Option.map,if_true,Qaa,yBl,Qe5,Bool.not_true,Qal,yIf,Qcn,Q0i,Qax,Q1]
theorem intL_mp:∀ (xs:List Int),Qd9 (xs.map T.int)=some xs
 | []=>rfl
 | x::xs=>by
  rw [map_cons]
  unfold Qd9
  rw [intL_mp xs]
theorem Qsa {r:List Int} {j:Nat} (h:j<r.length):atI (r.map T.int) (j:Int)=some (.int (ge r j)):=by
 refine Qcl ?_
 rw [getElem?_map,getElem?_eq_getElem h]
 show some (T.int _)=some (T.int _)
 congr 2
 unfold ge
 rw [getD_eq_getElem?_getD,getElem?_eq_getElem h,Option.getD_some]
theorem Qp5 {i j:Int} (h:j.natAbs≤1000000000000):Qbm i j=true:=by
 unfold Qbm
 simp only [Bool.or_eq_true,decide_eq_true_eq]
 exact .inr (by omega)
noncomputable def jOf:T→Nat
 | .int i=>i.toNat
 | _=>0
noncomputable def iOf:T→List Int
 | .tup ts=>ts.map fun t=>match t with | .int i=>i | _=>0
 | _=>[]
theorem Qc2 (r:List Int):iOf (Ql r)=r:=by
 show (r.map T.int).map _=r
 rw [map_map]
 conv=>rhs;rw [←List.map_id r]
 rfl
theorem Qhp (j:Nat):jOf (.int (0+(j:Int)))=j:=by
 show (0+(j:Int)).toNat=j
 rw [Int.zero_add,Int.toNat_natCast]
theorem Qiz {f:Nat→T} (n:Nat):((Qan 0 n).map fun x=>f (jOf x))=(List.range n).map f:=by
 unfold Qan
 rw [map_map]
 apply map_congr_left
 intro j _
 show f (jOf (.int (0+(j:Int))))=f j
 rw [Qhp]
theorem Qacn {c:List Int} (h:∀ x∈c,(x:Int).natAbs≤1000000000000) (k:Nat):(ge c k).natAbs≤1000000000000:=by
 unfold ge
 rw [getD_eq_getElem?_getD]
 cases e:c[k]? with
 | none=>decide
 | some v=>exact h v (mem_of_getElem? e)
def Seq (M:Tb) (t:T):Prop:=t=.tup (M.map Ql)∨t=.lst (M.map Ql)
theorem Qsb (xs:List T) (k:Nat):Qf2 xs none (some (k:Int))=xs.take k:=by
 unfold Qf2
 rw [HT.sIx_none,HT.sIx_nat,List.drop_zero,Nat.sub_zero]
 by_cases h:k≤xs.length
 ·rw [Nat.min_eq_left h]
 ·rw [Nat.min_eq_right (by omega),List.take_length,List.take_of_length_le (by omega)]
theorem Qsc (xs:List T) (i:Nat):Qf2 xs (some ((i:Int)+1)) none=xs.drop (i+1):=by
 unfold Qf2
 rw [show ((i:Int)+1)=((i+1:Nat):Int) by omega,HT.sIx_none,HT.sIx_nat]
 by_cases h:i+1≤xs.length
 ·rw [Nat.min_eq_left h,List.take_of_length_le (by rw [length_drop];omega)]
 ·rw [Nat.min_eq_right (by omega),List.drop_eq_nil_of_le (Nat.le_refl _),List.drop_eq_nil_of_le (by omega),List.take_nil]
theorem cut1 (x:T) (xs:List T):Qf2 (x::xs) (some 1) none=xs:=by
 unfold Qf2 HT.sIx
 simp
theorem Seq.walk {M:Tb} {t:T} (h:Seq M t) {cf:CF} {a:Slot}:evW cf (.seq (.var 0)) [.fz t,a]=.ok (M.map Ql,none) [.fz t,a]:=by
 rcases h with rfl | rfl <;> rfl
theorem Q3y {r:List Int} {j:Nat} (hr:r.length≤1000):opB .add (.tup (Qf2 (r.map T.int) none (some (j:Int)))) (.tup (Qf2 (r.map T.int) (some ((j:Int)+1)) none))=some (.fz (Ql (r.take j++r.drop (j+1)))):=by
 rw [Qsb,Qsc,←List.map_take,←List.map_drop]
 show (if _ then _ else _)=_
 rw [if_pos (by rw [length_map,length_map,length_take,length_drop];omega),←map_append]
noncomputable def wocT (j:Nat):T→T
 | .tup ts=>Ql (((iOf (.tup ts)).take j)++((iOf (.tup ts)).drop (j+1)))
 | t=>t
theorem Q0z (k:Nat) {M:Tb} {t:T} (ht:Seq M t) (hz:M.length≤1000) (hr:∀ r∈M,r.length≤1000) (j:Nat):cfn (k+1) 13 [.fz t,.fz (.int j)]=.ok (.ow (.lst ((woc M j).map Ql))) [.non,.non]:=by
 have hcomp:evE (cfn k) (.comp (.seq (.var 0)) [none,some 1] (.nm 0) .nil (.bin .add (.slc (.var 0) .nil (.cons (.var 1) .nil)) (.slc (.var 0) (.cons (.bin .add (.var 1) (.int 1)) .nil) .nil))) [.fz t,.fz (.int j)]=.ok (.ow (.lst ((M.map Ql).map (wocT j)))) [.fz t,.fz (.int j)] :=
  Qao (rest:=[.fz (.int j)]) ht.walk rfl rfl rfl (fun x hx=>by
   obtain ⟨r,hm,rfl⟩:=mem_map.mp hx
   have o:=Q3y (j:=j) (hr r hm)
   refine ⟨.fz (Ql (r.take j++r.drop (j+1))),?_,?_⟩
   ·simp only [Qc5,Qri,Qm,Q8,Qb,Q0,Qwz,Qq,Qwy,Qop,Qkd,Qj,Qd,yC1,yC2,Qwx,Qoo,Qww,cont,Out.opt,ui4,Qcs,Qay,Qcr,Qcq,uo1,o]
   ·show some (Ql (r.take j++r.drop (j+1)))=some (Ql ((iOf (Ql r)).take j++(iOf (Ql r)).drop (j+1)))
    rw [Qc2]) (by rw [length_map];omega)
 have em:(M.map Ql).map (wocT j)=(woc M j).map Ql:=by
  unfold woc
  rw [map_map,map_map]
  apply map_congr_left
  intro r _
  show Ql ((iOf (Ql r)).take j++(iOf (Ql r)).drop (j+1))=Ql (r.take j++r.drop (j+1))
  rw [Qc2]
 rw [em] at hcomp
 show Qbw (cfn k) ⟨2,2,Qdy⟩ _=_
 rw [Qbc rfl]
 show Qb7 _ (exS _ Qdy [.fz t,.fz (.int j)])=_
 simp only [Qbb,hcomp,Qal,Qck,Qam,Qa2,Qas,Qax,Q1,Option.map]
theorem Q8p {m:Nat} {r0:List Int} {Ms:Tb} (h:Sq (m+1) (r0::Ms)) {j:Nat} (hj:j<m+1):Sq m (woc Ms j):=by
 have hl:=h.len
 rw [length_cons] at hl
 unfold woc
 refine ⟨by rw [length_map];omega,fun r hr=>?_,fun r hr x hx=>?_⟩
 ·obtain ⟨s,hs,rfl⟩:=mem_map.mp hr
  have:=h.row s (mem_cons_of_mem _ hs)
  rw [length_append,length_take,length_drop]
  omega
 ·obtain ⟨s,hs,rfl⟩:=mem_map.mp hr
  refine h.bd s (mem_cons_of_mem _ hs) x ?_
  rcases mem_append.mp hx with z | z
  ·exact mem_of_mem_take z
  ·exact mem_of_mem_drop z
theorem Qt4:∀ j:Nat,(sg j).natAbs=1
 | 0=>rfl
 | j+1=>by show (-sg j).natAbs=1;rw [Int.natAbs_neg,Qt4 j]
noncomputable abbrev Q3z:S:=(.seq (.setF 1 (.bin .add (.var 1) (.bin .mul (.bin .mul (.var 2) (.ix (.ix (.var 0) (.int 0)) (.var 3))) (.call 14 (.cons (.call 13 (.cons (.slc (.var 0) (.cons (.int 1) .nil) .nil) (.cons (.var 3) .nil))) .nil)))))
 (.setF 2 (.neg (.var 2))))
theorem Seq.len {M:Tb} {t:T} (h:Seq M t):Qh6 .len [t]=some (.fz (.int M.length)):=by
 rcases h with rfl | rfl
 ·show some (PV.fz (.int (M.map Ql).length))=_;rw [length_map]
 ·show some (PV.fz (.int (M.map Ql).length))=_;rw [length_map]
theorem Qh2 {i j:Int} (h:i.natAbs≤1000000000000):Qbm i j=true:=by
 unfold Qbm
 simp only [Bool.or_eq_true,decide_eq_true_eq]
 exact .inl (by omega)
theorem Q00:∀ (m k:Nat) (M:Tb) (t:T),m≤1000→Seq M t→Sq m M→cfn (k+m+2) 14 [.fz t]=.ok (.fz (.int (Qa1 m M))) [.non]
 | 0,k,M,t,hm,ht,h=>by
  have e:=ht.len
  rw [h.len] at e
  have e:Qh6 .len [t]=some (.fz (.int 0)):=e
  show Qbw (cfn (k+0+1)) ⟨1,4,Qb8⟩ _=_
  rw [Qbc rfl]
  show Qb7 _ (exS _ Qb8 [.fz t,.un,.un,.un])=_
  have eb:evE (cfn (k+0+1)) (.bi .len (.cons (.var 0) .nil)) [.fz t,.un,.un,.un]=.ok (.fz (.int 0)) [.fz t,.un,.un,.un]:=by
   rcases ht with rfl | rfl <;> simp only [Qbr,Qj,Qm,Q8,Qb,Q0,yC1,Qq,yC2,yBi,Qbp,Qah,cont,Out.opt,e]
  simp only [Qad,Qbf,Qbe,eb,Q0,Qba,Qay,Qa9,Qa8,cont,Qa7,uc1,Qa4,decide_true,Qaa,yBl,Qal,yIf,Qbb,Qck,Qrl,Qam,Qa2,Qas,Qax,Q1,Option.map,Qa1]
 | m+1,k,[],t,hm,ht,h=>by have:=h.len;cases this
 | m+1,k,r0::Ms,t,hm,ht,h=>by
  have hl:=h.len
  have hl':Ms.length=m:=by rw [length_cons] at hl;omega
  have e:=ht.len
  rw [hl] at e
  have c0:¬ (((m+1:Nat):Int)=0):=by omega
  have c:m+1≤100000:=by omega
  have hr0:=h.row r0 mem_cons_self
  obtain ⟨ρ',ef,s3,_,rfl⟩:=Qec (fun j ρ=>∃ s3,Qcx s3=true∧ρ=[.fz t,.fz (.int (Qm3 (fun j=>sg j*ge r0 j*Qa1 m (woc Ms j)) j)),.fz (.int (sg j)),s3]) (tg:=.nm 3) (b:=exS (cfn (k+m+2)) Q3z) (xs:=Qan 0 (m+1)) (n:=0) (ρ:=[.fz t,.fz (.int 0),.fz (.int 1),.un]) ⟨.un,rfl,rfl⟩ (by
   rintro j x ρ hx ⟨s3,o3,rfl⟩
   have hj:j<m+1:=by have:=(List.getElem?_eq_some_iff.mp hx).1;rwa [Qap] at this
   rw [Qhu hj] at hx
   cases hx
   rw [Nat.zero_add,Int.zero_add]
   refine ⟨[.fz t,.fz (.int (Qm3 (fun j=>sg j*ge r0 j*Qa1 m (woc Ms j)) j)),.fz (.int (sg j)),.fz (.int j)],_,(by cases s3 <;> first | rfl | cases o3),.inl ?_,.fz (.int j),rfl,rfl⟩
   have a1:=Qsa (r:=r0) (j:=j) (by omega)
   have ew:=Q0z (k+m+1) (M:=Ms) (t:=.tup (Ms.map Ql)) (.inl rfl) (by omega) (fun r hr=>by have:=h.row r (mem_cons_of_mem _ hr);omega) j
   have ew2:=Q0z (k+m+1) (M:=Ms) (t:=.lst (Ms.map Ql)) (.inr rfl) (by omega) (fun r hr=>by have:=h.row r (mem_cons_of_mem _ hr);omega) j
   have ed:=Q00 m k (woc Ms j) (.lst ((woc Ms j).map Ql)) (by omega) (.inr rfl) (Q8p h hj)
   have m1:Qbm (sg j) (ge r0 j)=true:=Qh2 (by rw [Qt4];decide)
   have m2:Qbm (sg j*ge r0 j) (Qa1 m (woc Ms j))=true:=Qh2 (by rw [Int.natAbs_mul,Qt4,Nat.one_mul];exact Qacn (h.bd r0 mem_cons_self) j)
   have a0:atI ((r0::Ms).map Ql) 0=some (Ql r0):=by rw [map_cons];exact Qtn
   have c1:Qf2 ((r0::Ms).map Ql) (some 1) none=Ms.map Ql:=by rw [map_cons];exact cut1 _ _
   show _=SO.nx [.fz t,.fz (.int (Qm3 (fun j=>sg j*ge r0 j*Qa1 m (woc Ms j)) j+sg j*ge r0 j*Qa1 m (woc Ms j))),.fz (.int (-sg j)),.fz (.int j)]
   generalize Qm3 (fun j=>sg j*ge r0 j*Qa1 m (woc Ms j)) j=ps
   rcases ht with rfl | rfl
   ·generalize (r0::Ms).map Ql=L at a0 c1
    simp only [Qad,Qbv,Qc5,Qm,Q8,Qd,Qb,Q0,Qcs,Qhb,Qgy,Qay,Qgx,Qgw,cont,Qgv,ui2,a0,a1,Qcr,Qcq,Out.opt,uo5,m1,if_true,Qab,Qj,Qri,Qwz,yC1,Qq,yC2,Qwy,Qop,Qkd,Qwx,Qoo,Qww,ui4,c1,Qv,Qt,Q5,Qw,Qai,Q4,ew,Qav,Qk,Qy,L2.Qi,Option.map,ed,m2,uo1,Qal,Qct,Qbu,frz,Qak,Qb0,length_cons,length_nil,Nat.reduceAdd,Nat.reduceLT,List.set,Qa6,Qon,Qtm]
   ·have sl:Q2x (.lst ((r0::Ms).map Ql)) (some 1) none=some (.ow (.lst (Ms.map Ql))):=by rw [←c1];rfl
    generalize (r0::Ms).map Ql=L at a0 sl
    simp only [Qad,Qbv,Qc5,Qm,Q8,Qd,Qb,Q0,Qcs,Qhb,Qgy,Qay,Qgx,Qgw,cont,Qgv,ui1,a0,ui2,a1,Qcr,Qcq,Out.opt,uo5,m1,if_true,Qab,Qj,Qri,Qwz,yC1,Qq,yC2,Qwy,Qop,Qkd,Qwx,Qoo,Qww,sl,Qv,Qt,Q5,Qw,Qai,Q4,ew2,Qav,Qk,Qy,L2.Qi,Option.map,ed,m2,uo1,Qal,Qct,Qbu,frz,Qak,Qb0,length_cons,length_nil,Nat.reduceAdd,Nat.reduceLT,List.set,Qa6,Qon,Qtm])
  rw [Qap,Nat.zero_add] at ef
  have eb:∀ a b c,evE (cfn (k+m+2)) (.bi .len (.cons (.var 0) .nil)) [.fz t,a,b,c]=.ok (.fz (.int ((m+1:Nat):Int))) [.fz t,a,b,c]:=by
   intro a b c
   rcases ht with rfl | rfl <;> simp only [Qbr,Qj,Qm,Q8,Qb,Q0,yC1,Qq,yC2,yBi,Qbp,Qah,cont,Out.opt,e]
  show Qbw (cfn (k+m+2)) ⟨1,4,Qb8⟩ _=_
  rw [Qbc rfl]
  show Qb7 _ (exS _ Qb8 [.fz t,.un,.un,.un])=_
  have ed:Qa1 (m+1) (r0::Ms)=Qm3 (fun j=>sg j*ge r0 j*Qa1 m (woc Ms j)) (m+1):=rfl
  rw [ed]
  simp only [Qad,Qbf,Qbe,eb,Q0,Qba,Qay,Qa9,Qa8,cont,Qa7,uc1,Qa4,c0,decide_false,Qaa,yBl,Qal,yIf,Qcn,Qa6,Qbv,Qct,Qbu,frz,Qak,Qb0,length_cons,length_nil,Nat.reduceAdd,Nat.reduceLT,Qd,Qb,List.set,if_true,Qjl,Qdq,Qk8 c,Qnc,ef,Qel,Qbb,Qm,Q8,Qck,Qam,Qa2,Qas,Qax,Q1,Option.map]
open PySem L2
theorem Q30 {m:Nat} {M:Tb} (h:Sq (m+1) M) {r c:Nat} (hr:r<m+1) (hc:c<m+1):Sq m (woc (M.take r++M.drop (r+1)) c):=by
 have hl:=h.len
 have mem:∀ s,s∈M.take r++M.drop (r+1)→s∈M:=fun s hs=>by
  rcases mem_append.mp hs with z | z
  ·exact mem_of_mem_take z
  ·exact mem_of_mem_drop z
 unfold woc
 refine ⟨by rw [length_map,length_append,length_take,length_drop];omega,fun s hs=>?_,fun s hs x hx=>?_⟩
 ·obtain ⟨u,hu,rfl⟩:=mem_map.mp hs
  have:=h.row u (mem u hu)
  rw [length_append,length_take,length_drop]
  omega
 ·obtain ⟨u,hu,rfl⟩:=mem_map.mp hs
  refine h.bd u (mem u hu) x ?_
  rcases mem_append.mp hx with z | z
  ·exact mem_of_mem_take z
  ·exact mem_of_mem_drop z
theorem e_sp (m k:Nat) {M:Tb} (h:Sq (m+1) M) (hm:m≤100) {r c:Nat} (hr:r<m+1) (hc:c<m+1):cfn (k+m+3) 15 [.fz (Qg M),.fz (.int r),.fz (.int c)]=.ok (.fz (.int (sp M r c))) [.non,.non,.non]:=by
 have hl:=h.len
 have o:opB .add (.tup (Qf2 (M.map Ql) none (some (r:Int)))) (.tup (Qf2 (M.map Ql) (some ((r:Int)+1)) none))=some (.fz (.tup ((M.take r++M.drop (r+1)).map Ql))):=by
  rw [Qsb,Qsc,←List.map_take,←List.map_drop]
  show (if _ then _ else _)=_
  rw [if_pos (by rw [length_map,length_map,length_take,length_drop];omega),←map_append]
 have hl2:(M.take r++M.drop (r+1)).length≤1000:=by rw [length_append,length_take,length_drop];omega
 have e1:=Q0z (k+m+1) (M:=M.take r++M.drop (r+1)) (.inl rfl) hl2 (fun s hs=>by
  have:s∈M:=by
   rcases mem_append.mp hs with z | z
   ·exact mem_of_mem_take z
   ·exact mem_of_mem_drop z
  have:=h.row s this
  omega) c
 have e2:=Q00 m k _ _ (by omega) (.inr rfl) (Q30 h hr hc)
 have es:sp M r c=if (r+c)%2=0 then Qa1 m (woc (M.take r++M.drop (r+1)) c) else -Qa1 m (woc (M.take r++M.drop (r+1)) c):=by
  unfold sp
  rw [hl,Nat.add_sub_cancel]
 rw [es]
 generalize Qa1 m (woc (M.take r++M.drop (r+1)) c)=D at e2 ⊢
 generalize woc (M.take r++M.drop (r+1)) c=W at e1 e2
 generalize M.take r++M.drop (r+1)=U at o e1
 show Qbw (cfn (k+m+2)) ⟨3,4,Qfm⟩ _=_
 rw [Qbc rfl]
 show Qb7 _ (exS _ Qfm [.fz (Qg M),.fz (.int r),.fz (.int c),.un])=_
 by_cases hp:(r+c)%2=0
 ·have hp':((r:Int)+(c:Int))%2=0:=by omega
  rw [if_pos hp]
  simp only [Qad,Qbv,Qab,Qj,Qc5,Qri,Qm,Q8,Qb,Q0,Qwz,Qq,Qwy,Qop,Qkd,Qd,yC1,yC2,Qwx,Qoo,Qww,cont,Out.opt,ui4,Qcs,Qay,Qcr,Qcq,uo1,o,Qv,Qt,Q5,Qw,Qai,Q4,e1,Qav,Qk,Qy,L2.Qi,Option.map,if_true,e2,Qal,Qct,Qbu,frz,Qak,Qb0,length_cons,length_nil,Nat.reduceAdd,Nat.reduceLT,List.set,Qa6,Qbb,Q49,Qbe,uo8,Int.reduceLT,hp',if_false,Qba,Qa9,Qa8,Qa7,uc1,Qa4,decide_true,Qaa,yBl,Q8c,Qck,Qam,Qa2,Qas,Qax,Q1]
 ·have hp':¬ ((r:Int)+(c:Int))%2=0:=by omega
  rw [if_neg hp]
  simp only [Qad,Qbv,Qab,Qj,Qc5,Qri,Qm,Q8,Qb,Q0,Qwz,Qq,Qwy,Qop,Qkd,Qd,yC1,yC2,Qwx,Qoo,Qww,cont,Out.opt,ui4,Qcs,Qay,Qcr,Qcq,uo1,o,Qv,Qt,Q5,Qw,Qai,Q4,e1,Qav,Qk,Qy,L2.Qi,Option.map,if_true,e2,Qal,Qct,Qbu,frz,Qak,Qb0,length_cons,length_nil,Nat.reduceAdd,Nat.reduceLT,List.set,Qa6,Qbb,Q49,Qbe,uo8,Int.reduceLT,if_false,Qba,Qa9,Qa8,Qa7,uc1,Qa4,hp',decide_false,Qaa,yBl,Q8c,Qon,Qtm,Qck,Qam,Qa2,Qas,Qax,Q1]
noncomputable def udT (n:Nat) (M:Tb):T:=if (Qa1 n M).natAbs=1 then Qg (adj (Qa1 n M) M) else .non
theorem Q8q (G:Int):Qh6 .abs [.int G]=some (.fz (.int (G.natAbs:Int))):=by
 show some (PV.fz (.int (if G<0 then -G else G)))=_
 congr 3
 split <;> omega
theorem Qm6 (m k:Nat) {M:Tb} (h:Sq (m+1) M) (hm:m≤3):cfn (k+m+5) 16 [.fz (Qg M)]=.ok (.fz (udT (m+1) M)) [.non]:=by
 have hl:=h.len
 have e1:=Qp4 (k+m) h (by omega) (by omega)
 have e2:=Q00 (m+1) (k+1) M (Qg M) (by omega) (.inl rfl) h
 rw [show k+1+(m+1)+2=k+m+4 by omega] at e2
 have ab:=Q8q (Qa1 (m+1) M)
 have e3:∀ {r c:Nat},r<m+1→c<m+1→cfn (k+m+4) 15 [.fz (Qg M),.fz (.int r),.fz (.int c)]=.ok (.fz (.int (sp M r c))) [.non,.non,.non]:=fun hr hc=>by
  have:=e_sp m (k+1) h (by omega) hr hc
  rwa [show k+1+m+3=k+m+4 by omega] at this
 show Qbw (cfn (k+m+4)) ⟨1,3,Qm1⟩ _=_
 rw [Qbc rfl]
 show Qb7 _ (exS _ Qm1 [.fz (Qg M),.un,.un])=_
 unfold udT
 have ea:adj (Qa1 (m+1) M) M=(List.range (m+1)).map fun i=>(List.range (m+1)).map fun j=>Qa1 (m+1) M*sp M j i:=by unfold adj;rw [hl]
 rw [ea]
 generalize Qa1 (m+1) M=D at e2 ab ⊢
 by_cases hd:D.natAbs=1
 ·have hd':((D.natAbs:Nat):Int)=1:=by omega
  rw [if_pos hd]
  have c:m+1≤100000:=by omega
  have r1:∀ ρ,Qos (.fz (.int ((m+1:Nat):Int))) ρ=.ok (Qan 0 (m+1),none) ρ:=fun ρ=>Qk8 c
  have hw:evW (cfn (k+m+4)) (.rng1 (.var 2)) [.fz (Qg M),.fz (.int D),.fz (.int ((m+1:Nat):Int))]=.ok (Qan 0 (m+1),none) [.fz (Qg M),.fz (.int D),.fz (.int ((m+1:Nat):Int))]:=by
   simp only [Qdq,Qm,Q8,Qd,Qb,Q0,r1]
  have hcomp:evE (cfn (k+m+4)) (.comp (.rng1 (.var 2)) [none,some 1,some 0,some 2] (.nm 0) .nil (.bi .tup (.cons (.comp (.rng1 (.var 3)) [none,some 1,some 2,some 0] (.nm 0) .nil (.bin .mul (.var 1) (.call 15 (.cons (.var 2) (.cons (.var 0) (.cons (.var 3) .nil)))))) .nil))) [.fz (Qg M),.fz (.int D),.fz (.int ((m+1:Nat):Int))]=.ok (.ow (.lst ((Qan 0 (m+1)).map fun x=>Ql ((List.range (m+1)).map fun j=>D*sp M j (jOf x))))) [.fz (Qg M),.fz (.int D),.fz (.int ((m+1:Nat):Int))] :=
   Qao (rest:=[.fz (.int D),.fz (Qg M),.fz (.int ((m+1:Nat):Int))]) hw rfl rfl rfl (fun x hx=>by
    unfold Qan at hx
    obtain ⟨i,hi,rfl⟩:=mem_map.mp hx
    have hi:=mem_range.mp hi
    have hw2:evW (cfn (k+m+4)) (.rng1 (.var 3)) [.fz (.int (0+(i:Int))),.fz (.int D),.fz (Qg M),.fz (.int ((m+1:Nat):Int))]=.ok (Qan 0 (m+1),none) [.fz (.int (0+(i:Int))),.fz (.int D),.fz (Qg M),.fz (.int ((m+1:Nat):Int))]:=by
     simp only [Qdq,Qm,Q8,Qd,Qb,Q0,r1]
    have hi2:evE (cfn (k+m+4)) (.comp (.rng1 (.var 3)) [none,some 1,some 2,some 0] (.nm 0) .nil (.bin .mul (.var 1) (.call 15 (.cons (.var 2) (.cons (.var 0) (.cons (.var 3) .nil)))))) [.fz (.int (0+(i:Int))),.fz (.int D),.fz (Qg M),.fz (.int ((m+1:Nat):Int))]=.ok (.ow (.lst ((Qan 0 (m+1)).map fun x=>T.int (D*sp M (jOf x) i)))) [.fz (.int (0+(i:Int))),.fz (.int D),.fz (Qg M),.fz (.int ((m+1:Nat):Int))] :=
     Qao (rest:=[.fz (.int D),.fz (Qg M),.fz (.int (0+(i:Int)))]) hw2 rfl rfl rfl (fun x hx=>by
      unfold Qan at hx
      obtain ⟨j,hj,rfl⟩:=mem_map.mp hx
      have hj:=mem_range.mp hj
      have e4:=e3 hj hi
      have mo:Qbm D (sp M j i)=true:=Qh2 (by omega)
      refine ⟨.fz (.int (D*sp M j i)),?_,by rw [Qhp];rfl⟩
      simp only [Int.zero_add,Qc5,Qm,Q8,Qd,Qb,Q0,Qcs,Qab,Qj,yC1,Qq,yC2,Qv,Qt,Q5,Qw,Qai,Q4,e4,Qav,Qk,Qy,L2.Qi,Option.map,if_true,Qcr,Qcq,cont,Out.opt,uo5,mo]) (by rw [Qap];omega)
    rw [Qiz (f:=fun j=>T.int (D*sp M j i))] at hi2
    have em:((List.range (m+1)).map fun j=>T.int (D*sp M j i))=((List.range (m+1)).map fun j=>D*sp M j i).map T.int:=by rw [map_map];rfl
    rw [em] at hi2
    refine ⟨.fz (Ql ((List.range (m+1)).map fun j=>D*sp M j i)),?_,by rw [Qhp];rfl⟩
    simp only [Qbr,Qj,hi2,Q0,yC1,Qq,yC2,yBi,Qbp,Qah,cont,Out.opt,ub9]) (by rw [Qap];omega)
  rw [Qiz (f:=fun i=>Ql ((List.range (m+1)).map fun j=>D*sp M j i))] at hcomp
  have em:((List.range (m+1)).map fun i=>Ql ((List.range (m+1)).map fun j=>D*sp M j i))=((List.range (m+1)).map fun i=>(List.range (m+1)).map fun j=>D*sp M j i).map Ql:=by rw [map_map];rfl
  rw [em] at hcomp
  generalize ((List.range (m+1)).map fun i=>(List.range (m+1)).map fun j=>D*sp M j i)=W at hcomp ⊢
  simp only [Qad,Qkh,Qab,Qj,Qm,Q8,Qb,Q0,yC1,Qq,yC2,Qv,Qt,Q5,Qw,Qai,Q4,e1,Qav,Qk,Qy,L2.Qi,Option.map,if_true,Qal,Qmp,Qa6,Qbv,e2,Qct,Qbu,frz,Qak,Qb0,length_cons,length_nil,Nat.reduceAdd,Nat.reduceLT,Qd,List.set,Qbf,Qbe,Qbr,yBi,Qbp,Qah,cont,Out.opt,ab,hd',Qba,Qay,Qa9,Qa8,Qa7,uc2,Qa4,decide_true,Bool.not_true,Qaa,yBl,yIf,Qcn,ub2,length_map,hl,Qbb,hcomp,ub9,Qck,Qam,Qa2,Qas,Qax,Q1]
 ·have hd':¬ ((D.natAbs:Nat):Int)=1:=by omega
  rw [if_neg hd]
  simp only [Qad,Qkh,Qab,Qj,Qm,Q8,Qb,Q0,yC1,Qq,yC2,Qv,Qt,Q5,Qw,Qai,Q4,e1,Qav,Qk,Qy,L2.Qi,Option.map,if_true,Qal,Qmp,Qa6,Qbv,e2,Qct,Qbu,frz,Qak,Qb0,length_cons,length_nil,Nat.reduceAdd,Nat.reduceLT,Qd,List.set,Qbf,Qbe,Qbr,yBi,Qbp,Qah,cont,Out.opt,ab,Qba,Qay,Qa9,Qa8,Qa7,uc2,Qa4,hd',decide_false,Bool.not_false,Qaa,yBl,yIf,Qbb,Qmo,Qck,Qrl,Qam,Qa2,Qas,Qax,Q1]
open PySem L2
theorem Qp6 {l:List Int} {j:Nat} (h:j<l.length):ge l j∈l:=by
 unfold ge
 rw [getD_eq_getElem?_getD,getElem?_eq_getElem h]
 exact getElem_mem h
theorem Qsd:∀ (xs:List Int) (ys:Tb),Qfh (xs.map T.int) (ys.map Ql)=(xs.zip ys).map fun p=>T.tup [.int p.1,Ql p.2]
 | [],_=>rfl
 | _::_,[]=>rfl
 | x::xs,y::ys=>by
  rw [map_cons,map_cons,Qfh,Qsd xs ys]
  rfl
theorem Q31:∀ (r:List Int) (M:Tb) (j:Nat),((r.zip M).map fun p=>p.1*ge p.2 j)=(List.range (min r.length M.length)).map fun k=>ge r k*ge (col M j) k:=fun r M j=>by
 refine List.ext_getElem (by rw [length_map,length_zip,length_map,length_range]) fun i h1 h2=>?_
 rw [length_map,length_zip] at h1
 rw [List.getElem_map,List.getElem_zip,List.getElem_map,List.getElem_range]
 have l1:i<r.length:=by omega
 have l2:i<M.length:=by omega
 have e1:ge r i=r[i]:=by unfold ge;rw [getD_eq_getElem?_getD,getElem?_eq_getElem l1,Option.getD_some]
 have e2:ge (col M j) i=ge M[i] j:=by
  unfold col
  conv=>lhs;unfold ge
  rw [getD_eq_getElem?_getD,getElem?_map,getElem?_eq_getElem l2]
  rfl
 rw [e1,e2]
theorem Q8r (k:Nat) {n:Nat} {M:Tb} (h:Shp n M) (h4:n≤4) {r:List Int} (hr:r.length=n) (hm:∀ x∈r,∀ l∈M,∀ y∈l,Qbm x y=true) {j:Nat} (hj:j<n):evE (cfn k) (.bi .sum (.cons (.comp (.zip (.var 1) (.var 2)) [none,none,some 0] (.tp [0,1]) .nil (.bin .mul (.var 0) (.ix (.var 1) (.var 2)))) .nil)) [.fz (.int (0+(j:Int))),.fz (Ql r),.fz (Qg M)]=.ok (.fz (.int (Qd0 r (col M j)))) [.fz (.int (0+(j:Int))),.fz (Ql r),.fz (Qg M)]:=by
 have hl:=h.len
 have hi:evE (cfn k) (.comp (.zip (.var 1) (.var 2)) [none,none,some 0] (.tp [0,1]) .nil (.bin .mul (.var 0) (.ix (.var 1) (.var 2)))) [.fz (.int (0+(j:Int))),.fz (Ql r),.fz (Qg M)]=.ok (.ow (.lst ((r.zip M).map fun p=>T.int (p.1*ge p.2 j)))) [.fz (.int (0+(j:Int))),.fz (Ql r),.fz (Qg M)] :=
  Qki (rest:=[.fz (.int (0+(j:Int)))]) (a:=fun p=>T.int p.1) (b:=fun p=>Ql p.2) (xs:=r.zip M) (by simp only [Qu7,Qm,Q8,Qd,Qb,Q0,Q0h,Qrk,Qsd]) rfl rfl rfl (fun p hp=>by
   have hm1:=(List.of_mem_zip hp).1
   have hm2:=(List.of_mem_zip hp).2
   have a:=Qsa (r:=p.2) (j:=j) (by rw [h.row _ hm2];omega)
   have mo:Qbm p.1 (ge p.2 j)=true:=hm _ hm1 _ hm2 _ (Qp6 (by rw [h.row _ hm2];omega))
   refine ⟨.fz (.int (p.1*ge p.2 j)),?_,rfl⟩
   simp only [Int.zero_add,Qc5,Qm,Q8,Qb,Q0,Qcs,Qhb,Qd,Qgy,Qgx,Qgw,cont,Qgv,ui2,a,Qcr,Qcq,Out.opt,uo5,mo,if_true]) (by rw [length_zip];omega)
 have em:((r.zip M).map fun p=>T.int (p.1*ge p.2 j))=((List.range r.length).map fun k=>ge r k*ge (col M j) k).map T.int:=by
  have z:=Q31 r M j
  rw [show min r.length M.length=r.length by omega] at z
  rw [←z,map_map]
  rfl
 rw [em] at hi
 simp only [Qbr,Qj,hi,Q0,yC1,Qq,yC2,yBi,Qbp,Qah,cont,Out.opt,ub5,Option.map,intL_mp]
 rfl
noncomputable abbrev Q5c:S:=.app 2 (.bi .tup (.cons (.comp (.rng1 (.bi .len (.cons (.var 1) .nil))) [none,some 3,some 1] (.nm 0) .nil (.bi .sum (.cons (.comp (.zip (.var 1) (.var 2)) [none,none,some 0] (.tp [0,1]) .nil (.bin .mul (.var 0) (.ix (.var 1) (.var 2)))) .nil))) .nil))
theorem Q8s (k:Nat) {n:Nat} {M:Tb} (h:Shp n M) (h4:n≤4) {r:List Int} (hr:r.length=n) (hm:∀ x∈r,∀ l∈M,∀ y∈l,Qbm x y=true) {a:Slot} {acc:Tb} (hz:acc.length≤1000):exS (cfn k) Q5c [a,.fz (Qg M),.ow (.lst (acc.map Ql)),.fz (Ql r)]=.nx [a,.fz (Qg M),.ow (.lst ((acc++[rb M r]).map Ql)),.fz (Ql r)]:=by
 have hl:=h.len
 have hw:evW (cfn k) (.rng1 (.bi .len (.cons (.var 1) .nil))) [a,.fz (Qg M),.ow (.lst (acc.map Ql)),.fz (Ql r)]=.ok (Qan 0 M.length,none) [a,.fz (Qg M),.ow (.lst (acc.map Ql)),.fz (Ql r)]:=by
  have c:M.length≤100000:=by omega
  simp only [Qdq,Qbr,Qj,Qm,Q8,Qd,Qb,Q0,yC1,Qq,yC2,yBi,Qbp,Qah,cont,Out.opt,ub2,length_map,Qk8 c]
 have hcomp:evE (cfn k) (.comp (.rng1 (.bi .len (.cons (.var 1) .nil))) [none,some 3,some 1] (.nm 0) .nil (.bi .sum (.cons (.comp (.zip (.var 1) (.var 2)) [none,none,some 0] (.tp [0,1]) .nil (.bin .mul (.var 0) (.ix (.var 1) (.var 2)))) .nil))) [a,.fz (Qg M),.ow (.lst (acc.map Ql)),.fz (Ql r)]=.ok (.ow (.lst ((Qan 0 M.length).map fun x=>T.int (Qd0 r (col M (jOf x)))))) [a,.fz (Qg M),.ow (.lst (acc.map Ql)),.fz (Ql r)] :=
  Qao (rest:=[.fz (Ql r),.fz (Qg M)]) hw rfl rfl rfl (fun x hx=>by
   unfold Qan at hx
   obtain ⟨j,hj,rfl⟩:=mem_map.mp hx
   have hj:=mem_range.mp hj
   exact ⟨.fz (.int (Qd0 r (col M j))),Q8r k h h4 hr hm (by omega),by rw [Qhp];rfl⟩) (by rw [Qap];omega)
 rw [Qiz (f:=fun j=>T.int (Qd0 r (col M j)))] at hcomp
 have em:((List.range M.length).map fun j=>T.int (Qd0 r (col M j)))=(rb M r).map T.int:=by unfold rb;rw [map_map];rfl
 rw [em] at hcomp
 have z:acc.length<100000:=by omega
 simp only [Qpe,Slot.mut,Qd,Qb,Qbr,Qj,hcomp,Q0,yC1,Qq,yC2,yBi,Qbp,Qah,cont,Out.opt,ub9,Qal,Qw1,Qro,frz,Qrn,length_map,z,List.set,if_true,map_append,map_cons,map_nil]
theorem Qvg (k:Nat) {n:Nat} {M:Tb} (h:Shp n M) (h4:n≤4) {a:Slot}:∀ (A acc:Tb) (s:Slot),Qcx s=true→(∀ r∈A,r.length=n)→(∀ r∈A,∀ x∈r,∀ l∈M,∀ y∈l,Qbm x y=true)→acc.length+A.length≤1000 →
  ∃ s',Qe4 (.nm 3) (exS (cfn k) Q5c) (A.map Ql) [a,.fz (Qg M),.ow (.lst (acc.map Ql)),s]=.nx [a,.fz (Qg M),.ow (.lst ((acc++tms A M).map Ql)),s']
 | [],acc,s,_,_,_,_=>⟨s,by unfold tms;simp [Qe4]⟩
 | r::A,acc,s,hs,hA,hm,hz=>by
  rw [length_cons] at hz
  obtain ⟨s',e⟩:=Qvg k h h4 (a:=a) A (acc++[rb M r]) (.fz (Ql r)) rfl (fun x hx=>hA x (mem_cons_of_mem _ hx)) (fun x hx=>hm x (mem_cons_of_mem _ hx)) (by rw [length_append];simp only [length_cons,length_nil];omega)
  refine ⟨s',?_⟩
  have e0:Qgq (.nm 3) (Ql r) [a,.fz (Qg M),.ow (.lst (acc.map Ql)),s]=some [a,.fz (Qg M),.ow (.lst (acc.map Ql)),.fz (Ql r)]:=by
   cases s <;> first | rfl | cases hs
  rw [map_cons]
  unfold Qe4
  rw [e0]
  simp only [Q8s k h h4 (hA r mem_cons_self) (hm r mem_cons_self) (a:=a) (acc:=acc) (by omega)]
  rw [e,append_assoc]
  rfl
theorem Qk3 (k:Nat) {n:Nat} {A M:Tb} (hA:Shp n A) (h:Shp n M) (h4:n≤4) (hm:∀ r∈A,∀ x∈r,∀ l∈M,∀ y∈l,Qbm x y=true):cfn (k+1) 24 [.fz (Qg A),.fz (Qg M)]=.ok (.fz (Qg (tms A M))) [.non,.non]:=by
 have la:=hA.len
 obtain ⟨s',e⟩:=Qvg k h h4 (a:=.fz (Qg A)) A [] .un rfl hA.row hm (by simp only [length_nil];omega)
 rw [map_nil,List.nil_append] at e
 have z0:(0:Nat)≤100000:=by decide
 show Qbw (cfn k) ⟨2,4,Qhn⟩ _=_
 rw [Qbc rfl]
 show Qb7 _ (exS _ Qhn [.fz (Qg A),.fz (Qg M),.un,.un])=_
 simp only [Qad,Qrm,Qkz,Qq,Q0,Qpd,Qe3,length_nil,z0,if_true,Qal,Qq0,Qak,Qb0,length_cons,Nat.reduceAdd,Nat.reduceLT,Qd,Qb,List.set,Qa6,Qjl,Qrj,Qm,Q8,Qw0,Qor,cont,Qoq,Qg5,Qk7,Qnc,e,Qel,Qbb,Qbr,Qj,yC1,yC2,yBi,Qbp,Qah,Slot.prv,Out.opt,ub9,Qck,Qam,Qa2,Qas,Qax,Q1,Option.map]
theorem Q01 (M:Tb):eqO (Qg M) (Qg M)=some true:=by
 have ok:Qr 50 (Qg M)=true:=by
  show (M.map Ql).all (Qr 49)=true
  rw [all_eq_true]
  intro t ht
  obtain ⟨r,_,rfl⟩:=mem_map.mp ht
  show (r.map T.int).all (Qr 48)=true
  rw [all_eq_true]
  intro u hu
  obtain ⟨i,_,rfl⟩:=mem_map.mp hu
  rfl
 show (if _ then _ else _)=_
 rw [if_pos ⟨ok,ok⟩,Ql0 50 _ ok]
theorem Qhq (k:Nat) {n:Nat} (h4:n≤4) {M:Tb} (h:Shp n M):cfn (k+2) 25 [.fz (Qg M),.fz (Qg M)]=.ok (.fz (.bl true)) [.non,.non]:=by
 have hl:=h.len
 have c1:evE (cfn (k+1)) (.comp (.seq (.var 0)) [none] (.nm 0) .nil (.isI (.var 0) "tuple")) [.fz (Qg M),.fz (Qg M)]=.ok (.ow (.lst ((M.map Ql).map fun _=>T.bl true))) [.fz (Qg M),.fz (Qg M)] :=
  Qao (rest:=[]) rfl rfl rfl rfl (fun x hx=>by
   obtain ⟨r,_,rfl⟩:=mem_map.mp hx
   refine ⟨.fz (.bl true),?_,rfl⟩
   simp only [Qgu,Qm,Q8,Qb,Q0,Qkg,Qfv,cont,Qdr,Qdv,Bool.not_false,Bool.and_true,Qbq,if_true]) (by rw [length_map];omega)
 have c2:evE (cfn (k+1)) (.comp (.seq (.var 0)) [none] (.nm 0) .nil (.bi .all (.cons (.comp (.seq (.var 0)) [none] (.nm 0) .nil (.call 20 (.cons (.var 0) .nil))) .nil))) [.fz (Qg M),.fz (Qg M)]=.ok (.ow (.lst ((M.map Ql).map fun _=>T.bl true))) [.fz (Qg M),.fz (Qg M)] :=
  Qao (rest:=[]) rfl rfl rfl rfl (fun x hx=>by
   obtain ⟨r,hr,rfl⟩:=mem_map.mp hx
   have c3:evE (cfn (k+1)) (.comp (.seq (.var 0)) [none] (.nm 0) .nil (.call 20 (.cons (.var 0) .nil))) [.fz (Ql r)]=.ok (.ow (.lst ((r.map T.int).map fun _=>T.bl true))) [.fz (Ql r)] :=
    Qao (rest:=[]) rfl rfl rfl rfl (fun x hx=>by
     obtain ⟨i,_,rfl⟩:=mem_map.mp hx
     exact ⟨.fz (.bl true),rfl,rfl⟩) (by rw [length_map];have:=h.row r hr;omega)
   refine ⟨.fz (.bl true),?_,rfl⟩
   simp only [Qbr,Qj,c3,Q0,yC1,Qq,yC2,yBi,Qbp,Qah,cont,Out.opt,ub3,Option.map,Qjn,Qmr]) (by rw [length_map];omega)
 have en:=Q01 M
 show Qbw (cfn (k+1)) ⟨2,2,Qe0⟩ _=_
 rw [Qbc rfl]
 show Qb7 _ (exS _ Qe0 [.fz (Qg M),.fz (Qg M)])=_
 simp only [Qad,Qbf,Qf6,Qc9,Qgu,Qm,Q8,Qb,Q0,Qkg,Qfv,cont,Qdr,Qdv,Bool.not_false,Bool.and_true,Qbq,if_true,Qaa,yBl,Qe5,Bool.not_true,yOr,Qbe,Qba,Qd,Qa9,Qa8,Qa7,uc2,Option.map,en,Qbr,Qj,c1,yC1,Qq,yC2,yBi,Qbp,Qah,Out.opt,ub3,Qjn,Qmr,yB,Qal,yIf,Qcn,Qa6,Qbb,c2,Qck,Qam,Qa2,Qas,Qax,Q1]
theorem Q02 (M:Tb) (r:List Int):(rb M r).length=M.length:=by unfold rb;rw [length_map,length_range]
theorem Qh3 {n:Nat} {A M:Tb} (hA:Shp n A) (h:Shp n M):Shp n (tms A M):=by
 refine ⟨by unfold tms;rw [length_map,hA.len],fun r hr=>?_⟩
 unfold tms at hr
 obtain ⟨x,_,rfl⟩:=mem_map.mp hr
 rw [Q02,h.len]
theorem Q32 (M:Tb) (j:Nat):(col M j).length=M.length:=by unfold col;rw [length_map]
theorem Qks {M:Tb} {i:Nat} (h:i<M.length):M.getD i []∈M:=by
 rw [getD_eq_getElem?_getD,getElem?_eq_getElem h]
 exact getElem_mem h
theorem Q33 {j:Int}:Qbm 2 j=true:=by unfold Qbm;simp
theorem Qp7 (k:Nat) {n:Nat} (h4:n≤4):cfn (k+1) 27 [.fz (.int (n:Int))]=.ok (.fz (Qg (sc n 1))) [.non]:=by
 have c:n≤100000:=by omega
 have hw:evW (cfn k) (.rng1 (.var 0)) [.fz (.int (n:Int))]=.ok (Qan 0 n,none) [.fz (.int (n:Int))]:=by
  simp only [Qdq,Qm,Q8,Qb,Q0,Qk8 c]
 have hcomp:evE (cfn k) (.comp (.rng1 (.var 0)) [none,some 0] (.nm 0) .nil (.bi .tup (.cons (.comp (.rng1 (.var 1)) [none,some 0] (.nm 0) .nil (.bi .int (.cons (.cmp .eq (.var 1) (.var 0)) .nil))) .nil))) [.fz (.int (n:Int))]=.ok (.ow (.lst ((Qan 0 n).map fun x=>Ql ((List.range n).map fun j=>if jOf x=j then 1 else 0)))) [.fz (.int (n:Int))] :=
  Qao (rest:=[.fz (.int (n:Int))]) hw rfl rfl rfl (fun x hx=>by
   unfold Qan at hx
   obtain ⟨i,hi,rfl⟩:=mem_map.mp hx
   have hw2:evW (cfn k) (.rng1 (.var 1)) [.fz (.int (0+(i:Int))),.fz (.int (n:Int))]=.ok (Qan 0 n,none) [.fz (.int (0+(i:Int))),.fz (.int (n:Int))]:=by
    simp only [Qdq,Qm,Q8,Qd,Qb,Q0,Qk8 c]
   have hi2:evE (cfn k) (.comp (.rng1 (.var 1)) [none,some 0] (.nm 0) .nil (.bi .int (.cons (.cmp .eq (.var 1) (.var 0)) .nil))) [.fz (.int (0+(i:Int))),.fz (.int (n:Int))]=.ok (.ow (.lst ((Qan 0 n).map fun x=>T.int (if i=jOf x then 1 else 0)))) [.fz (.int (0+(i:Int))),.fz (.int (n:Int))] :=
    Qao (rest:=[.fz (.int (0+(i:Int)))]) hw2 rfl rfl rfl (fun x hx=>by
     unfold Qan at hx
     obtain ⟨j,hj,rfl⟩:=mem_map.mp hx
     refine ⟨.fz (.int (if i=j then 1 else 0)),?_,by rw [Qhp];rfl⟩
     by_cases z:i=j
     ·have z':(i:Int)=(j:Int):=by omega
      rw [if_pos z]
      simp only [Int.zero_add,z',Qbr,Qj,Qbe,Qm,Q8,Qd,Qb,Q0,Qba,Qa9,Qa8,cont,Qa7,uc1,Qa4,decide_true,yC1,Qq,yC2,yBi,Qbp,Qah,Out.opt,ub8,if_true]
     ·have z':¬ (i:Int)=(j:Int):=by omega
      rw [if_neg z]
      simp only [Int.zero_add,Qbr,Qj,Qbe,Qm,Q8,Qd,Qb,Q0,Qba,Qa9,Qa8,cont,Qa7,uc1,Qa4,z',decide_false,yC1,Qq,yC2,yBi,Qbp,Qah,Out.opt,ub8,Bool.false_eq_true,if_false]) (by rw [Qap];omega)
   rw [Qiz (f:=fun j=>T.int (if i=j then 1 else 0))] at hi2
   have em:((List.range n).map fun j=>T.int (if i=j then 1 else 0))=((List.range n).map fun j=>if i=j then (1:Int) else 0).map T.int:=by rw [map_map];rfl
   rw [em] at hi2
   refine ⟨.fz (Ql ((List.range n).map fun j=>if i=j then 1 else 0)),?_,by rw [Qhp];rfl⟩
   simp only [Qbr,Qj,hi2,Q0,yC1,Qq,yC2,yBi,Qbp,Qah,cont,Out.opt,ub9]) (by rw [Qap];omega)
 rw [Qiz (f:=fun i=>Ql ((List.range n).map fun j=>if i=j then 1 else 0))] at hcomp
 have em:((List.range n).map fun i=>Ql ((List.range n).map fun j=>if i=j then 1 else 0))=(sc n 1).map Ql:=by unfold sc;rw [map_map];rfl
 rw [em] at hcomp
 show Qbw (cfn k) ⟨1,1,Qiv⟩ _=_
 rw [Qbc rfl]
 show Qb7 _ (exS _ Qiv [.fz (.int (n:Int))])=_
 simp only [Qbb,Qbr,Qj,hcomp,Q0,yC1,Qq,yC2,yBi,Qbp,Qah,cont,Out.opt,ub9,Qal,Qck,Qam,Qa2,Qas,Qax,Q1,Option.map]
open PySem L2
def Qe2 (q:T):Prop:=∃ n f:Int,0≤n∧q=.lst [.int n,.int f]
theorem Qeg (k:Nat) {m:Int} (h0:0<m) (h1:m.natAbs<2^64) {q:T} (hq:Qe2 q):∃ r q',0≤r∧r<m∧Qe2 q'∧cfn (k+1) 19 [.ml q,.fz (.int m)]=.ok (.fz (.int r)) [q',.non]:=by
 obtain ⟨n,f,hn,rfl⟩:=hq
 have h1':m.natAbs<18446744073709551616:=h1
 have h32:(32:Int).natAbs<18446744073709551616:=by decide
 by_cases hf:f=1
 ·refine ⟨n%m,.lst [.int (n / m),.int f],Int.emod_nonneg _ (by omega),Int.emod_lt_of_pos _ h0,⟨_,_,Int.ediv_nonneg hn (by omega),rfl⟩,?_⟩
  show Qbw (cfn k) ⟨2,5,Qez⟩ _=_
  rw [Qbc rfl]
  show Qb7 _ (exS _ Qez [.ml (.lst [.int n,.int f]),.fz (.int m),.un,.un,.un])=_
  subst hf
  simp only [Qad,Qbf,Qbe,Qhb,Qm,Q8,Qb,Q0,Qgy,Qay,Qgx,Qgw,cont,Slot.prv,Qgv,ui1,at_1,Qba,Qa9,Qa8,Qa7,uc1,Qa4,decide_true,Qaa,yBl,Qal,yIf,Qacg,Qbr,Qj,Qtn,yC1,Qd,Qq,yC2,yBi,Qbp,Qah,Out.opt,ub7,h0,Nat.reducePow,h1',and_self,if_true,yUnp,Qak,Qdn,Qb0,length_cons,length_nil,Nat.reduceAdd,Nat.reduceLT,List.set,Qa6,Qu8,Qw2,Qrq,frz,Slot.mut,Qot,Qrp,Q5a,Qbb,Qck,Qrl,Qam,Qa2,Qas,Qax,Q1,Option.map]
 ·refine ⟨(((((n%2147483647+40503)*69621%2147483629)*((n%2147483647+40503)*69621%2147483629)+7817)%2147483587)*48271+11)%2147483629 / 32%m,
   .lst [.int ((((((n%2147483647+40503)*69621%2147483629)*((n%2147483647+40503)*69621%2147483629)+7817)%2147483587)*48271+11)%2147483629),.int f],Int.emod_nonneg _ (by omega),Int.emod_lt_of_pos _ h0,⟨_,_,Int.emod_nonneg _ (by decide),rfl⟩,?_⟩
  show Qbw (cfn k) ⟨2,5,Qez⟩ _=_
  rw [Qbc rfl]
  show Qb7 _ (exS _ Qez [.ml (.lst [.int n,.int f]),.fz (.int m),.un,.un,.un])=_
  have b1:Qbm (n%2147483647+40503) 69621=true:=by unfold Qbm;simp
  have m1:0≤(n%2147483647+40503)*69621%2147483629:=Int.emod_nonneg _ (by decide)
  have m2:(n%2147483647+40503)*69621%2147483629<2147483629:=Int.emod_lt_of_pos _ (by decide)
  generalize hs:(n%2147483647+40503)*69621%2147483629=st at m1 m2 ⊢
  have b2:Qbm st st=true:=by
   unfold Qbm
   simp only [Bool.or_eq_true,decide_eq_true_eq]
   exact .inl (by omega)
  have b3:∀ z,Qbm z 48271=true:=fun z=>by unfold Qbm;simp
  simp only [Qad,Qbf,Qbe,Qhb,Qm,Q8,Qb,Q0,Qgy,Qay,Qgx,Qgw,cont,Slot.prv,Qgv,ui1,at_1,Qba,Qa9,Qa8,Qa7,uc1,Qa4,hf,decide_false,Qaa,yBl,Qal,yIf,Qcn,Qa6,Qbv,Qc5,Qtn,Qcs,Qcr,Qcq,Out.opt,uo8,Int.reduceLT,if_false,if_true,uo1,uo5,b1,hs,Qct,Qbu,frz,Qak,Qb0,length_cons,length_nil,Nat.reduceAdd,Nat.reduceLT,Qd,List.set,b2,Qu8,b3,Qw2,Qrq,Slot.mut,Qot,Qrp,Q5a,Qbb,uo7,Nat.reducePow,h32,and_self,h0,Qck,Qam,Qa2,Qas,Qax,Q1,Option.map]
theorem Qacp (k:Nat) (c:Int):∃ q,Qe2 q∧cfn (k+1) 18 [.fz (.int c)]=.ok (.ow q) [.non]:=by
 refine ⟨.lst [.int (if 0-c>c then 0-c else c),.int (if decide (10^18≤(if 0-c>c then 0-c else c))=true then 1 else 0)],⟨_,_,?_,rfl⟩,?_⟩
 ·split <;> omega
 ·have p1:(18:Int).natAbs≤1000000:=by decide
  have p2:(10:Int).natAbs<18446744073709551616:=by decide
  show Qbw (cfn k) ⟨1,2,Qkm⟩ _=_
  rw [Qbc rfl]
  show Qb7 _ (exS _ Qkm [.fz (.int c),.un])=_
  have z2:(2:Nat)≤100000:=by decide
  simp only [Qad,Qbv,Qbr,Qj,Qm,Q8,Qb,Q0,yC1,Qc5,Qay,Qcs,Qcr,Qcq,cont,Out.opt,uo4,Qq,yC2,yBi,Qbp,Qah,ub6,Qal,Qct,Qbu,frz,Qak,Qb0,length_cons,length_nil,Nat.reduceAdd,Nat.reduceLT,Qd,List.set,if_true,Qa6,Qbb,Qkz,Qbe,Qba,uo9,Int.reduceLE,p1,Nat.reducePow,p2,and_self,Int.reduceToNat,Int.reducePow,Qa9,Qa8,Qa7,uc6,ub8,Qpd,Qe3,z2,Qck,Qam,Qa2,Qas,Qax,Q1,Option.map]
noncomputable abbrev Big:Nat:=1000000000000
def Bd (_ y:T):Prop:=∃ v:Int,y=.int v∧v.natAbs≤Big
theorem Qxb {xs ys:List T} (h:All2 Bd xs ys):∃ r:List Int,ys=r.map T.int∧r.length=xs.length∧∀ v∈r,v.natAbs≤Big:=by
 induction h with
 | nil=>exact ⟨[],rfl,rfl,fun v hv=>(nomatch hv)⟩
 | cons f _ ih =>
  obtain ⟨v,rfl,hv⟩:=f
  obtain ⟨r,rfl,hl,hr⟩:=ih
  refine ⟨v::r,rfl,by rw [length_cons,length_cons,hl],fun w hw=>?_⟩
  rcases mem_cons.mp hw with rfl | hw
  ·exact hv
  ·exact hr w hw
theorem at6 {r:Int} (h0:0≤r) (h1:r<6):∃ v:Int,atI [T.int 0,.int 0,.int 1,.int 0,.int 1,.int (-1)] r=some (.int v)∧v.natAbs≤Big:=by
 obtain ⟨i,rfl⟩:=Int.eq_ofNat_of_zero_le h0
 have hi:i=0∨i=1∨i=2∨i=3∨i=4∨i=5:=by omega
 rcases hi with rfl | rfl | rfl | rfl | rfl | rfl
 ·exact ⟨0,Qcl rfl,by decide⟩
 ·exact ⟨0,Qcl rfl,by decide⟩
 ·exact ⟨1,Qcl rfl,by decide⟩
 ·exact ⟨0,Qcl rfl,by decide⟩
 ·exact ⟨1,Qcl rfl,by decide⟩
 ·exact ⟨-1,Qcl rfl,by decide⟩
theorem Q03 (k:Nat) {kind:Int} {q:T} (hq:Qe2 q):∃ (v:Int) (q':T),v.natAbs≤Big∧Qe2 q'∧cfn (k+2) 23 [.ml q,.fz (.int kind)]=.ok (.fz (.int v)) [q',.non]:=by
 by_cases h3:kind<3
 ·obtain ⟨r1,q1,a0,a1,p1,e1⟩:=Qeg k (m:=6) (by decide) (by decide) hq
  obtain ⟨v,ev,hv⟩:=at6 a0 a1
  refine ⟨v,q1,hv,p1,?_⟩
  have z6:(6:Nat)≤100000:=by decide
  show Qbw (cfn (k+1)) ⟨2,2,Qcd⟩ _=_
  rw [Qbc rfl]
  show Qb7 _ (exS _ Qcd [.ml q,.fz (.int kind)])=_
  simp only [Qad,Qbf,Qbe,Qm,Q8,Qd,Qb,Q0,Qba,Qay,Qa9,Qa8,cont,Qa7,uc3,h3,decide_true,Qaa,yBl,Qal,yIf,Qbb,Qhb,Qkz,Qj,yC1,Qon,Qtm,Int.reduceNeg,Qq,yC2,Qpd,Qe3,frz,length_cons,length_nil,Nat.reduceAdd,z6,if_true,Qgy,Qab,Qv,Qt,all_cons,all_nil,Bool.and_true,Q5,Qw,Qai,Q4,e1,Qav,Qk,Qy,L2.Qi,Option.map,getElem?_cons_zero,Slot.put,reduceCtorEq,if_false,Qgx,Qgw,Qgv,ui1,ev,Qck,Qrl,Qam,Qa2,Qas,Qax,Q1]
 ·by_cases h7:kind<7
  ·obtain ⟨r1,q1,a0,a1,p1,e1⟩:=Qeg k (m:=7) (by decide) (by decide) hq
   refine ⟨r1-3,q1,by show _≤1000000000000;omega,p1,?_⟩
   show Qbw (cfn (k+1)) ⟨2,2,Qcd⟩ _=_
   rw [Qbc rfl]
   show Qb7 _ (exS _ Qcd [.ml q,.fz (.int kind)])=_
   simp only [Qad,Qbf,Qbe,Qm,Q8,Qd,Qb,Q0,Qba,Qay,Qa9,Qa8,cont,Qa7,uc3,h3,decide_false,Qaa,yBl,Qal,yIf,Qcn,Qa6,h7,decide_true,Qbb,Qc5,Qab,Qj,yC1,Qq,yC2,Qv,Qt,all_cons,all_nil,Bool.and_true,Q5,Qw,Qai,Q4,e1,Qav,Qk,Qy,L2.Qi,Option.map,if_true,getElem?_cons_zero,Slot.put,Nat.reduceAdd,reduceCtorEq,if_false,Qcs,Qcr,Qcq,Out.opt,uo4,Qck,Qrl,Qam,Qa2,Qas,Qax,Q1]
  ·obtain ⟨r1,q1,a0,a1,p1,e1⟩:=Qeg k (m:=1999999999999) (by decide) (by decide) hq
   refine ⟨r1-1000000000000+1,q1,by show _≤1000000000000;omega,p1,?_⟩
   have p10:(12:Int).natAbs≤1000000:=by decide
   have p11:(10:Int).natAbs<18446744073709551616:=by decide
   have mo:Qbm 2 1000000000000=true:=by decide
   show Qbw (cfn (k+1)) ⟨2,2,Qcd⟩ _=_
   rw [Qbc rfl]
   show Qb7 _ (exS _ Qcd [.ml q,.fz (.int kind)])=_
   simp only [Qad,Qbf,Qbe,Qm,Q8,Qd,Qb,Q0,Qba,Qay,Qa9,Qa8,cont,Qa7,uc3,h3,decide_false,Qaa,yBl,Qal,yIf,Qcn,Qa6,h7,Qbb,Qc5,Qab,Qj,yC1,Qcs,Qcr,Qcq,Out.opt,uo9,Int.reduceLE,p10,Nat.reducePow,p11,and_self,Int.reduceToNat,Int.reducePow,if_true,uo5,mo,Int.reduceMul,uo4,Int.reduceSub,Qq,yC2,Qv,Qt,all_cons,all_nil,Bool.and_true,Q5,Qw,Qai,Q4,e1,Qav,Qk,Qy,L2.Qi,Option.map,getElem?_cons_zero,Slot.put,Nat.reduceAdd,reduceCtorEq,if_false,uo1,Qck,Qam,Qa2,Qas,Qax,Q1]
noncomputable abbrev Qt5:E:=.call 23 (.cons (.var 1) (.cons (.var 2) .nil))
theorem Q8t (k:Nat) {n:Nat} (h4:n≤4) {kind:Int} {q:T} (hq:Qe2 q) {a b:Slot} {found rows:T} {s6:Slot} {i:Int}:∃ (r:List Int) (q':T),evE (cfn (k+2)) (.bi .tup (.cons (.comp (.rng1 (.var 1)) [none,some 0,some 4] (.nm 0) .nil Qt5) .nil)) [.ml q,.fz (.int n),a,b,.fz (.int kind),.ow found,s6,.ow rows,.fz (.int i)] =
  .ok (.fz (Ql r)) [.ml q',.fz (.int n),a,b,.fz (.int kind),.ow found,s6,.ow rows,.fz (.int i)]∧Qe2 q'∧r.length=n∧∀ v∈r,v.natAbs≤Big:=by
 have hw:evW (cfn (k+2)) (.rng1 (.var 1)) [.ml q,.fz (.int n),a,b,.fz (.int kind),.ow found,s6,.ow rows,.fz (.int i)]=.ok (Qan 0 n,none) [.ml q,.fz (.int n),a,b,.fz (.int kind),.ow found,s6,.ow rows,.fz (.int i)]:=by
  have c:n≤100000:=by omega
  simp only [Qdq,Qm,Q8,Qd,Qb,Q0,Qk8 c]
 obtain ⟨ys,q',e,p,f⟩:=Q8d (cf:=cfn (k+2)) (P:=Qe2) (F:=Bd) (rest:=fun q=>[.ml q,.fz (.int kind)]) (w:=.rng1 (.var 1)) (js:=[none,some 0,some 4]) (e:=Qt5) (ρ:=[.ml q,.fz (.int n),a,b,.fz (.int kind),.ow found,s6,.ow rows,.fz (.int i)])
  (ρ':=fun q'=>[.ml q',.fz (.int n),a,b,.fz (.int kind),.ow found,s6,.ow rows,.fz (.int i)]) hq hw rfl (fun s q'=>rfl) rfl (fun s q' _=>rfl) (fun x hx q hq=>by
   obtain ⟨v,q1,hv,p1,e1⟩:=Q03 k (kind:=kind) hq
   refine ⟨.fz (.int v),_,q1,?_,rfl,p1,_,rfl,hv⟩
   simp only [Qab,Qj,Qm,Q8,Qd,Qb,Q0,yC1,Qq,yC2,Qv,Qt,all_cons,all_nil,Bool.and_true,Q5,Qw,Qai,Q4,e1,Qav,Qk,Qy,L2.Qi,reduceCtorEq,Option.map,if_false,Nat.reduceAdd,if_true,getElem?_cons_zero,Slot.put,Nat.reduceEqDiff]) (by rw [Qap];omega)
 obtain ⟨r,rfl,hl,hr⟩:=Qxb f
 rw [Qap] at hl
 refine ⟨r,q',?_,p,hl,hr⟩
 simp only [Qbr,Qj,e,Q0,yC1,Qq,yC2,yBi,Qbp,Qah,cont,Out.opt,ub9]
def Rows (n i:Nat) (rows:Tb):Prop:=rows.length=i∧∀ r∈rows,r.length=n∧∀ x∈r,(x:Int).natAbs≤Big
theorem Rows.snoc {n i:Nat} {rows:Tb} {r:List Int} (h:Rows n i rows) (hl:r.length=n) (hr:∀ x∈r,(x:Int).natAbs≤Big):Rows n (i+1) (rows++[r]):=by
 refine ⟨by rw [length_append,h.1];rfl,fun x hx=>?_⟩
 rcases mem_append.mp hx with hx | hx
 ·exact h.2 x hx
 ·rw [mem_singleton.mp hx];exact ⟨hl,hr⟩
noncomputable abbrev Q04:S:=.app 7 (.bi .tup (.cons (.comp (.rng1 (.var 1)) [none,some 0,some 4] (.nm 0) .nil Qt5) .nil))
theorem Q34 (k:Nat) {n:Nat} (h4:n≤4) {kind:Int} {q:T} (hq:Qe2 q) {a b:Slot} {found:T} {s6 s8:Slot} (o8:Qcx s8=true):∃ (rows:Tb) (q':T) (t8:Slot),Qe4 (.nm 8) (exS (cfn (k+2)) Q04) (Qan 0 n) [.ml q,.fz (.int n),a,b,.fz (.int kind),.ow found,s6,.ow (.lst []),s8] =
  .nx [.ml q',.fz (.int n),a,b,.fz (.int kind),.ow found,s6,.ow (.lst (rows.map Ql)),t8]∧Qe2 q'∧Rows n n rows∧Qcx t8=true:=by
 obtain ⟨ρ',e,rows,q',t8,p,hr,o,rfl⟩:=Qec (fun j ρ=>∃ (rows:Tb) (q':T) (t8:Slot),Qe2 q'∧Rows n j rows∧Qcx t8=true∧ρ=[.ml q',.fz (.int n),a,b,.fz (.int kind),.ow found,s6,.ow (.lst (rows.map Ql)),t8]) (tg:=.nm 8) (b:=exS (cfn (k+2)) Q04) (xs:=Qan 0 n) (n:=0) (ρ:=[.ml q,.fz (.int n),a,b,.fz (.int kind),.ow found,s6,.ow (.lst []),s8]) ⟨[],q,s8,hq,⟨rfl,fun r hr=>(nomatch hr)⟩,o8,rfl⟩ (by
  rintro i x ρ hx ⟨rows,q1,t8,p1,hr,o,rfl⟩
  have hi:i<n:=by have:=(List.getElem?_eq_some_iff.mp hx).1;rwa [Qap] at this
  rw [Qhu hi] at hx
  cases hx
  obtain ⟨r,q2,e2,p2,l2,v2⟩:=Q8t k h4 p1 (a:=a) (b:=b) (found:=found) (rows:=.lst (rows.map Ql)) (s6:=s6) (i:=0+(i:Int)) (n:=n) (kind:=kind)
  have z:rows.length<100000:=by have:=hr.1;omega
  refine ⟨[.ml q1,.fz (.int n),a,b,.fz (.int kind),.ow found,s6,.ow (.lst (rows.map Ql)),.fz (.int (0+(i:Int)))],_,(by cases t8 <;> first | rfl | cases o),.inl ?_,rows++[r],q2,.fz (.int (0+(i:Int))),p2,hr.snoc l2 v2,rfl,rfl⟩
  simp only [Qpe,Slot.mut,Qd,Qb,e2,Qal,Qw1,Qro,frz,Qrn,length_map,z,List.set,if_true,map_append,map_cons,map_nil])
 rw [Qap,Nat.zero_add] at hr
 exact ⟨rows,q',t8,e,p,hr,o⟩
noncomputable abbrev Q05:S:=.seq (.set 7 (.lst .nil)) (.seq (.for_ (.rng1 (.var 1)) (.nm 8) Q04) (.app 5 (.bi .tup (.cons (.var 7) .nil))))
noncomputable def own1:Slot→Bool
 | .un=>true
 | .fz _=>true
 | .ow _=>true
 | _=>false
theorem Qxc (k:Nat) {n m:Nat} (h4:n≤4) (hm:m≤4) {kind:Int} {q:T} (hq:Qe2 q) {a b:Slot}:∃ (Ms:List Tb) (q':T) (t6 t7 t8:Slot),Qe4 (.nm 6) (exS (cfn (k+2)) Q05) (Qan 0 m) [.ml q,.fz (.int n),a,b,.fz (.int kind),.ow (.lst []),.un,.un,.un] =
  .nx [.ml q',.fz (.int n),a,b,.fz (.int kind),.ow (.lst (Ms.map Qg)),t6,t7,t8]∧Qe2 q'∧Ms.length=m∧∀ M∈Ms,Sq n M:=by
 obtain ⟨ρ',e,Ms,q',t6,t7,t8,p,hl,hs,_,_,_,rfl⟩:=Qec (fun j ρ=>∃ (Ms:List Tb) (q':T) (t6 t7 t8:Slot),Qe2 q'∧Ms.length=j∧(∀ M∈Ms,Sq n M)∧Qcx t6=true∧own1 t7=true∧Qcx t8=true∧ρ=[.ml q',.fz (.int n),a,b,.fz (.int kind),.ow (.lst (Ms.map Qg)),t6,t7,t8]) (tg:=.nm 6) (b:=exS (cfn (k+2)) Q05) (xs:=Qan 0 m) (n:=0) (ρ:=[.ml q,.fz (.int n),a,b,.fz (.int kind),.ow (.lst []),.un,.un,.un]) ⟨[],q,.un,.un,.un,hq,rfl,fun M hM=>(nomatch hM),rfl,rfl,rfl,rfl⟩ (by
  rintro i x ρ hx ⟨Ms,q1,t6,t7,t8,p1,hl,hs,o6,o7,o8,rfl⟩
  have hi:i<m:=by have:=(List.getElem?_eq_some_iff.mp hx).1;rwa [Qap] at this
  obtain ⟨rows,q2,u8,e2,p2,hr,w8⟩:=Q34 k h4 p1 (a:=a) (b:=b) (found:=.lst (Ms.map Qg)) (s6:=.fz x) o8 (n:=n) (kind:=kind)
  have c:n≤100000:=by omega
  have z:Ms.length<100000:=by omega
  refine ⟨[.ml q1,.fz (.int n),a,b,.fz (.int kind),.ow (.lst (Ms.map Qg)),.fz x,t7,t8],_,(by cases t6 <;> first | rfl | cases o6),.inl ?_,Ms++[rows],q2,.fz x,.ow (.lst (rows.map Ql)),u8,p2,by rw [length_append,hl];rfl,fun M hM=>?_,rfl,rfl,w8,rfl⟩
  ·have es:exS (cfn (k+2)) (.set 7 (.lst .nil)) [.ml q1,.fz (.int n),a,b,.fz (.int kind),.ow (.lst (Ms.map Qg)),.fz x,t7,t8]=.nx [.ml q1,.fz (.int n),a,b,.fz (.int kind),.ow (.lst (Ms.map Qg)),.fz x,.ow (.lst []),t8]:=by
    cases t7 <;> first | rfl | (cases o7;done)
   rw [Qad,es,Qa6]
   simp only [Qad,Qjl,Qdq,Qm,Q8,Qd,Qb,Q0,Qk8 c,Qal,Qnc,e2,Qel,Qa6,Qpe,Slot.mut,Qbr,Qj,yC1,Qq,yC2,yBi,Qbp,Qah,cont,Slot.prv,Out.opt,ub9,Qw1,Qro,frz,Qrn,length_map,z,List.set,if_true,map_append,map_cons,map_nil]
  ·rcases mem_append.mp hM with hM | hM
   ·exact hs M hM
   ·rw [mem_singleton.mp hM]
    exact ⟨hr.1,fun r h=>(hr.2 r h).1,fun r h=>(hr.2 r h).2⟩)
 rw [Qap,Nat.zero_add] at hl
 exact ⟨Ms,q',t6,t7,t8,e,p,hl,hs⟩
theorem Q06 (k:Nat) {n:Nat} (h4:n≤4) {mo:Int} (o1:1≤mo) (o4:mo≤4) {q:T} (hq:Qe2 q):∃ Ms q',1≤Ms.length∧Ms.length≤4∧(∀ M∈Ms,Sq n M)∧Qe2 q'∧cfn (k+3) 22 [.ml q,.fz (.int n),.fz (.int mo)]=.ok (.ow (Qu Ms)) [q',.non,.non]:=by
 obtain ⟨r1,q1,a0,a1,p1,e1⟩:=Qeg (k+1) (m:=mo) (by omega) (by omega) hq
 obtain ⟨kind,q2,b0,b1,p2,e2⟩:=Qeg (k+1) (m:=8) (by decide) (by decide) p1
 obtain ⟨m,hm⟩:=Int.eq_ofNat_of_zero_le (show 0≤1+r1 by omega)
 obtain ⟨Ms,q4,t6,t7,t8,e4,p4,hl,hs⟩:=Qxc k h4 (show m≤4 by omega) p2 (a:=.fz (.int mo)) (b:=.fz (.int m)) (n:=n) (kind:=kind)
 refine ⟨Ms,q4,by omega,by omega,hs,p4,?_⟩
 have c:m≤100000:=by omega
 have z0:(0:Nat)≤100000:=by decide
 show Qbw (cfn (k+2)) ⟨3,9,Qgk⟩ _=_
 rw [Qbc rfl]
 show Qb7 _ (exS _ Qgk [.ml q,.fz (.int n),.fz (.int mo),.un,.un,.un,.un,.un,.un])=_
 simp only [Qad,Qbv,Qc5,Qay,Q0,Qcs,Qab,Qj,Qm,Q8,Qb,yC1,Qd,Qq,yC2,Qv,Qt,all_cons,all_nil,Bool.and_true,Q5,Qw,Qai,Q4,e1,Qav,Qk,Qy,L2.Qi,Option.map,if_true,getElem?_cons_zero,Slot.put,Nat.reduceAdd,reduceCtorEq,if_false,Qcr,Qcq,cont,Out.opt,uo1,hm,Qal,Qct,Qbu,frz,Qak,Qb0,length_cons,length_nil,Nat.reduceLT,List.set,Qa6,e2,Qrm,Qkz,Qpd,Qe3,z0,Qq0,Qjl,Qdq,Qk8 c,Qnc,e4,Qel,Qbb,Qck,Qam,Qa2,Qas,Qax,Q1]
open PySem L2
theorem Q07 {cf:CF} {i:Nat} {js:List (Option Nat)} {e:E} {ρ rest:En} {xs:List T} {f:T→T} (hs:(Qa ρ i).prv=some (.lst xs)) (hj:js.all (fun j=>decide (j≠some i))=true) (hcap:Qch js ρ=.un::rest) (hml:rest.all Qgt=true) (hap:Qb1 js=true)
  (he:∀ x∈xs,∃ r,evE cf e (.fz x::rest)=.ok r (.fz x::rest)∧frz r=some (f x)) (hz:xs.length≤100000) :
  evE cf (.compS i js (.nm 0) .nil e) ρ=.ok (.ow (.lst (xs.map f))) ρ:=by
 have q:=Qao (cf:=cf) (w:=.seq (.lit (.lst xs))) (js:=js) (e:=e) (ρ:=ρ) (rest:=rest) (f:=f) rfl hcap hml hap he hz
 have q2:(match Qcf (.nm 0) (evC cf .nil) (evE cf e) xs [] (Qch js ρ) with
   | .ok us ρi=>if Qea (Qch js ρ) ρi=true∧Qb1 js=true then Out.ok (PV.ow (.lst us)) (Qjc js ρi ρ) else .no
   | _=>.no)=.ok (.ow (.lst (xs.map f))) ρ:=q
 unfold evE
 rw [hs]
 simp only [if_pos hj]
 exact q2
noncomputable abbrev Qau (r:List Int):T:=.lst (r.map .int)
theorem Qlk {n j:Nat} (h:j<n):ixN n (j:Int)=some j:=by
 unfold ixN
 rw [if_pos (by omega),if_pos (by omega),Int.toNat_natCast]
theorem Qse:∀ (r s:List Int),Qfh (r.map T.int) (s.map T.int)=(r.zip s).map fun p=>T.tup [.int p.1,.int p.2]
 | [],_=>rfl
 | _::_,[]=>rfl
 | x::xs,y::ys=>by
  rw [map_cons,map_cons,Qfh,Qse xs ys]
  rfl
theorem Qsf (f:Int→Int→Int):∀ (r s:List Int),((r.zip s).map fun p=>f p.1 p.2)=List.zipWith f r s
 | [],_=>rfl
 | _::_,[]=>rfl
 | x::xs,y::ys=>by
  rw [List.zip_cons_cons,map_cons,Qsf f xs ys,List.zipWith_cons_cons]
structure Mk (n j:Nat) (R:Tb):Prop where
 shp:Shp n R
 bd:∀ r∈R,∀ x∈r,(x:Int).natAbs≤4^j
 det:(Qa1 n R).natAbs=1
theorem Q08 (j:Nat):4^j*4=4^(j+1):=rfl
theorem Mk.set {n j:Nat} {R:Tb} (h:Mk n j R) {x:Nat} {r:List Int} (hl:r.length=n) (hb:∀ v∈r,(v:Int).natAbs≤4^(j+1)) (hd:(Qa1 n (R.set x r)).natAbs=1):Mk n (j+1) (R.set x r):=by
 have p:=Q08 j
 refine ⟨⟨by rw [length_set,h.shp.len],fun s hs=>?_⟩,fun s hs v hv=>?_,hd⟩
 ·rcases mem_or_eq_of_mem_set hs with z | z
  ·exact h.shp.row s z
  ·rw [z,hl]
 ·rcases mem_or_eq_of_mem_set hs with z | z
  ·have:=h.bd s z v hv;omega
  ·rw [z] at hv;exact hb v hv
theorem Mk.neg {n j:Nat} {R:Tb} (h:Mk n j R) (h1:1≤n) (h4:n≤4) {x:Nat} (hx:x<n):Mk n (j+1) (R.set x ((R.getD x []).map fun v=>0-v)):=by
 have p:=Q08 j
 have hm:=Qks (M:=R) (i:=x) (by rw [h.shp.len];exact hx)
 refine h.set (by rw [length_map,h.shp.row _ hm]) (fun v hv=>?_) (by rw [Q3u h.shp h1 h4 hx,Int.natAbs_neg,h.det])
 obtain ⟨u,hu,rfl⟩:=mem_map.mp hv
 have:=h.bd _ hm u hu
 omega
theorem Qsg {f:Int→Int→Int}:∀ {r s:List Int} {v:Int},v∈List.zipWith f r s→∃ a b,a∈r∧b∈s∧v=f a b
 | [],s,v,h=>by cases s <;> cases h
 | a::r,[],v,h=>by cases h
 | a::r,b::s,v,h=>by
  rw [List.zipWith_cons_cons] at h
  rcases mem_cons.mp h with z | z
  ·exact ⟨a,b,.head _,.head _,z⟩
  ·obtain ⟨c,d,hc,hd,e⟩:=Qsg z
   exact ⟨c,d,.tail _ hc,.tail _ hd,e⟩
theorem Mk.add {n j:Nat} {R:Tb} (h:Mk n j R) (h1:1≤n) (h4:n≤4) {x y:Nat} (hx:x<n) (hy:y<n) (hxy:x≠y) {t:Int} (ht:t.natAbs≤3):Mk n (j+1) (R.set x (List.zipWith (fun u v=>u+t*v) (R.getD x []) (R.getD y []))):=by
 have p:=Q08 j
 have hm:=Qks (M:=R) (i:=x) (by rw [h.shp.len];exact hx)
 have hk:=Qks (M:=R) (i:=y) (by rw [h.shp.len];exact hy)
 refine h.set (by rw [length_zipWith,h.shp.row _ hm,h.shp.row _ hk];omega) (fun v hv=>?_) (by rw [Qvf h.shp h1 h4 hx hy,if_neg hxy,Int.one_mul,h.det])
 obtain ⟨a,b,ha,hb,rfl⟩:=Qsg hv
 have b1:=h.bd _ hm a ha
 have b2:=h.bd _ hk b hb
 have b3:=Int.natAbs_add_le a (t*b)
 rw [Int.natAbs_mul] at b3
 have b4:t.natAbs*b.natAbs≤3*4^j:=Nat.mul_le_mul ht b2
 omega
theorem Mk.swap {n j:Nat} {R:Tb} (h:Mk n j R) (h1:1≤n) (h4:n≤4) {x y:Nat} (hx:x<n) (hy:y<n):Mk n (j+1) ((R.set x (R.getD y [])).set y (R.getD x [])):=by
 have p:=Q08 j
 have hm:=Qks (M:=R) (i:=x) (by rw [h.shp.len];exact hx)
 have hk:=Qks (M:=R) (i:=y) (by rw [h.shp.len];exact hy)
 have mem:∀ s∈(R.set x (R.getD y [])).set y (R.getD x []),s∈R:=fun s hs=>by
  rcases mem_or_eq_of_mem_set hs with z | z
  ·rcases mem_or_eq_of_mem_set z with z | z
   ·exact z
   ·rw [z];exact hk
  ·rw [z];exact hm
 refine ⟨⟨by rw [length_set,length_set,h.shp.len],fun s hs=>h.shp.row s (mem s hs)⟩,fun s hs v hv=>?_,?_⟩
 ·have:=h.bd s (mem s hs) v hv;omega
 ·by_cases e:x=y
  ·subst e
   have hx':x<R.length:=by rw [h.shp.len];exact hx
   have e2:(R.set x (R.getD x [])).set x (R.getD x [])=R:=by
    have e3:R.getD x []=R[x]:=by rw [getD_eq_getElem?_getD,getElem?_eq_getElem hx'];rfl
    rw [e3,List.set_getElem_self,List.set_getElem_self]
   rw [e2,h.det]
  ·rw [Q0u h.shp h1 h4 hx hy e,Int.natAbs_neg,h.det]
theorem Qjv {R:Tb} {x:Nat} (h:x<R.length):atI (R.map Qau) (x:Int)=some (Qau (R.getD x [])) :=
 Qcl (by rw [getElem?_map,getElem?_eq_getElem h,getD_eq_getElem?_getD,getElem?_eq_getElem h];rfl)
theorem Qll {R:Tb} {x:Nat} {r:List Int}:(R.map Qau).set x (Qau r)=(R.set x r).map Qau:=by rw [map_set]
noncomputable abbrev Qfr:S:=.put 2 (.var 4) (.comp (.seq (.ix (.var 2) (.var 4))) [none] (.nm 0) .nil (.bin .sub (.int 0) (.var 0)))
noncomputable abbrev Qi0:S:=.put 2 (.var 4) (.comp (.zip (.ix (.var 2) (.var 4)) (.ix (.var 2) (.var 5))) [none,none,some 7] (.tp [0,1]) .nil (.bin .add (.var 0) (.bin .mul (.var 2) (.var 1))))
section
variable {k n:Nat} {q:T} {R:Tb} {x y:Nat} {s3 s7:Slot} {kd:Int}
theorem Q8u (hx:x<R.length) (hz:(R.getD x []).length≤1000):exS (cfn k) Qfr [.ml q,.fz (.int n),.ow (.lst (R.map Qau)),s3,.fz (.int x),.fz (.int y),.fz (.int kd),s7]=.nx [.ml q,.fz (.int n),.ow (.lst ((R.set x ((R.getD x []).map fun v=>0-v)).map Qau)),s3,.fz (.int x),.fz (.int y),.fz (.int kd),s7]:=by
 have a:=Qjv hx
 have hw:evW (cfn k) (.seq (.ix (.var 2) (.var 4))) [.ml q,.fz (.int n),.ow (.lst (R.map Qau)),s3,.fz (.int x),.fz (.int y),.fz (.int kd),s7]=.ok ((R.getD x []).map T.int,none) [.ml q,.fz (.int n),.ow (.lst (R.map Qau)),s3,.fz (.int x),.fz (.int y),.fz (.int kd),s7]:=by
  simp only [Qrj,Qhb,Qm,Q8,Qd,Qb,Q0,Qgy,Qgx,Qgw,cont,Slot.prv,Qgv,ui1,a,Qw0,Qor,Qoq,Qg5,Qk7]
 have hc:=Qao (cf:=cfn k) (w:=.seq (.ix (.var 2) (.var 4))) (js:=[none]) (e:=.bin .sub (.int 0) (.var 0)) (ρ:=[.ml q,.fz (.int n),.ow (.lst (R.map Qau)),s3,.fz (.int x),.fz (.int y),.fz (.int kd),s7]) (rest:=[]) (f:=fun t=>match t with | .int v=>T.int (0-v) | t=>t) hw rfl rfl rfl (fun t ht=>by
  obtain ⟨v,_,rfl⟩:=mem_map.mp ht
  refine ⟨.fz (.int (0-v)),?_,rfl⟩
  simp only [Qc5,Qay,Q0,Qcs,Qm,Q8,Qb,Qcr,Qcq,cont,Out.opt,uo4]) (by rw [length_map];omega)
 have em:((R.getD x []).map T.int).map (fun t=>match t with | .int v=>T.int (0-v) | t=>t)=((R.getD x []).map fun v=>0-v).map T.int:=by rw [map_map,map_map];rfl
 rw [em] at hc
 have ix:ixN (R.map Qau).length (x:Int)=some x:=Qlk (by rw [length_map];exact hx)
 rw [←Qll]
 generalize ((R.getD x []).map fun v=>0-v)=r at hc ⊢
 generalize R.map Qau=L at hc ix ⊢
 simp only [Qu8,hc,Qal,Qw2,Qrq,frz,Slot.mut,Qd,Qb,Qm,Q8,Qot,Qrp,Qak,ix,List.set,if_true]
theorem Q8v (hx:x<R.length) (hy:y<R.length) (hz:(R.getD x []).length≤1000) {t:Int} (ht:t.natAbs≤3):exS (cfn k) Qi0 [.ml q,.fz (.int n),.ow (.lst (R.map Qau)),s3,.fz (.int x),.fz (.int y),.fz (.int kd),.fz (.int t)]=.nx [.ml q,.fz (.int n),.ow (.lst ((R.set x (List.zipWith (fun u v=>u+t*v) (R.getD x []) (R.getD y []))).map Qau)),s3,.fz (.int x),.fz (.int y),.fz (.int kd),.fz (.int t)]:=by
 have a:=Qjv hx
 have b:=Qjv hy
 have hw:evW (cfn k) (.zip (.ix (.var 2) (.var 4)) (.ix (.var 2) (.var 5))) [.ml q,.fz (.int n),.ow (.lst (R.map Qau)),s3,.fz (.int x),.fz (.int y),.fz (.int kd),.fz (.int t)]=.ok (((R.getD x []).zip (R.getD y [])).map fun p=>T.tup [.int p.1,.int p.2],none) [.ml q,.fz (.int n),.ow (.lst (R.map Qau)),s3,.fz (.int x),.fz (.int y),.fz (.int kd),.fz (.int t)]:=by
  simp only [Qu7,Qhb,Qm,Q8,Qd,Qb,Q0,Qgy,Qgx,Qgw,cont,Slot.prv,Qgv,ui1,a,Q0h,b,Qrk,Qse]
 have hc:=Qki (cf:=cfn k) (w:=.zip (.ix (.var 2) (.var 4)) (.ix (.var 2) (.var 5))) (js:=[none,none,some 7]) (e:=.bin .add (.var 0) (.bin .mul (.var 2) (.var 1))) (ρ:=[.ml q,.fz (.int n),.ow (.lst (R.map Qau)),s3,.fz (.int x),.fz (.int y),.fz (.int kd),.fz (.int t)]) (rest:=[.fz (.int t)]) (a:=fun p:Int×Int=>T.int p.1) (b:=fun p=>T.int p.2) (f:=fun p=>T.int (p.1+t*p.2)) hw rfl rfl rfl (fun p hp=>by
  have mo:Qbm t p.2=true:=Qh2 (by omega)
  refine ⟨.fz (.int (p.1+t*p.2)),?_,rfl⟩
  simp only [Qc5,Qm,Q8,Qb,Q0,Qcs,Qd,Qcr,Qcq,cont,Out.opt,uo5,mo,if_true,uo1]) (by rw [length_zip];omega)
 have em:(((R.getD x []).zip (R.getD y [])).map fun p=>T.int (p.1+t*p.2))=(List.zipWith (fun u v=>u+t*v) (R.getD x []) (R.getD y [])).map T.int:=by
  rw [←Qsf,map_map]
  rfl
 rw [em] at hc
 have ix:ixN (R.map Qau).length (x:Int)=some x:=Qlk (by rw [length_map];exact hx)
 rw [←Qll]
 generalize List.zipWith (fun u v=>u+t*v) (R.getD x []) (R.getD y [])=r at hc ⊢
 generalize R.map Qau=L at hc ix ⊢
 simp only [Qu8,hc,Qal,Qw2,Qrq,frz,Slot.mut,Qd,Qb,Qm,Q8,Qot,Qrp,Qak,ix,List.set,if_true]
theorem Q8w (hx:x<R.length) (hy:y<R.length):exS (cfn k) (.swp 2 4 5) [.ml q,.fz (.int n),.ow (.lst (R.map Qau)),s3,.fz (.int x),.fz (.int y),.fz (.int kd),s7]=.nx [.ml q,.fz (.int n),.ow (.lst (((R.set x (R.getD y [])).set y (R.getD x [])).map Qau)),s3,.fz (.int x),.fz (.int y),.fz (.int kd),s7]:=by
 have a:=Qjv hx
 have b:=Qjv hy
 have z2:(2:Nat)≤100000:=by decide
 have ix:ixN (R.map Qau).length (x:Int)=some x:=Qlk (by rw [length_map];exact hx)
 have iy:ixN (R.map Qau).length (y:Int)=some y:=Qlk (by rw [length_map];exact hy)
 rw [←Qll,←Qll]
 generalize R.getD x []=rx at a ⊢
 generalize R.getD y []=ry at b ⊢
 generalize R.map Qau=L at a b ix iy ⊢
 have ev:evE (cfn k) (.tup (.cons (.ix (.var 2) (.var 5)) (.cons (.ix (.var 2) (.var 4)) .nil))) [.ml q,.fz (.int n),.ow (.lst L),s3,.fz (.int x),.fz (.int y),.fz (.int kd),s7]=.ok (.fz (.tup [Qau ry,Qau rx])) [.ml q,.fz (.int n),.ow (.lst L),s3,.fz (.int x),.fz (.int y),.fz (.int kd),s7]:=by
  simp only [Qom,Qj,Qhb,Qm,Q8,Qd,Qb,Q0,Qgy,Qgx,Qgw,cont,Slot.prv,Qgv,ui1,b,yC1,a,Qq,yC2,Qtl,Qe3,frz,length_cons,length_nil,Nat.reduceAdd,z2,if_true]
 rw [exS,ev]
 show (Qak (ixN L.length (x:Int)) fun m=>Qak (ixN L.length (y:Int)) fun n=>_)=_
 rw [ix,iy]
 rfl
end
open PySem L2
theorem Mk.up {n j:Nat} {R:Tb} (h:Mk n j R):Mk n (j+1) R:=⟨h.shp,fun r hr x hx=>by have:=h.bd r hr x hx;have:=Q08 j;omega,h.det⟩
theorem Mk.most {n j:Nat} {R:Tb} (h:Mk n j R) (hj:j≤6):∀ r∈R,∀ x∈r,(x:Int).natAbs≤4096:=fun r hr x hx=>by
 have a:=h.bd r hr x hx
 have b:4^j≤4^6:=Nat.pow_le_pow_right (by decide) hj
 have c:(4:Nat)^6=4096:=by decide
 omega
theorem Qkt (n:Nat) (x:Int):Shp n (sc n x):=by
 unfold sc
 refine ⟨by rw [length_map,length_range],fun r hr=>?_⟩
 obtain ⟨i,_,rfl⟩:=mem_map.mp hr
 rw [length_map,length_range]
theorem Q5d {n:Nat}:∀ r∈sc n 1,∀ x∈r,(x:Int).natAbs≤4^0:=fun r hr x hx=>by
 unfold sc at hr
 obtain ⟨i,_,rfl⟩:=mem_map.mp hr
 obtain ⟨j,_,rfl⟩:=mem_map.mp hx
 split <;> decide
theorem Qsh {n:Nat} (h1:1≤n) (h4:n≤4):Mk n 0 (sc n 1):=⟨Qkt n 1,Q5d,by rw [Qr9 h1 h4];rfl⟩
noncomputable abbrev Qjw:S:=(.seq (.setF 4 (.call 19 (.cons (.var 0) (.cons (.var 1) .nil))))
 (.seq (.setF 5 (.call 19 (.cons (.var 0) (.cons (.var 1) .nil))))
 (.seq (.setF 6 (.call 19 (.cons (.var 0) (.cons (.int 3) .nil))))
 (.ite (.cmp .eq (.var 6) (.int 0)) Qfr (.ite (.cmp .eq (.var 6) (.int 1)) (.swp 2 4 5) (.ite (.cmp .ne (.var 4) (.var 5)) (.seq (.setF 7 (.bin .sub (.call 19 (.cons (.var 0) (.cons (.int 7) .nil))) (.int 3))) Qi0) .nil))))))
theorem Q35 (k:Nat) {n j:Nat} (h1:1≤n) (h4:n≤4) {q:T} (hq:Qe2 q) {R:Tb} (h:Mk n j R) {s3 s4 s5 s6 s7:Slot} (o4:Qcx s4=true) (o5:Qcx s5=true) (o6:Qcx s6=true) (o7:Qcx s7=true) :
  ∃ (R':Tb) (q':T) (t4 t5 t6 t7:Slot),Mk n (j+1) R'∧Qe2 q'∧Qcx t4=true∧Qcx t5=true∧Qcx t6=true∧Qcx t7=true∧exS (cfn (k+1)) Qjw [.ml q,.fz (.int n),.ow (.lst (R.map Qau)),s3,s4,s5,s6,s7]=.nx [.ml q',.fz (.int n),.ow (.lst (R'.map Qau)),s3,t4,t5,t6,t7]:=by
 have hl:=h.shp.len
 obtain ⟨x,q1,x0,xn,p1,e1⟩:=Qeg k (m:=(n:Int)) (by omega) (by omega) hq
 obtain ⟨y,q2,y0,yn,p2,e2⟩:=Qeg k (m:=(n:Int)) (by omega) (by omega) p1
 obtain ⟨kd,q3,k0,k3,p3,e3⟩:=Qeg k (m:=3) (by decide) (by decide) p2
 obtain ⟨x,rfl⟩:=Int.eq_ofNat_of_zero_le x0
 obtain ⟨y,rfl⟩:=Int.eq_ofNat_of_zero_le y0
 have hx:x<n:=by omega
 have hy:y<n:=by omega
 have hzx:(R.getD x []).length≤1000:=by
  have:=h.shp.row _ (Qks (M:=R) (i:=x) (by omega))
  omega
 have w1:exS (cfn (k+1)) (.setF 4 (.call 19 (.cons (.var 0) (.cons (.var 1) .nil)))) [.ml q,.fz (.int n),.ow (.lst (R.map Qau)),s3,s4,s5,s6,s7]=.nx [.ml q1,.fz (.int n),.ow (.lst (R.map Qau)),s3,.fz (.int x),s5,s6,s7]:=by
  cases s4 <;> first | (cases o4;done) | simp only [Qbv,Qab,Qj,Qm,Q8,Qb,Q0,yC1,Qd,Qq,yC2,Qv,Qt,all_cons,all_nil,Bool.and_true,Q5,Qw,Qai,Q4,e1,Qav,Qk,Qy,L2.Qi,Option.map,if_true,getElem?_cons_zero,Slot.put,Nat.reduceAdd,reduceCtorEq,if_false,Qal,Qct,Qbu,frz,Qak,Qb0,length_cons,length_nil,Nat.reduceLT,List.set]
 have w2:exS (cfn (k+1)) (.setF 5 (.call 19 (.cons (.var 0) (.cons (.var 1) .nil)))) [.ml q1,.fz (.int n),.ow (.lst (R.map Qau)),s3,.fz (.int x),s5,s6,s7]=.nx [.ml q2,.fz (.int n),.ow (.lst (R.map Qau)),s3,.fz (.int x),.fz (.int y),s6,s7]:=by
  cases s5 <;> first | (cases o5;done) | simp only [Qbv,Qab,Qj,Qm,Q8,Qb,Q0,yC1,Qd,Qq,yC2,Qv,Qt,all_cons,all_nil,Bool.and_true,Q5,Qw,Qai,Q4,e2,Qav,Qk,Qy,L2.Qi,Option.map,if_true,getElem?_cons_zero,Slot.put,Nat.reduceAdd,reduceCtorEq,if_false,Qal,Qct,Qbu,frz,Qak,Qb0,length_cons,length_nil,Nat.reduceLT,List.set]
 have w3:exS (cfn (k+1)) (.setF 6 (.call 19 (.cons (.var 0) (.cons (.int 3) .nil)))) [.ml q2,.fz (.int n),.ow (.lst (R.map Qau)),s3,.fz (.int x),.fz (.int y),s6,s7]=.nx [.ml q3,.fz (.int n),.ow (.lst (R.map Qau)),s3,.fz (.int x),.fz (.int y),.fz (.int kd),s7]:=by
  cases s6 <;> first | (cases o6;done) | simp only [Qbv,Qab,Qj,Qm,Q8,Qb,Q0,yC1,Qay,Qq,yC2,Qv,Qt,all_cons,all_nil,Bool.and_true,Q5,Qw,Qai,Q4,e3,Qav,Qk,Qy,L2.Qi,Option.map,if_true,getElem?_cons_zero,Slot.put,Nat.reduceAdd,reduceCtorEq,if_false,Qal,Qct,Qbu,frz,Qak,Qb0,length_cons,length_nil,Nat.reduceLT,Qd,List.set]
 by_cases c0:kd=0
 ·refine ⟨_,q3,.fz (.int x),.fz (.int y),.fz (.int kd),s7,h.neg h1 h4 hx,p3,rfl,rfl,rfl,o7,?_⟩
  rw [Qad,w1,Qa6,Qad,w2,Qa6,Qad,w3,Qa6]
  have e:=Q8u (k:=k+1) (n:=n) (q:=q3) (R:=R) (x:=x) (y:=y) (s3:=s3) (s7:=s7) (kd:=kd) (by omega) hzx
  have et:exS (cfn (k+1)) (.ite (.cmp .eq (.var 6) (.int 0)) Qfr (.ite (.cmp .eq (.var 6) (.int 1)) (.swp 2 4 5) (.ite (.cmp .ne (.var 4) (.var 5)) (.seq (.setF 7 (.bin .sub (.call 19 (.cons (.var 0) (.cons (.int 7) .nil))) (.int 3))) Qi0) .nil))) [.ml q3,.fz (.int n),.ow (.lst (R.map Qau)),s3,.fz (.int x),.fz (.int y),.fz (.int kd),s7]=exS (cfn (k+1)) Qfr [.ml q3,.fz (.int n),.ow (.lst (R.map Qau)),s3,.fz (.int x),.fz (.int y),.fz (.int kd),s7]:=by
   generalize Qfr=S0
   simp only [c0,Qbf,Qbe,Qm,Q8,Qd,Qb,Q0,Qba,Qay,Qa9,Qa8,cont,Qa7,uc1,Qa4,decide_true,Qaa,yBl,Qal,yIf]
  rw [et,e]
 by_cases c1:kd=1
 ·refine ⟨_,q3,.fz (.int x),.fz (.int y),.fz (.int kd),s7,h.swap h1 h4 hx hy,p3,rfl,rfl,rfl,o7,?_⟩
  rw [Qad,w1,Qa6,Qad,w2,Qa6,Qad,w3,Qa6]
  have e:=Q8w (k:=k+1) (n:=n) (q:=q3) (R:=R) (x:=x) (y:=y) (s3:=s3) (s7:=s7) (kd:=kd) (by omega) (by omega)
  have et:exS (cfn (k+1)) (.ite (.cmp .eq (.var 6) (.int 0)) Qfr (.ite (.cmp .eq (.var 6) (.int 1)) (.swp 2 4 5) (.ite (.cmp .ne (.var 4) (.var 5)) (.seq (.setF 7 (.bin .sub (.call 19 (.cons (.var 0) (.cons (.int 7) .nil))) (.int 3))) Qi0) .nil))) [.ml q3,.fz (.int n),.ow (.lst (R.map Qau)),s3,.fz (.int x),.fz (.int y),.fz (.int kd),s7]=exS (cfn (k+1)) (.swp 2 4 5) [.ml q3,.fz (.int n),.ow (.lst (R.map Qau)),s3,.fz (.int x),.fz (.int y),.fz (.int kd),s7]:=by
   generalize Qfr=S0
   generalize S.swp 2 4 5=S1
   have c0':¬ (1:Int)=0:=by decide
   simp only [c1,Qbf,Qbe,Qm,Q8,Qd,Qb,Q0,Qba,Qay,Qa9,Qa8,cont,Qa7,uc1,Qa4,c0',decide_false,Qaa,yBl,Qal,yIf,decide_true]
  rw [et,e]
 by_cases c2:x=y
 ·refine ⟨R,q3,.fz (.int x),.fz (.int y),.fz (.int kd),s7,h.up,p3,rfl,rfl,rfl,o7,?_⟩
  rw [Qad,w1,Qa6,Qad,w2,Qa6,Qad,w3,Qa6]
  have c2':(x:Int)=(y:Int):=by omega
  generalize Qfr=S0
  generalize S.swp 2 4 5=S1
  simp only [c2',Qbf,Qbe,Qm,Q8,Qd,Qb,Q0,Qba,Qay,Qa9,Qa8,cont,Qa7,uc1,Qa4,c0,decide_false,Qaa,yBl,Qal,yIf,c1,uc2,Option.map,decide_true,Bool.not_true,Qcn]
 ·obtain ⟨t,q4,t0,t7,p4,e4⟩:=Qeg k (m:=7) (by decide) (by decide) p3
  have c2':¬ (x:Int)=(y:Int):=by omega
  have ht:(t-3).natAbs≤3:=by omega
  refine ⟨_,q4,.fz (.int x),.fz (.int y),.fz (.int kd),.fz (.int (t-3)),h.add h1 h4 hx hy c2 ht,p4,rfl,rfl,rfl,rfl,?_⟩
  rw [Qad,w1,Qa6,Qad,w2,Qa6,Qad,w3,Qa6]
  have e:=Q8v (k:=k+1) (n:=n) (q:=q4) (R:=R) (x:=x) (y:=y) (s3:=s3) (kd:=kd) (by omega) (by omega) hzx ht
  have w4:exS (cfn (k+1)) (.setF 7 (.bin .sub (.call 19 (.cons (.var 0) (.cons (.int 7) .nil))) (.int 3))) [.ml q3,.fz (.int n),.ow (.lst (R.map Qau)),s3,.fz (.int x),.fz (.int y),.fz (.int kd),s7]=.nx [.ml q4,.fz (.int n),.ow (.lst (R.map Qau)),s3,.fz (.int x),.fz (.int y),.fz (.int kd),.fz (.int (t-3))]:=by
   cases s7 <;> first | (cases o7;done) | simp only [Qbv,Qc5,Qab,Qj,Qm,Q8,Qb,Q0,yC1,Qay,Qq,yC2,Qv,Qt,all_cons,all_nil,Bool.and_true,Q5,Qw,Qai,Q4,e4,Qav,Qk,Qy,L2.Qi,Option.map,if_true,getElem?_cons_zero,Slot.put,Nat.reduceAdd,reduceCtorEq,if_false,Qcs,Qcr,Qcq,cont,Out.opt,uo4,Qal,Qct,Qbu,frz,Qak,Qb0,length_cons,length_nil,Nat.reduceLT,Qd,List.set]
  have et:exS (cfn (k+1)) (.ite (.cmp .eq (.var 6) (.int 0)) Qfr (.ite (.cmp .eq (.var 6) (.int 1)) (.swp 2 4 5) (.ite (.cmp .ne (.var 4) (.var 5)) (.seq (.setF 7 (.bin .sub (.call 19 (.cons (.var 0) (.cons (.int 7) .nil))) (.int 3))) Qi0) .nil))) [.ml q3,.fz (.int n),.ow (.lst (R.map Qau)),s3,.fz (.int x),.fz (.int y),.fz (.int kd),s7]=exS (cfn (k+1)) (.seq (.setF 7 (.bin .sub (.call 19 (.cons (.var 0) (.cons (.int 7) .nil))) (.int 3))) Qi0) [.ml q3,.fz (.int n),.ow (.lst (R.map Qau)),s3,.fz (.int x),.fz (.int y),.fz (.int kd),s7]:=by
   generalize Qfr=S0
   generalize S.swp 2 4 5=S1
   generalize S.seq (.setF 7 (.bin .sub (.call 19 (.cons (.var 0) (.cons (.int 7) .nil))) (.int 3))) Qi0=S2
   simp only [Qbf,Qbe,Qm,Q8,Qd,Qb,Q0,Qba,Qay,Qa9,Qa8,cont,Qa7,uc1,Qa4,c0,decide_false,Qaa,yBl,Qal,yIf,c1,uc2,Option.map,c2',Bool.not_false]
  rw [et,Qad,w4,Qa6,e]
theorem Q8x (k:Nat) {n:Nat} (h1:1≤n) (h4:n≤4) {q:T} (hq:Qe2 q):∃ (M:Tb) (q':T),Shp n M∧(∀ r∈M,∀ x∈r,(x:Int).natAbs≤4096)∧(Qa1 n M).natAbs=1∧Qe2 q'∧cfn (k+2) 28 [.ml q,.fz (.int n)]=.ok (.fz (Qg M)) [q',.non]:=by
 have e0:=Qp7 k h4
 have st:=Qsh h1 h4
 obtain ⟨c,q1,c0,c7,p1,e1⟩:=Qeg k (m:=7) (by decide) (by decide) hq
 obtain ⟨m,rfl⟩:=Int.eq_ofNat_of_zero_le c0
 have cm:m≤100000:=by omega
 have hc0:evE (cfn (k+1)) (.comp (.seq (.call 27 (.cons (.var 1) .nil))) [none] (.nm 0) .nil (.bi .list (.cons (.var 0) .nil))) [.ml q,.fz (.int n),.un,.un,.un,.un,.un,.un]=.ok (.ow (.lst ((sc n 1).map Qau))) [.ml q,.fz (.int n),.un,.un,.un,.un,.un,.un]:=by
  have hw:evW (cfn (k+1)) (.seq (.call 27 (.cons (.var 1) .nil))) [.ml q,.fz (.int n),.un,.un,.un,.un,.un,.un]=.ok ((sc n 1).map Ql,none) [.ml q,.fz (.int n),.un,.un,.un,.un,.un,.un]:=by
   simp only [Qrj,Qab,Qj,Qm,Q8,Qd,Qb,Q0,yC1,Qq,yC2,Qv,Qt,Q5,Qw,Qai,Q4,e0,Qav,Qk,Qy,L2.Qi,Option.map,if_true,Qw0,Qor,cont,Qoq,Qg5,Qk7]
  have q:=Qao (cf:=cfn (k+1)) (w:=.seq (.call 27 (.cons (.var 1) .nil))) (js:=[none]) (e:=.bi .list (.cons (.var 0) .nil)) (ρ:=[.ml q,.fz (.int n),.un,.un,.un,.un,.un,.un]) (rest:=[]) (f:=fun t=>Qau (iOf t)) hw rfl rfl rfl (fun t ht=>by
   obtain ⟨r,_,rfl⟩:=mem_map.mp ht
   have bl:Qh6 .list [Ql r]=some (.ow (Qau r)):=rfl
   refine ⟨.ow (Qau r),?_,?_⟩
   ·generalize Ql r=tr at bl ⊢
    generalize Qau r=lr at bl ⊢
    simp only [Qbr,Qj,Qm,Q8,Qb,Q0,yC1,Qq,yC2,yBi,Qbp,Qah,cont,Out.opt,bl]
   ·show some (Qau r)=some (Qau (iOf (Ql r)))
    rw [Qc2]) (by rw [length_map,st.shp.len];omega)
  have em:((sc n 1).map Ql).map (fun t=>Qau (iOf t))=(sc n 1).map Qau:=by
   rw [map_map]
   apply map_congr_left
   intro r _
   show Qau (iOf (Ql r))=Qau r
   rw [Qc2]
  rw [em] at q
  exact q
 obtain ⟨ρ',ef,R,q2,s3,s4,s5,s6,s7,mk,p2,_,_,_,_,_,rfl⟩:=Qec (fun j ρ=>∃ (R:Tb) (q':T) (s3 s4 s5 s6 s7:Slot),Mk n j R∧Qe2 q'∧Qcx s3=true∧Qcx s4=true∧Qcx s5=true∧Qcx s6=true∧Qcx s7=true∧ρ=[.ml q',.fz (.int n),.ow (.lst (R.map Qau)),s3,s4,s5,s6,s7]) (tg:=.nm 3) (b:=exS (cfn (k+1)) Qjw) (xs:=Qan 0 m) (n:=0) (ρ:=[.ml q1,.fz (.int n),.ow (.lst ((sc n 1).map Qau)),.un,.un,.un,.un,.un]) ⟨_,q1,.un,.un,.un,.un,.un,st,p1,rfl,rfl,rfl,rfl,rfl,rfl⟩ (by
  rintro j x ρ hx ⟨R,q',s3,s4,s5,s6,s7,mk,p',o3,o4,o5,o6,o7,rfl⟩
  rw [Nat.zero_add] at mk ⊢
  obtain ⟨R',q2,t4,t5,t6,t7,mk',p2,u4,u5,u6,u7,e⟩:=Q35 k h1 h4 p' mk (s3:=.fz x) o4 o5 o6 o7
  exact ⟨[.ml q',.fz (.int n),.ow (.lst (R.map Qau)),.fz x,s4,s5,s6,s7],_,(by cases s3 <;> first | rfl | cases o3),.inl e,R',q2,.fz x,t4,t5,t6,t7,mk',p2,rfl,u4,u5,u6,u7,rfl⟩)
 rw [Qap,Nat.zero_add] at mk
 refine ⟨R,q2,mk.shp,mk.most (by omega),mk.det,p2,?_⟩
 have hcS:evE (cfn (k+1)) (.compS 2 [none] (.nm 0) .nil (.bi .tup (.cons (.var 0) .nil))) [.ml q2,.fz (.int n),.ow (.lst (R.map Qau)),s3,s4,s5,s6,s7]=.ok (.ow (.lst (R.map Ql))) [.ml q2,.fz (.int n),.ow (.lst (R.map Qau)),s3,s4,s5,s6,s7]:=by
  have q:=Q07 (cf:=cfn (k+1)) (i:=2) (js:=[none]) (e:=.bi .tup (.cons (.var 0) .nil)) (ρ:=[.ml q2,.fz (.int n),.ow (.lst (R.map Qau)),s3,s4,s5,s6,s7]) (rest:=[]) (xs:=R.map Qau) (f:=fun t=>match t with | .lst a=>T.tup a | t=>t) rfl rfl rfl rfl rfl (fun t ht=>by
   obtain ⟨r,_,rfl⟩:=mem_map.mp ht
   refine ⟨.fz (Ql r),?_,rfl⟩
   simp only [Qbr,Qj,Qm,Q8,Qb,Q0,yC1,Qq,yC2,yBi,Qbp,Qah,cont,Out.opt,ub9]) (by rw [length_map,mk.shp.len];omega)
  have em:(R.map Qau).map (fun t=>match t with | .lst a=>T.tup a | t=>t)=R.map Ql:=by rw [map_map];rfl
  rw [em] at q
  exact q
 show Qbw (cfn (k+1)) ⟨2,8,Qiw⟩ _=_
 rw [Qbc rfl]
 show Qb7 _ (exS _ Qiw [.ml q,.fz (.int n),.un,.un,.un,.un,.un,.un])=_
 have w0:exS (cfn (k+1)) (.set 2 (.comp (.seq (.call 27 (.cons (.var 1) .nil))) [none] (.nm 0) .nil (.bi .list (.cons (.var 0) .nil)))) [.ml q,.fz (.int n),.un,.un,.un,.un,.un,.un]=.nx [.ml q,.fz (.int n),.ow (.lst ((sc n 1).map Qau)),.un,.un,.un,.un,.un]:=by
  simp only [Qrm,hc0,Qal,Qq0,Qak,Qb0,length_cons,length_nil,Nat.reduceAdd,Nat.reduceLT,Qd,Qb,List.set,if_true]
 have w1:exS (cfn (k+1)) (.for_ (.rng1 (.call 19 (.cons (.var 0) (.cons (.int 7) .nil)))) (.nm 3) Qjw) [.ml q,.fz (.int n),.ow (.lst ((sc n 1).map Qau)),.un,.un,.un,.un,.un]=.nx [.ml q2,.fz (.int n),.ow (.lst (R.map Qau)),s3,s4,s5,s6,s7]:=by
  have ew:evW (cfn (k+1)) (.rng1 (.call 19 (.cons (.var 0) (.cons (.int 7) .nil)))) [.ml q,.fz (.int n),.ow (.lst ((sc n 1).map Qau)),.un,.un,.un,.un,.un]=.ok (Qan 0 m,none) [.ml q1,.fz (.int n),.ow (.lst ((sc n 1).map Qau)),.un,.un,.un,.un,.un]:=by
   simp only [Qdq,Qab,Qj,Qm,Q8,Qb,Q0,yC1,Qay,Qq,yC2,Qv,Qt,all_cons,all_nil,Bool.and_true,Q5,Qw,Qai,Q4,e1,Qav,Qk,Qy,L2.Qi,Option.map,if_true,getElem?_cons_zero,Slot.put,Nat.reduceAdd,reduceCtorEq,if_false,Qk8 cm]
  rw [Qjl,ew]
  generalize Qjw=S0 at ef ⊢
  simp only [Qal,Qnc,ef,Qel]
 rw [Qad,w0,Qa6,Qad]
 have w1':exS (cfn (k+1)) (.for_ (.rng1 (.call 19 (.cons (.var 0) (.cons (.int 7) .nil)))) (.nm 3) Qjw) [.ml q,.fz (.int n),.ow (.lst ((sc n 1).map Qau)),.un,.un,.un,.un,.un]=_:=w1
 rw [w1',Qa6]
 simp only [Qbb,Qbr,Qj,hcS,Q0,yC1,Qq,yC2,yBi,Qbp,Qah,cont,Out.opt,ub9,Qal,Qck,Qam,Qa2,Qas,Qax,Q1,Option.map]
open PySem L2
structure Tabs (n:Nat) (Ms:List Tb):Prop where
 n1:1≤n
 n4:n≤4
 m1:1≤Ms.length
 m4:Ms.length≤4
 shp:∀ M∈Ms,Shp n M
theorem Qvh {n:Nat} {Ms:List Tb} (h:Tabs n Ms) {i:Nat} (hi:i<Ms.length):atI (Ms.map Qg) (i:Int)=some (Qg Ms[i])∧Shp n Ms[i] :=
 ⟨Qcl (by rw [getElem?_map,getElem?_eq_getElem hi];rfl),h.shp _ (getElem_mem hi)⟩
noncomputable abbrev Qp8:S:=.ite (.or (.not (.call 2 (.cons (.ix (.var 0) (.var 2)) .nil))) (.cmp .ne (.bi .len (.cons (.ix (.var 0) (.var 2)) .nil)) (.bi .len (.cons (.ix (.var 0) (.int 0)) .nil)))) (.ret (.var 2)) .nil
noncomputable abbrev Qp9:S:=.ite (.and (.var 1) (.not (.call 4 (.cons (.ix (.var 0) (.var 2)) .nil)))) (.ret (.var 2)) .nil
theorem Qsi (k:Nat) {n:Nat} {Ms:List Tb} (h:Tabs n Ms) {i:Nat} (hi:i<Ms.length):exS (cfn (k+3)) Qp8 [.fz (Qu Ms),.fz (.bl false),.fz (.int i)]=.nx [.fz (Qu Ms),.fz (.bl false),.fz (.int i)]:=by
 obtain ⟨a1,q1⟩:=Qvh h hi
 obtain ⟨a0,q0⟩:=Qvh h (show 0<Ms.length by omega)
 have a0':atI (Ms.map Qg) 0=some (Qg Ms[0]):=a0
 have g:=Qfy k q1 h.n1 h.n4
 have l1:=q1.len
 have l0:=q0.len
 simp only [Qbf,Qf6,Qc9,Qab,Qj,Qhb,Qm,Q8,Qb,Q0,Qgy,Qd,Qgx,Qgw,cont,Qgv,ui1,a1,yC1,Qq,yC2,Qv,Qt,Q5,Qw,Qai,Q4,g,Qav,Qk,Qy,L2.Qi,Option.map,if_true,Qaa,yBl,Qe5,Bool.not_true,yOr,Qbe,Qbr,yBi,Qbp,Qah,Out.opt,ub2,length_map,l1,Qba,Qay,a0',l0,Qa9,Qa8,Qa7,uc2,Qa4,decide_true,yB,Qal,yIf,Qcn]
theorem Qsj (k:Nat) {Ms:List Tb} {i:Nat}:exS (cfn (k+3)) Qp9 [.fz (Qu Ms),.fz (.bl false),.fz (.int i)]=.nx [.fz (Qu Ms),.fz (.bl false),.fz (.int i)]:=by
 simp only [Qbf,Qacb,Qm,Q8,Qd,Qb,Qaa,Q0,yBl,yAnd,Qal,yIf,Qcn]
theorem Qt6 (k:Nat) {n:Nat} {Ms:List Tb} (h:Tabs n Ms):∃ s,Qe4 (.nm 2) (exS (cfn (k+3)) (.seq Qp8 Qp9)) (Qan 0 Ms.length) [.fz (Qu Ms),.fz (.bl false),.un]=.nx [.fz (Qu Ms),.fz (.bl false),s]:=by
 obtain ⟨ρ',e,s,_,rfl⟩:=Qec (fun _ ρ=>∃ s,Qcx s=true∧ρ=[.fz (Qu Ms),.fz (.bl false),s]) (tg:=.nm 2) (b:=exS (cfn (k+3)) (.seq Qp8 Qp9)) (xs:=Qan 0 Ms.length) (n:=0) (ρ:=[.fz (Qu Ms),.fz (.bl false),.un]) ⟨.un,rfl,rfl⟩ (by
  rintro i x ρ hx ⟨s,hs,rfl⟩
  have hi:i<Ms.length:=by have:=(List.getElem?_eq_some_iff.mp hx).1;rwa [Qap] at this
  rw [Qhu hi] at hx
  cases hx
  rw [Int.zero_add]
  refine ⟨[.fz (Qu Ms),.fz (.bl false),.fz (.int i)],[.fz (Qu Ms),.fz (.bl false),.fz (.int i)],(by cases s <;> first | rfl | cases hs),.inl ?_,.fz (.int i),rfl,rfl⟩
  rw [Qad,Qsi k h hi,Qa6,Qsj])
 exact ⟨s,e⟩
theorem Qt7 (k:Nat) {n:Nat} {Ms:List Tb} (h:Tabs n Ms):cfn (k+4) 5 [.fz (Qu Ms),.fz (.bl false)]=.ok (.fz .non) [.non,.non]:=by
 have h1:=h.m1
 have h4:=h.m4
 obtain ⟨s,e⟩:=Qt6 k h
 show Qbw (cfn (k+3)) ⟨2,3,Qit⟩ _=_
 rw [Qbc rfl]
 show Qb7 _ (exS _ Qit [.fz (Qu Ms),.fz (.bl false),.un])=_
 have c1:¬ ((Ms.length:Int)<1):=by omega
 have c2:¬ (4<(Ms.length:Int)):=by omega
 have c3:Ms.length≤100000:=by omega
 simp only [Qad,Qbf,Qf6,Qc9,Qgu,Qm,Q8,Qb,Q0,Qkg,Qfv,cont,Qpf,Qdv,Bool.not_false,Bool.and_true,Qhc,if_true,Qaa,yBl,Qe5,Bool.not_true,yOr,Qbe,Qbr,Qj,yC1,Qq,yC2,yBi,Qbp,Qah,Out.opt,ub1,length_map,Qba,Qay,Qa9,Qa8,Qa7,uc3,c1,decide_false,uc5,c2,yB,Qal,yIf,Qcn,Qa6,Qjl,Qdq,Qk8 c3,Qnc,e,Qel,Qbb,Qmo,Qck,Qam,Qa2,Qas,Qax,Q1,Option.map]
theorem Qd7 (k:Nat) {n:Nat} {Ms:List Tb} (h:Tabs n Ms):cfn (k+5) 7 [.fz (Qu Ms)]=.ok (.fz .non) [.non]:=by
 have e:=Qt7 k h
 show Qbw (cfn (k+4)) ⟨1,2,Qfk⟩ _=_
 rw [Qbc rfl]
 show Qb7 _ (exS _ Qfk [.fz (Qu Ms),.un])=_
 simp only [Qad,Qbv,Qab,Qj,Qm,Q8,Qb,Q0,yC1,Qrg,Qq,yC2,Qv,Qt,Q5,Qw,Qai,Q4,e,Qav,Qk,Qy,L2.Qi,Option.map,if_true,Qal,Qct,Qbu,frz,Qak,Qb0,length_cons,length_nil,Nat.reduceAdd,Nat.reduceLT,Qd,List.set,Qa6,Qbf,Qbe,Qba,Qmo,Qa9,Qa8,cont,Qa7,uc8,Qgp,Bool.not_true,Qaa,yBl,yIf,Qcn,Q0i,Qax,Q1]
theorem Qsk (k:Nat) {n:Nat} {M:Tb} (h:Shp n M) (h4:n≤4) {j:Nat} (hj:j<n):cfn (k+1) 8 [.fz (Qg M),.fz (.int j)]=.ok (.fz (Ql (col M j))) [.non,.non]:=by
 have hl:=h.len
 have hcomp:evE (cfn k) (.comp (.seq (.var 0)) [none,some 1] (.nm 0) .nil (.ix (.var 0) (.var 1))) [.fz (Qg M),.fz (.int j)]=.ok (.ow (.lst ((M.map Ql).map fun x=>T.int (ge (iOf x) j)))) [.fz (Qg M),.fz (.int j)] :=
  Qao (rest:=[.fz (.int j)]) rfl rfl rfl rfl (fun x hx=>by
   obtain ⟨l,hm,rfl⟩:=mem_map.mp hx
   have a:=Qsa (r:=l) (j:=j) (by rw [h.row l hm];exact hj)
   refine ⟨.fz (.int (ge l j)),?_,by rw [Qc2];rfl⟩
   simp only [Qhb,Qm,Q8,Qb,Q0,Qgy,Qd,Qgx,Qgw,cont,Qgv,ui2,a]) (by rw [length_map];omega)
 have em:((M.map Ql).map fun x=>T.int (ge (iOf x) j))=(col M j).map T.int:=by
  unfold col
  rw [map_map,map_map]
  apply map_congr_left
  intro l _
  show T.int (ge (iOf (Ql l)) j)=T.int (ge l j)
  rw [Qc2]
 rw [em] at hcomp
 show Qbw (cfn k) ⟨2,2,Qhk⟩ _=_
 rw [Qbc rfl]
 show Qb7 _ (exS _ Qhk [.fz (Qg M),.fz (.int j)])=_
 simp only [Qbb,Qbr,Qj,hcomp,Q0,yC1,Qq,yC2,yBi,Qbp,Qah,cont,Out.opt,ub9,Qal,Qck,Qam,Qa2,Qas,Qax,Q1,Option.map]
theorem Qqa (k:Nat) {n:Nat} {M:Tb} (h:Shp n M) (h4:n≤4):cfn (k+2) 9 [.fz (Qg M)]=.ok (.fz (Qg ((List.range M.length).map (col M)))) [.non]:=by
 have hl:=h.len
 have hw:evW (cfn (k+1)) (.rng1 (.bi .len (.cons (.var 0) .nil))) [.fz (Qg M)]=.ok (Qan 0 M.length,none) [.fz (Qg M)]:=by
  have c:M.length≤100000:=by omega
  simp only [Qdq,Qbr,Qj,Qm,Q8,Qb,Q0,yC1,Qq,yC2,yBi,Qbp,Qah,cont,Out.opt,ub2,length_map,Qk8 c]
 have hcomp:evE (cfn (k+1)) (.comp (.rng1 (.bi .len (.cons (.var 0) .nil))) [none,some 0] (.nm 0) .nil (.call 8 (.cons (.var 1) (.cons (.var 0) .nil)))) [.fz (Qg M)]=.ok (.ow (.lst ((Qan 0 M.length).map fun x=>Ql (col M (jOf x))))) [.fz (Qg M)] :=
  Qao (rest:=[.fz (Qg M)]) hw rfl rfl rfl (fun x hx=>by
   unfold Qan at hx
   obtain ⟨j,hj,rfl⟩:=mem_map.mp hx
   have hj:=mem_range.mp hj
   have e:=Qsk k h h4 (j:=j) (by omega)
   refine ⟨.fz (Ql (col M j)),?_,by rw [Qhp];rfl⟩
   simp only [Int.zero_add,Qab,Qj,Qm,Q8,Qd,Qb,Q0,yC1,Qq,yC2,Qv,Qt,Q5,Qw,Qai,Q4,e,Qav,Qk,Qy,L2.Qi,Option.map,if_true]) (by rw [Qap];omega)
 rw [Qiz (f:=fun j=>Ql (col M j))] at hcomp
 show Qbw (cfn (k+1)) ⟨1,1,Qgi⟩ _=_
 rw [Qbc rfl]
 show Qb7 _ (exS _ Qgi [.fz (Qg M)])=_
 simp only [Qbb,Qbr,Qj,hcomp,Q0,yC1,Qq,yC2,yBi,Qbp,Qah,cont,Out.opt,ub9,Qal,Qck,Qam,Qa2,Qas,Qax,Q1,Option.map]
 unfold Qg
 rw [map_map]
 rfl
theorem Qi1 (k:Nat) {r c:List Int} (hrc:r.length=c.length) (hz:r.length≤1000) (hm:∀ x∈r,∀ y∈c,Qbm x y=true):cfn (k+1) 10 [.fz (Ql r),.fz (Ql c)]=.ok (.fz (.int (Qd0 r c))) [.non,.non]:=by
 have hw:evW (cfn k) (.rng1 (.bi .len (.cons (.var 0) .nil))) [.fz (Ql r),.fz (Ql c)]=.ok (Qan 0 r.length,none) [.fz (Ql r),.fz (Ql c)]:=by
  have c:r.length≤100000:=by omega
  simp only [Qdq,Qbr,Qj,Qm,Q8,Qb,Q0,yC1,Qq,yC2,yBi,Qbp,Qah,cont,Out.opt,ub2,length_map,Qk8 c]
 have hcomp:evE (cfn k) (.comp (.rng1 (.bi .len (.cons (.var 0) .nil))) [none,some 0,some 1] (.nm 0) .nil (.bin .mul (.ix (.var 1) (.var 0)) (.ix (.var 2) (.var 0)))) [.fz (Ql r),.fz (Ql c)]=.ok (.ow (.lst ((Qan 0 r.length).map fun x=>T.int (ge r (jOf x)*ge c (jOf x))))) [.fz (Ql r),.fz (Ql c)] :=
  Qao (rest:=[.fz (Ql r),.fz (Ql c)]) hw rfl rfl rfl (fun x hx=>by
   unfold Qan at hx
   obtain ⟨j,hj,rfl⟩:=mem_map.mp hx
   have hj:=mem_range.mp hj
   have a1:=Qsa (r:=r) (j:=j) hj
   have a2:=Qsa (r:=c) (j:=j) (by omega)
   have mo:Qbm (ge r j) (ge c j)=true:=hm _ (Qp6 hj) _ (Qp6 (by omega))
   refine ⟨.fz (.int (ge r j*ge c j)),?_,by rw [Qhp];rfl⟩
   simp only [Int.zero_add,Qc5,Qhb,Qm,Q8,Qd,Qb,Q0,Qgy,Qgx,Qgw,cont,Qgv,ui2,a1,Qcs,a2,Qcr,Qcq,Out.opt,uo5,mo,if_true]) (by rw [Qap];omega)
 rw [Qiz (f:=fun j=>T.int (ge r j*ge c j))] at hcomp
 have em:((List.range r.length).map fun j=>T.int (ge r j*ge c j))=((List.range r.length).map fun j=>ge r j*ge c j).map T.int:=by rw [map_map];rfl
 rw [em] at hcomp
 show Qbw (cfn k) ⟨2,2,Qdd⟩ _=_
 rw [Qbc rfl]
 show Qb7 _ (exS _ Qdd [.fz (Ql r),.fz (Ql c)])=_
 simp only [Qbb,Qbr,Qj,hcomp,Q0,yC1,Qq,yC2,yBi,Qbp,Qah,cont,Out.opt,ub5,Option.map,intL_mp,Qal,Qck,Qam,Qa2,Qas,Qax,Q1]
 rfl
theorem Qia (k:Nat) {r:List Int} {Cs:Tb} (hC:∀ c∈Cs,r.length=c.length∧∀ x∈r,∀ y∈c,Qbm x y=true) (hr:r.length≤1000) (hz:Cs.length≤1000):cfn (k+2) 11 [.fz (Ql r),.fz (Qg Cs)]=.ok (.fz (Ql (Cs.map (Qd0 r)))) [.non,.non]:=by
 have hcomp:evE (cfn (k+1)) (.comp (.seq (.var 1)) [none,some 0] (.nm 0) .nil (.call 10 (.cons (.var 1) (.cons (.var 0) .nil)))) [.fz (Ql r),.fz (Qg Cs)]=.ok (.ow (.lst ((Cs.map Ql).map fun x=>T.int (Qd0 r (iOf x))))) [.fz (Ql r),.fz (Qg Cs)] :=
  Qao (rest:=[.fz (Ql r)]) rfl rfl rfl rfl (fun x hx=>by
   obtain ⟨c,hm,rfl⟩:=mem_map.mp hx
   obtain ⟨h1,h2⟩:=hC c hm
   have e:=Qi1 k h1 hr h2
   refine ⟨.fz (.int (Qd0 r c)),?_,by rw [Qc2];rfl⟩
   simp only [Qab,Qj,Qm,Q8,Qd,Qb,Q0,yC1,Qq,yC2,Qv,Qt,Q5,Qw,Qai,Q4,e,Qav,Qk,Qy,L2.Qi,Option.map,if_true]) (by rw [length_map];omega)
 have em:((Cs.map Ql).map fun x=>T.int (Qd0 r (iOf x)))=(Cs.map (Qd0 r)).map T.int:=by
  rw [map_map,map_map]
  apply map_congr_left
  intro l _
  show T.int (Qd0 r (iOf (Ql l)))=T.int (Qd0 r l)
  rw [Qc2]
 rw [em] at hcomp
 show Qbw (cfn (k+1)) ⟨2,2,Qc7⟩ _=_
 rw [Qbc rfl]
 show Qb7 _ (exS _ Qc7 [.fz (Ql r),.fz (Qg Cs)])=_
 simp only [Qbb,Qbr,Qj,hcomp,Q0,yC1,Qq,yC2,yBi,Qbp,Qah,cont,Out.opt,ub9,Qal,Qck,Qam,Qa2,Qas,Qax,Q1,Option.map]
theorem Qvi (k:Nat) {n:Nat} {A M:Tb} (hA:Shp n A) (h:Shp n M) (h4:n≤4) (hm:∀ r∈A,∀ x∈r,∀ l∈M,∀ y∈l,Qbm x y=true):cfn (k+3) 12 [.fz (Qg A),.fz (Qg M)]=.ok (.fz (Qg (tms A M))) [.non,.non]:=by
 have hl:=h.len
 have la:=hA.len
 have e1:=Qqa k h h4
 have hcomp:evE (cfn (k+2)) (.comp (.seq (.var 0)) [none,some 2] (.nm 0) .nil (.call 11 (.cons (.var 0) (.cons (.var 1) .nil)))) [.fz (Qg A),.fz (Qg M),.fz (Qg ((List.range M.length).map (col M)))]=.ok (.ow (.lst ((A.map Ql).map fun x=>Ql (rb M (iOf x))))) [.fz (Qg A),.fz (Qg M),.fz (Qg ((List.range M.length).map (col M)))] :=
  Qao (rest:=[.fz (Qg ((List.range M.length).map (col M)))]) rfl rfl rfl rfl (fun x hx=>by
   obtain ⟨r,hm',rfl⟩:=mem_map.mp hx
   have hr:=hA.row r hm'
   have e2:=Qia k (r:=r) (Cs:=(List.range M.length).map (col M)) (fun c hc=>by
    obtain ⟨j,hj,rfl⟩:=mem_map.mp hc
    have hj':j<n:=by have:=mem_range.mp hj;omega
    exact ⟨by rw [Q32,hl,hr],fun x hx y hy=>by
     unfold col at hy
     obtain ⟨l,hl',rfl⟩:=mem_map.mp hy
     exact hm r hm' x hx l hl' _ (Qp6 (by rw [h.row l hl'];exact hj'))⟩) (by omega) (by rw [length_map,length_range];omega)
   have em:((List.range M.length).map (col M)).map (Qd0 r)=rb M r:=by unfold rb;rw [map_map];rfl
   rw [em] at e2
   refine ⟨.fz (Ql (rb M r)),?_,by rw [Qc2];rfl⟩
   simp only [Qab,Qj,Qm,Q8,Qb,Q0,yC1,Qd,Qq,yC2,Qv,Qt,Q5,Qw,Qai,Q4,e2,Qav,Qk,Qy,L2.Qi,Option.map,if_true]) (by rw [length_map];omega)
 have em:((A.map Ql).map fun x=>Ql (rb M (iOf x)))=(tms A M).map Ql:=by
  unfold tms
  rw [map_map,map_map]
  apply map_congr_left
  intro l _
  show Ql (rb M (iOf (Ql l)))=Ql (rb M l)
  rw [Qc2]
 rw [em] at hcomp
 show Qbw (cfn (k+2)) ⟨2,3,Qpr⟩ _=_
 rw [Qbc rfl]
 show Qb7 _ (exS _ Qpr [.fz (Qg A),.fz (Qg M),.un])=_
 simp only [Qad,Qbv,Qab,Qj,Qm,Q8,Qd,Qb,Q0,yC1,Qq,yC2,Qv,Qt,Q5,Qw,Qai,Q4,e1,Qav,Qk,Qy,L2.Qi,Option.map,if_true,Qal,Qct,Qbu,frz,Qak,Qb0,length_cons,length_nil,Nat.reduceAdd,Nat.reduceLT,List.set,Qa6,Qbb,Qbr,hcomp,yBi,Qbp,Qah,cont,Out.opt,ub9,Qck,Qam,Qa2,Qas,Qax,Q1]
noncomputable def Sm (n:Nat) (f:Nat→Int):Int:=((List.range n).map f).sum
theorem Qd8 (n:Nat) (f:Nat→Int):Sm (n+1) f=Sm n f+f n:=by
 unfold Sm
 rw [List.range_succ,map_append,List.sum_append]
 simp
theorem Qhr {n:Nat} {f g:Nat→Int} (h:∀ i,i<n→f i=g i):Sm n f=Sm n g:=by
 unfold Sm
 rw [map_congr_left fun i hi=>h i (mem_range.mp hi)]
theorem Q09 (f g:Nat→Int):∀ n,Sm n (fun i=>f i+g i)=Sm n f+Sm n g
 | 0=>rfl
 | n+1=>by
  rw [Qd8,Qd8,Qd8,Q09 f g n]
  omega
theorem Qvj (f:Nat→Int) (c:Int):∀ n,Sm n f*c=Sm n fun i=>f i*c
 | 0=>by show (0:Int)*c=0;rw [Int.zero_mul]
 | n+1=>by rw [Qd8,Qd8,Int.add_mul,Qvj f c n]
theorem Qvk (f:Nat→Int) (c:Int):∀ n,c*Sm n f=Sm n fun i=>c*f i
 | 0=>by show c*(0:Int)=0;rw [Int.mul_zero]
 | n+1=>by rw [Qd8,Qd8,Int.mul_add,Qvk f c n]
theorem Qvl:∀ n,Sm n (fun _=>0)=0
 | 0=>rfl
 | n+1=>by rw [Qd8,Qvl n];rfl
theorem Qvm (f:Nat→Nat→Int) (m:Nat):∀ n,Sm n (fun i=>Sm m (fun j=>f i j))=Sm m (fun j=>Sm n (fun i=>f i j))
 | 0=>(Qvl m).symm
 | n+1=>by
  rw [Qd8,Qvm f m n,←Q09]
  exact Qhr fun j _=>(Qd8 n fun i=>f i j).symm
theorem Q8y (M:Tb) (j l:Nat):ge (col M j) l=ge (M.getD l []) j:=by
 unfold col
 conv=>lhs;unfold ge
 rw [getD_eq_getElem?_getD,getD_eq_getElem?_getD,getElem?_map]
 cases M[l]? <;> rfl
theorem Q8z {n:Nat} {M:Tb} (h:Shp n M) {l:Nat} (hl:l<n):(M.getD l []).length=n:=by
 have hl':l<M.length:=by rw [h.len];exact hl
 rw [getD_eq_getElem?_getD,getElem?_eq_getElem hl',Option.getD_some]
 exact h.row _ (getElem_mem hl')
theorem Q1a {n:Nat} {A M:Tb} (h:Shp n A) {l:Nat} (hl:l<n):(tms A M).getD l []=rb M (A.getD l []):=by
 have hl':l<A.length:=by rw [h.len];exact hl
 unfold tms
 rw [getD_eq_getElem?_getD,getD_eq_getElem?_getD,getElem?_map,getElem?_eq_getElem hl']
 rfl
theorem Qqb {n:Nat} {r:List Int} (h:r.length=n) (M:Tb) (j:Nat):Qd0 r (col M j)=Sm n fun l=>ge r l*ge (M.getD l []) j:=by
 unfold Qd0
 rw [h]
 exact Qhr fun l _=>by rw [Q8y]
theorem Q5e (M:Tb) (r:List Int) {j:Nat} (h:j<M.length):ge (rb M r) j=Qd0 r (col M j):=by
 unfold rb
 conv=>lhs;unfold ge
 rw [getD_eq_getElem?_getD,getElem?_map,List.getElem?_range h]
 rfl
theorem Q1b {n:Nat} {B C:Tb} (hB:Shp n B) (hC:Shp n C) {r:List Int} (hr:r.length=n):rb C (rb B r)=rb (tms B C) r:=by
 have lt:=(Qh3 hB hC).len
 conv=>lhs;unfold rb
 conv=>rhs;unfold rb
 rw [hC.len,lt]
 refine map_congr_left fun j hj=>?_
 have hj:=mem_range.mp hj
 show Qd0 (rb B r) (col C j)=Qd0 r (col (tms B C) j)
 rw [Qqb (n:=n) (by rw [Q02,hB.len]),Qqb hr]
 have e1:(Sm n fun k=>ge (rb B r) k*ge (C.getD k []) j)=Sm n fun k=>Sm n fun l=>ge r l*ge (B.getD l []) k*ge (C.getD k []) j:=Qhr fun k hk=>by
  rw [Q5e B r (by rw [hB.len];exact hk),Qqb hr,Qvj]
 have e2:(Sm n fun l=>ge r l*ge ((tms B C).getD l []) j)=Sm n fun l=>Sm n fun k=>ge r l*ge (B.getD l []) k*ge (C.getD k []) j:=Qhr fun l hl=>by
  rw [Q1a hB hl,Q5e C _ (by rw [hC.len];exact hj),Qqb (Q8z hB hl),Qvk]
  exact Qhr fun k _=>(Int.mul_assoc _ _ _).symm
 rw [e1,e2,Qvm]
theorem Qes {n:Nat} {A B C:Tb} (hA:Shp n A) (hB:Shp n B) (hC:Shp n C):tms (tms A B) C=tms A (tms B C):=by
 unfold tms
 rw [map_map]
 refine map_congr_left fun r hr=>?_
 show rb C (rb B r)=_
 exact Q1b hB hC (hA.row r hr)
open PySem L2
structure By (n:Nat) (M:Tb):Prop where
 sq:Sq n M
 det:(Qa1 n M).natAbs=1
noncomputable abbrev inv (n:Nat) (M:Tb):Tb:=adj (Qa1 n M) M
theorem Q36 {n:Nat} {M:Tb} (h:M.length=n) (s:Int):Shp n (adj s M):=by
 unfold adj
 refine ⟨by rw [length_map,length_range,h],fun r hr=>?_⟩
 obtain ⟨i,_,rfl⟩:=mem_map.mp hr
 rw [length_map,length_range,h]
theorem Q1c {D:Int} (h:D.natAbs=1):D*D=1:=by
 have:D=1∨D = -1:=by omega
 rcases this with rfl | rfl <;> rfl
section
variable {n:Nat} {M:Tb} (h:By n M) (h1:1≤n) (h4:n≤4)
include h
theorem By.ishp:Shp n (inv n M):=Q36 h.sq.len _
include h1 h4
theorem By.il:tms (inv n M) M=sc n 1:=by rw [(Q0s h.sq.shp h1 h4 _).1,Q1c h.det]
theorem By.ir:tms M (inv n M)=sc n 1:=by rw [(Q0s h.sq.shp h1 h4 _).2,Q1c h.det]
theorem By.idet:(Qa1 n (inv n M)).natAbs=1:=by
 have e:=Qp1 h.ishp h.sq.shp h1 h4
 rw [h.il h1 h4,Qr9 h1 h4] at e
 have e2:(Qa1 n (inv n M)*Qa1 n M).natAbs=1:=by rw [←e];rfl
 rwa [Int.natAbs_mul,h.det,Nat.mul_one] at e2
theorem By.isq (hb:∀ r∈M,∀ x∈r,(x:Int).natAbs≤4096):By n (inv n M):=⟨⟨h.ishp.len,h.ishp.row,Q8m h.sq.shp h1 h4 hb h.det⟩,h.idet h1 h4⟩
theorem By.ii (hb:∀ r∈M,∀ x∈r,(x:Int).natAbs≤4096):inv n (inv n M)=M:=by
 have hN:=h.isq h1 h4 hb
 have sN:=hN.ishp
 have e:=Qes sN h.ishp h.sq.shp
 rw [hN.il h1 h4,h.il h1 h4,(Qfe h.sq.shp h1 h4).1,(Qfe sN h1 h4).2] at e
 exact e.symm
end
noncomputable def mOf:T→Tb
 | .tup ts=>ts.map iOf
 | _=>[]
theorem Qvn (M:Tb):mOf (Qg M)=M:=by
 show (M.map Ql).map iOf=M
 rw [map_map]
 conv=>rhs;rw [←List.map_id M]
 apply map_congr_left
 intro r _
 exact Qc2 r
noncomputable abbrev chg (n:Nat) (M T:Tb):Tb:=tms (tms (inv n M) T) M
theorem Qvo {n:Nat} {M T:Tb} (h:By n M) (hT:Shp n T):Shp n (chg n M T):=Qh3 (Qh3 h.ishp hT) h.sq.shp
theorem Q80 {n:Nat} {M T:Tb} (h:By n M) (h1:1≤n) (h4:n≤4) (hT:Shp n T):tms M (chg n M T)=tms T M:=by
 have s1:=Qh3 h.ishp hT
 rw [←Qes h.sq.shp s1 h.sq.shp,←Qes h.sq.shp h.ishp hT,h.ir h1 h4,(Qfe hT h1 h4).1]
theorem Q1d {n:Nat} {M T:Tb} (h:By n M) (h1:1≤n) (h4:n≤4) (hb:∀ r∈M,∀ x∈r,(x:Int).natAbs≤4096) (hT:Shp n T):chg n (inv n M) (chg n M T)=T:=by
 have sN:=h.ishp
 have sT:=Qh3 sN hT
 show tms (tms (inv n (inv n M)) (tms (tms (inv n M) T) M)) (inv n M)=T
 rw [h.ii h1 h4 hb,←Qes h.sq.shp sT h.sq.shp,←Qes h.sq.shp sN hT,h.ir h1 h4,(Qfe hT h1 h4).1,Qes hT h.sq.shp sN,h.ir h1 h4,(Qfe hT h1 h4).2]
theorem Qov (m k:Nat) {Ts:List Tb} (hT:Tabs (m+1) Ts) {M:Tb} (hM:By (m+1) M) (hm:∀ T∈Ts,∀ r∈inv (m+1) M,∀ x∈r,∀ l∈T,∀ y∈l,Qbm x y=true):cfn (k+m+7) 17 [.fz (Qu Ts),.fz (Qg M)]=.ok (.ow (.lst (Ts.map fun T=>Qg (chg (m+1) M T)))) [.non,.non]:=by
 have n4:=hT.n4
 have hl:=hM.sq.len
 have e1:=Qd7 (k+m+1) hT
 have e2:=Qfy (k+m+3) hM.sq.shp hT.n1 hT.n4
 have e3:=Qm6 m (k+1) hM.sq (by omega)
 rw [show k+1+m+5=k+m+6 by omega,show udT (m+1) M=Qg (inv (m+1) M) from if_pos hM.det] at e3
 obtain ⟨T0,Tr,rfl⟩:∃ T0 Tr,Ts=T0::Tr:=by
  have:=hT.m1
  cases Ts with
  | nil=>cases this
  | cons T Tr=>exact ⟨T,Tr,rfl⟩
 have a0:atI ((T0::Tr).map Qg) 0=some (Qg T0):=by rw [map_cons];exact Qtn
 have l0:=(hT.shp T0 mem_cons_self).len
 have hz:=hT.m4
 have hcomp:evE (cfn (k+m+6)) (.comp (.seq (.var 0)) [none,some 1,some 2] (.nm 0) .nil (.call 12 (.cons (.call 12 (.cons (.var 2) (.cons (.var 0) .nil))) (.cons (.var 1) .nil)))) [.fz (Qu (T0::Tr)),.fz (Qg M),.fz (Qg (inv (m+1) M))]=.ok (.ow (.lst (((T0::Tr).map Qg).map fun t=>Qg (chg (m+1) M (mOf t))))) [.fz (Qu (T0::Tr)),.fz (Qg M),.fz (Qg (inv (m+1) M))] :=
  Qao (rest:=[.fz (Qg M),.fz (Qg (inv (m+1) M))]) rfl rfl rfl rfl (fun t ht=>by
   obtain ⟨T,hTm,rfl⟩:=mem_map.mp ht
   have sT:=hT.shp T hTm
   have e4:=Qvi (k+m+3) hM.ishp sT n4 (hm T hTm)
   have e5:=Qvi (k+m+3) (Qh3 hM.ishp sT) hM.sq.shp n4 (fun r hr x hx l hl y hy=>Qp5 (hM.sq.bd l hl y hy))
   refine ⟨.fz (Qg (chg (m+1) M T)),?_,by rw [Qvn];rfl⟩
   simp only [Qab,Qj,Qm,Q8,Qd,Qb,Q0,yC1,Qq,yC2,Qv,Qt,Q5,Qw,Qai,Q4,e4,Qav,Qk,Qy,L2.Qi,Option.map,if_true,e5]) (by rw [length_map];omega)
 have em:((T0::Tr).map Qg).map (fun t=>Qg (chg (m+1) M (mOf t)))=(T0::Tr).map fun T=>Qg (chg (m+1) M T):=by
  rw [map_map]
  apply map_congr_left
  intro T _
  show Qg (chg (m+1) M (mOf (Qg T)))=_
  rw [Qvn]
 rw [em] at hcomp
 show Qbw (cfn (k+m+6)) ⟨2,3,Qc1⟩ _=_
 rw [Qbc rfl]
 show Qb7 _ (exS _ Qc1 [.fz (Qu (T0::Tr)),.fz (Qg M),.un])=_
 generalize ((T0::Tr).map fun T=>Qg (chg (m+1) M T))=W at hcomp ⊢
 simp only [Qad,Qkh,Qab,Qj,Qm,Q8,Qb,Q0,yC1,Qq,yC2,Qv,Qt,Q5,Qw,Qai,Q4,e1,Qav,Qk,Qy,L2.Qi,Option.map,if_true,Qal,Qmp,Qa6,Qbf,Qf6,Qc9,Qd,e2,Qaa,yBl,Qe5,Bool.not_true,yOr,Qbe,Qbr,yBi,Qbp,Qah,cont,Out.opt,ub2,length_map,hl,Qba,Qhb,Qgy,Qay,Qgx,Qgw,Qgv,ui1,a0,l0,Qa9,Qa8,Qa7,uc2,Qa4,decide_true,yB,yIf,Qcn,Qbv,e3,Qct,Qbu,frz,Qak,Qb0,length_cons,length_nil,Nat.reduceAdd,Nat.reduceLT,List.set,Qmo,uc7,Qgp,Qbb,hcomp,Qck,Qam,Qa2,Qas,Qax,Q1]
theorem r0' (s:Str) (ρ:En):Q0k 0 [.fz (.str s)] ρ=.xn ⟨0,[]⟩ ρ:=rfl
theorem Qxd (k:Nat) {n:Nat} {Ts:List Tb} (hT:Tabs n Ts) {m:Nat} {t:T} (hg:gd (m+2) t=true) (hb:Qm5 t=false):cfn (k+7) 17 [.fz (Qu Ts),.fz t]=.xn ⟨0,[]⟩ [.non,.non]:=by
 have e1:=Qd7 (k+1) hT
 have e2:=Q3x (k+3) hg
 rw [hb] at e2
 show Qbw (cfn (k+6)) ⟨2,3,Qc1⟩ _=_
 rw [Qbc rfl]
 show Qb7 _ (exS _ Qc1 [.fz (Qu Ts),.fz t,.un])=_
 simp only [Qad,Qkh,Qab,Qj,Qm,Q8,Qb,Q0,yC1,Qq,yC2,Qv,Qt,Q5,Qw,Qai,Q4,e1,Qav,Qk,Qy,L2.Qi,Option.map,if_true,Qal,Qmp,Qa6,Qbf,Qf6,Qc9,Qd,e2,Qaa,yBl,Qe5,Bool.not_false,yOr,yIf,Qpg,Qrh,r0',Q8e,Qto,Q1,Qms]
theorem Q81 (k:Nat) {n:Nat} {Ts:List Tb} (hT:Tabs n Ts) {m:Nat} {M:Tb} (h:Shp m M) (m1:1≤m) (m4:m≤4) (hne:m≠n):cfn (k+7) 17 [.fz (Qu Ts),.fz (Qg M)]=.xn ⟨0,[]⟩ [.non,.non]:=by
 have e1:=Qd7 (k+1) hT
 have e2:=Qfy (k+3) h m1 m4
 obtain ⟨T0,Tr,rfl⟩:∃ T0 Tr,Ts=T0::Tr:=by
  have:=hT.m1
  cases Ts with
  | nil=>cases this
  | cons T Tr=>exact ⟨T,Tr,rfl⟩
 have a0:atI ((T0::Tr).map Qg) 0=some (Qg T0):=by rw [map_cons];exact Qtn
 have l0:=(hT.shp T0 mem_cons_self).len
 have hl:=h.len
 have c:¬ ((m:Nat):Int)=(n:Int):=by omega
 show Qbw (cfn (k+6)) ⟨2,3,Qc1⟩ _=_
 rw [Qbc rfl]
 show Qb7 _ (exS _ Qc1 [.fz (Qu (T0::Tr)),.fz (Qg M),.un])=_
 simp only [Qad,Qkh,Qab,Qj,Qm,Q8,Qb,Q0,yC1,Qq,yC2,Qv,Qt,Q5,Qw,Qai,Q4,e1,Qav,Qk,Qy,L2.Qi,Option.map,if_true,Qal,Qmp,Qa6,Qbf,Qf6,Qc9,Qd,e2,Qaa,yBl,Qe5,Bool.not_true,yOr,Qbe,Qbr,yBi,Qbp,Qah,cont,Out.opt,ub2,length_map,hl,Qba,Qhb,Qgy,Qay,Qgx,Qgw,Qgv,ui1,a0,l0,Qa9,Qa8,Qa7,uc2,Qa4,c,decide_false,Bool.not_false,yB,yIf,Qpg,Qrh,r0',Q8e,Qto,Q1,Qms]
theorem Qacq (m k:Nat) {Ts:List Tb} (hT:Tabs (m+1) Ts) {M:Tb} (h:Sq (m+1) M) (hd:(Qa1 (m+1) M).natAbs≠1):cfn (k+m+7) 17 [.fz (Qu Ts),.fz (Qg M)]=.xn ⟨0,[]⟩ [.non,.non]:=by
 have n4:=hT.n4
 have e1:=Qd7 (k+m+1) hT
 have e2:=Qfy (k+m+3) h.shp hT.n1 hT.n4
 have e3:=Qm6 m (k+1) h (by omega)
 rw [show k+1+m+5=k+m+6 by omega,show udT (m+1) M=.non from if_neg hd] at e3
 obtain ⟨T0,Tr,rfl⟩:∃ T0 Tr,Ts=T0::Tr:=by
  have:=hT.m1
  cases Ts with
  | nil=>cases this
  | cons T Tr=>exact ⟨T,Tr,rfl⟩
 have a0:atI ((T0::Tr).map Qg) 0=some (Qg T0):=by rw [map_cons];exact Qtn
 have l0:=(hT.shp T0 mem_cons_self).len
 have hl:=h.len
 show Qbw (cfn (k+m+6)) ⟨2,3,Qc1⟩ _=_
 rw [Qbc rfl]
 show Qb7 _ (exS _ Qc1 [.fz (Qu (T0::Tr)),.fz (Qg M),.un])=_
 simp only [Qad,Qkh,Qab,Qj,Qm,Q8,Qb,Q0,yC1,Qq,yC2,Qv,Qt,Q5,Qw,Qai,Q4,e1,Qav,Qk,Qy,L2.Qi,Option.map,if_true,Qal,Qmp,Qa6,Qbf,Qf6,Qc9,Qd,e2,Qaa,yBl,Qe5,Bool.not_true,yOr,Qbe,Qbr,yBi,Qbp,Qah,cont,Out.opt,ub2,length_map,hl,Qba,Qhb,Qgy,Qay,Qgx,Qgw,Qgv,ui1,a0,l0,Qa9,Qa8,Qa7,uc2,Qa4,decide_true,yB,yIf,Qcn,Qbv,e3,Qct,Qbu,frz,Qak,Qb0,length_cons,length_nil,Nat.reduceAdd,Nat.reduceLT,List.set,Qmo,uc7,Qgp,Qpg,Qrh,r0',Q8e,Qto,Q1,Qms]
theorem t0' (ρ:En):Q8f Qvb (.xn ⟨0,[]⟩ ρ)=.rt (.fz (.str "table")) ρ:=rfl
theorem Qt8 {k:Nat} {a b:T} (e:cfn k 17 [.fz a,.fz b]=.xn ⟨0,[]⟩ [.non,.non]):cfn (k+1) 29 [.fz a,.fz b]=.ok (.fz (.str "table")) [.non,.non]:=by
 show Qbw (cfn k) ⟨2,3,Qe1⟩ _=_
 rw [Qbc rfl]
 show Qb7 _ (exS _ Qe1 [.fz a,.fz b,.un])=_
 rw [Q0l]
 simp only [Qbb,Qab,Qj,Qm,Q8,Qb,Q0,yC1,Qd,Qq,yC2,Qv,Qt,Q5,Qw,Qai,Q4,e,Qav,Qk,Qy,L2.Qi,Option.map,if_true,o_xn,t0',Qam,Qa2,Qas,Qax,Q1]
theorem Q82 {k:Nat} {a b t:T} (e:cfn k 17 [.fz a,.fz b]=.ok (.ow t) [.non,.non]):cfn (k+1) 29 [.fz a,.fz b]=.ok (.ow t) [.non,.non]:=by
 show Qbw (cfn k) ⟨2,3,Qe1⟩ _=_
 rw [Qbc rfl]
 show Qb7 _ (exS _ Qe1 [.fz a,.fz b,.un])=_
 rw [Q0l]
 simp only [Qbb,Qab,Qj,Qm,Q8,Qb,Q0,yC1,Qd,Qq,yC2,Qv,Qt,Q5,Qw,Qai,Q4,e,Qav,Qk,Qy,L2.Qi,Option.map,if_true,Qal,Qck,Q8g,Qam,Qa2,Qas,Qax,Q1]
theorem Qm7 {α:Type} (f g:α→T):∀ xs:List α,Qfh (xs.map f) (xs.map g)=xs.map fun x=>T.tup [f x,g x]
 | []=>rfl
 | x::xs=>by
  rw [map_cons,map_cons,Qfh,Qm7 f g xs]
  rfl
theorem Qxe (k:Nat) {n:Nat} {Ts:List Tb} (hT:Tabs n Ts):cfn (k+3) 26 [.fz (Qu Ts),.fz (Qu Ts)]=.ok (.fz (.bl true)) [.non,.non]:=by
 have m4:=hT.m4
 have hc:=Qki (cf:=cfn (k+2)) (w:=.zip (.var 0) (.var 1)) (js:=[none,none]) (e:=.call 25 (.cons (.var 0) (.cons (.var 1) .nil))) (ρ:=[.fz (Qu Ts),.fz (Qu Ts)]) (rest:=[]) (xs:=Ts) (a:=Qg) (b:=Qg) (f:=fun _=>T.bl true) (by simp only [Qu7,Qm,Q8,Qb,Q0,Q0h,Qd,Qrk,Qm7]) rfl rfl rfl (fun T hTm=>by
  have e:=Qhq k hT.n4 (hT.shp T hTm)
  refine ⟨.fz (.bl true),?_,rfl⟩
  simp only [Qab,Qj,Qm,Q8,Qb,Q0,yC1,Qd,Qq,yC2,Qv,Qt,Q5,Qw,Qai,Q4,e,Qav,Qk,Qy,L2.Qi,Option.map,if_true]) (by omega)
 show Qbw (cfn (k+2)) ⟨2,2,Qfo⟩ _=_
 rw [Qbc rfl]
 show Qb7 _ (exS _ Qfo [.fz (Qu Ts),.fz (Qu Ts)])=_
 simp only [Qad,Qbf,Qf6,Qc9,Qgu,Qm,Q8,Qb,Q0,Qkg,Qfv,cont,Qpf,Qdv,Bool.not_false,Bool.and_true,Qhc,if_true,Qaa,yBl,Qe5,Bool.not_true,yOr,Qbe,Qbr,Qj,yC1,Qq,yC2,yBi,Qbp,Qah,Out.opt,ub1,Qba,Qd,Qa9,Qa8,Qa7,uc2,Option.map,Qa4,decide_true,yB,Qal,yIf,Qcn,Qa6,Qbb,hc,ub3,Qjn,Qmr,Qck,Qam,Qa2,Qas,Qax,Q1]
open PySem L2
theorem Q83 {cf:CF} {i:Nat} {b:S} {ρ:En} {ts:List T} (hs:Qa ρ i=.ow (.lst ts)) (hk:(ρ.set i .un).all Qq1=true):exS cf (.look i b) ρ=lkO i ρ (exS cf b ((ρ.set i (.fz (.lst ts))).map lkS)):=by
 rw [exS,hs]
 simp only [if_pos hk]
theorem Qsl {tg:Tg} {b:En→SO} {x:T} {xs:List T} {ρ ρ1 ρ2:En} (h:Qgq tg x ρ=some ρ1) (hb:b ρ1=.nx ρ2):Qe4 tg b (x::xs) ρ=Qe4 tg b xs ρ2:=by
 rw [Qe4]
 simp only [h,hb]
noncomputable abbrev rg1:S:=.ite (.or (.not (.isI (.var 3) "list")) (.cmp .ne (.bi .len (.cons (.var 3) .nil)) (.bi .len (.cons (.var 0) .nil)))) (.ret (.bl false)) .nil
noncomputable abbrev rg2b:S:=.ite (.or (.not (.call 25 (.cons (.var 4) (.cons (.var 4) .nil)))) (.cmp .ne (.call 24 (.cons (.var 1) (.cons (.var 4) .nil))) (.call 24 (.cons (.var 5) (.cons (.var 1) .nil))))) (.ret (.bl false)) .nil
noncomputable abbrev rg2:S:=.for_ (.zip (.var 3) (.var 0)) (.tp [4,5]) rg2b
noncomputable abbrev rg3:S:=.ite (.not (.call 26 (.cons (.call 17 (.cons (.var 3) (.cons (.call 16 (.cons (.var 1) .nil)) .nil))) (.cons (.var 0) .nil)))) (.ret (.bl false)) .nil
noncomputable abbrev Qjx:S:=.seq (.set 3 (.call 29 (.cons (.var 0) (.cons (.var 1) .nil)))) (.seq (.look 3 rg1) (.seq (.look 3 rg2) (.seq (.look 3 rg3) (.app 3 (.tup .nil)))))
noncomputable def own3:Slot→Bool
 | .un=>true
 | .ow _=>true
 | _=>false
def tbS (s:Slot):Prop:=s=.un∨∃ X:Tb,s=.fz (Qg X)
theorem tbS.back {s:Slot} (h:tbS s):lkB .un s=.un:=by
 rcases h with rfl | ⟨X,rfl⟩ <;> rfl
section
variable (m k:Nat) {Ts:List Tb} (hT:Tabs (m+1) Ts) (hb:∀ T∈Ts,Sq (m+1) T) {M:Tb} (hM:By (m+1) M) (h96:∀ r∈M,∀ x∈r,(x:Int).natAbs≤4096)
include hT hb hM h96
theorem Qvp (j:Int) {s3:Slot} (o3:own3 s3=true):∃ t3:Slot,own3 t3=true∧exS (cfn (k+m+8)) Qjx [.fz (Qu Ts),.fz (Qg M),.fz (.int j),s3,.un,.un]=.nx [.fz (Qu Ts),.fz (Qg M),.fz (.int j),t3,.un,.un]:=by
 have n1:=hT.n1
 have n4:=hT.n4
 have m4:=hT.m4
 have bM:∀ r∈M,∀ x∈r,(x:Int).natAbs≤1000000000000:=fun r hr x hx=>Nat.le_trans (h96 r hr x hx) (by decide)
 have hN:=hM.isq n1 n4 h96
 have e1:=Q82 (Qov m k hT hM (fun T hTm r hr x hx l hl y hy=>Qp5 ((hb T hTm).bd l hl y hy)))
 have hF:Tabs (m+1) (Ts.map (chg (m+1) M)):=⟨n1,n4,by rw [length_map];exact hT.m1,by rw [length_map];exact m4,fun X hX=>by
  obtain ⟨T,hTm,rfl⟩:=mem_map.mp hX
  exact Qvo hM (hT.shp T hTm)⟩
 have eF:(Ts.map fun T=>Qg (chg (m+1) M T))=(Ts.map (chg (m+1) M)).map Qg:=by rw [map_map];rfl
 have e2:=Qov m (k+1) hF hN (fun X hX r hr x hx l hl y hy=>Qh2 (by
  rw [hM.ii n1 n4 h96] at hr
  exact bM r hr x hx))
 rw [show k+1+m+7=k+m+8 by omega] at e2
 have eG:((Ts.map (chg (m+1) M)).map fun T=>Qg (chg (m+1) (inv (m+1) M) T))=Ts.map Qg:=by
  rw [map_map]
  apply map_congr_left
  intro T hTm
  show Qg (chg (m+1) (inv (m+1) M) (chg (m+1) M T))=Qg T
  rw [Q1d hM n1 n4 h96 (hT.shp T hTm)]
 rw [eG] at e2
 have e3:=Qm6 m (k+3) hM.sq (by omega)
 rw [show k+3+m+5=k+m+8 by omega,show udT (m+1) M=Qg (inv (m+1) M) from if_pos hM.det] at e3
 have e4:=Qxe (k+m+5) hT
 refine ⟨.ow (.lst ((Ts.map fun T=>Qg (chg (m+1) M T))++[.tup []])),rfl,?_⟩
 have w1:exS (cfn (k+m+8)) (.set 3 (.call 29 (.cons (.var 0) (.cons (.var 1) .nil)))) [.fz (Qu Ts),.fz (Qg M),.fz (.int j),s3,.un,.un]=.nx [.fz (Qu Ts),.fz (Qg M),.fz (.int j),.ow (.lst (Ts.map fun T=>Qg (chg (m+1) M T))),.un,.un]:=by
  (cases s3 <;> cases o3) <;> simp only [Qrm,Qab,Qj,Qm,Q8,Qb,Q0,yC1,Qd,Qq,yC2,Qv,Qt,Q5,Qw,Qai,Q4,e1,Qav,Qk,Qy,L2.Qi,Option.map,if_true,Qal,Qq0,Qak,Qb0,length_cons,length_nil,Nat.reduceAdd,Nat.reduceLT,List.set]
 have zl:∀ b:S,exS (cfn (k+m+8)) (.look 3 b) [.fz (Qu Ts),.fz (Qg M),.fz (.int j),.ow (.lst (Ts.map fun T=>Qg (chg (m+1) M T))),.un,.un]=lkO 3 [.fz (Qu Ts),.fz (Qg M),.fz (.int j),.ow (.lst (Ts.map fun T=>Qg (chg (m+1) M T))),.un,.un] (exS (cfn (k+m+8)) b [.fx (Qu Ts),.fx (Qg M),.fz (.int j),.fx (.lst (Ts.map fun T=>Qg (chg (m+1) M T))),.un,.un]):=fun b=>Q83 rfl rfl
 have w2:exS (cfn (k+m+8)) (.look 3 rg1) [.fz (Qu Ts),.fz (Qg M),.fz (.int j),.ow (.lst (Ts.map fun T=>Qg (chg (m+1) M T))),.un,.un]=.nx [.fz (Qu Ts),.fz (Qg M),.fz (.int j),.ow (.lst (Ts.map fun T=>Qg (chg (m+1) M T))),.un,.un]:=by
  have e:exS (cfn (k+m+8)) rg1 [.fx (Qu Ts),.fx (Qg M),.fz (.int j),.fx (.lst (Ts.map fun T=>Qg (chg (m+1) M T))),.un,.un]=.nx [.fx (Qu Ts),.fx (Qg M),.fz (.int j),.fx (.lst (Ts.map fun T=>Qg (chg (m+1) M T))),.un,.un]:=by
   simp only [Qbf,Qf6,Qc9,Qgu,Qm,Q8,Qd,Qb,Q0,Qkg,Qfv,cont,Qpf,Qdv,Bool.not_false,Bool.and_true,Qhc,if_true,Qaa,yBl,Qe5,Bool.not_true,yOr,Qbe,Qbr,Qj,yC1,Qq,yC2,yBi,Qbp,Qah,Out.opt,ub1,length_map,Qba,Qa9,Qa8,Qa7,uc2,Option.map,Qa4,decide_true,yB,Qal,yIf,Qcn]
  rw [zl,e]
  rfl
 have w4:exS (cfn (k+m+8)) (.look 3 rg3) [.fz (Qu Ts),.fz (Qg M),.fz (.int j),.ow (.lst (Ts.map fun T=>Qg (chg (m+1) M T))),.un,.un]=.nx [.fz (Qu Ts),.fz (Qg M),.fz (.int j),.ow (.lst (Ts.map fun T=>Qg (chg (m+1) M T))),.un,.un]:=by
  have e:exS (cfn (k+m+8)) rg3 [.fx (Qu Ts),.fx (Qg M),.fz (.int j),.fx (.lst (Ts.map fun T=>Qg (chg (m+1) M T))),.un,.un]=.nx [.fx (Qu Ts),.fx (Qg M),.fz (.int j),.fx (.lst (Ts.map fun T=>Qg (chg (m+1) M T))),.un,.un]:=by
   have e2':cfn (k+m+8) 17 [.fz (.lst (Ts.map fun T=>Qg (chg (m+1) M T))),.fz (Qg (inv (m+1) M))]=.ok (.ow (Qu Ts)) [.non,.non]:=by rw [eF];exact e2
   generalize (Ts.map fun T=>Qg (chg (m+1) M T))=W at e2' ⊢
   simp only [Qbf,Qc9,Qab,Qj,Qm,Q8,Qd,Qb,Q0,yC1,Qq,yC2,Qv,Qt,Q5,Qw,Qai,Q4,e3,Qav,Qk,Qy,L2.Qi,Option.map,if_true,e2',e4,Qaa,yBl,Qe5,Bool.not_true,Qal,yIf,Qcn]
  rw [zl,e]
  rfl
 have w3:exS (cfn (k+m+8)) (.look 3 rg2) [.fz (Qu Ts),.fz (Qg M),.fz (.int j),.ow (.lst (Ts.map fun T=>Qg (chg (m+1) M T))),.un,.un]=.nx [.fz (Qu Ts),.fz (Qg M),.fz (.int j),.ow (.lst (Ts.map fun T=>Qg (chg (m+1) M T))),.un,.un]:=by
  obtain ⟨ρ',ef,s4,s5,h4',h5',rfl⟩:=Qec (fun _ ρ=>∃ s4 s5:Slot,tbS s4∧tbS s5∧ρ=[.fx (Qu Ts),.fx (Qg M),.fz (.int j),.fx (.lst (Ts.map fun T=>Qg (chg (m+1) M T))),s4,s5]) (tg:=.tp [4,5]) (b:=exS (cfn (k+m+8)) rg2b) (xs:=Ts.map fun X=>T.tup [Qg (chg (m+1) M X),Qg X]) (n:=0) (ρ:=[.fx (Qu Ts),.fx (Qg M),.fz (.int j),.fx (.lst (Ts.map fun T=>Qg (chg (m+1) M T))),.un,.un]) ⟨.un,.un,.inl rfl,.inl rfl,rfl⟩ (by
   rintro i x ρ hx ⟨s4,s5,o4,o5,rfl⟩
   obtain ⟨T,hTm,rfl⟩:=mem_map.mp (mem_of_getElem? hx)
   have sT:=hT.shp T hTm
   have sF:=Qvo hM sT
   have q1:=Qhq (k+m+6) n4 sF
   have q2:=Qk3 (k+m+7) hM.sq.shp sF n4 (fun r hr x hx l hl y hy=>Qh2 (bM r hr x hx))
   rw [Q80 hM n1 n4 sT] at q2
   have q3:=Qk3 (k+m+7) sT hM.sq.shp n4 (fun r hr x hx l hl y hy=>Qp5 (bM l hl y hy))
   have q4:=Q01 (tms T M)
   refine ⟨[.fx (Qu Ts),.fx (Qg M),.fz (.int j),.fx (.lst (Ts.map fun T=>Qg (chg (m+1) M T))),.fz (Qg (chg (m+1) M T)),.fz (Qg T)],_,?_,.inl ?_,.fz (Qg (chg (m+1) M T)),.fz (Qg T),.inr ⟨_,rfl⟩,.inr ⟨_,rfl⟩,rfl⟩
   ·rcases o4 with rfl | ⟨X,rfl⟩ <;> rcases o5 with rfl | ⟨Y,rfl⟩ <;> rfl
   ·generalize (Ts.map fun T=>Qg (chg (m+1) M T))=W
    generalize chg (m+1) M T=F at *
    generalize tms T M=P at *
    simp only [Qbf,Qf6,Qc9,Qab,Qj,Qm,Q8,Qd,Qb,Q0,yC1,Qq,yC2,Qv,Qt,Q5,Qw,Qai,Q4,q1,Qav,Qk,Qy,L2.Qi,Option.map,if_true,Qaa,yBl,Qe5,Bool.not_true,yOr,Qbe,q2,Qba,q3,Qa9,Qa8,cont,Qa7,uc2,q4,yB,Qal,yIf,Qcn])
  have ew:evW (cfn (k+m+8)) (.zip (.var 3) (.var 0)) [.fx (Qu Ts),.fx (Qg M),.fz (.int j),.fx (.lst (Ts.map fun T=>Qg (chg (m+1) M T))),.un,.un]=.ok (Ts.map fun X=>T.tup [Qg (chg (m+1) M X),Qg X],none) [.fx (Qu Ts),.fx (Qg M),.fz (.int j),.fx (.lst (Ts.map fun T=>Qg (chg (m+1) M T))),.un,.un]:=by
   simp only [Qu7,Qm,Q8,Qd,Qb,Q0,Q0h,Qrk,Qm7]
  have e:exS (cfn (k+m+8)) rg2 [.fx (Qu Ts),.fx (Qg M),.fz (.int j),.fx (.lst (Ts.map fun T=>Qg (chg (m+1) M T))),.un,.un]=.nx [.fx (Qu Ts),.fx (Qg M),.fz (.int j),.fx (.lst (Ts.map fun T=>Qg (chg (m+1) M T))),s4,s5]:=by
   rw [Qjl,ew]
   simp only [Qal,Qnc,ef,Qel]
  rw [zl,e]
  show (if Qzj (.fx (.lst (Ts.map fun T=>Qg (chg (m+1) M T))))=true∧6=6 then SO.nx [.fz (Qu Ts),.fz (Qg M),.fz (.int j),.ow (.lst (Ts.map fun T=>Qg (chg (m+1) M T))),lkB .un s4,lkB .un s5] else .no)=_
  rw [if_pos ⟨rfl,rfl⟩,h4'.back,h5'.back]
 rw [Qad,w1,Qa6,Qad,w2,Qa6,Qad,w3,Qa6,Qad,w4,Qa6]
 have z0:(0:Nat)≤100000:=by decide
 have zl':(Ts.map fun T=>Qg (chg (m+1) M T)).length<100000:=by rw [length_map];omega
 generalize (Ts.map fun T=>Qg (chg (m+1) M T))=W at zl' ⊢
 simp only [Qpe,Slot.mut,Qd,Qb,Qom,Qq,Q0,Qtl,Qe3,length_nil,z0,if_true,Qal,Qw1,Qro,frz,Qrn,zl',List.set]
theorem Q37:cfn (k+m+9) 30 [.fz (Qu Ts),.fz (Qg M)]=.ok (.fz (.bl true)) [.non,.non]:=by
 have c2:(2:Int).natAbs≤100000:=by decide
 have r2:∀ ρ,Qos (.fz (.int 2)) ρ=.ok ([T.int 0,T.int 1],none) ρ:=fun ρ=>rngA c2
 obtain ⟨t3,o3,e1⟩:=Qvp m k hT hb hM h96 0 (s3:=.un) rfl
 obtain ⟨t3',_,e2⟩:=Qvp m k hT hb hM h96 1 (s3:=t3) o3
 have ef:Qe4 (.nm 2) (exS (cfn (k+m+8)) Qjx) [T.int 0,T.int 1] [.fz (Qu Ts),.fz (Qg M),.un,.un,.un,.un]=.nx [.fz (Qu Ts),.fz (Qg M),.fz (.int 1),t3',.un,.un]:=by
  rw [Qsl rfl e1,Qsl rfl e2]
  rfl
 show Qbw (cfn (k+m+8)) ⟨2,6,Qho⟩ _=_
 rw [Qbc rfl]
 show Qb7 _ (exS _ Qho [.fz (Qu Ts),.fz (Qg M),.un,.un,.un,.un])=_
 have ef':exS (cfn (k+m+8)) (.for_ (.rng1 (.int 2)) (.nm 2) Qjx) [.fz (Qu Ts),.fz (Qg M),.un,.un,.un,.un]=.nx [.fz (Qu Ts),.fz (Qg M),.fz (.int 1),t3',.un,.un]:=by
  generalize Qjx=S0 at ef ⊢
  simp only [Qjl,Qdq,Qay,Q0,r2,Qal,Qnc,ef,Qel]
 rw [Qad]
 rw [show exS (cfn (k+m+8)) (.for_ (.rng1 (.int 2)) (.nm 2) Qjx) [.fz (Qu Ts),.fz (Qg M),.un,.un,.un,.un]=_ from ef',Qa6]
 simp only [Qbb,Qrg,Qal,Qck,Qam,Qa2,Qas,Qax,Q1,Option.map]
end
open PySem L2
noncomputable def isZ:T→Bool
 | .tup [.tup [.int 0]]=>true
 | _=>false
theorem Q84 {t:T} (h:isZ t=true):t=Qg [[0]]:=by
 unfold isZ at h
 split at h
 ·rfl
 ·cases h
noncomputable def odd (t:T):Bool:=gd 3 t&&(!Qm5 t||isZ t)
theorem Q85 {L:List T} {r:Int} (h0:0≤r) (h1:r<(L.length:Int)):∃ t,atI L r=some t∧t∈L:=by
 obtain ⟨j,rfl⟩:=Int.eq_ofNat_of_zero_le h0
 have hj:j<L.length:=by omega
 exact ⟨_,Qcl (getElem?_eq_getElem hj),getElem_mem hj⟩
theorem Qact {a b:List T} (h:a.length+b.length≤100000):opB .add (.lst a) (.lst b)=some (.ow (.lst (a++b))):=if_pos h
noncomputable abbrev Qxf:List T:=[.non,.bl true,.bl false,.int (-1),.str "1",.str "",.tup [],.lst [],.tup [.int 0],.lst [.int 0],.dct [Sum.inr "a"] [.int 1],.tup [.int 0,.int 1],.int 1000000000000000000000000000000,.tup [.tup [.int 0]],.tup [.str "ab"]]
theorem Qacu (k:Nat) {q:T} (hq:Qe2 q):∃ t q',odd t=true∧Qe2 q'∧cfn (k+2) 21 [.ml q]=.ok (.fz t) [q']:=by
 obtain ⟨r,q1,r0,r9,p1,e1⟩:=Qeg k (m:=16) (by decide) (by decide) hq
 obtain ⟨t,ea,ht⟩:=Q85 (L:=Qxf++[.tup [.bl true]]) r0 (by show r<16;exact r9)
 refine ⟨t,q1,?_,p1,?_⟩
 ·have:(Qxf++[T.tup [.bl true]]).all odd=true:=by decide +kernel
  exact all_eq_true.mp this t ht
 have z15:(15:Nat)≤100000:=by decide
 have z16:(15:Nat)+1≤100000:=by decide
 have z1:(1:Nat)≤100000:=by decide
 have z2:(2:Nat)≤100000:=by decide
 have z0:(0:Nat)≤100000:=by decide
 have q1':(30:Int).natAbs≤1000000:=by decide
 have q2':(10:Int).natAbs<18446744073709551616:=by decide
 have es:exS (cfn (k+1)) (.setF 1 (.lst (.cons .non (.cons (.bl true) (.cons (.bl false) (.cons (.neg (.int 1)) (.cons (.str "1") (.cons (.str "") (.cons (.tup .nil) (.cons (.lst .nil) (.cons (.tup (.cons (.int 0) .nil)) (.cons (.lst (.cons (.int 0) .nil)) (.cons (.lit (.dct [Sum.inr "a"] [.int 1])) (.cons (.tup (.cons (.int 0) (.cons (.int 1) .nil))) (.cons (.bin .pow (.int 10) (.int 30)) (.cons (.tup (.cons (.tup (.cons (.int 0) .nil)) .nil)) (.cons (.tup (.cons (.str "ab") .nil)) .nil))))))))))))))))) [.ml q,.un]=.nx [.ml q,.fz (.lst Qxf)]:=by
  simp only [Qbv,Qkz,Qj,Qmo,Q0,yC1,Qrg,Qon,Qay,Qtm,Int.reduceNeg,Qrh,Qom,Qq,Qtl,Qe3,length_nil,z0,if_true,Qpd,yC2,frz,length_cons,Nat.reduceAdd,z1,Qacc,z2,Qc5,Qcs,Qcr,Qcq,cont,Out.opt,uo9,Int.reduceLE,q1',Nat.reducePow,q2',and_self,Int.reduceToNat,Int.reducePow,z15,Qal,Qct,Qbu,Qak,Qb0,Nat.reduceLT,Qd,Qb,List.set]
 have ka:opB .add (.lst Qxf) (.lst [.tup [.bl true]])=some (.ow (.lst (Qxf++[T.tup [.bl true]]))):=Qact z16
 show Qbw (cfn (k+1)) ⟨1,2,Qko⟩ _=_
 rw [Qbc rfl]
 show Qb7 _ (exS _ Qko [.ml q,.un])=_
 rw [Qad,es,Qa6]
 generalize Qxf=OL at ka ea ⊢
 generalize hL:OL++[T.tup [.bl true]]=L at ka ea
 simp only [Qbb,Qhb,Qc5,Qm,Q8,Qd,Qb,Q0,Qcs,Qkz,Qj,Qom,Qrg,yC1,Qq,yC2,Qtl,Qe3,frz,length_cons,length_nil,Nat.reduceAdd,z1,if_true,Qpd,Qcr,Qcq,cont,Out.opt,ka,Qgy,Qab,Qay,Qv,Qt,all_cons,all_nil,Bool.and_true,Q5,Qw,Qai,Q4,e1,Qav,Qk,Qy,L2.Qi,Option.map,getElem?_cons_zero,Slot.put,reduceCtorEq,if_false,Qgx,Qgw,Qgv,ui1,ea,Qal,Qck,Qam,Qa2,Qas,Qax,Q1]
theorem gdT {n:Nat} {ts:List T} (hl:ts.length≤1000) (h:∀ x∈ts,gd n x=true):gd (n+1) (.tup ts)=true:=(Q5b hl h).1
theorem gdL {n:Nat} {ts:List T} (hl:ts.length≤1000) (h:∀ x∈ts,gd n x=true):gd (n+1) (.lst ts)=true:=(Q5b hl h).2
def AllG (n:Nat) (ts:List T):Prop:=∀ x∈ts,gd n x=true
theorem Qacw (r:List Int):AllG 0 (r.map T.int):=fun x hx=>by obtain ⟨i,_,rfl⟩:=mem_map.mp hx;rfl
theorem Q86 {r:List Int} (h:r.length≤4):gd 1 (Ql r)=true:=gdT (by rw [length_map];omega) (Qacw r)
theorem Q87 {n:Nat} {M:Tb} (h:Sq n M) (h4:n≤4):AllG 1 (M.map Ql):=fun x hx=>by
 obtain ⟨r,hr,rfl⟩:=mem_map.mp hx
 exact Q86 (by rw [h.row r hr];exact h4)
theorem Q88 {t:T} (h:gd 1 t=true):gd 2 t=true:=by
 cases t <;> first | rfl | (cases h;done) | skip
 ·obtain ⟨hl,hx⟩:=Qt3 h
  exact gdT hl fun x hx'=>by have:=hx x hx';cases x <;> first | rfl | (cases this;done)
 ·have h:(decide _&&_)=true:=h
  rw [Bool.and_eq_true,decide_eq_true_eq,all_eq_true] at h
  exact gdL h.1 fun x hx'=>by have:=h.2 x hx';cases x <;> first | rfl | (cases this;done)
theorem Qvq {a:Int} (h:a.natAbs≤1000000000000):Sq 1 [[a]]:=⟨rfl,fun r hr=>by rw [mem_singleton.mp hr];rfl,fun r hr x hx=>by rw [mem_singleton.mp hr] at hx;rw [mem_singleton.mp hx];exact h⟩
theorem Qjy {m:Nat} {Ts:List Tb} (hT:Tabs (m+1) Ts) (hb:∀ T∈Ts,Sq (m+1) T) {M:Tb} (hM:By (m+1) M) (h96:∀ r∈M,∀ x∈r,(x:Int).natAbs≤4096):cfn 14 30 [.fz (Qu Ts),.fz (Qg M)]=.ok (.fz (.bl true)) [.non,.non]:=by
 have n4:=hT.n4
 have e:=Q37 m (5-m) hT hb hM h96
 rwa [show 5-m+m+9=14 by omega] at e
theorem Q38:isF (Qar (evE (cfn 14) Qvd (uns 8)))=true:=by
 have z1:(1:Nat)≤100000:=by decide
 have z2:(2:Nat)≤100000:=by decide
 have two:∀ {a b c d:Int},a.natAbs≤1→b.natAbs≤1→c.natAbs≤1→d.natAbs≤1→Shp 2 [[a,b],[c,d]]∧∀ r∈[[a,b],[c,d]],∀ x∈r,(x:Int).natAbs≤4096:=fun ha hb hc hd=>by
  refine ⟨⟨rfl,fun r hr=>?_⟩,fun r hr x hx=>?_⟩
  ·simp only [mem_cons,not_mem_nil,or_false] at hr
   rcases hr with rfl | rfl <;> rfl
  ·simp only [mem_cons,not_mem_nil,or_false] at hr
   rcases hr with rfl | rfl <;> simp only [mem_cons,not_mem_nil,or_false] at hx <;> rcases hx with rfl | rfl <;> omega
 obtain ⟨sa,ba⟩:=two (a:=0) (b:=1) (c:=0) (d:=0) (by decide) (by decide) (by decide) (by decide)
 obtain ⟨sb,bb⟩:=two (a:=0) (b:=1) (c:=1) (d:=0) (by decide) (by decide) (by decide) (by decide)
 have qa:Sq 2 [[0,1],[0,0]]:=⟨sa.len,sa.row,fun r hr x hx=>Nat.le_trans (ba r hr x hx) (by decide)⟩
 have qb:Sq 2 [[0,1],[1,0]]:=⟨sb.len,sb.row,fun r hr x hx=>Nat.le_trans (bb r hr x hx) (by decide)⟩
 have h1:=Qjy (m:=0) (Ts:=[[[7]]]) ⟨by decide,by decide,by decide,by decide,fun X hX=>by rw [mem_singleton.mp hX];exact (Qvq (a:=7) (by decide)).shp⟩ (fun X hX=>by rw [mem_singleton.mp hX];exact Qvq (by decide)) (M:=[[-1]]) ⟨Qvq (by decide),by decide⟩ (fun r hr x hx=>by rw [mem_singleton.mp hr] at hx;rw [mem_singleton.mp hx];decide)
 have h2:=Qjy (m:=1) (Ts:=[[[0,1],[0,0]]]) ⟨by decide,by decide,by decide,by decide,fun X hX=>by rw [mem_singleton.mp hX];exact sa⟩ (fun X hX=>by rw [mem_singleton.mp hX];exact qa) (M:=[[0,1],[1,0]]) ⟨qb,by decide⟩ bb
 have h1:cfn 14 30 [.fz (.lst [.tup [.tup [.int 7]]]),.fz (.tup [.tup [.int (-1)]])]=.ok (.fz (.bl true)) [.non,.non]:=h1
 have h2:cfn 14 30 [.fz (.lst [.tup [.tup [.int 0,.int 1],.tup [.int 0,.int 0]]]),.fz (.tup [.tup [.int 0,.int 1],.tup [.int 1,.int 0]])]=.ok (.fz (.bl true)) [.non,.non]:=h2
 have e:Qar (evE (cfn 14) Qvd (uns 8))=.ok false (uns 8):=by
  show Qar (evE (cfn 14) Qvd [.un,.un,.un,.un,.un,.un,.un,.un])=.ok false [.un,.un,.un,.un,.un,.un,.un,.un]
  simp only [Qf6,Qc9,Qab,Qj,Qkz,Qom,Qay,Q0,yC1,Qq,yC2,Qtl,Qe3,frz,length_cons,length_nil,Nat.reduceAdd,z1,if_true,Qpd,Qon,Qtm,Int.reduceNeg,Qv,Qt,Q5,Qw,Qai,Q4,h1,Qav,Qk,Qy,L2.Qi,Option.map,Qaa,yBl,Qe5,Bool.not_true,yOr,z2,h2,yB]
 rw [e]
 rfl
def Bad (Ts:List Tb) (t:T):Prop:=cfn 14 29 [.fz (Qu Ts),.fz t]=.ok (.fz (.str "table")) [.non,.non]
theorem Qsm {n:Nat} {Ts:List Tb} (hT:Tabs n Ts) {m:Nat} {t:T} (hg:gd (m+2) t=true) (hb:Qm5 t=false):Bad Ts t:=Qt8 (Qxd 6 hT hg hb)
theorem Qsn {n:Nat} {Ts:List Tb} (hT:Tabs n Ts) {m:Nat} {M:Tb} (h:Shp m M) (m1:1≤m) (m4:m≤4) (hne:m≠n):Bad Ts (Qg M):=Qt8 (Q81 6 hT h m1 m4 hne)
theorem Qqc {m:Nat} {Ts:List Tb} (hT:Tabs (m+1) Ts) {M:Tb} (h:Sq (m+1) M) (hd:(Qa1 (m+1) M).natAbs≠1):Bad Ts (Qg M):=by
 have n4:=hT.n4
 have e:=Qacq m (6-m) hT h hd
 rw [show 6-m+m+7=13 by omega] at e
 exact Qt8 e
theorem Qjz {m:Nat} {Ts:List Tb} (hT:Tabs (m+1) Ts) {t:T} (h:odd t=true):Bad Ts t:=by
 unfold odd at h
 rw [Bool.and_eq_true,Bool.or_eq_true] at h
 obtain ⟨h1,h2 | h2⟩:=h
 ·exact Qsm hT (m:=1) h1 (by simpa using h2)
 ·rw [Q84 h2]
  have sz:Sq 1 [[0]]:=Qvq (by decide)
  by_cases e:m=0
  ·subst e
   exact Qqc hT sz (by decide)
  ·exact Qsn hT sz.shp (by decide) (by decide) (by omega)
noncomputable abbrev tw (n:Nat):Tb:=(sc n 1).map fun r=>r.map fun x=>2*x
noncomputable abbrev zr (n:Nat):Tb:=List.replicate n (List.replicate n 0)
theorem Qacx {n:Nat} (h1:1≤n) (h4:n≤4):Sq n (tw n)∧(Qa1 n (tw n)).natAbs≠1:=by
 refine ⟨⟨by rw [length_map,(Qkt n 1).len],fun r hr=>?_,fun r hr x hx=>?_⟩,?_⟩
 ·obtain ⟨s,hs,rfl⟩:=mem_map.mp hr
  rw [length_map,(Qkt n 1).row s hs]
 ·obtain ⟨s,hs,rfl⟩:=mem_map.mp hr
  obtain ⟨y,hy,rfl⟩:=mem_map.mp hx
  have:=Q5d s hs y hy
  have p:(4:Nat)^0=1:=rfl
  omega
 ·have hn:n=1∨n=2∨n=3∨n=4:=by omega
  rcases hn with rfl | rfl | rfl | rfl <;> decide
theorem Qacy {n:Nat} (h1:1≤n) (h4:n≤4):Sq n (zr n)∧(Qa1 n (zr n)).natAbs≠1:=by
 refine ⟨⟨length_replicate,fun r hr=>?_,fun r hr x hx=>?_⟩,?_⟩
 ·rw [List.eq_of_mem_replicate hr,length_replicate]
 ·rw [List.eq_of_mem_replicate hr] at hx
  rw [List.eq_of_mem_replicate hx]
  decide
 ·have hn:n=1∨n=2∨n=3∨n=4:=by omega
  rcases hn with rfl | rfl | rfl | rfl <;> decide
theorem Qso {α:Type} (a:α):∀ n,(List.replicate n [a]).flatten=List.replicate n a
 | 0=>rfl
 | n+1=>by rw [replicate_succ,List.flatten_cons,Qso a n,replicate_succ];rfl
theorem Qvr {t:T} {n:Nat} (h1:1≤n) (h4:n≤4):opB .mul (.tup [t]) (.int (n:Int))=some (.fz (.tup (List.replicate n t))):=by
 show (if [t].length*(n:Int).toNat≤100000∧1≤(n:Int)∧(n:Int).natAbs≤100000∧[t]≠[] then some (PV.fz (.tup (List.replicate (n:Int).toNat [t]).flatten)) else none)=_
 rw [if_pos ⟨by rw [Int.toNat_natCast,length_singleton];omega,by omega,by omega,by simp⟩,Int.toNat_natCast,Qso]
noncomputable abbrev Qvs:S:=.ite (.cmp .ne (.call 29 (.cons (.var 4) (.cons (.var 7) .nil))) (.str "table")) (.ret (.bl false)) .nil
theorem Q39 {Ts:List Tb} {xs:List T} (hx:∀ x∈xs,Bad Ts x) {a b c d e:Slot}:∃ s,Qe4 (.nm 7) (exS (cfn 14) Qvs) xs [.un,a,b,c,.fz (Qu Ts),d,e,.un]=.nx [.un,a,b,c,.fz (Qu Ts),d,e,s]:=by
 obtain ⟨ρ',ef,s,_,rfl⟩:=Qec (fun _ ρ=>∃ s:Slot,Qcx s=true∧ρ=[.un,a,b,c,.fz (Qu Ts),d,e,s]) (tg:=.nm 7) (b:=exS (cfn 14) Qvs) (xs:=xs) (n:=0) (ρ:=[.un,a,b,c,.fz (Qu Ts),d,e,.un]) ⟨.un,rfl,rfl⟩ (by
  rintro j t ρ ht ⟨s,os,rfl⟩
  have h:=hx t (mem_of_getElem? ht)
  unfold Bad at h
  refine ⟨[.un,a,b,c,.fz (Qu Ts),d,e,.fz t],_,(by cases s <;> first | rfl | cases os),.inl ?_,.fz t,rfl,rfl⟩
  simp only [Qbf,Qbe,Qab,Qj,Qm,Q8,Qd,Qb,Q0,yC1,Qq,yC2,Qv,Qt,Q5,Qw,Qai,Q4,h,Qav,Qk,Qy,L2.Qi,Option.map,if_true,Qba,Qrh,Qa9,Qa8,cont,Qa7,uc2,Q3r,decide_true,Bool.not_true,Qaa,yBl,Qal,yIf,Qcn])
 exact ⟨s,ef⟩
theorem Q4a {n:Nat} (h1:1≤n) (h4:n≤4) {a b c d:Slot}:evE (cfn 14) (.bi .tup (.cons (.comp (.seq (.call 27 (.cons (.var 3) .nil))) [none] (.nm 0) .nil (.bi .tup (.cons (.comp (.seq (.var 0)) [none] (.nm 0) .nil (.bin .mul (.int 2) (.var 0))) .nil))) .nil)) [.un,a,b,.fz (.int (n:Int)),c,d,.un,.un]=.ok (.fz (Qg (tw n))) [.un,a,b,.fz (.int (n:Int)),c,d,.un,.un]:=by
 have e0:=Qp7 13 h4
 have hw:evW (cfn 14) (.seq (.call 27 (.cons (.var 3) .nil))) [.un,a,b,.fz (.int (n:Int)),c,d,.un,.un]=.ok ((sc n 1).map Ql,none) [.un,a,b,.fz (.int (n:Int)),c,d,.un,.un]:=by
  simp only [Qrj,Qab,Qj,Qm,Q8,Qd,Qb,Q0,yC1,Qq,yC2,Qv,Qt,Q5,Qw,Qai,Q4,e0,Qav,Qk,Qy,L2.Qi,Option.map,if_true,Qw0,Qor,cont,Qoq,Qg5,Qk7]
 have q:=Qao (cf:=cfn 14) (w:=.seq (.call 27 (.cons (.var 3) .nil))) (js:=[none]) (e:=.bi .tup (.cons (.comp (.seq (.var 0)) [none] (.nm 0) .nil (.bin .mul (.int 2) (.var 0))) .nil)) (ρ:=[.un,a,b,.fz (.int (n:Int)),c,d,.un,.un]) (rest:=[]) (f:=fun t=>Ql ((iOf t).map fun x=>2*x)) hw rfl rfl rfl (fun t ht=>by
  obtain ⟨r,hr,rfl⟩:=mem_map.mp ht
  have q2:=Qao (cf:=cfn 14) (w:=.seq (.var 0)) (js:=[none]) (e:=.bin .mul (.int 2) (.var 0)) (ρ:=[.fz (Ql r)]) (rest:=[]) (xs:=r.map T.int) (f:=fun t=>match t with | .int v=>T.int (2*v) | t=>t) rfl rfl rfl rfl (fun t ht=>by
   obtain ⟨v,_,rfl⟩:=mem_map.mp ht
   refine ⟨.fz (.int (2*v)),?_,rfl⟩
   simp only [Qc5,Qay,Q0,Qcs,Qm,Q8,Qb,Qcr,Qcq,cont,Out.opt,uo5,Q33,if_true]) (by rw [length_map,(Qkt n 1).row r hr];omega)
  have em:(r.map T.int).map (fun t=>match t with | .int v=>T.int (2*v) | t=>t)=(r.map fun x=>2*x).map T.int:=by rw [map_map,map_map];rfl
  rw [em] at q2
  refine ⟨.fz (Ql (r.map fun x=>2*x)),?_,by rw [Qc2];rfl⟩
  simp only [Qbr,Qj,q2,Q0,yC1,Qq,yC2,yBi,Qbp,Qah,cont,Out.opt,ub9]) (by rw [length_map,(Qkt n 1).len];omega)
 have em:((sc n 1).map Ql).map (fun t=>Ql ((iOf t).map fun x=>2*x))=(tw n).map Ql:=by
  rw [map_map,map_map]
  apply map_congr_left
  intro r _
  show Ql ((iOf (Ql r)).map fun x=>2*x)=Ql (r.map fun x=>2*x)
  rw [Qc2]
 rw [em] at q
 simp only [Qbr,Qj,q,Q0,yC1,Qq,yC2,yBi,Qbp,Qah,cont,Out.opt,ub9]
theorem Q1e:∀ m:Int,∃ ρ',exS (cfn 14) Qt1 ((uns 8).set 1 (.fz (.int m)))=.nx ρ'∧ρ'.length=8:=by
 intro m
 obtain ⟨q,hq,e0⟩:=Qacp 13 m
 obtain ⟨r,q1,r0,r4,p1,e1⟩:=Qeg 13 (m:=4) (by decide) (by decide) hq
 obtain ⟨n,hn⟩:=Int.eq_ofNat_of_zero_le (show 0≤r by omega)
 have hn':1+r=((n+1:Nat):Int):=by omega
 obtain ⟨Ts,q2,m1,m4,sq,p2,e2⟩:=Q06 11 (n:=n+1) (by omega) (mo:=4) (by decide) (by decide) p1
 have hT:Tabs (n+1) Ts:=⟨by omega,by omega,m1,m4,fun X hX=>(sq X hX).shp⟩
 obtain ⟨A,q3,shA,bA,dA,p3,e3⟩:=Q8x 12 (n:=n+1) (by omega) (by omega) p2
 have byA:By (n+1) A:=⟨⟨shA.len,shA.row,fun r hr x hx=>Nat.le_trans (bA r hr x hx) (by decide)⟩,dA⟩
 have e4:=Qjy hT sq byA bA
 have sO:=Qsh (n:=n+1) (by omega) (by omega)
 have bO:∀ r∈sc (n+1) 1,∀ x∈r,(x:Int).natAbs≤4096:=sO.most (by decide)
 have byO:By (n+1) (sc (n+1) 1):=⟨⟨sO.shp.len,sO.shp.row,fun r hr x hx=>Nat.le_trans (bO r hr x hx) (by decide)⟩,sO.det⟩
 have e5:=Qp7 13 (n:=n+1) (by omega)
 have e6:=Qjy hT sq byO bO
 obtain ⟨o,ho⟩:∃ o:Nat,1+(((n+1:Nat):Int)%4)=(o:Int):=⟨1+(n+1)%4,by omega⟩
 have o4:1≤o∧o≤4∧o≠n+1:=by omega
 have e7:=Qp7 13 (n:=o) o4.2.1
 obtain ⟨w,q4,hw,p4,e8⟩:=Qacu 12 p3
 obtain ⟨T0,Tr,rfl⟩:∃ T0 Tr,Ts=T0::Tr:=by
  cases Ts with
  | nil=>cases m1
  | cons T Tr=>exact ⟨T,Tr,rfl⟩
 have sT0:=sq T0 mem_cons_self
 obtain ⟨tq,td⟩:=Qacx (n:=n+1) (by omega) (by omega)
 obtain ⟨zq,zd⟩:=Qacy (n:=n+1) (by omega) (by omega)
 obtain ⟨s7,e9⟩:=Q39 (Ts:=T0::Tr) (xs:=[Qg (sc o 1),Qg (tw (n+1)),Qg (zr (n+1)),.non,.lst (T0.map Ql),.tup [.tup [.bl true]],.tup [],.int 0,w]) (by
  intro x hx
  simp only [mem_cons,not_mem_nil,or_false] at hx
  rcases hx with rfl | rfl | rfl | rfl | rfl | rfl | rfl | rfl | rfl
  ·exact Qsn hT (Qkt o 1) o4.1 o4.2.1 o4.2.2
  ·exact Qqc hT tq td
  ·exact Qqc hT zq zd
  ·exact Qjz hT (by decide +kernel)
  ·exact Qsm hT (m:=1) (gdL (by rw [length_map,sT0.len];omega) fun x hx=>Q88 (Q87 sT0 (by omega) x hx)) rfl
  ·exact Qjz hT (by decide +kernel)
  ·exact Qjz hT (by decide +kernel)
  ·exact Qjz hT (by decide +kernel)
  ·exact Qjz hT hw) (a:=.fz (.int m)) (b:=.ow q4) (c:=.fz (.int ((n+1:Nat):Int))) (d:=.fz (Qg (sc o 1))) (e:=.fz (Qg (tw (n+1))))
 refine ⟨[.un,.fz (.int m),.ow q4,.fz (.int ((n+1:Nat):Int)),.fz (Qu (T0::Tr)),.fz (Qg (sc o 1)),.fz (Qg (tw (n+1))),s7],?_,rfl⟩
 show exS (cfn 14) Qt1 [.un,.fz (.int m),.un,.un,.un,.un,.un,.un]=_
 have w1:exS (cfn 14) (.set 2 (.call 18 (.cons (.var 1) .nil))) [.un,.fz (.int m),.un,.un,.un,.un,.un,.un]=.nx [.un,.fz (.int m),.ow q,.un,.un,.un,.un,.un]:=by
  simp only [Qrm,Qab,Qj,Qm,Q8,Qd,Qb,Q0,yC1,Qq,yC2,Qv,Qt,Q5,Qw,Qai,Q4,e0,Qav,Qk,Qy,L2.Qi,Option.map,if_true,Qal,Qq0,Qak,Qb0,length_cons,length_nil,Nat.reduceAdd,Nat.reduceLT,List.set]
 have w2:exS (cfn 14) (.setF 3 (.bin .add (.int 1) (.call 19 (.cons (.var 2) (.cons (.int 4) .nil))))) [.un,.fz (.int m),.ow q,.un,.un,.un,.un,.un]=.nx [.un,.fz (.int m),.ow q1,.fz (.int ((n+1:Nat):Int)),.un,.un,.un,.un]:=by
  simp only [Qbv,Qc5,Qay,Q0,Qcs,Qab,Qj,Qm,Q8,Qd,Qb,yC1,Qq,yC2,Qv,Qt,all_cons,all_nil,Bool.and_true,Q5,Qw,Qai,Q4,e1,Qav,Qk,Qy,L2.Qi,reduceCtorEq,Option.map,if_false,Nat.reduceAdd,Nat.reduceEqDiff,if_true,getElem?_cons_zero,Slot.put,Qcr,Qcq,cont,Out.opt,uo1,hn',Qal,Qct,Qbu,frz,Qak,Qb0,length_cons,length_nil,Nat.reduceLT,List.set]
 have w3:exS (cfn 14) (.setF 4 (.call 22 (.cons (.var 2) (.cons (.var 3) (.cons (.int 4) .nil))))) [.un,.fz (.int m),.ow q1,.fz (.int ((n+1:Nat):Int)),.un,.un,.un,.un]=.nx [.un,.fz (.int m),.ow q2,.fz (.int ((n+1:Nat):Int)),.fz (Qu (T0::Tr)),.un,.un,.un]:=by
  simp only [Qbv,Qab,Qj,Qm,Q8,Qd,Qb,Q0,yC1,Qay,Qq,yC2,Qv,Qt,all_cons,all_nil,Bool.and_true,Q5,Qw,Qai,Q4,e2,Qav,Qk,Qy,L2.Qi,reduceCtorEq,Option.map,if_false,Nat.reduceAdd,Nat.reduceEqDiff,if_true,getElem?_cons_zero,Slot.put,Qal,Qct,Qbu,frz,Qak,Qb0,length_cons,length_nil,Nat.reduceLT,List.set]
 have w4:exS (cfn 14) (.ite (.or (.not (.call 30 (.cons (.var 4) (.cons (.call 28 (.cons (.var 2) (.cons (.var 3) .nil))) .nil)))) (.not (.call 30 (.cons (.var 4) (.cons (.call 27 (.cons (.var 3) .nil)) .nil))))) (.ret (.bl false)) .nil) [.un,.fz (.int m),.ow q2,.fz (.int ((n+1:Nat):Int)),.fz (Qu (T0::Tr)),.un,.un,.un]=.nx [.un,.fz (.int m),.ow q3,.fz (.int ((n+1:Nat):Int)),.fz (Qu (T0::Tr)),.un,.un,.un]:=by
  generalize Qu (T0::Tr)=tt at *
  generalize sc (n+1) 1=O at e5 e6
  simp only [Qbf,Qf6,Qc9,Qab,Qj,Qm,Q8,Qd,Qb,Q0,yC1,Qq,yC2,Qv,Qt,all_cons,all_nil,Bool.and_true,Q5,Qw,Qai,Q4,e3,Qav,Qk,Qy,L2.Qi,reduceCtorEq,Option.map,if_false,Nat.reduceAdd,Nat.reduceEqDiff,if_true,getElem?_cons_zero,Slot.put,e4,Qaa,yBl,Qe5,Bool.not_true,yOr,e5,e6,yB,Qal,yIf,Qcn]
 have b4:(0:Int)<4:=by decide
 have w5:exS (cfn 14) (.setF 5 (.call 27 (.cons (.bin .add (.int 1) (.bin .mod (.var 3) (.int 4))) .nil))) [.un,.fz (.int m),.ow q3,.fz (.int ((n+1:Nat):Int)),.fz (Qu (T0::Tr)),.un,.un,.un]=.nx [.un,.fz (.int m),.ow q3,.fz (.int ((n+1:Nat):Int)),.fz (Qu (T0::Tr)),.fz (Qg (sc o 1)),.un,.un]:=by
  simp only [Qbv,Qab,Qj,Qc5,Qay,Q0,Qcs,Qm,Q8,Qd,Qb,Qcr,Qcq,cont,Out.opt,uo8,b4,Int.reduceLT,if_false,if_true,uo1,ho,yC1,Qq,yC2,Qv,Qt,Q5,Qw,Qai,Q4,e7,Qav,Qk,Qy,L2.Qi,Option.map,Qal,Qct,Qbu,frz,Qak,Qb0,length_cons,length_nil,Nat.reduceAdd,Nat.reduceLT,List.set]
 have et:=Q4a (n:=n+1) (by omega) (by omega) (a:=.fz (.int m)) (b:=.ow q3) (c:=.fz (Qu (T0::Tr))) (d:=.fz (Qg (sc o 1)))
 have w6:exS (cfn 14) (.setF 6 (.bi .tup (.cons (.comp (.seq (.call 27 (.cons (.var 3) .nil))) [none] (.nm 0) .nil (.bi .tup (.cons (.comp (.seq (.var 0)) [none] (.nm 0) .nil (.bin .mul (.int 2) (.var 0))) .nil))) .nil))) [.un,.fz (.int m),.ow q3,.fz (.int ((n+1:Nat):Int)),.fz (Qu (T0::Tr)),.fz (Qg (sc o 1)),.un,.un]=.nx [.un,.fz (.int m),.ow q3,.fz (.int ((n+1:Nat):Int)),.fz (Qu (T0::Tr)),.fz (Qg (sc o 1)),.fz (Qg (tw (n+1))),.un]:=by
  rw [Qbv,et]
  rfl
 rw [Qad,w1,Qa6,Qad,w2,Qa6,Qad,w3,Qa6,Qad,w4,Qa6,Qad,w5,Qa6,Qad,w6,Qa6]
 have k1:opB .mul (.tup [.int 0]) (.int ((n+1:Nat):Int))=some (.fz (Ql (List.replicate (n+1) 0))):=by
  rw [Qvr (by omega) (by omega)]
  show some (PV.fz (T.tup (List.replicate (n+1) (T.int 0))))=some (PV.fz (T.tup ((List.replicate (n+1) (0:Int)).map T.int)))
  rw [List.map_replicate]
 have k2:opB .mul (.tup [Ql (List.replicate (n+1) 0)]) (.int ((n+1:Nat):Int))=some (.fz (Qg (zr (n+1)))):=by
  rw [Qvr (by omega) (by omega)]
  show _=some (PV.fz (T.tup ((List.replicate (n+1) (List.replicate (n+1) (0:Int))).map Ql)))
  rw [List.map_replicate]
 have a0:atI ((T0::Tr).map Qg) 0=some (Qg T0):=by rw [map_cons];exact Qtn
 have bl:Qh6 .list [Qg T0]=some (.ow (.lst (T0.map Ql))):=rfl
 have z1:(1:Nat)≤100000:=by decide
 have z0:(0:Nat)≤100000:=by decide
 have z9:(9:Nat)≤100000:=by decide
 have ew:evW (cfn 14) (.seq (.lst (.cons (.var 5) (.cons (.var 6) (.cons (.bin .mul (.tup (.cons (.bin .mul (.tup (.cons (.int 0) .nil)) (.var 3)) .nil)) (.var 3)) (.cons .non (.cons (.bi .list (.cons (.ix (.var 4) (.int 0)) .nil)) (.cons (.tup (.cons (.tup (.cons (.bl true) .nil)) .nil)) (.cons (.tup .nil) (.cons (.int 0) (.cons (.call 21 (.cons (.var 2) .nil)) .nil))))))))))) [.un,.fz (.int m),.ow q3,.fz (.int ((n+1:Nat):Int)),.fz (Qu (T0::Tr)),.fz (Qg (sc o 1)),.fz (Qg (tw (n+1))),.un]=.ok ([Qg (sc o 1),Qg (tw (n+1)),Qg (zr (n+1)),.non,.lst (T0.map Ql),.tup [.tup [.bl true]],.tup [],.int 0,w],none) [.un,.fz (.int m),.ow q4,.fz (.int ((n+1:Nat):Int)),.fz (Qu (T0::Tr)),.fz (Qg (sc o 1)),.fz (Qg (tw (n+1))),.un]:=by
  generalize Ql (List.replicate (n+1) 0)=z at k1 k2
  generalize Qg (zr (n+1))=tz at k2 ⊢
  generalize Qg (sc o 1)=ts
  generalize Qg (tw (n+1))=tt
  generalize T.lst (T0.map Ql)=tl at bl ⊢
  simp only [Qrj,Qkz,Qj,Qm,Q8,Qd,Qb,Q0,yC1,Qc5,Qom,Qay,Qq,yC2,Qtl,Qe3,frz,length_cons,length_nil,Nat.reduceAdd,z1,if_true,Qcs,Qcr,Qcq,cont,Out.opt,k1,k2,Qmo,Qbr,Qhb,Qgy,Qgx,Qgw,Qgv,ui1,a0,yBi,Qbp,Qah,bl,Qrg,z0,Qab,Qv,Qt,all_nil,Bool.and_true,Q5,Qw,Qai,Q4,e8,Qav,Qk,Qy,L2.Qi,reduceCtorEq,Option.map,if_false,Nat.reduceEqDiff,getElem?_cons_zero,Slot.put,Qpd,z9,Qw0,Qor,Qoq,Qg5,Qk7]
 rw [Qjl,ew]
 generalize [Qg (sc o 1),Qg (tw (n+1)),Qg (zr (n+1)),.non,.lst (T0.map Ql),.tup [.tup [.bl true]],.tup [],.int 0,w]=W at e9 ⊢
 simp only [Qal,Qnc,e9,Qel]
open PySem L2
section
variable {P:Program} {w:World} {K:PySem.W.Frag} {mg:Str→Option Value} {base:Heap}
theorem ok_q {x:Str} {st:Stmt} {f:Addr} {fd:FuncData} {N ps:List Str} {k:Nat} {sp:Sp} (F:Fun K x x st f fd) (S:FnScope N ps (Qf st)) (len:∀ vs H Q E,sp vs H Q E→vs.length=ps.length)
  (hbody:∀ (cdv:Value) (A:Around) (outer:List Env) (s:Shared) (H:Hp) (vs:List V) (Q:VK) (E:XK),Room k (A.deeper (PyProof.Rows.envOfC x (Qf st) s.heap.objs.size f cdv))→sp vs H Q E →
   ∃ t,QB (Qh5 (fun _=>true) CX0 P w K mg base N x (Qf st) f cdv A outer s H E).nox (Qaj st) t∧t { nx:=fun _ H'=>Q .non H',rt:=Q } (Qbt N vs) H):FnOk P w K mg base CX0 (k+1) f fd ps sp :=
 F.ok S len fun cdv A outer s H vs Q E hr hs=>let ⟨t,a,b⟩:=hbody cdv A outer s H vs Q E hr hs;⟨t,a.h,b⟩
theorem Q1f {h:Heap} {x:Str} {st:Stmt} {f:Addr} {oc:Value} {od an:Option Addr} {osl:Array (Option Value)} {kV doc pm cdv ct:Value} (X:K.In h) (G:h.Ns mainGlobals mg) (a:PySem.W.nsIn K mainGlobals x=some (some (.ref f)))
  (l:K.lookup f=some ⟨oc,od,.func (PySem.W.fnOf x x (Qbg st) (Qaj st) (Qf st) .none kV doc pm an cdv ct),osl⟩) (c:PySem.W.codeIn K cdv x=true) (k:PySem.W.keepIn K (.ref f)=true):Dfn K mg x st:=⟨⟨f,_,Qx8 l c k,PySem.W.mg_of X G a⟩⟩
theorem Q1g {h:Heap} {x:Str} {i:Int} {t:Tok} (X:K.In h) (G:h.Ns mainGlobals mg) (a:PySem.W.nsIn K mainGlobals x=some (some (.int i t))):∃ u,mg x=some u∧RelV (.int i) u:=⟨_,PySem.W.mg_of X G a,t,rfl⟩
theorem Q4b {lf:Addr} {lfd:FuncData} (F:Fun K "law" "law" Qk2 lf lfd) (s:Shared) (v:Value):BindsTo s lfd ⟨[v],[]⟩ [("_law_script",v)]:=by
 obtain ⟨oc,od,kV,doc,pm,an,cdv,ct,osl,rfl,lk,hcd⟩:=F.ex
 exact .of_eq (Q8h _ _ _ _ _ _ [v] rfl)
theorem Qaz {xs:List Df} {d:Df} (i:Nat) (h:xs[i]?=some d):d∈xs:=mem_of_getElem? h
theorem Q89 {l:PySem.W.OpenLaw} {fa:Addr} (hfa:mg "law" = some (.ref fa)) (tx:Txt K mg) (dl:Dfn K mg "law" Qk2) (dc:Dfn K mg "_law_cell" Qex) (D:∀ d∈ds,Dfn K mg d.x d.st) :
  ∃ fd:FuncData,(∀ (s:Shared) (v:Value),BindsTo s fd ⟨[v],[]⟩ [("_law_script",v)])∧∀ base:Heap,K.In base→base.Ns mainGlobals mg→FnOk l.prog w K mg base CX0 16 fa fd ["_law_script"] (Qtk K):=by
 obtain ⟨f,fd,F,m⟩:=dl.ex
 have e:=hfa.symm.trans m
 cases e
 refine ⟨fd,Q4b F,fun base _ _=>?_⟩
 have A:Q8b (fun d=>DfOk K mg d∧Qat l.prog w K mg base ds d) ds:=⟨⟨⟨D _ (Qaz 0 rfl),Qrr,Qrs,rfl,rfl⟩,Qtv tx⟩,⟨⟨D _ (Qaz 1 rfl),Qw3,Qw4,rfl,rfl⟩,Q0q tx⟩,⟨⟨D _ (Qaz 2 rfl),Qtp,Qtq,rfl,rfl⟩,Qw7 tx⟩,⟨⟨D _ (Qaz 3 rfl),Qfj,Qnd,rfl,rfl⟩,Qpt tx⟩,⟨⟨D _ (Qaz 4 rfl),Qne,Qnf,rfl,rfl⟩,Qpu tx⟩,⟨⟨D _ (Qaz 5 rfl),Qk0,Qrt,rfl,rfl⟩,Qtw tx⟩,⟨⟨D _ (Qaz 6 rfl),Qng,Qnh,rfl,rfl⟩,Qpv tx⟩,⟨⟨D _ (Qaz 7 rfl),Qhe,Qmt,rfl,rfl⟩,Qno tx⟩,⟨⟨D _ (Qaz 8 rfl),Qph,Qpi,rfl,rfl⟩,Qr5 tx⟩,⟨⟨D _ (Qaz 9 rfl),Qni,Qnj,rfl,rfl⟩,Qpw tx⟩,⟨⟨D _ (Qaz 10 rfl),Qh7,Qh8,rfl,rfl⟩,Qiy tx⟩,⟨⟨D _ (Qaz 11 rfl),Qhf,Qhg,rfl,rfl⟩,Qh9 tx⟩,⟨⟨D _ (Qaz 12 rfl),Qru,Q0m,rfl,rfl⟩,Q3t tx⟩,⟨⟨D _ (Qaz 13 rfl),Qjp,Qjq,rfl,rfl⟩,Qkq tx⟩,⟨⟨D _ (Qaz 14 rfl),Qbj,Qjr,rfl,rfl⟩,Qkr tx⟩,⟨⟨D _ (Qaz 15 rfl),Qhh,Qmu,rfl,rfl⟩,Qnp tx⟩,⟨⟨D _ (Qaz 16 rfl),Qkj,Qw5,rfl,rfl⟩,Q0r tx⟩,⟨⟨D _ (Qaz 17 rfl),Qmv,Qtr,rfl,rfl⟩,Qw8 tx⟩,⟨⟨D _ (Qaz 18 rfl),Qmw,Qts,rfl,rfl⟩,Qw9 tx⟩,⟨⟨D _ (Qaz 19 rfl),Qed,Qrx,rfl,rfl⟩,Qtx tx⟩,⟨⟨D _ (Qaz 20 rfl),Qpj,Qpk,rfl,rfl⟩,Qr6 tx⟩,⟨⟨D _ (Qaz 21 rfl),Qmx,Qtt,rfl,rfl⟩,Qxa tx⟩,⟨⟨D _ (Qaz 22 rfl),Qb3,Qnk,rfl,rfl⟩,Qpx tx⟩,⟨⟨D _ (Qaz 23 rfl),Qnl,Qnm,rfl,rfl⟩,Qpy tx⟩,⟨⟨D _ (Qaz 24 rfl),Qga,Qpl,rfl,rfl⟩,Qr7 tx⟩,⟨⟨D _ (Qaz 25 rfl),Qk9,Qla,rfl,rfl⟩,Qm2 tx⟩,⟨⟨D _ (Qaz 26 rfl),Qmy,Qmz,rfl,rfl⟩,Qnq tx⟩,⟨⟨D _ (Qaz 27 rfl),Qrz,Qr0,rfl,rfl⟩,Qty tx⟩,⟨⟨D _ (Qaz 28 rfl),Qcu,Qr1,rfl,rfl⟩,Qtz tx⟩,⟨⟨D _ (Qaz 29 rfl),Qk1,Qr2,rfl,rfl⟩,Qt0 tx⟩,⟨⟨D _ (Qaz 30 rfl),Qdt,Qpm,rfl,rfl⟩,Qr8 tx⟩,trivial⟩
 have hc:=Qoi (Q0f A) 14
 refine ok_q (k:=15) F Qhi (fun vs H Q E h=>?_) (fun cdv A outer s H vs Q E hr h=>?_)
 ·obtain ⟨a,ns,rfl,_⟩:=h
  rfl
 ·obtain ⟨ρ1,e1⟩:=Q8a Q38
  exact ⟨_,Qacm tx hc (Qpz dc tx) hr,Q3o h (by decide) (by decide) e1 Q1e⟩
end
end My
namespace PySem.W.Fast
def tw9490755308710241711:=()
def tw4233962674411310290:=()
def tw12306785801205243222:=()
def tw2382843515628115075:=()
def tw2199273821319999403:=()
def tw13546091378988813526:=()
def tw9470386126804328163:=()
def tw5127001052222954551:=()
def tw7970559137368487937:=()
def tw6905574071691975627:=()
def tw17094011991210062723:=()
def tw8076029561269606977:=()
def tw3322065563920908407:=()
def tw5047243964953351561:=()
def tw1592913551427103237:=()
def tw11881560884124534828:=()
def tw16034569204456755029:=()
def tw8052045631844404605:=()
def tw12431610413725067804:=()
def tw4114571162117180327:=()
def tw7812805468440850464:=()
def tw16107392767442881243:=()
def tw12271865605094187351:=()
def tw17314588753886860493:=()
def tw12254949856859366084:=()
def tw4612217254158536597:=()
def tw3147171674788893958:=()
def tw3916794703226831108:=()
def tw18344508577700232670:=()
def tw17247079302598804243:=()
def tw11716468094138116300:=()
def tw8698030107715915425:=()
def tw1376744410153638325:=()
def tw14579633743110678645:=()
def tw13899459386186750351:=()
def tw1420962786958749466:=()
def tw4661650125610538219:=()
def tw17420530328294431042:=()
def tw18008316374528075328:=()
def tw9809577368116471797:=()
def tw6447492301857029302:=()
def tw18249447129103892761:=()
def tw15494219988678384119:=()
def tw15375205307180461981:=()
def tw11266282166878718464:=()
def tw6175567222464775067:=()
def tw16021165858526387232:=()
def tw863149001100186598:=()
def tw3015686184281322059:=()
def tw4139677580736769776:=()
def tw12236872482224364181:=()
def tw11090673633605487010:=()
def tw1037196534264805133:=()
def tw64363125553271582:=()
def tw11628751781725372087:=()
def tw5483230433729084673:=()
def tw5532513910622418441:=()
def tw4073357984065095731:=()
def tw2122685804979815667:=()
def tw2375331171943344483:=()
def tw10271678547631722079:=()
def tw2766771373640039363:=()
def tw12733931490761738174:=()
def tw7655166176512618866:=()
def tw9306375036042566352:=()
def tw9108997481573541385:=()
def tw1563779979634316263:=()
def tw14362954439817208559:=()
def tw3221336978711207321:=()
def tw8639841984252929472:=()
def tw14910806603756356543:=()
def tw5147476754810852779:=()
def tw5404996887315188072:=()
def tw4365261031928186336:=()
def tw17110725295646377194:=()
def tw13814917295499935277:=()
def tw10255770447717890040:=()
def tw4378790080500411850:=()
def tw592152591604944165:=()
def tw18130711313039441054:=()
def tw15767026317443101173:=()
def tw14779861385556512905:=()
def tw12670842275100392813:=()
def tw8767159582421675498:=()
def tw2912694923667923185:=()
def tw9354501415394218669:=()
def tw15894464449905778625:=()
def tw5138477644719621742:=()
def tw14980991858170049875:=()
def tw15316950178389387704:=()
def tw12836920847672862886:=()
def tw7931088317338303135:=()
def tw4191860395876890068:=()
def tw2221253342047143991:=()
def tw14515929588773312462:=()
def tw16110867866192175851:=()
def tw5017117020327695970:=()
def tw3447118913604212807:=()
def tw14787838027044967115:=()
def tw6965006261691761751:=()
def tw17800040484544679911:=()
def tw7513229470840180178:=()
def tw6801798401331643992:=()
def tw10273327201589652708:=()
def tw15014768476197448043:=()
def tw1770208635890327487:=()
def tw2133529034774630800:=()
def tw15549022657848905916:=()
def tw13619870392173219361:=()
def tw2623537913830863178:=()
def tw7318247739330453204:=()
def tw16555752265723343051:=()
def tw13223315314832293556:=()
def tw3141739684806638988:=()
def tw4272988377540791136:=()
def tw13666700381158690757:=()
def tw17435757220266105117:=()
def tw17332268628409312604:=()
def tw6150953172768238285:=()
def tw525448027827034157:=()
def tw10668511353089224485:=()
def tw4596684132523824328:=()
def tw13505649051619053806:=()
def tw493916500250796291:=()
def tw11182256712005287625:=()
def tw17577615910736076695:=()
def tw11819142327990848501:=()
def tw1937455775736678471:=()
def tw5976815755403179556:=()
def tw2999156142308332486:=()
def tw16746358504102444702:=()
def tw15433933712410894868:=()
def tw16850115505454005336:=()
def tw16882407700822229085:=()
def tw8420758593639065761:=()
def tw17136639399270442275:=()
def tw14628569773664481802:=()
def tw16810144070434599356:=()
def tw13249346674472819625:=()
def tw4229715808304353186:=()
def tw11791641090793526784:=()
def tw5300513356201139993:=()
def tw12218356263531279083:=()
def tw2759785415542804758:=()
def tw6357311723318640909:=()
def tw8046689690243795067:=()
def tw4864387085831130804:=()
def tw3615251258841782472:=()
def tw12051181252958660680:=()
def tw8886445811349101732:=()
def tw2408685846473936419:=()
def tw3870679187606392323:=()
def tw3110200359192673497:=()
def tw8479585344240751317:=()
def tw17667541033279672908:=()
def tw2050375908414093636:=()
def tw10366669627082117010:=()
def tw8185298947371447898:=()
def tw7040303613809034349:=()
def tw7931702345445295088:=()
def tw4273824518367204631:=()
def tw12395353546872275716:=()
def tw5649425466840721336:=()
def tw7849556765234111568:=()
def tw17296859593717578205:=()
def tw14854219074537361365:=()
def tw17332131285715335942:=()
def tw10120212483030537577:=()
def tw1512864629576988523:=()
def tw7093037671375608253:=()
def tw1429094376395485585:=()
def tw8402025179900245644:=()
def tw2274628151307554060:=()
def tw12769634221330410558:=()
def tw16497871451437310701:=()
def tw13046101640345378893:=()
def tw13463888310919212928:=()
def tw17764377078997116998:=()
def tw11254903758555114869:=()
def tw13245975311584390500:=()
def tw48539227418465399:=()
def tw14589305178021787075:=()
def tw18224293224473297281:=()
def tw15064993170009893269:=()
def tw15618926320074978974:=()
def tw14749439811508343077:=()
def tw4955956049787788054:=()
def tw797725666668241080:=()
def tw9904868792438631200:=()
def tw9779019299286577507:=()
def tw2922049630900823349:=()
def tw12302130702691664772:=()
def tw15656772734364031409:=()
def tw9331236418098667947:=()
def tw11407447674201116233:=()
def tw197852289870454110:=()
def tw13700319629322582031:=()
def tw1405875739519259358:=()
def tw11133880457789494359:=()
def tw5622662562467044853:=()
def tw6586173961211674826:=()
def tw14664037461420367218:=()
def tw6664723425109189168:=()
def tw18238978635702452944:=()
def tw7130405679690824614:=()
def tw15159317237215356786:=()
def tw17068809396370974395:=()
def tw6234681123846105295:=()
def tw13151414429281671859:=()
def tw330040437194351934:=()
def tw7841933973928484818:=()
def tw8891677946695198687:=()
def tw172392355130577449:=()
def tw14989751342782672396:=()
def tw10397977693446190036:=()
def tw11567239511113715267:=()
def tw5356147651457313574:=()
def tw9168744944495626889:=()
def tw16378184922123297734:=()
def tw11782596980326189744:=()
def tw15801962333966545278:=()
def tw15542966568069558645:=()
def tw12325613393602279436:=()
def tw11612828308236979766:=()
def tw12786662334297447171:=()
def tw8074406331207430243:=()
def tw4043251489870834435:=()
def tw17039333972118337359:=()
def tw16000346366432096408:=()
def tw14427669701114984645:=()
def tw299688079773472281:=()
def tw15731006297906584604:=()
def tw5621200971447436412:=()
def tw17821876837614400210:=()
def tw7095847133932602804:=()
def tw13924769287684899548:=()
def tw6363014902171396170:=()
def tw14522493789852765950:=()
def tw10714117622246814573:=()
def tw3252321338324646377:=()
def tw7503335558489284137:=()
def tw8043858859584604167:=()
end PySem.W.Fast
open PySem PySem.W PyProof.Rows
set_option maxRecDepth 100000 in
set_option maxHeartbeats 0 in
theorem PySem.Challenge.cw_noughtways_k60_tables_changed_holds : PySem.Challenge.rw_noughtways_k60_tables_changed.Holds := by
 w_on;o_law;k_head;(case hw=>w_witness2)
 k_fill
 refine L2.Qx7 (l:=PySem.Challenge.rw_noughtways_k60_tables_changed) (n:=63) (k:=16) (x := "_law_script") (CX:=L2.CX0) (sp:=L2.Qtk) rfl (by decide) rfl ⟨rfl,by decide,by decide,rfl⟩ (fun w h Y=>PySem.W.kIn_of Y) ?F ?S ?C ?T
 case F =>
  intro w mg fa h KX G hmg
  have ⟨d0,d1,d2,d3,d4,d5,d6,d7,d8,d9,d10,d11,d12,d13,d14,d15,d16,d17,d18,d19,d20,d21,d22,d23,d24,d25,d26,d27,d28,d29,d30,d31,d32⟩:L2.Dfn (L2.KOf KX) mg "law" My.Qk2∧L2.Dfn (L2.KOf KX) mg "_law_cell" My.Qex∧L2.Dfn (L2.KOf KX) mg "is_whole" My.Qf7∧L2.Dfn (L2.KOf KX) mg "is_row" My.Qjo∧L2.Dfn (L2.KOf KX) mg "is_grid" My.Qhw∧L2.Dfn (L2.KOf KX) mg "numbers_of" My.Qem∧L2.Dfn (L2.KOf KX) mg "is_bounded" My.Qen∧L2.Dfn (L2.KOf KX) mg "wrong_at" My.Qf8∧L2.Dfn (L2.KOf KX) mg "need_table" My.Qeo∧L2.Dfn (L2.KOf KX) mg "need_tables" My.Qd4∧L2.Dfn (L2.KOf KX) mg "column_at" My.Qe9∧L2.Dfn (L2.KOf KX) mg "columns_of" My.Qep∧L2.Dfn (L2.KOf KX) mg "row_times_column" My.Qcc∧L2.Dfn (L2.KOf KX) mg "row_times_columns" My.Qb5∧L2.Dfn (L2.KOf KX) mg "times" My.Qli∧L2.Dfn (L2.KOf KX) mg "without_column" My.Qcy∧L2.Dfn (L2.KOf KX) mg "determinant_of" My.Qcz∧L2.Dfn (L2.KOf KX) mg "signed_part" My.Qd5∧L2.Dfn (L2.KOf KX) mg "undone" My.Qjs∧L2.Dfn (L2.KOf KX) mg "changed" My.Qhx∧L2.Dfn (L2.KOf KX) mg "_law_pen" My.Qhy∧L2.Dfn (L2.KOf KX) mg "_law_draw" My.Qf9∧L2.Dfn (L2.KOf KX) mg "_law_whole" My.Qfa∧L2.Dfn (L2.KOf KX) mg "_law_odd" My.Qhz∧L2.Dfn (L2.KOf KX) mg "_law_tables" My.Qeq∧L2.Dfn (L2.KOf KX) mg "_law_number" My.Qer∧L2.Dfn (L2.KOf KX) mg "_law_times" My.Qfb∧L2.Dfn (L2.KOf KX) mg "_law_table_is" My.Qds∧L2.Dfn (L2.KOf KX) mg "_law_list_is" My.Qd6∧L2.Dfn (L2.KOf KX) mg "_law_ones" My.Qgb∧L2.Dfn (L2.KOf KX) mg "_law_made" My.Qgc∧L2.Dfn (L2.KOf KX) mg "_law_told" My.Qgd∧L2.Dfn (L2.KOf KX) mg "_law_right" My.Qfc:=by
   refine ⟨?_,?_,?_,?_,?_,?_,?_,?_,?_,?_,?_,?_,?_,?_,?_,?_,?_,?_,?_,?_,?_,?_,?_,?_,?_,?_,?_,?_,?_,?_,?_,?_,?_⟩ <;> (dsimp only [L2.KOf];refine' My.Q1f KX G ?a ?l ?c ?k;(case a=>k_is);(case l=>k_is);(case c=>k_is);(case k=>k_is))
  have ⟨z0,z1,z2,z3,z4,z5,z6,z7,z8,z9,z10,z11,z12,z13⟩:mg "ValueError" = none∧mg "abs" = none∧mg "all" = none∧mg "bool" = none∧mg "divmod" = none∧mg "int" = none∧mg "isinstance" = none∧mg "len" = none∧mg "list" = none∧mg "max" = none∧mg "range" = none∧mg "sum" = none∧mg "tuple" = none∧mg "zip" = none:=by
   refine ⟨?_,?_,?_,?_,?_,?_,?_,?_,?_,?_,?_,?_,?_,?_⟩ <;> (refine PySem.W.mg_none_of KX G ?_;(try dsimp only [L2.KOf]);k_is)
  have y0:∃ u,mg "MOST_ROWS" = some u∧L2.RelV (L2.V.int (4)) u:=by
   refine' My.Q1g (K:=L2.KOf KX) KX G ?a
   (case a=>(try dsimp only [L2.KOf]);k_is)
  have y1:∃ u,mg "MOST_TABLES" = some u∧L2.RelV (L2.V.int (4)) u:=by
   refine' My.Q1g (K:=L2.KOf KX) KX G ?a
   (case a=>(try dsimp only [L2.KOf]);k_is)
  have zx:L2.Exs (L2.KOf KX) mg:=by
   dsimp only [L2.KOf]
   refine' L2.Q7b KX G ?e0 ?e1 ?e2 ?e3 ?e4 ?e5 ?e6 ?e7 ?e8 ?e9 ?e10 ?ok
   (case e0=>k_is);(case e1=>k_is);(case e2=>k_is);(case e3=>k_is);(case e4=>k_is);(case e5=>k_is);(case e6=>k_is);(case e7=>k_is);(case e8=>k_is);(case e9=>k_is);(case e10=>k_is)
   (case ok=>kernel_rfl)
  have zi_NoTables:L2.Ini (L2.KOf KX) (L2.cad mg "NoughtError") (L2.cad mg "NoTables"):=by
   dsimp only [L2.KOf]
   refine' L2.Q7e (st:=My.Qcg) (x := "NoTables") KX G ?e0 ?e1 ?lc ?fi ?l ?c ?k My.Qkk (by rfl) (by rfl) My.Qkl (by rfl) ?ok
   (case e0=>k_is);(case e1=>k_is);(case lc=>k_is);(case fi=>(dsimp only;k_is));(case l=>k_is);(case c=>k_is);(case k=>k_is)
   (case ok=>kernel_rfl)
  have dk:L2.Dfn (L2.KOf KX) mg "_law_kind" My.Qey:=by
   dsimp only [L2.KOf]
   refine' My.Q1f KX G ?a ?l ?c ?k
   (case a=>k_is);(case l=>k_is);(case c=>k_is);(case k=>k_is)
  have tx:My.Txt (L2.KOf KX) mg:=⟨z0,z1,z2,z3,z4,z5,z6,z7,z8,z9,z10,z11,z12,z13,y0,y1,zx,zi_NoTables,dk⟩
  refine My.Q89 hmg tx d0 d1 fun d hd=>?_
  simp only [My.ds,mem_cons,not_mem_nil,or_false] at hd
  rcases hd with rfl | rfl | rfl | rfl | rfl | rfl | rfl | rfl | rfl | rfl | rfl | rfl | rfl | rfl | rfl | rfl | rfl | rfl | rfl | rfl | rfl | rfl | rfl | rfl | rfl | rfl | rfl | rfl | rfl | rfl | rfl
  ·exact d2
  ·exact d3
  ·exact d4
  ·exact d5
  ·exact d6
  ·exact d7
  ·exact d8
  ·exact d9
  ·exact d10
  ·exact d11
  ·exact d12
  ·exact d13
  ·exact d14
  ·exact d15
  ·exact d16
  ·exact d17
  ·exact d18
  ·exact d19
  ·exact d20
  ·exact d21
  ·exact d22
  ·exact d23
  ·exact d24
  ·exact d25
  ·exact d26
  ·exact d27
  ·exact d28
  ·exact d29
  ·exact d30
  ·exact d31
  ·exact d32
 case S=>exact fun K H a ns hl _ hS=>⟨a,ns,rfl,hS,hl,fun _=>rfl⟩
 case C=>exact fun _ _ _ _ z=>z
 case T=>exact fun w a q=>L2.Qacj (by first | kernel_rfl | exact rfl | decide) a q
