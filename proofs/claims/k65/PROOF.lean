import PyProof.Rows.All
import Wide.All
import OpenK.AllK
import Wide.FinOn
import PyProof.DictFindH
import PyProof.DictRoadsH
import Lean
import PyProof.EqAt
import PyProof.EqKinds
import PyProof.TupleCall
import PySem.Challenge.RW_noughtways_k65_whole_ways_joined_and_spr
import PyProof.NeKinds
import PyProof.ListRange
import PyProof.TupleOfSeq
import KE.KSortTup
import PyProof.TupleKey
import PyProof.Rows.SetFrom
import PyProof.SetRoads
import KE.KDictList
import KE.KDictOf
import PyProof.AttrMiss
import PyProof.IsiH_list
import PyProof.AutoListH
set_option Elab.async false
set_option linter.all false
set_option maxRecDepth 100000
namespace L2
open PySem
noncomputable def Qsw (h:Heap) (d:Addr):Prop:=∃ o es,h.get? d = some o ∧ o.data = .dict es es.size
section
variable {prog:Program} {w:World} {K:Type} [DecidableEq K] {knd:HeapKind prog w K} {A:Around} {E:Value → Shared → Prop} {s:Shared}
theorem Qkw {d a:Addr} {xs:List (K × Addr × Value)} {k:K} {v:Value} {Q:Unit → Shared → Prop} (hu:knd.room A) (hkey:knd.is s.heap k a) (hm:s.heap.DictOfH knd d xs) (hep:Qsw s.heap d)
  (hQ:∀ h',h'.DictOfH knd d (storedH xs k a v) → Qsw h' d → Heap.SameBut d s.heap h' → Q () { s with heap:=h',toks:=s.toks + knd.draws k }) (hsz:xs.length ≤ sizeLine) :
  wpAny (model prog w) A (dictSet d (.ref a) v) Q E s:=by
 obtain ⟨o,es,ep,ho,hc,hd,he,his,hn⟩:=hm
 obtain ⟨o2,es2,ho2,hd2⟩:=hep
 rw [ho] at ho2
 cases ho2
 rw [hd] at hd2
 have ee:ep = es.size:=by cases hd2; rfl
 subst ee
 unfold dictSet
 try with_reducible refine wpAny_holding ?_
 refine wpAny_bind (knd.pyHash hu hkey ?_)
 unfold dictSetHashed
 try with_reducible refine wpAny_holding ?_
 refine wpAny_bind (wpAny_dictFind_heap (s:={ s with toks:=s.toks + knd.draws k }) hu hkey ho hd he his hn ?_ ?_)
 ·intro hno
  have hnot:k ∉ xs.map (·.1):=not_mem_keys_of_get hno
  have hg:=Heap.get?_update_self (Obj.mapDictKeys (·.push ⟨knd.hash k,.ref a,v⟩)) ho (Obj.isFreed_of_dict (Obj.data_mapDictKeys hd _))
  refine wpAny_bind (wpAny_rule (wpAny_updateDictKeys (hz:=by have e:=size_of_entries he; omega) (s:={ s with toks:=s.toks + knd.draws k }) ho hd (hQ _ ⟨_,_,es.size + 1,hg,hc.mapDictKeys _,Obj.data_mapDictKeys hd _,?_,?_,?_⟩ ⟨_,es.push ⟨knd.hash k,.ref a,v⟩,hg,?_⟩ (Heap.SameBut.update ..))))
  ·rw [storedH_new (atKey_none_of_get hno)]
   simp [he,entryOfKey]
  ·rw [storedH_new (atKey_none_of_get hno)]
   intro x hx
   rcases List.mem_append.mp hx with hx | hx
   ·exact knd.keeps (his x hx) ho hd (Heap.SameBut.update ..)
   ·simp only [List.mem_singleton] at hx
    subst hx
    exact knd.keeps hkey ho hd (Heap.SameBut.update ..)
  ·rw [storedH_new (atKey_none_of_get hno),List.map_append,List.nodup_append]
   refine ⟨hn,by simp,?_⟩
   intro x hx y hy
   simp only [List.map_cons,List.map_nil,List.mem_singleton] at hy
   subst hy
   exact fun e=>hnot (e ▸ hx)
  ·rw [Obj.data_mapDictKeys hd,Array.size_push]
 ·intro j p hj
  have hg:=Heap.get?_update_self (Obj.mapDict (·.modify j fun e=>{ e with val:=v })) ho (Obj.isFreed_of_dict (Obj.data_mapDict hd _))
  refine wpAny_bind (wpAny_rule (wpAny_bind (wpAny_updateDict (s:={ s with toks:=s.toks + knd.draws k }) ho hd (wpAny_point (hQ _ ⟨_,_,es.size,hg,hc.mapDict _,Obj.data_mapDict hd _,?_,?_,?_⟩ ⟨_,es.modify j fun e=>{ e with val:=v },hg,?_⟩ (Heap.SameBut.update ..))))))
  ·rw [storedH_old (atKey_of_get hn hj)]
   have:=modify_map_putAt (entryOfKey knd) (fun e:DictEntry=>{ e with val:=v }) k v (fun _ _=>rfl) hn hj
   rw [← he] at this
   obtain ⟨l⟩:=es
   simpa using this
  ·rw [storedH_old (atKey_of_get hn hj)]
   intro x hx
   obtain ⟨y,hy,rfl⟩:=List.mem_map.mp hx
   unfold putAt
   split <;> exact knd.keeps (his y hy) ho hd (Heap.SameBut.update ..)
  ·rw [storedH_old (atKey_of_get hn hj),keys_map_putAt]; exact hn
  ·rw [Obj.data_mapDict hd,Array.size_modify]
theorem Qsx {d a:Addr} {xs:List (K × Addr × Value)} {k:K} {v:Value} {Q:Unit → Shared → Prop} (hu:knd.room A.in1) (hkey:knd.is s.heap k a) (hm:s.heap.DictOfH knd d xs) (hep:Qsw s.heap d)
  (hQ:∀ h',h'.DictOfH knd d (storedH xs k a v) → Qsw h' d → Heap.SameBut d s.heap h' → Q () { s with heap:=h',toks:=s.toks + knd.draws k }) (hsz:xs.length ≤ sizeLine) :
  wpAny (model prog w) A (setItem (.ref d) (.ref a) v) Q E s:=by
 unfold setItem
 try with_reducible refine wpAny_holding ?_
 refine wpAny_bind (wpAny_sequenceKey hm.typeIs (by decide) ?_)
 refine wpAny_bind (wpAny_callSpecial?_slot (name:=Str.ofString "__setitem__") hm.typeIs slot_dict_setitem (wpAny_call_entry slot_dict_setitem hm.typeIs entry_dict_setitem ?_ (args_dict_setitem _ _ _)))
 show wpAny _ _ (Builtin.Dict.notOrdered "__setitem__" ⟨[.ref d,.ref a,v],[]⟩ >>= _) _ _ s
 refine wpAny_bind (wpAny_notOrdered_dict hm.typeIs ?_)
 show wpAny _ _ (dictSet d (.ref a) v >>= _) _ _ s
 exact wpAny_bind (Qkw hu hkey hm hep (fun h' hm' hep' hs'=>wpAny_pure ⟨.none,rfl,wpAny_pure (hQ h' hm' hep' hs')⟩) hsz)
end
open PySem PySem.Spec PyProof.Rows
noncomputable abbrev Key:=Sum Int Str
noncomputable def Qnr:Key → Value → Bool
 | .inl k,v=>Value.isInt k v
 | .inr x,v=>Value.isStrOf x v
noncomputable def keyH (w:World):Key → Int
 | .inl k=>hashInt k
 | .inr x=>hashStr w x
theorem Qbe:∀ {k:Key} {v:Value},Qnr k v = true → (∃ i t,k = Sum.inl i ∧ v = Value.int i t) ∨ (∃ x t,k = Sum.inr x ∧ v = Value.str x t)
 | .inl i,v,h=>by
  obtain ⟨t,e⟩:=Value.isInt_shape (k:=i) (v:=v) h
  exact .inl ⟨i,t,rfl,e⟩
 | .inr x,v,h=>by
  obtain ⟨t,e⟩:=Value.isStrOf_shape (x:=x) (v:=v) h
  exact .inr ⟨x,t,rfl,e⟩
theorem Qwm (i:Int) (t:Tok):Qnr (.inl i) (.int i t) = true:=by simp [Qnr,Value.isInt]
theorem Qwn (x:Str) (t:Tok):Qnr (.inr x) (.str x t) = true:=by simp [Qnr,Value.isStrOf]
theorem Q63 (a b:Int):decide ((Sum.inl a:Key) = Sum.inl b) = (a == b):=by
 by_cases e:a = b
 ·subst e; simp
 ·have h:¬ (Sum.inl a:Key) = Sum.inl b:=fun q=>e (Sum.inl.inj q)
  rw [decide_eq_false h]
  exact (beq_eq_false_iff_ne.mpr e).symm
theorem Q64 (a b:Str):decide ((Sum.inr a:Key) = Sum.inr b) = decide (a = b):=by
 by_cases e:a = b
 ·subst e; simp
 ·have h:¬ (Sum.inr a:Key) = Sum.inr b:=fun q=>e (Sum.inr.inj q)
  rw [decide_eq_false h,decide_eq_false e]
theorem Q65 (a:Int) (b:Str):decide ((Sum.inl a:Key) = Sum.inr b) = false:=decide_eq_false (fun q=>nomatch q)
theorem Q66 (a:Str) (b:Int):decide ((Sum.inr a:Key) = Sum.inl b) = false:=decide_eq_false (fun q=>nomatch q)
noncomputable def Qap (prog:Program) (w:World):PySem.KeyKind prog w Key where
 is:=Qnr
 hash:=keyH w
 inj:=fun v a b ha hb=>by
  rcases Qbe ha with ⟨i,t,rfl,rfl⟩ | ⟨x,t,rfl,rfl⟩
  ·rcases Qbe hb with ⟨j,u,rfl,e⟩ | ⟨y,u,rfl,e⟩
   ·injection e with e1 _; rw [e1]
   ·exact nomatch e
  ·rcases Qbe hb with ⟨j,u,rfl,e⟩ | ⟨y,u,rfl,e⟩
   ·exact nomatch e
   ·injection e with e1 _; rw [e1]
 byValue:=fun k v h=>by
  rcases Qbe h with ⟨i,t,rfl,rfl⟩ | ⟨x,t,rfl,rfl⟩ <;> rfl
 pyHash:=fun hv h=>by
  rcases Qbe hv with ⟨i,t,rfl,rfl⟩ | ⟨x,t,rfl,rfl⟩
  ·exact wpAny_pyHash_int h
  ·exact wpAny_pyHash_str h
 eqBool:=fun hu hv h=>by
  rcases Qbe hu with ⟨i,t,rfl,rfl⟩ | ⟨x,t,rfl,rfl⟩
  ·rcases Qbe hv with ⟨j,u,rfl,rfl⟩ | ⟨y,u,rfl,rfl⟩
   ·rw [Q63] at h; exact wpAny_eqBool_int h
   ·rw [Q65] at h; exact SeqAt.EqAt.int_str i t y u _ _ _ _ h
  ·rcases Qbe hv with ⟨j,u,rfl,rfl⟩ | ⟨y,u,rfl,rfl⟩
   ·rw [Q66] at h; exact SeqAt.EqAt.str_int x t j u _ _ _ _ h
   ·rw [Q64] at h; exact wpAny_eqBool_str h
 «strs»:=fun k x t v h=>by
  rcases Qbe h with ⟨i,u,rfl,e⟩ | ⟨y,u,rfl,e⟩
  ·exact nomatch e
  ·injection e with e1 _
   subst e1
   cases v <;> rfl
theorem Qqv (prog:Program) (w:World) (i:Int) (t:Tok):(Qap prog w).is (.inl i) (.int i t) = true:=Qwm i t
theorem Qqw (prog:Program) (w:World) (x:Str) (t:Tok):(Qap prog w).is (.inr x) (.str x t) = true:=Qwn x t
inductive V where
 | non | bl (b:Bool) | int (i:Int) | str (x:Str) | byt (b:Array UInt8) | flt (b:UInt64) | ref (a:Addr) | ty (n:String)
 deriving DecidableEq
noncomputable def RelV:V → Value → Prop
 | .non,u=>u = Value.none
 | .bl b,u=>u = Value.bool b
 | .int i,u=>∃ t,u = Value.int i t
 | .str x,u=>∃ t,u = Value.str x t
 | .byt b,u=>∃ t,u = Value.bytes b t
 | .flt b,u=>∃ t,u = Value.float b t
 | .ref a,u=>u = Value.ref a
 | .ty n,u=>u = Value.type n
noncomputable abbrev Vals:List V → List Value → Prop:=Paired RelV
theorem Vals.length {xs:List V} {us:List Value} (r:Vals xs us):xs.length = us.length:=Paired.length r
theorem Vals.get:∀ {xs:List V} {us:List Value} {i:Nat} {x:V},Vals xs us → xs[i]? = some x → ∃ u,us[i]? = some u ∧ RelV x u
 | _,_,_,_,.nil,e=>by simp at e
 | _,_,0,_,.cons r _,e=>by simp at e; subst e; exact ⟨_,rfl,r⟩
 | _,_,i + 1,x,.cons _ t,e=>by
  obtain ⟨u,h1,h2⟩:=Vals.get (i:=i) (x:=x) t (by simpa using e)
  exact ⟨u,by simpa using h1,h2⟩
theorem Vals.set {x:V} {u:Value} (r:RelV x u):∀ {xs:List V} {us:List Value} (i:Nat),Vals xs us → Vals (xs.set i x) (us.set i u)
 | _,_,_,.nil=>.nil
 | _,_,0,.cons _ t=>.cons r t
 | _,_,i + 1,.cons q t=>.cons q (Vals.set r i t)
theorem Vals.append:∀ {xs ys:List V} {us ws:List Value},Vals xs us → Vals ys ws → Vals (xs ++ ys) (us ++ ws)
 | _,_,_,_,.nil,s=>s
 | _,_,_,_,.cons r t,s=>.cons r (Vals.append t s)
theorem Vals.take:∀ {xs:List V} {us:List Value} (n:Nat),Vals xs us → Vals (xs.take n) (us.take n)
 | _,_,0,_=>.nil
 | _,_,_ + 1,.nil=>.nil
 | _,_,n + 1,.cons r t=>.cons r (Vals.take n t)
theorem Vals.drop:∀ {xs:List V} {us:List Value} (n:Nat),Vals xs us → Vals (xs.drop n) (us.drop n)
 | _,_,0,r=>r
 | _,_,_ + 1,.nil=>.nil
 | _,_,n + 1,.cons _ t=>Vals.drop n t
noncomputable def RelO:Option V → Option Value → Prop
 | some v,some u=>RelV v u
 | none,none=>True
 | _,_=>False
noncomputable def KV {κ:Type}:List (κ × V) → List (κ × Value) → Prop:=Paired fun (p:κ × V) (q:κ × Value)=>p.1 = q.1 ∧ RelV p.2 q.2
noncomputable def kV:Key → V
 | .inl i=>.int i
 | .inr x=>.str x
inductive HO where
  | lst (xs:List V)
  | tup (xs:List V)
  | dK (kvs:List (Key × V)) | dT (kvs:List (List Key × V))
  | set (S:Int → Bool) (n:Nat)
  | ins (C dx:Addr) (fs:List (Str × V))
  | own (x:Addr)
  | xd (fs:List (Str × V))
  | met (f x:Addr)
  | rng (lo hi:Int)
  | frz (o:Obj) (u:HO)
  | tbl (q:Str)
 | cod (q:Str)
  | ext (φ:Heap → Prop)
noncomputable abbrev Hp:=Addr → Option HO
noncomputable def upd (H:Hp) (a:Addr) (o:HO):Hp:=fun b=>if b = a then some o else H b
theorem Qp {H:Hp} {a:Addr} {o:HO}:upd H a o a = some o:=by unfold upd; rw [if_pos rfl]
theorem Q4 {H:Hp} {a b:Addr} {o:HO} (h:b ≠ a):upd H a o b = H b:=by unfold upd; rw [if_neg h]
theorem Q5l {H:Hp} {a b:Addr} {o u:HO} (h:H a = some o) (h':H b = some u) (d:o ≠ u):a ≠ b:=by
 intro e; subst e; rw [h] at h'; exact d (Option.some.inj h')
theorem Qbt {H:Hp} {a b:Addr} {o:HO} (h:H a = some o) (h':H b = none):a ≠ b:=by
 intro e; subst e; rw [h] at h'; cases h'
noncomputable def IsTupD (h:Heap) (a:Addr) (its:Array Value):Prop:=∃ o,h.get? a = some o ∧ o.cls = .type "tuple" ∧ ∃ n,o.data = .seq its n ∧ o.dict = none
theorem IsTupD.tup {h:Heap} {a:Addr} {its:Array Value} (x:IsTupD h a its):IsTup h a its:=let ⟨o,e,c,n,d,_⟩:=x; ⟨o,e,c,n,d⟩
theorem IsTupD.new (h:Heap) (its:Array Value):IsTupD (h.push { cls:=.type "tuple",data:=.seq its }) h.objs.size its:=⟨_,Heap.get?_push_size _ rfl,rfl,_,rfl,rfl⟩
section
variable (P:Program) (w:World)
noncomputable def ObjOk (H:Hp) (h:Heap) (a:Addr):HO → Prop
 | .lst xs=>xs.length ≤ sizeLine ∧ ∃ (its:List Value) (n:Nat),Vals xs its ∧ h.get? a = some { cls:=.type "list",data:=.seq its.toArray n }
 | .tup xs=>xs.length ≤ sizeLine ∧ ∃ its:List Value,Vals xs its ∧ IsTupD h a its.toArray
 | .dK kvs=>kvs.length ≤ sizeLine ∧ (a == sysModules) = false ∧ ∃ vs,KV kvs vs ∧ h.DictOf (Qap P w) a vs
 | .dT kvs=>kvs.length ≤ sizeLine ∧ (a == sysModules) = false ∧ ∃ xs:List (List Key × Addr × Value),
   Paired (fun (p:List Key × V) (q:List Key × Addr × Value)=>p.1 = q.1 ∧ H q.2.1 = some (.tup (p.1.map kV)) ∧ RelV p.2 q.2.2) kvs xs ∧
   ∃ o es ep,h.get? a = some o ∧ o.ExactDict ∧ o.data = .dict es ep ∧ es.toList = xs.map (entryOfKey (tupleKind (Qap P w))) ∧ (xs.map (·.1)).Nodup ∧ ep = es.size
 | .set S n=>h.SetOf (intKind P w) a S n
 | .ins C dx fs=>H dx = some (.own a) ∧ fs.length ≤ 1000 ∧ dx ≠ a ∧ h.get? a = some (PySem.W.instObj C dx) ∧
   ∃ mA,h.Ns1 dx mA ∧ (∀ f,RelO (fs.lookup f) (mA f)) ∧ PySem.Within mA (fs.map (·.1))
 | .own _=>∃ o,h.get? a = some o
 | .xd fs=>∃ mA,h.Ns1 a mA ∧ ∀ f,RelO (fs.lookup f) (mA f)
 | .rng lo hi=>∃ t u v,h.get? a = some { cls:=.type "range",data:=.fields #[.int lo t,.int hi u,.int 1 v] }
 | .frz o u=>h.get? a = some o ∧ ObjOk H h a u
 | .tbl q=>∃ ps:Array Value,h.get? a = some { cls:=.none,data:=.fields ps } ∧ TriplesOk ps.toList ∧ ∀ pos cv,codeAmong pos ps.toList = some cv → ∃ c,cv = .ref c ∧ H c = some (.cod q)
 | .cod q=>h.CodeRec (.ref a) q
 | .met f x=>h.get? a = some (PySem.W.methodObj (.ref f) (.ref x))
 | .ext φ=>φ h ∧ (∃ o,h.get? a = some o) ∧ ∀ h1 h2:Heap,φ h1 → (∀ o,h1.get? a = some o → h2.get? a = some o) → φ h2
noncomputable def HOk (H:Hp) (h:Heap):Prop:=∀ a o,H a = some o → ObjOk P w H h a o
end
section
variable {P:Program} {w:World} {H H':Hp} {h h':Heap} {a:Addr} {o:HO}
theorem ObjOk.lt (x:ObjOk P w H h a o):a < h.objs.size:=by
 cases o with
 | lst xs=>obtain ⟨_,_,_,_,e⟩:=x; exact Heap.lt_size e
 | tup xs=>obtain ⟨_,_,_,p⟩:=x; exact p.tup.lt
 | dK kvs=>obtain ⟨_,_,_,_,o,_,_,e,_⟩:=x; exact Heap.lt_size e
 | dT kvs=>obtain ⟨_,_,_,_,o,_,_,e,_⟩:=x; exact Heap.lt_size e
 | set S n=>obtain ⟨o,_,_,_,e,_⟩:=x; exact Heap.lt_size e
 | ins C dx fs=>obtain ⟨_,_,_,e,_⟩:=x; exact Heap.lt_size e
 | own y=>obtain ⟨_,e⟩:=x; exact Heap.lt_size e
 | xd fs=>obtain ⟨_,⟨_,_,_,e,_⟩,_⟩:=x; exact Heap.lt_size e
 | rng lo hi=>obtain ⟨_,_,_,e⟩:=x; exact Heap.lt_size e
 | frz ob u=>obtain ⟨e,_⟩:=x; exact Heap.lt_size e
 | tbl q=>obtain ⟨_,e,_⟩:=x; exact Heap.lt_size e
 | cod q=>obtain ⟨_,_,_,_,e,e1,_⟩:=x; cases e; exact Heap.lt_size e1
 | met f y=>exact Heap.lt_size (show h.get? a = some _ from x)
 | ext φ=>obtain ⟨_,⟨_,e⟩,_⟩:=x; exact Heap.lt_size e
theorem Paired.mapP {α β:Type} {F G:α → β → Prop}:∀ {l₁:List α} {l₂:List β},Paired F l₁ l₂ → (∀ a b,F a b → G a b) → Paired G l₁ l₂
 | _,_,.nil,_=>.nil
 | _,_,.cons r t,f=>.cons (f _ _ r) (Paired.mapP t f)
theorem ObjOk.stay (x:ObjOk P w H h a o) (k:∀ b u,(b = a ∨ H b = some (.own a)) → h.get? b = some u → h'.get? b = some u)
  (ho:∀ b,H b = some (.own a) → H' b = some (.own a)) (ht:∀ b xs,H b = some (.tup xs) → H' b = some (.tup xs)) (hcod:∀ b q,H b = some (.cod q) → H' b = some (.cod q):=by exact fun _ _ q=>q):ObjOk P w H' h' a o:=by
 induction o with
 | lst xs=>obtain ⟨z,its,n,r,e⟩:=x; exact ⟨z,its,n,r,k _ _ (.inl rfl) e⟩
 | tup xs=>obtain ⟨z,its,r,ob,e,c⟩:=x; exact ⟨z,its,r,ob,k _ _ (.inl rfl) e,c⟩
 | dK kvs=>obtain ⟨z,y,vs,r,ob,es,ep,e,c⟩:=x; exact ⟨z,y,vs,r,ob,es,ep,k _ _ (.inl rfl) e,c⟩
 | dT kvs =>
  obtain ⟨z,y,xs,r,ob,es,ep,e,c⟩:=x
  exact ⟨z,y,xs,Paired.mapP r fun p q z=>⟨z.1,ht _ _ z.2.1,z.2.2⟩,ob,es,ep,k _ _ (.inl rfl) e,c⟩
 | set S n=>obtain ⟨ob,es,ep,t,e,c⟩:=x; exact ⟨ob,es,ep,t,k _ _ (.inl rfl) e,c⟩
 | ins C dx fs =>
  obtain ⟨d,z,ne,e,mA,⟨od,es,ep,e2,c⟩,r⟩:=x
  exact ⟨ho _ d,z,ne,k _ _ (.inl rfl) e,mA,⟨od,es,ep,k _ _ (.inr d) e2,c⟩,r⟩
 | own y=>obtain ⟨ob,e⟩:=x; exact ⟨ob,k _ _ (.inl rfl) e⟩
 | xd fs=>obtain ⟨mA,⟨od,es,ep,e,c⟩,r⟩:=x; exact ⟨mA,⟨od,es,ep,k _ _ (.inl rfl) e,c⟩,r⟩
 | rng lo hi=>obtain ⟨t,u,v,e⟩:=x; exact ⟨t,u,v,k _ _ (.inl rfl) e⟩
 | frz ob u ih=>obtain ⟨e,q⟩:=x; exact ⟨k _ _ (.inl rfl) e,ih q⟩
 | tbl q =>
  obtain ⟨ps,e,tr,al⟩:=x
  refine ⟨ps,k _ _ (.inl rfl) e,tr,fun pos cv hc=>?_⟩
  obtain ⟨c,ec,hH⟩:=al pos cv hc
  exact ⟨c,ec,hcod _ _ hH⟩
 | cod q =>
  obtain ⟨c,o,vs,t,e,e1,r⟩:=x
  cases e
  exact ⟨_,o,vs,t,rfl,k _ _ (.inl rfl) e1,r⟩
 | met f y =>
  have e:h.get? a = some (PySem.W.methodObj (.ref f) (.ref y)):=x
  show h'.get? a = some (PySem.W.methodObj (.ref f) (.ref y))
  exact k a _ (.inl rfl) e
 | ext φ=>obtain ⟨p,⟨o,e⟩,st⟩:=x; exact ⟨st _ _ p fun o q=>k _ _ (.inl rfl) q,⟨o,k _ _ (.inl rfl) e⟩,st⟩
theorem HOk.lt (x:HOk P w H h) (e:H a = some o):a < h.objs.size:=(x a o e).lt
theorem HOk.fresh (x:HOk P w H h) (e:h.objs.size ≤ a):H a = none:=by
 cases q:H a with
 | none=>rfl
 | some u=>exact absurd (Nat.lt_of_lt_of_le (x.lt q) e) (Nat.lt_irrefl _)
theorem HOk.kept (x:HOk P w H h) (k:∀ b u,h.get? b = some u → h'.get? b = some u):HOk P w H h':=fun a o e =>
 (x a o e).stay (fun b u _ q=>k b u q) (fun _ q=>q) fun _ _ q=>q
theorem HOk.laid (x:HOk P w H h) (k:∀ b u,h.get? b = some u → h'.get? b = some u) (hp:h.objs.size ≤ a) (new:ObjOk P w (upd H a o) h' a o):HOk P w (upd H a o) h':=fun b u e=>by
 have hn:=x.fresh hp
 by_cases hb:b = a
 ·subst hb; rw [Qp] at e; cases e; exact new
 ·rw [Q4 hb] at e
  exact (x b u e).stay (fun c v _ q=>k c v q) (fun c q=>by rw [Q4 (Qbt q hn)]; exact q) (fun c xs q=>by rw [Q4 (Qbt q hn)]; exact q) fun c xs q=>by rw [Q4 (Qbt q hn)]; exact q
end
noncomputable def Rd (H:Hp) (a:Addr) (u:HO):Prop:=H a = some u ∨ ∃ o,H a = some (.frz o u)
theorem Rd.ok {P:Program} {w:World} {H:Hp} {h:Heap} {a:Addr} {u:HO} (r:Rd H a u) (x:HOk P w H h):ObjOk P w H h a u:=by
 rcases r with r | ⟨o,r⟩
 ·exact x a u r
 ·obtain ⟨_,q⟩:=x a _ r
  exact q
noncomputable def Mut:Option HO → Prop
 | some (.lst _)=>True
 | some (.dK _)=>True
 | some (.dT _)=>True
 | some (.set _ _)=>True
 | some (.ins _ _ _)=>True
 | some (.ext _)=>True
 | _=>False
section
variable {P:Program} {w:World} {H:Hp} {h h':Heap} {x e:Addr} {o':HO}
theorem HOk.write (ok:HOk P w H h) (mu:Mut (H x)) (he:e = x ∨ H e = some (.own x)) (k:∀ b u,b ≠ e → h.get? b = some u → h'.get? b = some u) (heo:∃ u,h'.get? e = some u)
  (new:ObjOk P w (upd H x o') h' x o'):HOk P w (upd H x o') h':=fun b u q=>by
 have nown:∀ c y,H c = some (.own y) → c ≠ x:=fun c y r z=>by subst z; rw [r] at mu; exact mu
 have ntup:∀ c xs,H c = some (.tup xs) → c ≠ x:=fun c xs r z=>by subst z; rw [r] at mu; exact mu
 by_cases hb:b = x
 ·subst hb; rw [Qp] at q; cases q; exact new
 ·rw [Q4 hb] at q
  by_cases hbe:b = e
  ·have q':H b = some (.own x):=by
    rcases he with z | z
    ·exact absurd (hbe.trans z) hb
    ·rw [hbe]; exact z
   rw [q] at q'; cases q'
   obtain ⟨v,hv⟩:=heo
   exact ⟨v,by rw [hbe]; exact hv⟩
  ·refine (ok b u q).stay (fun c v hc r=>k c v ?_ r) (fun c r=>by rw [Q4 (nown c b r)]; exact r) (fun c xs r=>by rw [Q4 (ntup c xs r)]; exact r) fun c y r=>by rw [Q4 (fun z=>by subst z; rw [r] at mu; exact mu)]; exact r
   rcases hc with rfl | hc
   ·exact hbe
   ·rintro rfl
    rcases he with z | z
    ·exact nown c b hc z
    ·rw [hc] at z; cases z; exact hb rfl
end
structure Un (fs ex:List Addr) (H H':Hp) (h h':Heap):Prop where
 keep:∀ b o,h.get? b = some o → H b = none → b ∉ fs → b ∉ ex → h'.get? b = some o
 slot:∀ b o,h.get? b = some o → H b = none → b ∈ fs → b ∉ ex → ∃ sl,h'.get? b = some { o with slots:=sl }
 free:∀ b o,h.get? b = some o → H b = none → b ∉ ex → H' b = none
 there:∀ b o,h.get? b = some o → b ∉ ex → ∃ o',h'.get? b = some o'
 tups:∀ b xs,H b = some (.tup xs) → H' b = some (.tup xs)
 frzs:∀ b o u,H b = some (.frz o u) → H' b = some (.frz o u)
 tbls:∀ b q,H b = some (.tbl q) → H' b = some (.tbl q)
section
variable {fs fs' ex ex':List Addr} {H H1 H2:Hp} {h h1 h2 h':Heap} {a x e:Addr} {o:HO}
theorem Un.any (u:Un fs ex H H1 h h1) {b:Addr} {ob:Obj} (q:h.get? b = some ob) (n:H b = none) (hx:b ∉ ex):∃ sl,h1.get? b = some { ob with slots:=sl }:=by
 by_cases hb:b ∈ fs
 ·exact u.slot b ob q n hb hx
 ·exact ⟨ob.slots,u.keep b ob q n hb hx⟩
theorem Un.kept (k:∀ b u,h.get? b = some u → h'.get? b = some u):Un fs ex H H h h' :=
 ⟨fun b ob q _ _ _=>k b ob q,fun b ob q _ _ _=>⟨ob.slots,k b ob q⟩,fun _ _ _ n _=>n,fun b ob q _=>⟨ob,k b ob q⟩,fun _ _ q=>q,fun _ _ _ q=>q,fun _ _ q=>q⟩
theorem Un.refl:Un fs ex H H h h:=Un.kept fun _ _ q=>q
theorem Un.laid (k:∀ b u,h.get? b = some u → h'.get? b = some u) (hp:h.objs.size ≤ a) (hn:H a = none):Un fs ex H (upd H a o) h h' where
 keep:=fun b u q _ _ _=>k b u q
 slot:=fun b u q _ _ _=>⟨u.slots,k b u q⟩
 free:=fun b u q n _=>by rw [Q4 (Nat.ne_of_lt (Nat.lt_of_lt_of_le (Heap.lt_size q) hp))]; exact n
 there:=fun b u q _=>⟨u,k b u q⟩
 tups:=fun b xs q=>by rw [Q4 (Qbt q hn)]; exact q
 frzs:=fun b u xs q=>by rw [Q4 (Qbt q hn)]; exact q
 tbls:=fun b ps q=>by rw [Q4 (Qbt q hn)]; exact q
theorem Un.write (mu:Mut (H x)) (he:e = x ∨ H e = some (.own x)) (k:∀ b u,b ≠ e → h.get? b = some u → h'.get? b = some u) (heo:∃ u,h'.get? e = some u):Un fs ex H (upd H x o) h h':=by
 have hx:∀ b,H b = none → b ≠ x:=fun b n z=>by subst z; rw [n] at mu; exact mu
 have hb:∀ b,H b = none → b ≠ e:=fun b n z=>by
  subst z
  rcases he with r | r
  ·exact hx b n r
  ·rw [n] at r; cases r
 have hm:∀ b u,H b = some u → ¬ Mut (some u) → b ≠ x:=fun b u q nm z=>by subst z; rw [q] at mu; exact nm mu
 refine ⟨fun b u q n _ _=>k b u (hb b n) q,fun b u q n _ _=>⟨u.slots,k b u (hb b n) q⟩,fun b u q n _=>by rw [Q4 (hx b n)]; exact n,fun b u q _=>?_,
  fun b xs q=>by rw [Q4 (hm b _ q fun z=>z)]; exact q,fun b u xs q=>by rw [Q4 (hm b _ q fun z=>z)]; exact q,fun b ps q=>by rw [Q4 (hm b _ q fun z=>z)]; exact q⟩
 by_cases hbe:b = e
 ·subst hbe; exact heo
 ·exact ⟨u,k b u hbe q⟩
end
noncomputable def trk (h:Heap) (H:Hp):List Addr:=(List.range h.objs.size).filter fun a=>(H a).isSome
noncomputable def Qow (h:Heap) (H:Hp):Heap:=PySem.W.hideAll h (trk h H)
theorem Qwo (h:Heap) (H:Hp):(Qow h H).objs.size = h.objs.size:=PySem.W.hideAll_size _ _
theorem Qx1 {h:Heap} {H:Hp} {b:Addr} {o:Obj} (e:h.get? b = some o) (n:H b = none):(Qow h H).get? b = some o :=
 PySem.W.hideAll_get _ e fun hm=>by
  have q:(H b).isSome = true:=(List.mem_filter.mp hm).2
  rw [n] at q; simp at q
theorem Q2m {h:Heap} {H:Hp} {b:Addr} {o:Obj} (e:(Qow h H).get? b = some o):h.get? b = some o ∧ H b = none:=by
 have e':h.get? b = some o:=PySem.W.of_hideAll (trk h H) e
 refine ⟨e',?_⟩
 cases q:H b with
 | none=>rfl
 | some x =>
  have hm:b ∈ trk h H:=List.mem_filter.mpr ⟨List.mem_range.mpr (Heap.lt_size e'),by simp [q]⟩
  have z:(Qow h H).get? b = none:=PySem.W.hideAll_none (trk h H) hm
  rw [z] at e; cases e
noncomputable def Q2n (g h:Heap) (L:Addr):List (Addr × Obj):=(List.range h.objs.size).filterMap fun a=>if a = L ∨ (g.get? a).isSome = true then none else (h.get? a).map fun o=>(a,o)
noncomputable def rest (g h:Heap) (L d:Addr):List (Addr × Obj):=(Q2n g h L).filter fun p=>decide (p.1 ≠ d)
structure Mod (K:PySem.W.Frag) (mg:Str → Option Value) (base:Heap):Prop where
 kin:K.In base
 glob:base.Ns mainGlobals mg
 blt:∃ mb,base.Ns builtinsNs mb ∧ ∀ x:Str,x ≠ "__name__" → mb x = bootBuiltins x
 nolimit:base.NoLimit
 bm:∃ bm ob,mg "__builtins__" = some (.ref bm) ∧ bm ≠ builtinsNs ∧ base.get? bm = some ob ∧ ob.cls = .type "module" ∧ ob.dict = some builtinsNs ∧ ob.data = .plain
noncomputable def Qsy (K:PySem.W.Frag) (a:Addr) (q:Str):Prop:=∃ b t,K.getLast? = some (b,{ cls:=.none,data:=.fields #[.ref a,.str q t] })
noncomputable def Qx2 (K:PySem.W.Frag) (H:Hp):Prop:=∀ a q,Qsy K a q → H a = some (.tbl q)
structure Cx where
 prog:Program
 w:World
 K:PySem.W.Frag
 mg:Str → Option Value
 base:Heap
 A:Around
 N:List Str
 s₀:Shared
 H₀:Hp
 env:Env
 outer:List Env
 stack:List Env
 ex:List Addr
 fn:Str → Bool
 calm:Bool
 pn:List (Addr × Obj)
 xe:Value → Shared → Prop
noncomputable def frs (l:List Env):List Addr:=l.filterMap (·.frame)
noncomputable abbrev Cx.fs (X:Cx):List Addr:=frs X.outer
noncomputable def Vis (sc:Scope) (x:Str):Prop:=sc.names.lookup x = some .local ∨ sc.names.lookup x = some .cell ∨ sc.names.lookup x = some .free
noncomputable def Loc (sc:Scope) (x:Str):Prop:=sc.names.lookup x = some .local ∨ sc.names.lookup x = some .cell
noncomputable def Look (env:Env) (h:Heap) (m:Str → Option Value) (x:Str) (u:Value):Prop :=
 (env.kindOf x = some .local ∧ m x = some u) ∨ ((env.kindOf x = some .cell ∨ env.kindOf x = some .free) ∧ ∃ c,env.cells.lookup x = some c ∧ h.IsCell c (some u))
structure Cx.Ok (X:Cx):Prop where
 mod:Mod X.K X.mg X.base
 kind:X.env.scope.kind = .function
 glob:X.env.globals = mainGlobals
 blt:X.env.builtins = builtinsNs
 above:X.s₀.heap.objs.size ≤ X.env.locals
 inj:∀ x y c,X.env.cells.lookup x = some c → X.env.cells.lookup y = some c → x = y
 has:∀ x,(X.env.kindOf x = some .cell ∨ X.env.kindOf x = some .free) → ∃ c,X.env.cells.lookup x = some c
 cab:∀ x c,X.fn x = true → X.env.cells.lookup x = some c → X.s₀.heap.objs.size ≤ c
 hd:X.calm = true → X.A.handled = none
 frames:X.A.frames = some X.stack
 stk:X.stack = X.outer ∨ (X.stack = X.env :: X.outer ∧ X.env.frame = some X.env.locals)
 exf:∀ b ∈ X.ex,b ≠ X.env.locals ∧ ∀ x c,X.env.cells.lookup x = some c → c ≠ b
 bs:∀ b o,X.base.get? b = some o → X.s₀.heap.get? b = some o ∧ X.H₀ b = none
 bsz:X.base.objs.size ≤ X.s₀.heap.objs.size
 noex:∀ b o,X.base.get? b = some o → b ∉ X.ex
 exfs:∀ b ∈ X.ex,b ∉ X.fs
 funs:X.s₀.heap.FunFrames X.base X.outer
 frf:(∀ b ∈ X.fs,X.H₀ b = none) ∧ Qx2 X.K X.H₀
structure Inv (X:Cx) (pins:List (Addr × Obj)) (σ:List (Option V)) (H:Hp) (s:Shared):Prop where
 ok:X.Ok
 os:s.os = X.s₀.os
 bare:AllBare s.gens
 base:Un X.fs X.ex X.H₀ H X.s₀.heap s.heap
 loc:∃ m,s.heap.Ns X.env.locals m ∧ ∀ (i:Nat) (x:Str) (v:V),X.N[i]? = some x → σ[i]? = some (some v) → Vis X.env.scope x → ∃ u,RelV v u ∧ Look X.env s.heap m x u
 cell:∀ x c,X.env.cells.lookup x = some c → ∃ v,s.heap.IsCell c v
 free:H X.env.locals = none
 freeC:∀ x c,X.env.cells.lookup x = some c → H c = none ∨ (X.fn x = false ∧ ∃ o u,H c = some (.frz o u))
 pin:∀ p ∈ X.pn ++ pins,s.heap.get? p.1 = some p.2 ∧ H p.1 = none ∧ p.1 ≠ X.env.locals ∧ p.1 ∉ X.fs ∧ ∀ v,p.2.data ≠ .cell v
 hok:HOk X.prog X.w H s.heap
 len:σ.length = X.N.length
section
variable {X:Cx} {pins:List (Addr × Obj)} {σ:List (Option V)} {H H':Hp} {s:Shared} {h':Heap}
theorem Cx.Ok.nofr (ok:X.Ok) {b:Addr} {o:Obj} (e:X.base.get? b = some o):b ∉ X.fs:=fun hb=>by
 have:=(ok.funs.mem hb).1
 rw [e] at this; cases this
theorem Inv.bs (I:Inv X pins σ H s):∀ b o,X.base.get? b = some o → s.heap.get? b = some o ∧ H b = none:=fun b o e =>
 ⟨I.base.keep b o (I.ok.bs b o e).1 (I.ok.bs b o e).2 (I.ok.nofr e) (I.ok.noex b o e),I.base.free b o (I.ok.bs b o e).1 (I.ok.bs b o e).2 (I.ok.noex b o e)⟩
theorem Inv.bk (I:Inv X pins σ H s):∀ b o,X.base.get? b = some o → s.heap.get? b = some o:=fun b o e=>(I.bs b o e).1
theorem Inv.mod (I:Inv X pins σ H s):Mod X.K X.mg X.base:=I.ok.mod
theorem Inv.kIn (I:Inv X pins σ H s):X.K.In s.heap:=I.ok.mod.kin.keeps I.bk
theorem Inv.lt (I:Inv X pins σ H s):X.env.locals < s.heap.objs.size:=let ⟨_,hn,_⟩:=I.loc; hn.lt
theorem Inv.sz (I:Inv X pins σ H s):X.s₀.heap.objs.size ≤ s.heap.objs.size:=Nat.le_trans I.ok.above (Nat.le_of_lt I.lt)
theorem Inv.nofs (I:Inv X pins σ H s) {a:Addr} (h:s.heap.objs.size ≤ a):a ∉ X.fs:=fun hb=>by
 obtain ⟨_,o,ho,_⟩:=I.ok.funs.mem hb
 exact absurd (Nat.lt_of_lt_of_le (Heap.lt_size ho) (Nat.le_trans I.sz h)) (Nat.lt_irrefl _)
theorem Inv.cne (I:Inv X pins σ H s):∀ x c,X.env.cells.lookup x = some c → c ≠ X.env.locals:=fun x c e z=>by
 obtain ⟨v,o,ho,hd⟩:=I.cell x c e
 obtain ⟨m,⟨o',es,ep,ho',hd',_⟩,_⟩:=I.loc
 rw [z,ho'] at ho; cases ho; rw [hd'] at hd; cases hd
theorem Inv.funs (I:Inv X pins σ H s):s.heap.FunFrames X.base X.outer:=by
 have all:∀ (l:List Env),(∀ b ∈ frs l,b ∈ X.fs) → X.s₀.heap.FunFrames X.base l → s.heap.FunFrames X.base l:=by
  intro l
  induction l with
  | nil=>intro _ _; trivial
  | cons env r ih =>
   intro hs hl
   obtain ⟨hk,⟨L,o,hf,hn,ho,hd⟩,hr⟩:=hl
   have hL:L ∈ X.fs:=hs L (by unfold frs; rw [List.filterMap_cons,hf]; exact List.mem_cons_self)
   obtain ⟨sl,e⟩:=I.base.slot L o ho (I.ok.frf.1 L hL) hL fun z=>I.ok.exfs L z hL
   exact ⟨hk,⟨L,_,hf,hn,e,hd⟩,ih (fun b hb=>hs b (by unfold frs; rw [List.filterMap_cons,hf]; exact List.mem_cons_of_mem _ hb)) hr⟩
 exact all X.outer (fun _ hb=>hb) I.ok.funs
theorem Inv.stack (I:Inv X pins σ H s):s.heap.FunFrames X.base X.stack:=by
 rcases I.ok.stk with e | ⟨e,hf⟩
 ·rw [e]; exact I.funs
 ·rw [e]
  obtain ⟨m,hn,_⟩:=I.loc
  refine .cons (by rw [I.ok.kind]; decide) hf hn ?_ I.funs
  exact Heap.get?_none_of_le (Nat.le_trans I.ok.bsz I.ok.above)
theorem Inv.stkSub (I:Inv X pins σ H s):∀ b ∈ frs X.stack,b ∈ X.env.locals :: X.fs:=fun b hb=>by
 rcases I.ok.stk with e | ⟨e,hf⟩
 ·rw [e] at hb; exact List.mem_cons_of_mem _ hb
 ·rw [e] at hb
  unfold frs at hb
  rw [List.filterMap_cons,hf] at hb
  exact hb
theorem Inv.stkFree (I:Inv X pins σ H s):∀ b ∈ frs X.stack,H b = none:=fun b hb=>by
 rcases List.mem_cons.mp (I.stkSub b hb) with e | hb
 ·rw [e]; exact I.free
 ·obtain ⟨_,o,ho,_⟩:=I.ok.funs.mem hb
  exact I.base.free b o ho (I.ok.frf.1 b hb) fun z=>I.ok.exfs b z hb
theorem Inv.tab (I:Inv X pins σ H s):Qx2 X.K H:=fun a q h=>I.base.tbls a q (I.ok.frf.2 a q h)
theorem Inv.step {g':Array GenState} {t':Nat} {d':Drawn} {ch:List Addr} (I:Inv X pins σ H s)
  (hch:∀ b ∈ ch,(b ∈ X.ex ∨ X.s₀.heap.objs.size ≤ b) ∧ b ≠ X.env.locals ∧ (∀ x c,X.env.cells.lookup x = some c → c ≠ b) ∧ ∀ p ∈ X.pn ++ pins,p.1 ≠ b)
  (keep:∀ b o,b ≠ X.env.locals → b ∉ X.fs → b ∉ ch → s.heap.get? b = some o → H b = none → h'.get? b = some o)
  (slot:∀ b o,b ≠ X.env.locals → b ∈ X.fs → b ∉ ch → s.heap.get? b = some o → H b = none → ∃ sl,h'.get? b = some { o with slots:=sl }) (free:∀ b o,b ∉ ch → s.heap.get? b = some o → H b = none → H' b = none)
  (there:∀ b o,b ∉ ch → s.heap.get? b = some o → ∃ o',h'.get? b = some o')
  (tups:∀ b xs,H b = some (.tup xs) → H' b = some (.tup xs)) (frzs:∀ b o u,H b = some (.frz o u) → H' b = some (.frz o u)) (tbls:∀ b q,H b = some (.tbl q) → H' b = some (.tbl q))
  (ns:∀ m,s.heap.Ns X.env.locals m → h'.Ns X.env.locals m) (hok:HOk X.prog X.w H' h') (hg:AllBare g') :
  Inv X pins σ H' { s with heap:=h',gens:=g',drawn:=d',toks:=t' }:=by
 have neL:∀ b o,X.s₀.heap.get? b = some o → b ≠ X.env.locals:=fun b o e=>Nat.ne_of_lt (Nat.lt_of_lt_of_le (Heap.lt_size e) I.ok.above)
 have neC:∀ b o,X.s₀.heap.get? b = some o → b ∉ X.ex → b ∉ ch:=fun b o e hx hb=>by
  rcases (hch b hb).1 with z | z
  ·exact hx z
  ·exact absurd (Nat.lt_of_lt_of_le (Heap.lt_size e) z) (Nat.lt_irrefl _)
 have cellK:∀ x c,X.env.cells.lookup x = some c → ∀ v,s.heap.IsCell c v → h'.IsCell c v:=fun x c e v ⟨o,ho,hd⟩=>by
  have nch:c ∉ ch:=fun z=>(hch c z).2.2.1 x c e rfl
  rcases I.freeC x c e with fc | ⟨_,of,u,fc⟩
  ·by_cases hc:c ∈ X.fs
   ·obtain ⟨sl,q⟩:=slot c o (I.cne x c e) hc nch ho fc
    exact ⟨_,q,hd⟩
   ·exact ⟨o,keep c o (I.cne x c e) hc nch ho fc,hd⟩
  ·have e1:=(I.hok c _ fc).1
   rw [ho] at e1
   cases e1
   exact ⟨_,(hok c _ (frzs c _ _ fc)).1,hd⟩
 refine ⟨I.ok,I.os,hg,⟨fun b o e n hb hx=>?_,fun b o e n hb hx=>?_,fun b o e n hx=>?_,fun b o e hx=>?_,fun b xs e=>tups b xs (I.base.tups b xs e),fun b o xs e=>frzs b o xs (I.base.frzs b o xs e),fun b ps e=>?_⟩,?_,fun x c e=>?_,?_,fun x c e=>?_,fun p hp=>?_,hok,I.len⟩
 ·exact keep b o (neL b o e) hb (neC b o e hx) (I.base.keep b o e n hb hx) (I.base.free b o e n hx)
 ·obtain ⟨sl,e1⟩:=I.base.slot b o e n hb hx
  obtain ⟨sl',e2⟩:=slot b _ (neL b o e) hb (neC b o e hx) e1 (I.base.free b o e n hx)
  exact ⟨sl',e2⟩
 ·obtain ⟨o',e1⟩:=I.base.there b o e hx
  exact free b o' (neC b o e hx) e1 (I.base.free b o e n hx)
 ·obtain ⟨o',e1⟩:=I.base.there b o e hx
  exact there b o' (neC b o e hx) e1
 ·exact tbls b ps (I.base.tbls b ps e)
 ·obtain ⟨m,hn,hl⟩:=I.loc
  refine ⟨m,ns m hn,fun i x v e1 e2 e3=>?_⟩
  obtain ⟨u,r,l⟩:=hl i x v e1 e2 e3
  refine ⟨u,r,?_⟩
  rcases l with l | ⟨k,c,e,z⟩
  ·exact .inl l
  ·exact .inr ⟨k,c,e,cellK x c e _ z⟩
 ·obtain ⟨v,z⟩:=I.cell x c e
  exact ⟨v,cellK x c e v z⟩
 ·obtain ⟨m,⟨o,_,_,ho,_⟩,_⟩:=I.loc
  exact free _ o (fun z=>(hch _ z).2.1 rfl) ho I.free
 ·obtain ⟨v,o,ho,hd⟩:=I.cell x c e
  rcases I.freeC x c e with fc | ⟨fn,of,u,fc⟩
  ·exact .inl (free c o (fun z=>(hch c z).2.2.1 x c e rfl) ho fc)
  ·exact .inr ⟨fn,of,u,frzs c _ _ fc⟩
 ·obtain ⟨e,n,ne,nf,d⟩:=I.pin p hp
  have nch:p.1 ∉ ch:=fun z=>(hch p.1 z).2.2.2 p hp rfl
  exact ⟨keep p.1 p.2 ne nf nch e n,free p.1 p.2 nch e n,ne,nf,d⟩
theorem Inv.un {t':Nat} (I:Inv X pins σ H s) (u:Un X.fs [] H H' s.heap h') (hok:HOk X.prog X.w H' h'):Inv X pins σ H' { s with heap:=h',toks:=t' }:=by
 obtain ⟨m,⟨o,es,ep,ho,r⟩,_⟩:=id I.loc
 obtain ⟨sl,hL⟩:=u.any ho I.free (by simp)
 exact I.step (g':=s.gens) (d':=s.drawn) (ch:=[]) (fun _ z=>nomatch z) (fun b o _ hb _ e n=>u.keep b o e n hb (by simp)) (fun b o _ hb _ e n=>u.slot b o e n hb (by simp)) (fun b o _ e n=>u.free b o e n (by simp)) (fun b o _ e=>u.there b o e (by simp)) u.tups u.frzs u.tbls (fun m' hm=>by
  obtain ⟨o',es',ep',ho',r'⟩:=hm
  rw [ho] at ho'; cases ho'
  exact ⟨_,es',ep',hL,r'⟩) hok I.bare
theorem Inv.call {g':Array GenState} {t':Nat} {d':Drawn} {ch:List Addr} (I:Inv X pins σ H s) (u:Un (frs X.stack) ch H H' s.heap h') (hok:HOk X.prog X.w H' h') (hg:AllBare g')
  (hch:∀ b ∈ ch,(b ∈ X.ex ∨ X.s₀.heap.objs.size ≤ b) ∧ b ≠ X.env.locals ∧ (∀ x c,X.env.cells.lookup x = some c → c ≠ b) ∧ ∀ p ∈ X.pn ++ pins,p.1 ≠ b) :
  Inv X pins σ H' { s with heap:=h',gens:=g',drawn:=d',toks:=t' }:=by
 obtain ⟨m,⟨o,es,ep,ho,r⟩,_⟩:=id I.loc
 obtain ⟨sl,hL⟩:=u.any ho I.free fun z=>(hch _ z).2.1 rfl
 exact I.step (ch:=ch) hch (fun b o hL hb hc e n=>u.keep b o e n (fun z=>(List.mem_cons.mp (I.stkSub b z)).elim hL hb) hc) (fun b o _ _ hc e n=>u.any e n hc) (fun b o hc e n=>u.free b o e n hc) (fun b o hc e=>u.there b o e hc) u.tups u.frzs u.tbls (fun m' hm=>by
  obtain ⟨o',es',ep',ho',r'⟩:=hm
  rw [ho] at ho'; cases ho'
  exact ⟨_,es',ep',hL,r'⟩) hok hg
theorem Inv.turned {t':Nat} {it:Addr} (I:Inv X pins σ H s) (k:∀ b o,b ≠ it → s.heap.get? b = some o → h'.get? b = some o) (hn:H it = none) (hL:it ≠ X.env.locals)
  (h1:it ∈ X.ex ∨ X.s₀.heap.objs.size ≤ it) (h2:∀ x c,X.env.cells.lookup x = some c → c ≠ it) (h3:∀ p ∈ X.pn ++ pins,p.1 ≠ it):Inv X pins σ H { s with heap:=h',toks:=t' }:=by
 have nit:∀ b u,H b = some u → b ≠ it:=fun b u e z=>by rw [z,hn] at e; cases e
 refine I.step (g':=s.gens) (d':=s.drawn) (ch:=[it]) (fun b hb=>?_) (fun b o _ _ hc e _=>k b o (fun z=>hc (by simp [z])) e) (fun b o _ _ hc e _=>⟨o.slots,k b o (fun z=>hc (by simp [z])) e⟩) (fun _ _ _ _ n=>n)
  (fun b o hc e=>⟨o,k b o (fun z=>hc (by simp [z])) e⟩) (fun _ _ e=>e) (fun _ _ _ e=>e) (fun _ _ e=>e) (fun m hm=>?_) (fun b u e=>?_) I.bare
 ·have e:b = it:=by simpa using hb
  subst e
  exact ⟨h1,hL,h2,h3⟩
 ·obtain ⟨o,es,ep,ho,r⟩:=hm
  exact ⟨o,es,ep,k _ o (Ne.symm hL) ho,r⟩
 ·refine (I.hok b u e).stay (fun c v hc q=>k c v ?_ q) (fun _ q=>q) fun _ _ q=>q
  rcases hc with z | z
  ·rw [z]; exact nit b u e
  ·exact nit c _ z
theorem Inv.tok (I:Inv X pins σ H s) (t:Nat):Inv X pins σ H { s with toks:=t }:=I.un (h':=s.heap) (t':=t) Un.refl I.hok
theorem Inv.kept {t':Nat} (I:Inv X pins σ H s) (k:∀ b u,s.heap.get? b = some u → h'.get? b = some u):Inv X pins σ H { s with heap:=h',toks:=t' }:=I.un (Un.kept k) (I.hok.kept k)
theorem Inv.laid {a:Addr} {o:HO} {t':Nat} (I:Inv X pins σ H s) (k:∀ b u,s.heap.get? b = some u → h'.get? b = some u) (hp:s.heap.objs.size ≤ a) (new:ObjOk X.prog X.w (upd H a o) h' a o) :
  Inv X pins σ (upd H a o) { s with heap:=h',toks:=t' }:=I.un (Un.laid k hp (I.hok.fresh hp)) (I.hok.laid k hp new)
theorem Inv.write {x e:Addr} {o:HO} {t':Nat} (I:Inv X pins σ H s) (mu:Mut (H x)) (he:e = x ∨ H e = some (.own x)) (k:∀ b u,b ≠ e → s.heap.get? b = some u → h'.get? b = some u) (heo:∃ u,h'.get? e = some u)
  (new:ObjOk X.prog X.w (upd H x o) h' x o):Inv X pins σ (upd H x o) { s with heap:=h',toks:=t' }:=I.un (Un.write mu he k heo) (I.hok.write mu he k heo new)
theorem Inv.pins_of {pins':List (Addr × Obj)} (I:Inv X pins σ H s) (h:∀ p ∈ pins',s.heap.get? p.1 = some p.2 ∧ H p.1 = none ∧ p.1 ≠ X.env.locals ∧ p.1 ∉ X.fs ∧ ∀ v,p.2.data ≠ .cell v):Inv X pins' σ H s :=
 ⟨I.ok,I.os,I.bare,I.base,I.loc,I.cell,I.free,I.freeC,fun p hp=>(List.mem_append.mp hp).elim (fun z=>I.pin p (List.mem_append_left _ z)) (h p),I.hok,I.len⟩
theorem Qqx {N:List Str} (hN:N.Nodup) {i j:Nat} {x:Str} (a:N[i]? = some x) (b:N[j]? = some x):i = j:=by
 obtain ⟨h1,e1⟩:=List.getElem?_eq_some_iff.mp a
 obtain ⟨h2,e2⟩:=List.getElem?_eq_some_iff.mp b
 exact (List.getElem_inj hN).mp (e1.trans e2.symm)
theorem Qwp {M:Model} {A:Around} {E:Value → Shared → Prop} {i:Nat} {x:Str} {v:V} {u:Value} {Q:Unit → Shared → Prop} (I:Inv X pins σ H s) (hN:X.N.Nodup) (hi:X.N[i]? = some x) (hx:Loc X.env.scope x) (r:RelV v u)
  (h:∀ s',Inv X pins (σ.set i (some v)) H s' → (∃ a,Heap.SameBut a s.heap s'.heap ∧ (a = X.env.locals ∨ X.env.cells.lookup x = some a)) → Q () s') (hf:X.fn x = true ∨ X.env.scope.names.lookup x = some .local:=by first | exact .inl rfl | exact .inr rfl | assumption):wpAny M A (storeName X.env x u) Q E s:=by
 obtain ⟨m,hn,hl⟩:=id I.loc
 have hcls:(X.env.scope.kind == .class || (X.env.scope.kind == .module && X.env.locals != X.env.globals)) = false:=by rw [I.ok.kind]; rfl
 have hiσ:i < σ.length:=by rw [I.len]; exact (List.getElem?_eq_some_iff.mp hi).1
 have cne:=I.cne
 have tracked:∀ {a:Addr} {h':Heap},(∃ o,s.heap.get? a = some o ∧ H a = none) → Heap.SameBut a s.heap h' → HOk X.prog X.w H h':=fun {a h'} ha hs b ob e=>by
  obtain ⟨_,_,hfree⟩:=ha
  refine (I.hok b ob e).stay (fun c w' hc q=>(hs.2 c ?_).trans q) (fun _ q=>q) fun _ _ q=>q
  rintro rfl
  rcases hc with rfl | hc
  ·rw [hfree] at e; cases e
  ·rw [hfree] at hc; cases hc
 rcases hx with hk | hk
 ·refine wpAny_storeName_local hk hn (fun h' hn' hs=>?_) hcls
  obtain ⟨oL,_,_,hoL,_⟩:=id hn
  refine h _ ⟨I.ok,I.os,I.bare,⟨fun b o e n hb hx=>?_,fun b o e n hb hx=>?_,I.base.free,fun b o e hx=>?_,I.base.tups,I.base.frzs,I.base.tbls⟩,⟨_,hn',fun j y v' e1 e2 e3=>?_⟩,fun y c e=>?_,I.free,I.freeC,fun p hp=>?_,tracked ⟨oL,hoL,I.free⟩ hs,by simpa using I.len⟩ ⟨_,hs,.inl rfl⟩
  ·exact (hs.2 b (Nat.ne_of_lt (Nat.lt_of_lt_of_le (Heap.lt_size e) I.ok.above))).trans (I.base.keep b o e n hb hx)
  ·obtain ⟨sl,e1⟩:=I.base.slot b o e n hb hx
   exact ⟨sl,(hs.2 b (Nat.ne_of_lt (Nat.lt_of_lt_of_le (Heap.lt_size e) I.ok.above))).trans e1⟩
  ·obtain ⟨o',e1⟩:=I.base.there b o e hx
   exact ⟨o',(hs.2 b (Nat.ne_of_lt (Nat.lt_of_lt_of_le (Heap.lt_size e) I.ok.above))).trans e1⟩
  ·by_cases hj:j = i
   ·subst hj
    rw [hi] at e1; cases e1
    rw [List.getElem?_set_self hiσ] at e2
    cases e2
    exact ⟨u,r,.inl ⟨hk,by simp⟩⟩
   ·rw [List.getElem?_set_ne (Ne.symm hj)] at e2
    obtain ⟨u',r',q⟩:=hl j y v' e1 e2 e3
    refine ⟨u',r',?_⟩
    rcases q with ⟨k,e⟩ | ⟨k,c,e,z⟩
    ·refine .inl ⟨k,?_⟩
     have:y ≠ x:=fun e=>hj (Qqx hN e1 (e ▸ hi))
     simp [this,e]
    ·exact .inr ⟨k,c,e,z.sameBut hs (cne y c e)⟩
  ·obtain ⟨w',z⟩:=I.cell y c e
   exact ⟨w',z.sameBut hs (cne y c e)⟩
  ·obtain ⟨e,n,ne,nf,d⟩:=I.pin p hp
   exact ⟨(hs.2 p.1 ne).trans e,n,ne,nf,d⟩
 ·have hfn:X.fn x = true:=by
   rcases hf with z | z
   ·exact z
   ·rw [z] at hk; cases hk
  obtain ⟨c,hc⟩:=I.ok.has x (.inl hk)
  obtain ⟨w',z⟩:=I.cell x c hc
  refine wpAny_storeName_cell I.ok.kind hk hc z (fun h' hc' hs=>?_)
  obtain ⟨oc,hoc,hocd⟩:=id z
  refine h { s with heap:=h' } ⟨I.ok,I.os,I.bare,⟨fun b o e n hb hx=>?_,fun b o e n hb hx=>?_,I.base.free,fun b o e hx=>?_,I.base.tups,I.base.frzs,I.base.tbls⟩,⟨m,hn.sameBut hs (Ne.symm (cne x c hc)),fun j y v' e1 e2 e3=>?_⟩,fun y c' e=>?_,I.free,I.freeC,fun p hp=>?_,tracked ⟨oc,hoc,(I.freeC x c hc).resolve_right fun z=>by rw [hfn] at z; cases z.1⟩ hs,by simpa using I.len⟩ ⟨c,hs,.inr hc⟩
  ·exact (hs.2 b (Nat.ne_of_lt (Nat.lt_of_lt_of_le (Heap.lt_size e) (I.ok.cab x c hfn hc)))).trans (I.base.keep b o e n hb hx)
  ·obtain ⟨sl,e1⟩:=I.base.slot b o e n hb hx
   exact ⟨sl,(hs.2 b (Nat.ne_of_lt (Nat.lt_of_lt_of_le (Heap.lt_size e) (I.ok.cab x c hfn hc)))).trans e1⟩
  ·obtain ⟨o',e1⟩:=I.base.there b o e hx
   exact ⟨o',(hs.2 b (Nat.ne_of_lt (Nat.lt_of_lt_of_le (Heap.lt_size e) (I.ok.cab x c hfn hc)))).trans e1⟩
  ·by_cases hj:j = i
   ·subst hj
    rw [hi] at e1; cases e1
    rw [List.getElem?_set_self hiσ] at e2
    cases e2
    exact ⟨u,r,.inr ⟨.inl hk,c,hc,hc'⟩⟩
   ·rw [List.getElem?_set_ne (Ne.symm hj)] at e2
    obtain ⟨u',r',q⟩:=hl j y v' e1 e2 e3
    refine ⟨u',r',?_⟩
    rcases q with q | ⟨k,c',e,z'⟩
    ·exact .inl q
    ·refine .inr ⟨k,c',e,z'.sameBut hs ?_⟩
     rintro rfl
     exact hj (Qqx hN e1 (I.ok.inj _ _ _ e hc ▸ hi))
  ·by_cases hcc:c' = c
   ·subst hcc; exact ⟨_,hc'⟩
   ·obtain ⟨w2,z2⟩:=I.cell y c' e
    exact ⟨w2,z2.sameBut hs hcc⟩
  ·obtain ⟨e,n,ne,nf,d⟩:=I.pin p hp
   refine ⟨(hs.2 p.1 ?_).trans e,n,ne,nf,d⟩
   intro q
   rw [q,hoc] at e
   have q':oc = p.2:=Option.some.inj e
   exact d w' (by rw [← q']; exact hocd)
theorem Qqy {M:Model} {A:Around} {E:Value → Shared → Prop} {i:Nat} {x:Str} {v:V} {u:Value} {Q:Unit → Shared → Prop} (I:Inv X pins σ H s) (hN:X.N.Nodup) (hi:X.N[i]? = some x) (hx:Loc X.env.scope x) (r:RelV v u)
  (h:∀ s',Inv X pins (σ.set i (some v)) H s' → Q () s') (hf:X.fn x = true ∨ X.env.scope.names.lookup x = some .local:=by first | exact .inl rfl | exact .inr rfl | assumption):wpAny M A (storeName X.env x u) Q E s :=
 Qwp I hN hi hx r (fun s' I' _=>h s' I') hf
theorem Inv.call' {s':Shared} {ch:List Addr} (I:Inv X pins σ H s) (ho:s'.os = s.os) (u:Un (frs X.stack) ch H H' s.heap s'.heap) (hok:HOk X.prog X.w H' s'.heap) (hg:AllBare s'.gens)
  (hch:∀ b ∈ ch,(b ∈ X.ex ∨ X.s₀.heap.objs.size ≤ b) ∧ b ≠ X.env.locals ∧ (∀ x c,X.env.cells.lookup x = some c → c ≠ b) ∧ ∀ p ∈ X.pn ++ pins,p.1 ≠ b):Inv X pins σ H' s':=by
 obtain ⟨h',g',d',t',o'⟩:=s'
 have e:o' = s.os:=ho
 subst e
 exact I.call (g':=g') (t':=t') (d':=d') u hok hg hch
end
noncomputable abbrev XK:=Value → Option Addr → Hp → Prop
noncomputable abbrev St:=List (Option V)
noncomputable abbrev VK:=V → Hp → Prop
noncomputable abbrev TE:=St → Hp → VK → Prop
noncomputable abbrev TT:=St → Hp → (Bool → Hp → Prop) → Prop
noncomputable abbrev TA:=St → Hp → (List V → Hp → Prop) → Prop
structure Ends where
 nx:St → Hp → Prop
 rt:VK
 bk:St → Hp → Prop:=fun _ _=>False
 ct:St → Hp → Prop:=fun _ _=>False
noncomputable abbrev TS:=Ends → St → Hp → Prop
noncomputable def EP (X:Cx) (pins:List (Addr × Obj)) (σ:St) (Q:VK) (u:Value) (s':Shared):Prop:=∃ v H',Inv X pins σ H' s' ∧ RelV v u ∧ Q v H'
noncomputable def TP (X:Cx) (pins:List (Addr × Obj)) (σ:St) (Q:Bool → Hp → Prop) (b:Bool) (s':Shared):Prop:=∃ H',Inv X pins σ H' s' ∧ Q b H'
noncomputable def AP (X:Cx) (pins:List (Addr × Obj)) (σ:St) (Q:List V → Hp → Prop) (us:List Value) (s':Shared):Prop:=∃ vs H',Inv X pins σ H' s' ∧ Vals vs us ∧ Q vs H'
noncomputable def SP (X:Cx) (pins:List (Addr × Obj)) (D:Ends) (f:Flow) (s':Shared):Prop :=
 match f with
 | .next=>∃ σ' H',Inv X pins σ' H' s' ∧ D.nx σ' H'
 | .brk=>∃ σ' H',Inv X pins σ' H' s' ∧ D.bk σ' H'
 | .cont=>∃ σ' H',Inv X pins σ' H' s' ∧ D.ct σ' H'
 | .ret u=>∃ v σ' H',Inv X pins σ' H' s' ∧ RelV v u ∧ D.rt v H'
noncomputable def PE (X:Cx) (e:Expr) (t:TE):Prop :=
 ∀ (pins:List (Addr × Obj)) (s:Shared) (σ:St) (H:Hp) (Q:VK),Inv X pins σ H s → t σ H Q → wpAny (model X.prog X.w) X.A (eval e X.env) (EP X pins σ Q) X.xe s
noncomputable def PT (X:Cx) (e:Expr) (t:TT):Prop :=
 ∀ (pins:List (Addr × Obj)) (s:Shared) (σ:St) (H:Hp) (Q:Bool → Hp → Prop),Inv X pins σ H s → t σ H Q → wpAny (model X.prog X.w) X.A (isTrue e X.env (eval e X.env)) (TP X pins σ Q) X.xe s
noncomputable def PW (X:Cx) (e:Expr) (t:TT):Prop :=
 ∀ (whole:Sem Value) (pins:List (Addr × Obj)) (s:Shared) (σ:St) (H:Hp) (Q:Bool → Hp → Prop),Inv X pins σ H s → t σ H Q → wpAny (model X.prog X.w) X.A (isTrue e X.env whole) (TP X pins σ Q) X.xe s
theorem PW.pt {X:Cx} {e:Expr} {t:TT} (h:PW X e t):PT X e t:=h _
noncomputable def PA (X:Cx) (es:List Expr) (t:TA):Prop :=
 ∀ (pos:Pos) (pins:List (Addr × Obj)) (s:Shared) (σ:St) (H:Hp) (Q:List V → Hp → Prop),Inv X pins σ H s → t σ H Q → wpAny (model X.prog X.w) X.A (spliced (backTo pos (starEach es X.env))) (AP X pins σ Q) X.xe s
noncomputable def PS (X:Cx) (st:Stmt) (t:TS):Prop :=
 ∀ (pins:List (Addr × Obj)) (s:Shared) (σ:St) (H:Hp) (D:Ends),Inv X pins σ H s → t D σ H → wpAny (model X.prog X.w) X.A (exec st X.env) (SP X pins D) X.xe s
noncomputable def PSs (X:Cx) (st:List Stmt) (t:TS):Prop :=
 ∀ (pins:List (Addr × Obj)) (s:Shared) (σ:St) (H:Hp) (D:Ends),Inv X pins σ H s → t D σ H → wpAny (model X.prog X.w) X.A (execs st X.env) (SP X pins D) X.xe s
theorem thn {α:Type} {t:Sem α} {Q Q':α → Shared → Prop} {M:Model} {A:Around} {E:Value → Shared → Prop} {s:Shared} (h:wpAny M A t Q E s) (hQ:∀ a s,Q a s → Q' a s):wpAny M A t Q' E s:=wpAny_mono h hQ fun _ _ x=>x
section
variable {X:Cx}
theorem bin {a b:Expr} {ta tb:TE} (ha:PE X a ta) (hb:PE X b tb) {pins:List (Addr × Obj)} {s:Shared} {σ:St} {H:Hp} {R:V → V → Hp → Prop} (I:Inv X pins σ H s) (h:ta σ H fun x H1=>tb σ H1 fun y H2=>R x y H2)
  {α:Type} {Q:α → Shared → Prop} {f:Value → Value → Sem α}
  (hf:∀ v u s2 x y H2,Inv X pins σ H2 s2 → RelV x v → RelV y u → R x y H2 → wpAny (model X.prog X.w) X.A (f v u) Q X.xe s2) :
  wpAny (model X.prog X.w) X.A (eval a X.env) (fun v s₁=>wpAny (model X.prog X.w) X.A (eval b X.env) (fun u s₂=>wpAny (model X.prog X.w) X.A (f v u) Q X.xe s₂) X.xe s₁) X.xe s:=by
 refine thn (ha pins s σ H _ I h) fun v s1 ⟨x,H1,I1,r1,q1⟩=>?_
 refine thn (hb pins s1 σ H1 _ I1 q1) fun u s2 ⟨y,H2,I2,r2,q2⟩=>?_
 exact hf v u s2 x y H2 I2 r1 r2 q2
noncomputable abbrev Qox (i:Nat):TE:=fun σ H Q=>∃ v,σ[i]? = some (some v) ∧ Q v H
noncomputable abbrev tC (v:V):TE:=fun _ H Q=>Q v H
theorem Qx3 {i:Nat} {x:Str} {pos:Pos} (hN:X.N[i]? = some x) (hv:Vis X.env.scope x) (hd:(x == ("__debug__" : Str)) = false:=by decide) (hcd:(x == ("__classdict__" : Str)) = false:=by decide):PE X (.Name x pos) (Qox i):=by
 intro pins s σ H Q I h
 obtain ⟨v,e,h⟩:=h
 obtain ⟨m,hn,hl⟩:=I.loc
 obtain ⟨u,r,l⟩:=hl i x v hN e hv
 have fin:EP X pins σ Q u s:=⟨v,H,I,r,h⟩
 rcases l with ⟨hk,hm⟩ | ⟨hk,c,hc,hcell⟩
 ·exact wpAny_Name (wpAny_loadName_local I.ok.kind hk hn hm fin) hd
 ·rcases hk with hk | hk
  ·exact wpAny_Name (wpAny_loadName_cell I.ok.kind hk hc hcell fin) hd
  ·exact wpAny_Name (wpAny_loadName_free I.ok.kind hk hc hcell fin hcd) hd
theorem Q67 {i j pos}:PE X (.Constant (.int i) j pos) (tC (.int i)):=fun _ _ _ H _ I h=>wpAny_Constant_int ⟨.int i,H,I.tok _,⟨_,rfl⟩,h⟩
theorem Qabd {b j pos}:PE X (.Constant (.bool b) j pos) (tC (.bl b)):=fun _ _ _ H _ I h=>Constant_bool ⟨.bl b,H,I,rfl,h⟩
theorem Q68 {j pos}:PE X (.Constant .none j pos) (tC .non):=fun _ _ _ H _ I h=>Constant_none ⟨.non,H,I,rfl,h⟩
noncomputable def Gl (X:Cx) (x:Str):Prop:=X.env.kindOf x = some .globalImplicit
theorem Qoy {E:Value → Shared → Prop} {pins:List (Addr × Obj)} {s:Shared} {σ:St} {H:Hp} {x:Str} {u:Value} {pos:Pos} {Q:Value → Shared → Prop} (I:Inv X pins σ H s) (hg:Gl X x) (hm:X.mg x = some u) (h:Q u s)
  (hd:(x == ("__debug__" : Str)) = false:=by decide):wpAny (model X.prog X.w) X.A (eval (.Name x pos) X.env) Q E s :=
 Calls.Name_function_global I.ok.kind hg (Calls.loadGlobal_global (by rw [I.ok.glob]; exact I.mod.glob.keeps I.bk) hm h) hd
theorem Qoz {E:Value → Shared → Prop} {pins:List (Addr × Obj)} {s:Shared} {σ:St} {H:Hp} {x:Str} {u:Value} {pos:Pos} {Q:Value → Shared → Prop} (I:Inv X pins σ H s) (hg:Gl X x) (hm:X.mg x = none) (hv:bootBuiltins x = some u) (h:Q u s)
  (hn:x ≠ "__name__" := by decide) (hd:(x == ("__debug__" : Str)) = false:=by decide):wpAny (model X.prog X.w) X.A (eval (.Name x pos) X.env) Q E s:=by
 obtain ⟨mb,h1,h2⟩:=I.mod.blt
 exact Calls.Name_function_global I.ok.kind hg (Calls.loadGlobal_builtin (by rw [I.ok.glob]; exact I.mod.glob.keeps I.bk) hm (by rw [I.ok.blt]; exact h1.keeps I.bk) ((h2 x hn).trans hv) h) hd
theorem Q2o {x:Str} {v:V} {u:Value} {pos:Pos} (hg:Gl X x) (hm:X.mg x = some u) (r:RelV v u) (hd:(x == ("__debug__" : Str)) = false:=by decide):PE X (.Name x pos) (tC v) :=
 fun _ _ _ H _ I h=>Qoy I hg hm ⟨v,H,I,r,h⟩ hd
theorem Q2p {x:Str} {v:V} {u:Value} {pos:Pos} (hg:Gl X x) (hm:X.mg x = none) (hv:bootBuiltins x = some u) (r:RelV v u) (hn:x ≠ "__name__" := by decide) (hd:(x == ("__debug__" : Str)) = false:=by decide):PE X (.Name x pos) (tC v) :=
 fun _ _ _ H _ I h=>Qoz I hg hm hv ⟨v,H,I,r,h⟩ hn hd
variable {a b:Expr} {ta tb:TE} {pos:Pos}
noncomputable def PC (X:Cx) (op:CmpOp) (a b:Expr) (t:TE):Prop :=
 ∀ (pins:List (Addr × Obj)) (s:Shared) (σ:St) (H:Hp) (Q:VK),Inv X pins σ H s → t σ H Q →
  wpAny (model X.prog X.w) X.A (eval a X.env) (fun v s₁=>wpAny (model X.prog X.w) X.A (eval b X.env) (fun u s₂=>wpAny (model X.prog X.w) X.A (compareOp op v u) (EP X pins σ Q) X.xe s₂) X.xe s₁) X.xe s
theorem Qx4 (b:Expr) {op:CmpOp} (h:op ≠ .In) (h2:op ≠ .NotIn):behindInMarks op b = false:=by
 have e1:(op == CmpOp.In) = false:=by cases op <;> first | rfl | exact absurd rfl h
 have e2:(op == CmpOp.NotIn) = false:=by cases op <;> first | rfl | exact absurd rfl h2
 cases b <;> simp [behindInMarks,e1,e2]
noncomputable abbrev tB (t:TE):TT:=fun σ H Q=>t σ H fun x H1=>∃ c,x = .bl c ∧ Q c H1
theorem Qx5 {op:CmpOp} {t:TE} (h:PC X op a b t) (h1:behindInMarks op b = false:=by first | exact Qx4 _ (by decide) (by decide) | rfl):PT X (.Compare a [op] [b] pos) (tB t):=by
 intro pins s σ H Q I hw
 refine wpAny_isTrue_Compare1 (thn (h pins s σ H _ I hw) fun v s1 h1=>thn h1 fun u s2 h2=>thn h2 fun c s3 ⟨x,H1,I1,r1,q1⟩=>?_) h1
 obtain ⟨d,rfl,q⟩:=q1
 cases r1
 exact wpAny_truthy_bool ⟨H1,I1,q⟩
theorem Q69 {e:Expr} {t:TE} (h:PE X e t) (he:∀ whole,isTrue e X.env whole = (do let v ← whole; standAt e.pos; holding [v] (truthy v)):=by intro _; rfl):PT X e (tB t):=by
 intro pins s σ H Q I hw
 refine isTrue_plain (thn (h pins s σ H _ I hw) fun v s1 ⟨x,H1,I1,r1,q1⟩=>?_) (he _)
 obtain ⟨d,rfl,q⟩:=q1
 cases r1
 exact wpAny_truthy_bool ⟨H1,I1,q⟩
variable {tA tB':TT} {rest:List Expr}
noncomputable abbrev tAnd (t u:TT):TT:=fun σ H Q=>t σ H fun c H1=>if c = true then u σ H1 Q else Q false H1
noncomputable abbrev tOr (t u:TT):TT:=fun σ H Q=>t σ H fun c H1=>if c = true then Q true H1 else u σ H1 Q
noncomputable abbrev tNot (t:TT):TT:=fun σ H Q=>t σ H fun c H1=>Q (!c) H1
theorem Q2q (ha:PT X a tA):PW X (.BoolOp .And [a] pos) tA:=by
 intro wh pins s σ H Q I h
 refine isTrue_and (thn (ha pins s σ H Q I h) fun c s1 e=>?_)
 cases c with
 | true=>exact isTrue_and_nil e
 | false=>exact e
theorem Q7a (ha:PT X a tA):PW X (.BoolOp .Or [a] pos) tA:=by
 intro wh pins s σ H Q I h
 refine isTrue_or (thn (ha pins s σ H Q I h) fun c s1 e=>?_)
 cases c with
 | false=>exact isTrue_or_nil e
 | true=>exact e
theorem Q7b (ha:PT X a tA) (hb:PW X (.BoolOp .And (b :: rest) pos) tB'):PW X (.BoolOp .And (a :: b :: rest) pos) (tAnd tA tB'):=by
 intro wh pins s σ H Q I h
 refine isTrue_and (thn (ha pins s σ H _ I h) fun c s1 ⟨H1,I1,q1⟩=>?_)
 cases c with
 | true=>exact hb wh pins s1 σ H1 Q I1 q1
 | false=>exact ⟨H1,I1,q1⟩
theorem Qabg (ha:PT X a tA) (hb:PW X (.BoolOp .Or (b :: rest) pos) tB'):PW X (.BoolOp .Or (a :: b :: rest) pos) (tOr tA tB'):=by
 intro wh pins s σ H Q I h
 refine isTrue_or (thn (ha pins s σ H _ I h) fun c s1 ⟨H1,I1,q1⟩=>?_)
 cases c with
 | true=>exact ⟨H1,I1,q1⟩
 | false=>exact hb wh pins s1 σ H1 Q I1 q1
theorem Q7c (ha:PT X a tA):PT X (.UnaryOp .Not a pos) (tNot tA):=by
 intro pins s σ H Q I h
 exact isTrue_not (ha pins s σ H (fun c H1=>Q (!c) H1) I h)
noncomputable abbrev Q5m (ta tb:TE):TE:=fun σ H Q=>ta σ H fun x H1=>∃ c,x = .bl c ∧ if c = true then tb σ H1 Q else Q (.bl false) H1
noncomputable abbrev Q5n (ta:TE):TE:=fun σ H Q=>ta σ H fun x H1=>∃ c,x = .bl c ∧ Q (.bl (!c)) H1
theorem Q7d {op} {t:TE} (h:PE X a t):PE X (.BoolOp op [a] pos) t:=fun pins s σ H Q I hw=>BoolOp_one (h pins s σ H Q I hw)
theorem Q7e (ha:PE X a ta) (hb:PE X (.BoolOp .And (b :: rest) pos) tb):PE X (.BoolOp .And (a :: b :: rest) pos) (Q5m ta tb):=by
 intro pins s σ H Q I h
 refine BoolOp_and (thn (ha pins s σ H _ I h) fun v s1 ⟨x,H1,I1,r1,q1⟩=>?_)
 obtain ⟨c,rfl,q1⟩:=q1
 cases r1
 refine wpAny_truthy_bool ?_
 cases c with
 | true=>exact hb pins s1 σ H1 Q I1 q1
 | false=>exact ⟨.bl false,H1,I1,rfl,q1⟩
theorem Q7f (ha:PE X a ta):PE X (.UnaryOp .Not a pos) (Q5n ta):=by
 intro pins s σ H Q I h
 refine UnaryOp_ (thn (ha pins s σ H _ I h) fun v s1 ⟨x,H1,I1,r1,q1⟩=>?_)
 obtain ⟨c,rfl,q1⟩:=q1
 cases r1
 exact not_of (wpAny_truthy_bool ⟨.bl (!c),H1,I1,rfl,q1⟩)
noncomputable abbrev tIf (t:TT) (ta tb:TE):TE:=fun σ H Q=>t σ H fun c H1=>if c = true then ta σ H1 Q else tb σ H1 Q
theorem Qx6 {c:Expr} (hc:PT X c tA) (ha:PE X a ta) (hb:PE X b tb):PE X (.IfExp c a b pos) (tIf tA ta tb):=by
 intro pins s σ H Q I h
 refine wpAny_IfExp (thn (hc pins s σ H _ I h) fun d s1 ⟨H1,I1,q1⟩=>?_)
 cases d with
 | true=>exact ha pins s1 σ H1 Q I1 q1
 | false=>exact hb pins s1 σ H1 Q I1 q1
end
noncomputable def SqL (K:PySem.W.Frag) (H:Hp) (a:Addr) (xs:List V):Prop :=
 Rd H a (.lst xs) ∨
  ∃ (o:Obj) (its:Array Value) (n:Nat),K.lookup a = some o ∧ o.cls = .type "list" ∧ o.dict = none ∧ o.data = .seq its n ∧ its.size ≤ sizeLine ∧ Vals xs its.toList
noncomputable def SqT (K:PySem.W.Frag) (H:Hp) (a:Addr) (xs:List V):Prop :=
 Rd H a (.tup xs) ∨
  ∃ (o:Obj) (its:Array Value) (n:Nat),K.lookup a = some o ∧ o.cls = .type "tuple" ∧ o.data = .seq its n ∧ its.size ≤ sizeLine ∧ Vals xs its.toList
noncomputable def absV:Value → Option V
 | .none=>some .non
 | .bool b=>some (.bl b)
 | .int i _=>some (.int i)
 | .str x _=>some (.str x)
 | .bytes b _=>some (.byt b)
 | .float b _=>some (.flt b)
 | .ref a=>some (.ref a)
 | .type n=>some (.ty n)
 | _=>none
theorem RelV.abs {x:V} {u:Value} (r:RelV x u):absV u = some x:=by
 cases x with
 | non=>cases r; rfl
 | bl _=>cases r; rfl
 | int _=>obtain ⟨t,rfl⟩:=r; rfl
 | str _=>obtain ⟨t,rfl⟩:=r; rfl
 | byt _=>obtain ⟨t,rfl⟩:=r; rfl
 | flt _=>obtain ⟨t,rfl⟩:=r; rfl
 | ref _=>cases r; rfl
 | ty _=>cases r; rfl
theorem RelV.inj {x y:V} {u:Value} (r:RelV x u) (q:RelV y u):x = y:=Option.some.inj (r.abs.symm.trans q.abs)
theorem Vals.inj:∀ {xs ys:List V} {us:List Value},Vals xs us → Vals ys us → xs = ys
 | _,_,_,.nil,.nil=>rfl
 | _,_,_,.cons r t,.cons r' t'=>by rw [r.inj r',Vals.inj t t']
section
variable {X:Cx} {pins:List (Addr × Obj)} {σ:St} {H:Hp} {s:Shared} {a:Addr} {xs ys:List V}
theorem SqL.of {K:PySem.W.Frag} (h:H a = some (.lst xs)):SqL K H a xs:=.inl (.inl h)
theorem SqT.of {K:PySem.W.Frag} (h:H a = some (.tup xs)):SqT K H a xs:=.inl (.inl h)
theorem Inv.list (I:Inv X pins σ H s) (h:SqL X.K H a xs):∃ its:List Value,Vals xs its ∧ PlainL s.heap a its.toArray ∧ xs.length ≤ sizeLine:=by
 rcases h with h | ⟨o,its,n,hk,hc,hd,hs,hz,r⟩
 ·obtain ⟨z,its,n,r,e⟩:=h.ok I.hok
  exact ⟨its,r,⟨_,n,e,rfl,rfl,rfl⟩,z⟩
 ·refine ⟨its.toList,r,⟨o,n,I.kIn a o hk,hc,hd,by simpa using hs⟩,?_⟩
  have e:=r.length
  simp only [Array.length_toList] at e
  omega
theorem Inv.tuple (I:Inv X pins σ H s) (h:SqT X.K H a xs):∃ its:List Value,Vals xs its ∧ IsTup s.heap a its.toArray ∧ xs.length ≤ sizeLine:=by
 rcases h with h | ⟨o,its,n,hk,hc,hs,hz,r⟩
 ·obtain ⟨z,its,r,p⟩:=h.ok I.hok
  exact ⟨its,r,p.tup,z⟩
 ·refine ⟨its.toList,r,⟨o,I.kIn a o hk,hc,n,by simpa using hs⟩,?_⟩
  have e:=r.length
  simp only [Array.length_toList] at e
  omega
theorem Inv.list_inj (I:Inv X pins σ H s) (h:SqL X.K H a xs) (h':SqL X.K H a ys):xs = ys:=by
 obtain ⟨its,r,⟨o,n,e,_,_,d⟩,_⟩:=I.list h
 obtain ⟨its',r',⟨o',n',e',_,_,d'⟩,_⟩:=I.list h'
 rw [e] at e'; cases e'
 rw [d] at d'
 injection d' with d1 _
 have:its = its':=by simpa using congrArg Array.toList d1
 subst this
 exact r.inj r'
theorem Inv.tuple_inj (I:Inv X pins σ H s) (h:SqT X.K H a xs) (h':SqT X.K H a ys):xs = ys:=by
 obtain ⟨its,r,⟨o,e,_,n,d⟩,_⟩:=I.tuple h
 obtain ⟨its',r',⟨o',e',_,n',d'⟩,_⟩:=I.tuple h'
 rw [e] at e'; cases e'
 rw [d] at d'
 injection d' with d1 _
 have:its = its':=by simpa using congrArg Array.toList d1
 subst this
 exact r.inj r'
end
noncomputable abbrev Cx.wish (X:Cx) (E:Value → Shared → Prop):Cx:={ X with xe:=E }
noncomputable abbrev Cx.nox (X:Cx):Cx:=X.wish fun _ _=>False
theorem Cx.Ok.wish {X:Cx} (ok:X.Ok) (E:Value → Shared → Prop):(X.wish E).Ok :=
 ⟨ok.mod,ok.kind,ok.glob,ok.blt,ok.above,ok.inj,ok.has,ok.cab,ok.hd,ok.frames,ok.stk,ok.exf,ok.bs,ok.bsz,ok.noex,ok.exfs,ok.funs,ok.frf⟩
theorem Cx.Ok.unwish {X:Cx} {E:Value → Shared → Prop} (ok:(X.wish E).Ok):X.Ok :=
 ⟨ok.mod,ok.kind,ok.glob,ok.blt,ok.above,ok.inj,ok.has,ok.cab,ok.hd,ok.frames,ok.stk,ok.exf,ok.bs,ok.bsz,ok.noex,ok.exfs,ok.funs,ok.frf⟩
section
variable {X:Cx} {pins:List (Addr × Obj)} {σ:St} {H:Hp} {s:Shared} {E:Value → Shared → Prop}
theorem Inv.wish (I:Inv X pins σ H s) (E:Value → Shared → Prop):Inv (X.wish E) pins σ H s:=⟨I.ok.wish E,I.os,I.bare,I.base,I.loc,I.cell,I.free,I.freeC,I.pin,I.hok,I.len⟩
theorem Inv.unwish (I:Inv (X.wish E) pins σ H s):Inv X pins σ H s:=⟨I.ok.unwish,I.os,I.bare,I.base,I.loc,I.cell,I.free,I.freeC,I.pin,I.hok,I.len⟩
theorem SP.unwish {D:Ends} {f:Flow} {s':Shared} (h:SP (X.wish E) pins D f s'):SP X pins D f s':=by
 cases f with
 | next=>obtain ⟨σ',H',I,q⟩:=h; exact ⟨σ',H',I.unwish,q⟩
 | brk=>obtain ⟨σ',H',I,q⟩:=h; exact ⟨σ',H',I.unwish,q⟩
 | cont=>obtain ⟨σ',H',I,q⟩:=h; exact ⟨σ',H',I.unwish,q⟩
 | ret u=>obtain ⟨v,σ',H',I,r,q⟩:=h; exact ⟨v,σ',H',I.unwish,r,q⟩
theorem PSs.nox {st:List Stmt} {t:TS} (h:PSs X.nox st t):PSs X st t:=fun pins s σ H D I hw =>
 wpAny_mono (h pins s σ H D (I.wish _) hw) (fun _ _ q=>q.unwish) fun _ _ z=>False.elim z
end
section
variable {X:Cx} {st:Stmt} {rest:List Stmt} {t u:TS} {e:Expr} {te:TE} {pos:Pos}
noncomputable abbrev Q5o:TS:=fun D σ H=>D.nx σ H
noncomputable abbrev Q2r (t u:TS):TS:=fun D σ H=>t { D with nx:=u D } σ H
theorem Q2s:PSs X [] Q5o:=fun _ _ σ H _ I h=>wpAny_execs_nil ⟨σ,H,I,h⟩
theorem Qx7 (h1:PS X st t) (h2:PSs X rest u):PSs X (st :: rest) (Q2r t u):=by
 intro pins s σ H D I h
 refine wpAny_execs_cons (thn (h1 pins s σ H { D with nx:=u D } I h) fun f s1 q=>?_)
 cases f with
 | next =>
  obtain ⟨σ',H',I',q⟩:=q
  exact h2 pins s1 σ' H' D I' q
 | ret v=>exact q
 | brk=>exact q
 | cont=>exact q
theorem Q2t (h1:PS X st t):PSs X [st] t:=by
 intro pins s σ H D I h
 refine wpAny_execs_cons (thn (h1 pins s σ H D I h) fun f s1 q=>?_)
 cases f with
 | next=>exact wpAny_execs_nil q
 | ret v=>exact q
 | brk=>exact q
 | cont=>exact q
theorem Inv.quiet {pins:List (Addr × Obj)} {σ:St} {H:Hp} {s:Shared} (I:Inv X pins σ H s):interactive X.env = false:=by simp [interactive,I.ok.kind]
noncomputable abbrev Qur (te:TE):TS:=fun D σ H=>te σ H fun _ H1=>D.nx σ H1
theorem Q2u (he:PE X e te) (hs:swapsWith e none pos.line X.env = pure false:=by rfl):PS X (.Expr e pos) (Qur te):=by
 intro pins s σ H D I h
 exact wpAny_Expr_any (thn (he pins s σ H _ I h) fun v s1 ⟨x,H1,I1,r1,q1⟩=>⟨σ,H1,I1,q1⟩) I.quiet hs
noncomputable abbrev Q7g (te:TE):TS:=fun D σ H=>te σ H D.rt
theorem Q7h (he:PE X e te):PS X (.Return (some e) pos) (Q7g te):=by
 intro pins s σ H D I h
 exact wpAny_Return_some (thn (he pins s σ H _ I h) fun v s1 ⟨x,H1,I1,r1,q1⟩=>⟨x,σ,H1,I1,r1,q1⟩)
noncomputable abbrev tIfS (c:TT) (t u:TS):TS:=fun D σ H=>c σ H fun b H1=>if b = true then t D σ H1 else u D σ H1
theorem Qabi {c:Expr} {a b:List Stmt} {tc:TT} (hc:PT X c tc) (ha:PSs X a t) (hb:PSs X b u):PS X (.If c a b pos) (tIfS tc t u):=by
 intro pins s σ H D I h
 refine wpAny_If (thn (hc pins s σ H _ I h) fun d s1 ⟨H1,I1,q1⟩=>?_)
 cases d with
 | true=>exact ha pins s1 σ H1 D I1 q1
 | false=>exact hb pins s1 σ H1 D I1 q1
end
noncomputable abbrev TG:=V → St → Hp → (St → Hp → Prop) → Prop
noncomputable abbrev TGs:=List V → St → Hp → (St → Hp → Prop) → Prop
noncomputable def PG (X:Cx) (target:Expr) (t:TG):Prop :=
 ∀ (pins:List (Addr × Obj)) (s:Shared) (σ:St) (H:Hp) (v:V) (u:Value) (Q:St → Hp → Prop),Inv X pins σ H s → RelV v u → t v σ H Q →
  wpAny (model X.prog X.w) X.A (assign target X.env u) (fun _ s'=>∃ σ' H',Inv X pins σ' H' s' ∧ Q σ' H') X.xe s
noncomputable def PGs (X:Cx) (ts:List Expr) (t:TGs):Prop :=
 ∀ (pins:List (Addr × Obj)) (s:Shared) (σ:St) (H:Hp) (vs:List V) (us:List Value) (Q:St → Hp → Prop),Inv X pins σ H s → Vals vs us → t vs σ H Q →
  wpAny (model X.prog X.w) X.A (assignInOrder ((assignEach ts X.env).map (·.2)) us) (fun _ s'=>∃ σ' H',Inv X pins σ' H' s' ∧ Q σ' H') X.xe s
noncomputable abbrev Q7i:=V → V → V → Hp → (Hp → Prop) → Prop
noncomputable def PSet (X:Cx) (t:Q7i):Prop :=
 ∀ (pins:List (Addr × Obj)) (s:Shared) (σ:St) (H:Hp) (o i v:V) (ov iv u:Value) (Q:Hp → Prop),Inv X pins σ H s → RelV o ov → RelV i iv → RelV v u → t o i v H Q →
  wpAny (model X.prog X.w) X.A (setItem ov iv u) (fun _ s'=>∃ H',Inv X pins σ H' s' ∧ Q H') X.xe s
section
variable {X:Cx} {pos:Pos}
noncomputable abbrev Qhy (i:Nat):TG:=fun v σ H Q=>Q (σ.set i (some v)) H
theorem Q2v {i:Nat} {x:Str} (hN:X.N.Nodup) (hi:X.N[i]? = some x) (hx:Loc X.env.scope x) (hf:X.fn x = true ∨ X.env.scope.names.lookup x = some .local:=by first | exact .inl rfl | exact .inr rfl | assumption):PG X (.Name x pos) (Qhy i):=by
 intro pins s σ H v u Q I r h
 exact wpAny_assign_Name (Qqy I hN hi hx r (fun s' I'=>⟨_,H,I',h⟩) hf)
noncomputable abbrev Q7j:TGs:=fun vs σ H Q=>vs = [] ∧ Q σ H
noncomputable abbrev Qx8 (t:TG) (u:TGs):TGs:=fun vs σ H Q=>∃ v r,vs = v :: r ∧ t v σ H fun σ' H'=>u r σ' H' Q
theorem Q2w:PGs X [] Q7j:=by
 intro pins s σ H vs us Q I r h
 obtain ⟨e,h⟩:=h
 subst e
 cases r
 exact assignInOrder_nil ⟨σ,H,I,h⟩
theorem Qx9 {e:Expr} {es:List Expr} {t:TG} {u:TGs} (h1:PG X e t) (h2:PGs X es u)
  (hs:(assignEach (e :: es) X.env).map (·.2) = assign e X.env :: (assignEach es X.env).map (·.2):=by rfl):PGs X (e :: es) (Qx8 t u):=by
 intro pins s σ H vs us Q I r h
 obtain ⟨v,vr,e1,h⟩:=h
 subst e1
 cases r with
 | cons r rr =>
  rw [hs]
  refine assignInOrder_cons (thn (h1 pins s σ H _ _ _ I r h) fun _ s1 ⟨σ1,H1,I1,q1⟩=>?_)
  exact h2 pins s1 σ1 H1 _ _ Q I1 rr q1
noncomputable def Q2x (K:PySem.W.Frag) (n:Nat) (t:TGs):TG:=fun v σ H Q=>∃ a xs,v = .ref a ∧ SqT K H a xs ∧ xs.length = n ∧ t xs σ H Q
theorem Q7k {es:List Expr} {k:Nat} {t:TGs} {n:Nat} (hc:X.calm = true) (h:PGs X es t)
  (hn:(assignEach es X.env).length = n:=by rfl) (hst:(assignEach es X.env).findIdx? (·.1) = none:=by rfl):PG X (.Tuple es k pos) (Q2x X.K n t):=by
 intro pins s σ H v u Q I r hw
 obtain ⟨a,xs,e1,hq,hl,hw⟩:=hw
 subst e1
 cases r
 obtain ⟨its,rv,ht,hz⟩:=I.tuple hq
 refine assign_Tuple_tuple (I.ok.hd hc) ht (by simp [hn,← hl,rv.length]) hst fun h' hx=>?_
 have I1:Inv X pins σ H { s with heap:=h' }:=I.kept (t':=s.toks) fun b o e=>hx b o (Nat.ne_of_lt (Heap.lt_size e)) e
 exact h pins _ σ H xs _ Q I1 (by simpa using rv) hw
noncomputable abbrev Q7l (to ti:TE) (t:Q7i):TG:=fun v σ H Q=>to σ H fun o H1=>ti σ H1 fun i H2=>t o i v H2 fun H3=>Q σ H3
theorem Q7m {o i:Expr} {to ti:TE} {t:Q7i} (ho:PE X o to) (hi:PE X i ti) (hs:PSet X t)
  (ha:∀ v,assign (.Subscript o i pos) X.env v = (do
   let ov ← holding [v] (eval o X.env)
   let iv ← holding [v,ov] (eval i X.env)
   standAt pos
   holding [v,ov,iv] (setItem ov iv v)
   release [v,ov,iv] []):=by intro _; rfl):PG X (.Subscript o i pos) (Q7l to ti t):=by
 intro pins s σ H v u Q I r h
 rw [ha]
 refine wpAny_bind (wpAny_holding (thn (ho pins s σ H _ I h) fun ov s1 ⟨x,H1,I1,r1,q1⟩=>?_))
 refine wpAny_bind (wpAny_holding (thn (hi pins s1 σ H1 _ I1 q1) fun iv s2 ⟨y,H2,I2,r2,q2⟩=>?_))
 refine wpAny_bind (wpAny_standAt (wpAny_bind (wpAny_holding (thn (hs pins s2 σ H2 x y v ov iv u _ I2 r1 r2 r q2) fun _ s3 ⟨H3,I3,q3⟩=>?_))))
 exact wpAny_release ⟨σ,H3,I3,q3⟩
noncomputable abbrev Qqz (te:TE) (g:TG):TS:=fun D σ H=>te σ H fun x H1=>g x σ H1 D.nx
theorem Q7n {tg e:Expr} {te:TE} {g:TG} (he:PE X e te) (hg:PG X tg g) (hs:swapsWithSole [tg] e pos.line X.env = pure false:=by rfl) (hw:swappedStores [tg] e X.env = pure none:=by rfl)
  (h1:(assignEach [tg] X.env).map (·.2) = [assign tg X.env]:=by rfl):PS X (.Assign [tg] e pos) (Qqz te g):=by
 intro pins s σ H D I h
 refine wpAny_Assign_stores (thn (he pins s σ H _ I h) fun v s1 ⟨x,H1,I1,r1,q1⟩=>?_) hs hw
 rw [h1]
 exact thn (hg pins s1 σ H1 x v _ I1 r1 q1) fun _ s2 q=>q
theorem Q7o {i:Nat} {x:Str} {e:Expr} {te:TE} {pos':Pos} (hN:X.N.Nodup) (hi:X.N[i]? = some x) (hx:Loc X.env.scope x) (he:PE X e te) (hs:swapsWith e (some (.Name x pos')) pos.line X.env = pure false:=by rfl) (hf:X.fn x = true ∨ X.env.scope.names.lookup x = some .local:=by first | exact .inl rfl | exact .inr rfl | assumption) :
  PS X (.Assign [.Name x pos'] e pos) (Qqz te (Qhy i)):=by
 intro pins s σ H D I h
 refine wpAny_Assign_Name (thn (he pins s σ H _ I h) fun v s1 ⟨y,H1,I1,r1,q1⟩=>?_) hs
 exact Qqy I1 hN hi hx r1 (fun s2 I2=>⟨_,H1,I2,q1⟩) hf
end
section
variable {X:Cx} {pos:Pos}
noncomputable def Qya (c:TT) (tb:TS):TS:=fun D σ H=>∃ W:Nat → St → Hp → Prop,(∃ m,W m σ H) ∧ ∀ m σ H,W m σ H →
 c σ H fun b H1=>if b = true then ∃ N:St → Hp → Prop,(∀ σ' H',N σ' H' → ∃ m',m' < m ∧ W m' σ' H') ∧ tb { D with nx:=N,ct:=N,bk:=D.nx } σ H1 else D.nx σ H1
theorem Qyb {c:Expr} {body:List Stmt} {tc:TT} {tb:TS} (hp:PassesOwn (model X.prog X.w) X.A X.env X.xe) (hc:PT X c tc) (hb:PSs X body tb):PS X (.While c body [] pos) (Qya tc tb):=by
 intro pins s σ H D I h
 obtain ⟨W,⟨m0,w0⟩,turn⟩:=h
 refine wpAny_While (codeAny_whileLoop (fun n s'=>∃ σ' H',Inv X pins σ' H' s' ∧ W n σ' H') ?_ m0 ⟨σ,H,I,w0⟩)
 rintro n s1 ⟨σ1,H1,I1,w1⟩
 refine wpAny_passesOwn hp (thn (hc pins s1 σ1 H1 _ I1 (turn n σ1 H1 w1)) fun b s2 ⟨H2,I2,q2⟩=>?_)
 cases b with
 | true =>
  obtain ⟨N,hN,q2⟩:=q2
  rw [if_pos rfl]
  refine wpAny_passesOwn hp (thn (hb pins s2 σ1 H2 _ I2 q2) fun f s3 q3=>?_)
  cases f with
  | next =>
   obtain ⟨σ3,H3,I3,n3⟩:=q3
   obtain ⟨m',hm,w3⟩:=hN σ3 H3 n3
   exact ⟨m',hm,σ3,H3,I3,w3⟩
  | cont =>
   obtain ⟨σ3,H3,I3,n3⟩:=q3
   obtain ⟨m',hm,w3⟩:=hN σ3 H3 n3
   exact ⟨m',hm,σ3,H3,I3,w3⟩
  | brk=>exact q3
  | ret v=>exact q3
 | false =>
  rw [if_neg Bool.false_ne_true]
  exact wpAny_execs_nil ⟨σ1,H2,I2,q2⟩
end
structure It where
 go:Nat → Hp → Prop
 yld:Nat → Hp → V → Hp → Prop
 stop:Nat → Hp → Prop
noncomputable def Qm2 (X:Cx) (pins:List (Addr × Obj)) (H:Hp) (b:Addr):Prop :=
 H b = none ∧ b ≠ X.env.locals ∧ b ∉ X.fs ∧ (b ∈ X.ex ∨ X.s₀.heap.objs.size ≤ b) ∧ (∀ x c,X.env.cells.lookup x = some c → c ≠ b) ∧ ∀ p ∈ X.pn ++ pins,p.1 ≠ b
theorem Inv.fpOk {X:Cx} {pins:List (Addr × Obj)} {σ:St} {H H':Hp} {s:Shared} {b:Addr} (I:Inv X pins σ H s) (hb:s.heap.objs.size ≤ b) (hn:H' b = none):Qm2 X pins H' b:=by
 refine ⟨hn,Nat.ne_of_gt (Nat.lt_of_lt_of_le I.lt hb),I.nofs hb,.inr (Nat.le_trans I.sz hb),fun x c e z=>?_,fun p hp z=>?_⟩
 ·obtain ⟨v,q⟩:=I.cell x c e
  exact absurd (Nat.lt_of_lt_of_le q.lt (by rw [z]; exact hb)) (Nat.lt_irrefl _)
 ·exact absurd (Nat.lt_of_lt_of_le (Heap.lt_size (I.pin p hp).1) (by rw [z]; exact hb)) (Nat.lt_irrefl _)
structure Turn (P:Program) (w:World) (K:PySem.W.Frag) (tg:Expr) (J:It) (fp:List Addr) (it:Addr) (tn:Nat → Heap → Prop):Prop where
 mem:it ∈ fp
 obj:∀ i h,tn i h → ∀ b ∈ fp,∃ o,h.get? b = some o ∧ ∀ v,o.data ≠ .cell v
 keep:∀ i h h',tn i h → (∀ b ∈ fp,∀ o,h.get? b = some o → h'.get? b = some o) → tn i h'
 item:∀ (X:Cx),X.prog = P → X.w = w → X.K = K → X.calm = true → ∀ (i:Nat) (pins:List (Addr × Obj)) (s:Shared) (σ:St) (H:Hp) (E:Value → Shared → Prop),Inv X pins σ H s → (∀ b ∈ fp,Qm2 X pins H b) → tn i s.heap → J.go i H →
  wpAny (model P w) X.A (pyNext (.ref it)) (fun r s1=>∃ u,r = some u ∧
   wpAny (model P w) X.A (letOwnedTupleGo tg (.ref it) u) (fun _ s2=>∃ x H',Inv X pins σ H' s2 ∧ RelV x u ∧ J.yld i H x H' ∧ tn (i + 1) s2.heap ∧ ∀ b ∈ fp,H' b = none) E s1) E s
 done:∀ (X:Cx),X.prog = P → X.w = w → X.K = K → X.calm = true → ∀ (i:Nat) (pins:List (Addr × Obj)) (s:Shared) (σ:St) (H:Hp) (E:Value → Shared → Prop),Inv X pins σ H s → (∀ b ∈ fp,Qm2 X pins H b) → tn i s.heap → J.stop i H →
  wpAny (model P w) X.A (pyNext (.ref it)) (fun r s1=>r = none ∧ Inv X pins σ H s1) E s
 self:∀ (A:Around) (i:Nat) (s:Shared) (Q:Value → Shared → Prop) (E:Value → Shared → Prop),tn i s.heap → Q (.ref it) s → wpAny (model P w) A (pyIter (.ref it)) Q E s
noncomputable abbrev TI:=St → Hp → (It → Hp → Prop) → Prop
noncomputable def PIE (X:Cx) (pins:List (Addr × Obj)) (σ:St) (tg:Expr) (R:It → Hp → Prop) (itv:Value) (s2:Shared):Prop :=
 ∃ (it:Addr) (fp:List Addr) (tn:Nat → Heap → Prop) (J:It) (H':Hp),itv = .ref it ∧ Inv X pins σ H' s2 ∧ Turn X.prog X.w X.K tg J fp it tn ∧ tn 0 s2.heap ∧ (∀ b ∈ fp,Qm2 X pins H' b) ∧ R J H'
noncomputable def PI (X:Cx) (tg iter:Expr) (wi:TI):Prop :=
 ∀ (pins:List (Addr × Obj)) (s:Shared) (σ:St) (H:Hp) (R:It → Hp → Prop),Inv X pins σ H s → wi σ H R →
  wpAny (model X.prog X.w) X.A (eval iter X.env) (fun v s1=>wpAny (model X.prog X.w) X.A (pyIter v) (PIE X pins σ tg R) X.xe s1) X.xe s
theorem Qyc {M:Model} {A:Around} {E:Value → Shared → Prop} {s:Shared} {tg:Expr} {it:Addr} {u:Value} {o:Obj} {n:String} {vs:Array Value} {Q:Unit → Shared → Prop} (ho:s.heap.get? it = some o) (hc:o.cls = .type n) (hd:o.data = .fields vs)
  (hn:["enumerate","zip","dict_itemiterator","dict_reverseitemiterator","odict_iterator","itertools.zip_longest","itertools.pairwise"].contains n = false) (hQ:Q () s):wpAny M A (letOwnedTupleGo tg (.ref it) u) Q E s:=by
 unfold letOwnedTupleGo
 cases tg <;> first
  | exact wpAny_pure hQ
  | (cases u <;> first
    | exact wpAny_pure hQ
    | (refine wpAny_bind (wpAny_load ho ?_)
       rw [hc,hd]
       show wpAny M A (if (["enumerate","zip","dict_itemiterator","dict_reverseitemiterator","odict_iterator","itertools.zip_longest","itertools.pairwise"].contains n && vs[0]? == some (rawInt _)) = true then _ else _) Q E s
       rw [if_neg (by intro h; rw [hn,Bool.false_and] at h; cases h)]
       exact wpAny_pure hQ))
noncomputable def Itl (K:PySem.W.Frag) (a:Addr):It :=
 ⟨fun i H=>∃ xs x,SqL K H a xs ∧ xs[i]? = some x,fun i H x H'=>H' = H ∧ ∀ xs,SqL K H a xs → xs[i]? = some x,fun i H=>∃ xs,SqL K H a xs ∧ xs.length ≤ i⟩
noncomputable def Itt (K:PySem.W.Frag) (a:Addr):It :=
 ⟨fun i H=>∃ xs x,SqT K H a xs ∧ xs[i]? = some x,fun i H x H'=>H' = H ∧ ∀ xs,SqT K H a xs → xs[i]? = some x,fun i H=>∃ xs,SqT K H a xs ∧ xs.length ≤ i⟩
noncomputable def Itr (lo:Int) (n:Nat):It:=⟨fun i _=>i < n,fun i H x H'=>H' = H ∧ x = .int (lo + i),fun i _=>n ≤ i⟩
theorem Qwq {P:Program} {w:World} {K:PySem.W.Frag} {tg:Expr} (a it:Addr):Turn P w K tg (Itl K a) [it] it (fun i h=>h.IsListIter it a i) where
 mem:=by simp
 obj:=fun i h st b hb=>by
  have e:b = it:=by simpa using hb
  subst e
  obtain ⟨o,e,c,d⟩:=st
  exact ⟨o,e,fun v z=>by rw [d] at z; cases z⟩
 keep:=fun i h h' st k=>st.at fun o e=>k it (by simp) o e
 item:=by
  intro X hP hw hK hc i pins s σ H E I hf st hg
  subst hP hw hK
  obtain ⟨xs,x,hq,hx⟩:=hg
  obtain ⟨its,rv,p,hz⟩:=I.list hq
  obtain ⟨u,hu,ru⟩:=rv.get hx
  obtain ⟨f0,f1,f2,f3,f4,f5⟩:=hf it (by simp)
  refine wpAny_pyNext_list_item st p.isList (x:=u) (by simpa using hu) fun h' st' sb=>?_
  have I1:Inv X pins σ H { s with heap:=h' }:=I.turned (t':=s.toks) (fun b o hb e=>(sb.2 b hb).trans e) f0 f1 f3 f4 f5
  obtain ⟨o,e,c,d⟩:=id st'
  exact ⟨u,rfl,Qyc (s:={ s with heap:=h' }) e c d (by decide) ⟨x,H,I1,ru,⟨rfl,fun ys hy=>by rw [I.list_inj hy hq]; exact hx⟩,st',fun b hb=>(hf b hb).1⟩⟩
 done:=by
  intro X hP hw hK hc i pins s σ H E I hf st hg
  subst hP hw hK
  obtain ⟨xs,hq,hx⟩:=hg
  obtain ⟨its,rv,p,hz⟩:=I.list hq
  obtain ⟨f0,f1,f2,f3,f4,f5⟩:=hf it (by simp)
  have hl:=rv.length
  exact wpAny_pyNext_list_end (I.ok.hd hc) st p.isList (by simp; omega) fun h' eb=>⟨rfl,I.turned (t':=s.toks) (fun b o hb e=>eb b o hb e) f0 f1 f3 f4 f5⟩
 self:=fun _ _ _ _ _ st h=>wpAny_pyIter_listiter st h
theorem Qsz {P:Program} {w:World} {K:PySem.W.Frag} {tg:Expr} (a it:Addr):Turn P w K tg (Itt K a) [it] it (fun i h=>h.IsTupleIter it a i) where
 mem:=by simp
 obj:=fun i h st b hb=>by
  have e:b = it:=by simpa using hb
  subst e
  obtain ⟨o,e,c,d⟩:=st
  exact ⟨o,e,fun v z=>by rw [d] at z; cases z⟩
 keep:=fun i h h' st k=>st.at fun o e=>k it (by simp) o e
 item:=by
  intro X hP hw hK hc i pins s σ H E I hf st hg
  subst hP hw hK
  obtain ⟨xs,x,hq,hx⟩:=hg
  obtain ⟨its,rv,p,hz⟩:=I.tuple hq
  obtain ⟨u,hu,ru⟩:=rv.get hx
  obtain ⟨f0,f1,f2,f3,f4,f5⟩:=hf it (by simp)
  refine wpAny_pyNext_tuple_item st (show s.heap.IsTuple a its.toArray from p) (x:=u) (by simpa using hu) fun h' st' sb=>?_
  have I1:Inv X pins σ H { s with heap:=h' }:=I.turned (t':=s.toks) (fun b o hb e=>(sb.2 b hb).trans e) f0 f1 f3 f4 f5
  obtain ⟨o,e,c,d⟩:=id st'
  exact ⟨u,rfl,Qyc (s:={ s with heap:=h' }) e c d (by decide) ⟨x,H,I1,ru,⟨rfl,fun ys hy=>by rw [I.tuple_inj hy hq]; exact hx⟩,st',fun b hb=>(hf b hb).1⟩⟩
 done:=by
  intro X hP hw hK hc i pins s σ H E I hf st hg
  subst hP hw hK
  obtain ⟨xs,hq,hx⟩:=hg
  obtain ⟨its,rv,p,hz⟩:=I.tuple hq
  obtain ⟨f0,f1,f2,f3,f4,f5⟩:=hf it (by simp)
  have hl:=rv.length
  exact wpAny_pyNext_tuple_end (I.ok.hd hc) st (show s.heap.IsTuple a its.toArray from p) (by simp; omega) fun h' eb=>⟨rfl,I.turned (t':=s.toks) (fun b o hb e=>eb b o hb e) f0 f1 f3 f4 f5⟩
 self:=fun _ _ _ _ _ st h=>wpAny_pyIter_tupleiter st h
theorem Qs0 {P:Program} {w:World} {K:PySem.W.Frag} {tg:Expr} (it:Addr) (lo:Int) (n:Nat):Turn P w K tg (Itr lo n) [it] it (fun i h=>IsRangeIter h it (lo + (i:Nat) * 1) ((n:Int) - (i:Nat)) 1) where
 mem:=by simp
 obj:=fun i h st b hb=>by
  have e:b = it:=by simpa using hb
  subst e
  exact ⟨_,st,fun v z=>by
   have z':Data.fields _ = Data.cell v:=z
   cases z'⟩
 keep:=fun i h h' st k=>k it (by simp) _ st
 item:=by
  intro X hP hw hK hc i pins s σ H E I hf st hg
  subst hP hw hK
  obtain ⟨f0,f1,f2,f3,f4,f5⟩:=hf it (by simp)
  have W:=Walks.range (prog:=X.prog) (w:=X.w) (I.ok.hd hc) it lo 1 n
  refine W.item i s _ _ hg st fun v h' tk hv st' kk=>?_
  obtain ⟨t,rfl⟩:=hv
  have I1:Inv X pins σ H { s with heap:=h',toks:=tk }:=I.turned (fun b o hb e=>kk b o (by simpa using hb) e) f0 f1 f3 f4 f5
  refine ⟨_,rfl,Qyc (s:={ s with heap:=h',toks:=tk }) (n := "range_iterator") st' rfl rfl (by decide) ⟨.int (lo + i),H,I1,⟨t,?_⟩,⟨rfl,rfl⟩,st',fun b hb=>(hf b hb).1⟩⟩
  rw [Int.mul_one]
 done:=by
  intro X hP hw hK hc i pins s σ H E I hf st hg
  subst hP hw hK
  obtain ⟨f0,f1,f2,f3,f4,f5⟩:=hf it (by simp)
  exact wpAny_pyNext_range_end (I.ok.hd hc) st (by have:n ≤ i:=hg; omega) fun h' eb=>⟨rfl,I.turned (t':=s.toks) (fun b o hb e=>eb b o hb e) f0 f1 f3 f4 f5⟩
 self:=fun _ _ _ _ _ st h=>wpAny_pyIter_rangeiter st h
section
variable {X:Cx} {tg:Expr}
theorem Qyd {pins:List (Addr × Obj)} {σ:St} {H:Hp} {s:Shared} {R:It → Hp → Prop} {E:Value → Shared → Prop} {lo hi:Int} {t u v:Tok} {tk:Nat} (I:Inv X pins σ H s) (h1:-(2 ^ 62) ≤ lo) (h2:lo < 2 ^ 62) (h3:-(2 ^ 62) ≤ hi) (h4:hi < 2 ^ 62)
  (q:R (Itr lo (hi - lo).toNat) H):wpAny (model X.prog X.w) X.A (pyIter (.ref s.heap.objs.size)) (PIE X pins σ tg R) E { s with heap:=s.heap.push { cls:=.type "range",data:=.fields #[.int lo t,.int hi u,.int 1 v] },toks:=tk }:=by
 refine wpAny_pyIter_range (IsRange.new ..) (small_one h1 h2 h3 h4) ?_
 have I1:Inv X pins σ H { s with heap:=s.heap.push { cls:=.type "range",data:=.fields #[.int lo t,.int hi u,.int 1 v] },toks:=tk }:=I.kept fun b o e=>Heap.get?_push_of_some _ e
 refine ⟨(s.heap.push { cls:=.type "range",data:=.fields #[.int lo t,.int hi u,.int 1 v] }).objs.size,[(s.heap.push { cls:=.type "range",data:=.fields #[.int lo t,.int hi u,.int 1 v] }).objs.size],_,_,H,rfl,
  I1.kept (t':=tk) fun b o e=>Heap.get?_push_of_some _ e,Qs0 _ lo (hi - lo).toNat,?_,fun b hb=>?_,q⟩
 ·have e1:lo + ((0:Nat):Int) * 1 = lo:=by simp
  have e2:(((hi - lo).toNat:Nat):Int) - ((0:Nat):Int) = Builtin.Range.rangeSize lo hi 1:=by rw [rangeSize_one]; split <;> omega
  show IsRangeIter _ _ (lo + ((0:Nat):Int) * 1) ((((hi - lo).toNat:Nat):Int) - ((0:Nat):Int)) 1
  rw [e1,e2]
  exact Heap.get?_push_size _ rfl
 ·have e:b = (s.heap.push { cls:=.type "range",data:=.fields #[.int lo t,.int hi u,.int 1 v] }).objs.size:=by simpa using hb
  subst e
  exact I1.fpOk (Nat.le_refl _) (I1.hok.fresh (Nat.le_refl _))
noncomputable def Q5p (ta:TA):TI:=fun σ H R=>ta σ H fun vs H1=>∃ j:Int,vs = [.int j] ∧ -(2 ^ 62) ≤ j ∧ j < 2 ^ 62 ∧ R (Itr 0 j.toNat) H1
theorem Qwr {a:Expr} {ta:TA} {p pos:Pos} (hg:Gl X "range") (hm:X.mg "range" = none) (ha:PA X [a] ta) (hs:starEach [a] X.env = [(false,eval a X.env)]:=by rfl):PI X tg (.Call (.Name "range" p) [a] [] pos) (Q5p ta):=by
 intro pins s σ H R I h
 refine Call_ (Qoz I hg hm boot_range (PyProof.Rows.callWith_type1 (thn (ha pos pins s σ H _ I h) fun us s1 ⟨vs,H1,I1,r1,q1⟩=>?_) hs rfl))
 obtain ⟨j,e,q1,q2,q⟩:=q1
 subst e
 cases r1 with
 | cons r rr =>
  cases rr
  obtain ⟨t,rfl⟩:=r
  exact call_range_1 (Qyd I1 (by omega) (by omega) q1 q2 (by simpa using q))
noncomputable def Q2y (wi:TI) (g:TG) (tb:TS):TS:=fun D σ H=>wi σ H fun J H1=>∃ W:Nat → Nat → St → Hp → Prop,(∃ m,W 0 m σ H1) ∧ ∀ i m σ H,W i m σ H →
 (J.stop i H ∧ D.nx σ H) ∨ (J.go i H ∧ ∃ N:St → Hp → Prop,(∀ σ' H',N σ' H' → ∃ m',m' < m ∧ W (i + 1) m' σ' H') ∧ ∀ x H',J.yld i H x H' → g x σ H' fun σ2 H2=>tb { D with nx:=N,ct:=N,bk:=D.nx } σ2 H2)
noncomputable def Qkx (fp:List Addr) (h:Heap):List (Addr × Obj):=fp.filterMap fun b=>(h.get? b).map fun o=>(b,o)
theorem Qff {fp:List Addr} {h:Heap} {b:Addr} {o:Obj} (hb:b ∈ fp) (e:h.get? b = some o):(b,o) ∈ Qkx fp h:=List.mem_filterMap.mpr ⟨b,hb,by rw [e]; rfl⟩
theorem Qws {fp:List Addr} {h:Heap} {p:Addr × Obj} (hp:p ∈ Qkx fp h):p.1 ∈ fp ∧ h.get? p.1 = some p.2:=by
 obtain ⟨b,hb,e⟩:=List.mem_filterMap.mp hp
 cases q:h.get? b with
 | none=>rw [q] at e; cases e
 | some o =>
  rw [q] at e
  have e':(b,o) = p:=Option.some.inj e
  subst e'
  exact ⟨hb,q⟩
theorem Inv.pinned {pins:List (Addr × Obj)} {σ:St} {H:Hp} {s:Shared} {fp:List Addr} (I:Inv X pins σ H s) (hf:∀ b ∈ fp,Qm2 X pins H b) (ho:∀ b ∈ fp,∃ o,s.heap.get? b = some o ∧ ∀ v,o.data ≠ .cell v):Inv X (pins ++ Qkx fp s.heap) σ H s :=
 I.pins_of fun p hp=>(List.mem_append.mp hp).elim (fun z=>I.pin p (List.mem_append_right _ z)) fun z=>by
  obtain ⟨hb,e⟩:=Qws z
  obtain ⟨f0,f1,f2,_⟩:=hf p.1 hb
  obtain ⟨o,e',d⟩:=ho p.1 hb
  rw [e] at e'; cases e'
  exact ⟨e,f0,f1,f2,d⟩
theorem Inv.unpinned {pins pl:List (Addr × Obj)} {σ:St} {H:Hp} {s:Shared} (I:Inv X (pins ++ pl) σ H s):Inv X pins σ H s:=I.pins_of fun p hp=>I.pin p (List.mem_append_right _ (List.mem_append_left _ hp))
theorem Q7p {iter:Expr} {body:List Stmt} {wi:TI} {g:TG} {tb:TS} {pos:Pos} (hp:PassesOwn (model X.prog X.w) X.A X.env X.xe) (hc:X.calm = true) (hi:PI X tg iter wi) (hg:PG X tg g) (hb:PSs X body tb)
  (hs:∀ x,foldedSetIterable iter X.env x = pure x:=by intro _; rfl):PS X (.For tg iter body [] pos) (Q2y wi g tb):=by
 intro pins s σ H D I h
 refine wpAny_For (thn (hi pins s σ H _ I h) fun v s1 h1=>thn h1 fun itv s2 h2=>?_) hs
 obtain ⟨it,fp,tn,J,H2,e,I2,T,st2,f2,W,⟨m0,w0⟩,turn⟩:=h2
 subst e
 -- what stays true of the iterator's objects through the loop
 have stat:∀ {H':Hp},(∀ b ∈ fp,H' b = none) → ∀ b ∈ fp,Qm2 X pins H' b:=fun hn b hb=>⟨hn b hb,(f2 b hb).2⟩
 refine codeAny_forLoop_any (fun n s'=>∃ i σ' H',Inv X pins σ' H' s' ∧ tn i s'.heap ∧ (∀ b ∈ fp,H' b = none) ∧ W i n σ' H') ?_ m0 ⟨0,σ,H2,I2,st2,fun b hb=>(f2 b hb).1,w0⟩
 rintro n s3 ⟨i,σ3,H3,I3,st3,fr3,w3⟩
 rcases turn i n σ3 H3 w3 with ⟨stop,qn⟩ | ⟨go,N,hN,step⟩
 ·refine wpAny_passesOwn hp (thn (T.done X rfl rfl rfl hc i pins s3 σ3 H3 X.xe I3 (stat fr3) st3 stop) fun r s4 ⟨hr,I4⟩=>?_)
  subst hr
  exact wpAny_execs_nil ⟨σ3,H3,I4,qn⟩
 ·refine wpAny_passesOwn hp (thn (T.item X rfl rfl rfl hc i pins s3 σ3 H3 X.xe I3 (stat fr3) st3 go) fun r s4 ⟨u,hr,h4⟩=>?_)
  subst hr
  refine wpAny_passesOwn hp (thn h4 fun _ s5 ⟨x,H5,I5,r5,y5,st5,fr5⟩=>?_)
  have I5':=I5.pinned (stat fr5) (T.obj _ _ st5)
  refine wpAny_passesOwn hp (thn (hg _ s5 σ3 H5 x u _ I5' r5 (step x H5 y5)) fun _ s6 ⟨σ6,H6,I6,q6⟩=>?_)
  refine wpAny_passesOwn hp (thn (hb _ s6 σ6 H6 _ I6 q6) fun f s7 q7=>?_)
  have again:∀ {σ7:St} {H7:Hp},Inv X (pins ++ Qkx fp s5.heap) σ7 H7 s7 → N σ7 H7 → ∃ m,m < n ∧ ∃ i σ' H',Inv X pins σ' H' s7 ∧ tn i s7.heap ∧ (∀ b ∈ fp,H' b = none) ∧ W i m σ' H':=fun {σ7 H7} I7 n7=>by
   obtain ⟨m',hm,w7⟩:=hN σ7 H7 n7
   refine ⟨m',hm,i + 1,σ7,H7,I7.unpinned,T.keep _ _ _ st5 fun b hb o e=>(I7.pin (b,o) (List.mem_append_right _ (List.mem_append_right _ (Qff hb e)))).1,fun b hb=>?_,w7⟩
   obtain ⟨o,e,d⟩:=T.obj _ _ st5 b hb
   exact (I7.pin (b,o) (List.mem_append_right _ (List.mem_append_right _ (Qff hb e)))).2.1
  cases f with
  | next=>obtain ⟨σ7,H7,I7,n7⟩:=q7; exact again I7 n7
  | cont=>obtain ⟨σ7,H7,I7,n7⟩:=q7; exact again I7 n7
  | brk=>obtain ⟨σ7,H7,I7,q7⟩:=q7; exact ⟨σ7,H7,I7.unpinned,q7⟩
  | ret v=>obtain ⟨x7,σ7,H7,I7,r7,q7⟩:=q7; exact ⟨x7,σ7,H7,I7.unpinned,r7,q7⟩
end
theorem Qye {K:PySem.W.Frag} {a:Addr} {xs:List V} {g:TG} {tb:TS} {D:Ends} {σ:St} {H:Hp} (Pv:Nat → St → Hp → Prop) (h0:Pv 0 σ H) (hl:∀ i σ H,i ≤ xs.length → Pv i σ H → SqL K H a xs)
  (hs:∀ i x σ H,xs[i]? = some x → Pv i σ H → g x σ H fun σ2 H2=>tb { D with nx:=Pv (i + 1),ct:=Pv (i + 1),bk:=D.nx } σ2 H2) (hd:∀ σ H,Pv xs.length σ H → D.nx σ H) :
  ∃ W:Nat → Nat → St → Hp → Prop,(∃ m,W 0 m σ H) ∧ ∀ i m σ H,W i m σ H →
   ((Itl K a).stop i H ∧ D.nx σ H) ∨ ((Itl K a).go i H ∧ ∃ N:St → Hp → Prop,(∀ σ' H',N σ' H' → ∃ m',m' < m ∧ W (i + 1) m' σ' H') ∧ ∀ x H',(Itl K a).yld i H x H' → g x σ H' fun σ2 H2=>tb { D with nx:=N,ct:=N,bk:=D.nx } σ2 H2):=by
 refine ⟨fun i m σ H=>m = xs.length - i ∧ i ≤ xs.length ∧ Pv i σ H,⟨xs.length,by simp,Nat.zero_le _,h0⟩,?_⟩
 rintro i m σ H ⟨rfl,hi,p⟩
 have q:=hl i σ H hi p
 by_cases hlt:i < xs.length
 ·refine .inr ⟨⟨xs,xs[i],q,by simp [hlt]⟩,Pv (i + 1),fun σ' H' p'=>⟨xs.length - (i + 1),by omega,rfl,hlt,p'⟩,fun x H' y=>?_⟩
  obtain ⟨e,y⟩:=y
  subst e
  exact hs i x σ _ (y xs q) p
 ·have e:i = xs.length:=by omega
  subst e
  exact .inl ⟨⟨xs,q,Nat.le_refl _⟩,hd σ H p⟩
noncomputable abbrev R2:=V → V → Hp → VK → Prop
noncomputable def OpR (X:Cx) (f:Value → Value → Sem Value) (r:R2):Prop :=
 ∀ (pins:List (Addr × Obj)) (s:Shared) (σ:St) (H:Hp) (x y:V) (v u:Value) (Q:VK),Inv X pins σ H s → RelV x v → RelV y u → r x y H Q →
  wpAny (model X.prog X.w) X.A (f v u) (EP X pins σ Q) X.xe s
noncomputable def UnR (X:Cx) (f:Value → Sem Value) (r:V → Hp → VK → Prop):Prop :=
 ∀ (pins:List (Addr × Obj)) (s:Shared) (σ:St) (H:Hp) (x:V) (v:Value) (Q:VK),Inv X pins σ H s → RelV x v → r x H Q →
  wpAny (model X.prog X.w) X.A (f v) (EP X pins σ Q) X.xe s
noncomputable def CallR (X:Cx) (f:Value) (r:List V → Hp → VK → Prop):Prop :=
 ∀ (pins:List (Addr × Obj)) (s:Shared) (σ:St) (H:Hp) (xs:List V) (us:List Value) (Q:VK),Inv X pins σ H s → Vals xs us → r xs H Q →
  wpAny (model X.prog X.w) X.A (call f us) (EP X pins σ Q) X.xe s
noncomputable abbrev tOp (r:R2) (ta tb:TE):TE:=fun σ H Q=>ta σ H fun x H1=>tb σ H1 fun y H2=>r x y H2 Q
noncomputable abbrev tUn (r:V → Hp → VK → Prop) (ta:TE):TE:=fun σ H Q=>ta σ H fun x H1=>r x H1 Q
noncomputable def rI (C:Int → Int → Prop) (g:Int → Int → V):R2:=fun x y H Q=>∃ i j,x = .int i ∧ y = .int j ∧ C i j ∧ Q (g i j) H
noncomputable def rI0 (g:Int → Int → V):R2:=fun x y H Q=>∃ i j,x = .int i ∧ y = .int j ∧ Q (g i j) H
noncomputable def rU (g:Int → V):V → Hp → VK → Prop:=fun x H Q=>∃ i,x = .int i ∧ Q (g i) H
section
variable {X:Cx} {a b c:Expr} {ta tb tc:TE} {pos:Pos}
theorem Q7q (ha:PE X a ta) (hb:PE X b tb) {pins:List (Addr × Obj)} {s:Shared} {σ:St} {H:Hp} {R:V → V → Hp → Prop} (I:Inv X pins σ H s)
  (h:ta σ H fun x H1=>tb σ H1 fun y H2=>R x y H2) {Q:Value → Shared → Prop} {f:Value → Value → Sem Value}
  (hf:∀ v u s2 x y H2,Inv X pins σ H2 s2 → RelV x v → RelV y u → R x y H2 → wpAny (model X.prog X.w) X.A (f v u) Q X.xe s2) :
  wpAny (model X.prog X.w) X.A (eval a X.env) (fun v s₁=>wpAny (model X.prog X.w) X.A (eval b X.env) (fun u s₂=>wpAny (model X.prog X.w) X.A (f v u) Q X.xe s₂) X.xe s₁) X.xe s:=by
 refine thn (ha pins s σ H _ I h) fun v s1 ⟨x,H1,I1,r1,q1⟩=>?_
 refine thn (hb pins s1 σ H1 _ I1 q1) fun u s2 ⟨y,H2,I2,r2,q2⟩=>?_
 exact hf v u s2 x y H2 I2 r1 r2 q2
theorem Qabk {op:Operator} {r:R2} (ho:OpR X (binaryOp op) r) (ha:PE X a ta) (hb:PE X b tb):PE X (.BinOp a op b pos) (tOp r ta tb):=by
 intro pins s σ H Q I h
 exact wpAny_BinOp (Q7q ha hb I h fun v u s2 x y H2 I2 rx ry q=>ho pins s2 σ H2 x y v u Q I2 rx ry q)
theorem Qabl {op:UnaryOp} {r:V → Hp → VK → Prop} (ho:UnR X (unaryOp op) r) (ha:PE X a ta):PE X (.UnaryOp op a pos) (tUn r ta):=by
 intro pins s σ H Q I h
 exact UnaryOp_ (thn (ha pins s σ H _ I h) fun v s1 ⟨x,H1,I1,r1,q1⟩=>ho pins s1 σ H1 x v Q I1 r1 q1)
theorem opI {f:Value → Value → Sem Value} {C:Int → Int → Prop} {g:Int → Int → Int}
  (rule:∀ (i j:Int) (t u:Tok) (s:Shared) (Q:Value → Shared → Prop) (E:Value → Shared → Prop),C i j → Q (.int (g i j) s.toks) { s with toks:=s.toks + 1 } → wpAny (model X.prog X.w) X.A (f (.int i t) (.int j u)) Q E s) :
  OpR X f (rI C fun i j=>.int (g i j)):=by
 intro pins s σ H x y v u Q I rx ry h
 obtain ⟨i,j,rfl,rfl,hc,q⟩:=h
 obtain ⟨t,rfl⟩:=rx
 obtain ⟨t',rfl⟩:=ry
 exact rule i j t t' s _ _ hc ⟨.int (g i j),H,I.tok _,⟨_,rfl⟩,q⟩
theorem opI0 {f:Value → Value → Sem Value} {g:Int → Int → Int}
  (rule:∀ (i j:Int) (t u:Tok) (s:Shared) (Q:Value → Shared → Prop) (E:Value → Shared → Prop),Q (.int (g i j) s.toks) { s with toks:=s.toks + 1 } → wpAny (model X.prog X.w) X.A (f (.int i t) (.int j u)) Q E s) :
  OpR X f (rI0 fun i j=>.int (g i j)):=by
 intro pins s σ H x y v u Q I rx ry h
 obtain ⟨i,j,rfl,rfl,q⟩:=h
 obtain ⟨t,rfl⟩:=rx
 obtain ⟨t',rfl⟩:=ry
 exact rule i j t t' s _ _ ⟨.int (g i j),H,I.tok _,⟨_,rfl⟩,q⟩
theorem Q2z {f:Value → Value → Sem Value} {g:Int → Int → Bool}
  (rule:∀ (i j:Int) (t u:Tok) (s:Shared) (Q:Value → Shared → Prop) (E:Value → Shared → Prop),Q (.bool (g i j)) s → wpAny (model X.prog X.w) X.A (f (.int i t) (.int j u)) Q E s) :
  OpR X f (rI0 fun i j=>.bl (g i j)):=by
 intro pins s σ H x y v u Q I rx ry h
 obtain ⟨i,j,rfl,rfl,q⟩:=h
 obtain ⟨t,rfl⟩:=rx
 obtain ⟨t',rfl⟩:=ry
 exact rule i j t t' s _ _ ⟨.bl (g i j),H,I,rfl,q⟩
noncomputable def Q7r (i j:Int):Prop:=0 ≤ j ∧ j ≤ 1000000 ∧ i.natAbs < 2 ^ 64
noncomputable def CMul (i j:Int):Prop:=(-(2 ^ 64) < i ∧ i < 2 ^ 64) ∨ (-(2 ^ 64) < j ∧ j < 2 ^ 64)
theorem CMul.ok {i j:Int} (h:CMul i j):IntMulOk i j:=by
 rcases h with ⟨h1,h2⟩ | ⟨h1,h2⟩
 ·exact .of_left (intBits_le_64 h1 h2)
 ·exact .of_right (intBits_le_64 h1 h2)
theorem Q7s:OpR X (binaryOp .Add) (rI0 fun i j=>.int (i + j)):=opI0 fun _ _ _ _ _ _ _ q=>add_int q
theorem Q7t:OpR X (binaryOp .Sub) (rI0 fun i j=>.int (i - j)):=opI0 fun _ _ _ _ _ _ _ q=>sub_int q
theorem Q7u:OpR X (binaryOp .Mult) (rI CMul fun i j=>.int (i * j)):=opI fun _ _ _ _ _ _ _ hc q=>mul_int q hc.ok
theorem Q20:OpR X (binaryOp .Mod) (rI (fun _ j=>j ≠ 0) fun i j=>.int (i.fmod j)):=opI fun _ _ _ _ _ _ _ hc q=>mod_int' hc q
theorem Q7v:OpR X (binaryOp .Pow) (rI Q7r fun i j=>.int (i ^ j.toNat)):=opI fun _ _ _ _ _ _ _ hc q=>pow_int_small hc.1 hc.2.1 hc.2.2 q
theorem unI {f:Value → Sem Value} {g:Int → Int}
  (rule:∀ (i:Int) (t:Tok) (s:Shared) (Q:Value → Shared → Prop) (E:Value → Shared → Prop),Q (.int (g i) s.toks) { s with toks:=s.toks + 1 } → wpAny (model X.prog X.w) X.A (f (.int i t)) Q E s) :
  UnR X f (rU fun i=>.int (g i)):=by
 intro pins s σ H x v Q I rx h
 obtain ⟨i,rfl,q⟩:=h
 obtain ⟨t,rfl⟩:=rx
 exact rule i t s _ _ ⟨.int (g i),H,I.tok _,⟨_,rfl⟩,q⟩
theorem Q7w:UnR X (unaryOp .USub) (rU fun i=>.int (-i)):=unI fun _ _ _ _ _ q=>neg_int q
end
noncomputable def Q7x:V → V → Bool
 | .non,.non=>true | .non,.int _=>true | .int _,.non=>true | .non,.bl _=>true | .bl _,.non=>true | .non,.str _=>true | .str _,.non=>true
 | .int _,.int _=>true | .bl _,.bl _=>true | .str _,.str _=>true | .byt _,.byt _=>true
 | .int _,.str _=>true | .str _,.int _=>true | .bl _,.str _=>true | .str _,.bl _=>true
 | _,_=>false
noncomputable def rEq:R2:=fun x y H Q=>Q7x x y = true ∧ Q (.bl (decide (x = y))) H
noncomputable def rNe:R2:=fun x y H Q=>Q7x x y = true ∧ Q (.bl (!decide (x = y))) H
theorem Qus {i j:Int}:decide (V.int i = V.int j) = (i == j):=by
 rw [Bool.eq_iff_iff]
 simp
theorem Qyf {i j:Bool}:decide (V.bl i = V.bl j) = (i == j):=by
 rw [Bool.eq_iff_iff]
 simp
theorem Qut {i j:Str}:decide (V.str i = V.str j) = (i == j):=by
 rw [Bool.eq_iff_iff]
 simp
theorem Quu {i j:Array UInt8}:decide (V.byt i = V.byt j) = (i.toList == j.toList):=by
 rw [Bool.eq_iff_iff]
 cases i
 cases j
 simp
section
variable {X:Cx} {a b c:Expr} {ta tb tc:TE} {pos:Pos}
theorem Qaq {pins:List (Addr × Obj)} {σ:St} {H:Hp} {s:Shared} {Q:VK} {k k':Bool} (I:Inv X pins σ H s) (q:Q (.bl k) H) (e:k = k'):EP X pins σ Q (.bool k') s:=by
 subst e
 exact ⟨.bl k,H,I,rfl,q⟩
theorem Qabn:OpR X (compareOp .Eq) rEq:=by
 intro pins s σ H x y v u Q I rx ry h
 obtain ⟨hs,q⟩:=h
 cases x with
 | non =>
  cases rx
  cases y with
  | non=>cases ry; exact PySem.EqNone.eq_none_none (Qaq I q (by simp))
  | bl j=>cases ry; exact PySem.EqNone.eq_none_bool (Qaq I q (by simp))
  | int j=>obtain ⟨t',rfl⟩:=ry; exact PySem.EqNone.eq_none_int (Qaq I q (by simp))
  | str j=>obtain ⟨t',rfl⟩:=ry; exact PySem.EqNone.eq_none_str (Qaq I q (by simp))
  | _=>exact absurd (show false = true from hs) Bool.false_ne_true
 | bl i =>
  cases rx
  cases y with
  | non=>cases ry; exact PySem.EqNone.eq_bool_none (Qaq I q (by simp))
  | bl j=>cases ry; exact eq_bool (Qaq I q Qyf)
  | str j=>obtain ⟨t',rfl⟩:=ry; exact PySem.EqMixed.eq_bool_str (Qaq I q (by simp))
  | _=>exact absurd (show false = true from hs) Bool.false_ne_true
 | int i =>
  obtain ⟨t,rfl⟩:=rx
  cases y with
  | non=>cases ry; exact PySem.EqNone.eq_int_none (Qaq I q (by simp))
  | int j=>obtain ⟨t',rfl⟩:=ry; exact eq_int (Qaq I q Qus)
  | str j=>obtain ⟨t',rfl⟩:=ry; exact PySem.EqMixed.eq_int_str (Qaq I q (by simp))
  | _=>exact absurd (show false = true from hs) Bool.false_ne_true
 | str i =>
  obtain ⟨t,rfl⟩:=rx
  cases y with
  | non=>cases ry; exact PySem.EqNone.eq_str_none (Qaq I q (by simp))
  | bl j=>cases ry; exact PySem.EqMixed.eq_str_bool (Qaq I q (by simp))
  | int j=>obtain ⟨t',rfl⟩:=ry; exact PySem.EqMixed.eq_str_int (Qaq I q (by simp))
  | str j=>obtain ⟨t',rfl⟩:=ry; exact eq_str (Qaq I q Qut)
  | _=>exact absurd (show false = true from hs) Bool.false_ne_true
 | byt i =>
  obtain ⟨t,rfl⟩:=rx
  cases y with
  | byt j=>obtain ⟨t',rfl⟩:=ry; exact PySem.W.eq_bytes (Qaq I q Quu)
  | _=>exact absurd (show false = true from hs) Bool.false_ne_true
 | _=>cases y <;> exact absurd (show false = true from hs) Bool.false_ne_true
theorem Qabo:OpR X (compareOp .NotEq) rNe:=by
 intro pins s σ H x y v u Q I rx ry h
 obtain ⟨hs,q⟩:=h
 cases x with
 | non =>
  cases rx
  cases y with
  | non=>cases ry; exact PySem.EqNone.ne_none_none (Qaq I q (by simp))
  | bl j=>cases ry; exact PySem.EqNone.ne_none_bool (Qaq I q (by simp))
  | int j=>obtain ⟨t',rfl⟩:=ry; exact PySem.EqNone.ne_none_int (Qaq I q (by simp))
  | str j=>obtain ⟨t',rfl⟩:=ry; exact PySem.EqNone.ne_none_str (Qaq I q (by simp))
  | _=>exact absurd (show false = true from hs) Bool.false_ne_true
 | bl i =>
  cases rx
  cases y with
  | non=>cases ry; exact PySem.EqNone.ne_bool_none (Qaq I q (by simp))
  | bl j=>cases ry; exact ne_bool (Qaq I q (congrArg not Qyf))
  | str j=>obtain ⟨t',rfl⟩:=ry; exact PySem.EqMixed.ne_bool_str (Qaq I q (by simp))
  | _=>exact absurd (show false = true from hs) Bool.false_ne_true
 | int i =>
  obtain ⟨t,rfl⟩:=rx
  cases y with
  | non=>cases ry; exact PySem.EqNone.ne_int_none (Qaq I q (by simp))
  | int j=>obtain ⟨t',rfl⟩:=ry; exact ne_int (Qaq I q (congrArg not Qus))
  | str j=>obtain ⟨t',rfl⟩:=ry; exact PySem.EqMixed.ne_int_str (Qaq I q (by simp))
  | _=>exact absurd (show false = true from hs) Bool.false_ne_true
 | str i =>
  obtain ⟨t,rfl⟩:=rx
  cases y with
  | non=>cases ry; exact PySem.EqNone.ne_str_none (Qaq I q (by simp))
  | bl j=>cases ry; exact PySem.EqMixed.ne_str_bool (Qaq I q (by simp))
  | int j=>obtain ⟨t',rfl⟩:=ry; exact PySem.EqMixed.ne_str_int (Qaq I q (by simp))
  | str j=>obtain ⟨t',rfl⟩:=ry; exact ne_str (Qaq I q (congrArg not Qut))
  | _=>exact absurd (show false = true from hs) Bool.false_ne_true
 | byt i =>
  obtain ⟨t,rfl⟩:=rx
  cases y with
  | byt j=>obtain ⟨t',rfl⟩:=ry; exact PySem.W.ne_bytes (Qaq I q (congrArg not Quu))
  | _=>exact absurd (show false = true from hs) Bool.false_ne_true
 | _=>cases y <;> exact absurd (show false = true from hs) Bool.false_ne_true
theorem Qabp:OpR X (compareOp .Lt) (rI0 fun i j=>.bl (decide (i < j))):=Q2z fun _ _ _ _ _ _ _ q=>lt_int q
theorem Qabq:OpR X (compareOp .LtE) (rI0 fun i j=>.bl (decide (i ≤ j))):=Q2z fun _ _ _ _ _ _ _ q=>le_int q
theorem Qabr:OpR X (compareOp .Gt) (rI0 fun i j=>.bl (decide (j < i))):=Q2z fun _ _ _ _ _ _ _ q=>gt_int q
theorem Qabs:OpR X (compareOp .GtE) (rI0 fun i j=>.bl (decide (j ≤ i))):=Q2z fun _ _ _ _ _ _ _ q=>ge_int q
theorem Q7y:OpR X (compareOp .Is) (fun x y H Q=>y = .non ∧ Q (.bl (decide (x = .non))) H):=by
 intro pins s σ H x y v u Q I rx ry h
 obtain ⟨rfl,q⟩:=h
 cases ry
 refine is_none_gen (Qaq I q ?_)
 cases x <;> first
  | (cases rx; rfl)
  | (obtain ⟨t,rfl⟩:=rx; rfl)
theorem Q21:OpR X (compareOp .IsNot) (fun x y H Q=>y = .non ∧ Q (.bl (!decide (x = .non))) H):=by
 intro pins s σ H x y v u Q I rx ry h
 obtain ⟨rfl,q⟩:=h
 cases ry
 refine isnot_none_gen (Qaq I q ?_)
 cases x <;> first
  | (cases rx; rfl)
  | (obtain ⟨t,rfl⟩:=rx; rfl)
theorem OpR.or {f:Value → Value → Sem Value} {r r':R2} (h:OpR X f r) (h':OpR X f r'):OpR X f (fun x y H Q=>r x y H Q ∨ r' x y H Q):=by
 intro pins s σ H x y v u Q I rx ry q
 rcases q with q | q
 ·exact h pins s σ H x y v u Q I rx ry q
 ·exact h' pins s σ H x y v u Q I rx ry q
theorem Q7z (b:Expr) {op:CmpOp} (h:op ≠ .In:=by decide) (h2:op ≠ .NotIn:=by decide):behindInMarks op b = false:=by
 have e1:(op == CmpOp.In) = false:=by cases op <;> first | rfl | exact absurd rfl h
 have e2:(op == CmpOp.NotIn) = false:=by cases op <;> first | rfl | exact absurd rfl h2
 cases b <;> simp [behindInMarks,e1,e2]
theorem Q22 {op:CmpOp} {r:R2} (ho:OpR X (compareOp op) r) (ha:PE X a ta) (hb:PE X b tb) (hm:behindInMarks op b = false):PE X (.Compare a [op] [b] pos) (tOp r ta tb):=by
 intro pins s σ H Q I h
 exact wpAny_Compare1 (Q7q ha hb I h fun v u s2 x y H2 I2 rx ry q=>ho pins s2 σ H2 x y v u Q I2 rx ry q) hm
noncomputable abbrev Q5q (t:TE):TT:=fun σ H Q=>t σ H fun x H'=>∃ k,x = .bl k ∧ Q k H'
theorem Q23 {op:CmpOp} {r:R2} (ho:OpR X (compareOp op) r) (ha:PE X a ta) (hb:PE X b tb) (hm:behindInMarks op b = false):PT X (.Compare a [op] [b] pos) (Q5q (tOp r ta tb)):=by
 intro pins s σ H Q I h
 refine wpAny_isTrue_Compare1 (thn (ha pins s σ H _ I h) fun v s1 ⟨x,H1,I1,r1,q1⟩=>thn (hb pins s1 σ H1 _ I1 q1) fun u s2 ⟨y,H2,I2,r2,q2⟩ =>
  thn (ho pins s2 σ H2 x y v u _ I2 r1 r2 q2) fun c s3 ⟨z,H3,I3,r3,k,e,q3⟩=>?_) hm
 subst e
 cases r3
 exact wpAny_truthy_bool ⟨H3,I3,q3⟩
theorem Qky:(sizeLine:Nat) < 2 ^ 63:=by rw [sizeLine_eq]; decide
theorem Qe9 {x:V} {us:List Value} (r:Vals [x] us):∃ u,us = [u] ∧ RelV x u:=by
 cases r with
 | cons r1 r2=>cases r2; exact ⟨_,rfl,r1⟩
theorem Qyg {x y:V} {us:List Value} (r:Vals [x,y] us):∃ u w',us = [u,w'] ∧ RelV x u ∧ RelV y w':=by
 cases r with
 | cons r1 r2 =>
  cases r2 with
  | cons r3 r4=>cases r4; exact ⟨_,_,rfl,r1,r3⟩
theorem Qyh:CallR X (.builtin "abs") (fun xs H Q=>∃ i,xs = [.int i] ∧ Q (.int (if i < 0 then -i else i)) H):=by
 intro pins s σ H xs us Q I r h
 obtain ⟨i,rfl,q⟩:=h
 obtain ⟨u,rfl,t,rfl⟩:=Qe9 r
 exact call_abs_int fun u tk=>⟨.int (if i < 0 then -i else i),H,I.tok _,⟨_,rfl⟩,q⟩
theorem Qwt (hc:X.calm = true):CallR X (.builtin "max") (fun xs H Q=>∃ i j,xs = [.int i,.int j] ∧ Q (.int (if j > i then j else i)) H):=by
 intro pins s σ H xs us Q I r h
 obtain ⟨i,j,rfl,q⟩:=h
 obtain ⟨u,w',rfl,⟨t,rfl⟩,⟨t',rfl⟩⟩:=Qyg r
 refine max_two_ints (I.ok.hd hc) fun h' tk k=>⟨_,H,I.kept k,?_,q⟩
 by_cases hj:j > i
 ·rw [if_pos hj,if_pos hj]; exact ⟨_,rfl⟩
 ·rw [if_neg hj,if_neg hj]; exact ⟨_,rfl⟩
theorem Qwu:CallR X (.type "int") (fun xs H Q=>(∃ i,xs = [.int i] ∧ Q (.int i) H) ∨ ∃ k,xs = [.bl k] ∧ Q (.int (if k then 1 else 0)) H):=by
 intro pins s σ H xs us Q I r h
 rcases h with ⟨i,rfl,q⟩ | ⟨k,rfl,q⟩
 ·obtain ⟨u,rfl,t,rfl⟩:=Qe9 r
  exact call_int_int ⟨.int i,H,I,⟨_,rfl⟩,q⟩
 ·obtain ⟨u,rfl,r1⟩:=Qe9 r
  cases r1
  exact call_int_bool ⟨.int (if k then 1 else 0),H,I.tok _,⟨_,rfl⟩,q⟩
end
structure ObjM (h:Heap) (x dx C:Addr) (mA:Str → Option Value):Prop where
 obj:h.get? x = some (PySem.W.instObj C dx)
 ns:h.Ns1 dx mA
 ne:dx ≠ x
theorem Qwv {h:Heap} {dx:Addr} {mA:Str → Option Value} (n:h.Ns1 dx mA):∃ od,h.get? dx = some od ∧ ∀ name,PySem.W.lookIn name od = some (mA name):=by
 obtain ⟨o,es,ep,ho,hd,hk,_,hm⟩:=n
 refine ⟨o,ho,fun name=>?_⟩
 have e:=hm name
 unfold nsFind findBy at e
 rw [← Array.find?_toList] at e
 unfold PySem.W.lookIn
 rw [hd]
 dsimp only
 split
 ·rename_i y q
  rw [q] at e
  exact congrArg some e
 ·rename_i q
  rw [q] at e
  have a:es.toList.any (·.refKey) = false:=by
   rw [List.any_eq_false]
   intro y hy
   obtain ⟨z,t,hkey⟩:=hk y (Array.mem_toList_iff.mp hy)
   simp [DictEntry.refKey,hkey]
  have a':¬ es.toList.any (·.refKey) = true:=by rw [a]; exact Bool.false_ne_true
  rw [if_neg a']
  exact congrArg some e
theorem ObjM.look {h:Heap} {x dx C:Addr} {mA:Str → Option Value} (I:ObjM h x dx C mA):∃ od,PySem.W.InstAt h x (PySem.W.instObj C dx) C (some od) ∧ ∀ name,PySem.W.lookIn name od = some (mA name) :=
 let ⟨od,ho,hl⟩:=Qwv I.ns
 ⟨od,⟨I.obj,rfl,rfl,ho⟩,hl⟩
section
variable {prog:Program} {w:World} {A:Around} {E:Value → Shared → Prop} {s:Shared} {K:PySem.W.Frag} {x dx C f:Addr} {mA:Str → Option Value} {name:Str} {v:Value}
end
theorem RelO.some_of {v:V} {o:Option Value} (r:RelO (some v) o):∃ u,o = some u ∧ RelV v u:=by
 cases o with
 | none=>exact (show False from r).elim
 | some u=>exact ⟨u,rfl,r⟩
section
variable {P:Program} {w:World} {H H':Hp} {h h':Heap} {a C dx:Addr} {fs fs':List (Str × V)}
theorem Q24 (hok:HOk P w H h) (e:H a = some (.ins C dx fs)):∃ mA,ObjM h a dx C mA ∧ (∀ f,RelO (fs.lookup f) (mA f)) ∧ PySem.Within mA (fs.map (·.1)) ∧ fs.length ≤ 1000 ∧ H dx = some (.own a):=by
 obtain ⟨d,z,ne,ob,mA,n,r,q⟩:=(show ObjOk P w H h a (.ins C dx fs) from hok a _ e)
 exact ⟨mA,⟨ob,n,ne⟩,r,q,z,d⟩
end
structure Cls (K:PySem.W.Frag) (C:Addr):Prop where
 pg:PySem.W.plainGet K C Str.empty = true
 hd:PySem.W.hasDictIn K C = true
 po:PySem.W.plainOver K C = true
 sa:PySem.W.findIn K (.ref C) "__setattr__" = some (some (.builtin "object.__setattr__"))
theorem Cls.get {K:PySem.W.Frag} {C:Addr} (c:Cls K C) (f:Str):PySem.W.plainGet K C f = true:=c.pg
structure Con (K:PySem.W.Frag) (C:Addr) (f:Str) (v:V) (u:Value):Prop where
 at_:PySem.W.findIn K (.ref C) f = some (some u)
 rel:RelV v u
 get:PySem.W.specialIn K u "__get__" = some none
 cp:PySem.W.copiedNames.contains f = false
structure Meth (K:PySem.W.Frag) (C:Addr) (m:Str) (f:Addr):Prop where
 at_:PySem.W.findIn K (.ref C) m = some (some (.ref f))
 fn:PySem.W.isFn K (.ref f) = true
 kp:PySem.W.keepIn K (.ref f) = true
section
variable {X:Cx} {pins:List (Addr × Obj)} {σ:St} {H:Hp} {s:Shared} {a C dx:Addr} {fs:List (Str × V)} {f:Str} {v:V} {A:Around} {E:Value → Shared → Prop}
end
section
variable {X:Cx} {o e value:Expr} {f:Str} {pos pos' tpos:Pos} {ta tv:TE}
end
section
variable {X:Cx} {pins:List (Addr × Obj)} {σ:St} {H:Hp} {s:Shared} {A:Around} {E:Value → Shared → Prop} {Q:Value → Shared → Prop} {c:Value} {b:Bool}
inductive TyOf (K:PySem.W.Frag) (H:Hp):V → Value → Prop where
 | non:TyOf K H .non (.type "NoneType")
 | bl (x:Bool):TyOf K H (.bl x) (.type "bool")
 | int (i:Int):TyOf K H (.int i) (.type "int")
 | str (x:Str):TyOf K H (.str x) (.type "str")
 | flt (x:UInt64):TyOf K H (.flt x) (.type "float")
 | lst {a:Addr} {xs:List V} (e:H a = some (.lst xs)):TyOf K H (.ref a) (.type "list")
 | frz {a:Addr} {o:Obj} {xs:List V} (e:H a = some (.frz o (.lst xs))):TyOf K H (.ref a) (.type "list")
 | tup {a:Addr} {xs:List V} (e:H a = some (.tup xs)):TyOf K H (.ref a) (.type "tuple")
 | dK {a:Addr} {kvs:List (Key × V)} (e:H a = some (.dK kvs)):TyOf K H (.ref a) (.type "dict")
 | dT {a:Addr} {kvs:List (List Key × V)} (e:H a = some (.dT kvs)):TyOf K H (.ref a) (.type "dict")
 | ins {a C dx:Addr} {fs:List (Str × V)} (e:H a = some (.ins C dx fs)) (cl:Cls K C) (ha:PySem.W.findIn K (.ref C) "__class__" = some (some (.builtin "object.__class__")))
   (hn:PySem.W.specialIn K (.builtin "object.__class__") "__get__" = some (some (.builtin "getset_descriptor.__get__"))) (htk:PySem.W.takesIn K (.builtin "object.__class__") = some true)
   (hm:PySem.W.mroIn K C (.type "object") = some true):TyOf K H (.ref a) (.ref C)
theorem Qww {x:V} {u t:Value} (I:Inv X pins σ H s) (rx:RelV x u) (ty:TyOf X.K H x t) (e:PySem.W.kitOne X.K t c = some b) (h:∀ tk,Q (.bool b) { s with toks:=tk }) :
  wpAny (model X.prog X.w) A (call (.builtin "isinstance") [u,c]) Q E s:=by
 cases ty with
 | non=>cases (show u = Value.none from rx); exact PySem.W.kia_one PySem.W.kitx_none I.kIn True.intro e (fun z=>nomatch z) h
 | bl y=>cases (show u = Value.bool y from rx); exact PySem.W.kia_one PySem.W.kitx_bool I.kIn True.intro e (fun z=>nomatch z) h
 | int i=>obtain ⟨t,q⟩:=(show ∃ t,u = Value.int i t from rx); cases q; exact PySem.W.kia_one PySem.W.kitx_int I.kIn True.intro e (fun z=>nomatch z) h
 | str y=>obtain ⟨t,q⟩:=(show ∃ t,u = Value.str y t from rx); cases q; exact PySem.W.kia_one PySem.W.kitx_str I.kIn True.intro e (fun z=>nomatch z) h
 | flt y=>obtain ⟨t,q⟩:=(show ∃ t,u = Value.float y t from rx); cases q; exact PySem.W.kia_one PySem.W.kitx_float I.kIn True.intro e (fun z=>nomatch z) h
 | @lst a xs ea =>
  cases (show u = Value.ref a from rx)
  obtain ⟨_,_,n,_,h1⟩:=(show ObjOk X.prog X.w H s.heap a (.lst xs) from I.hok a _ ea)
  exact PySem.W.kia_one PySem.W.kitx_list I.kIn ⟨_,h1,rfl⟩ e (fun z=>nomatch z) h
 | @frz a ob xs ea =>
  cases (show u = Value.ref a from rx)
  obtain ⟨_,_,_,n,_,h1⟩:=(show ObjOk X.prog X.w H s.heap a (.frz ob (.lst xs)) from I.hok a _ ea)
  exact PySem.W.kia_one PySem.W.kitx_list I.kIn ⟨_,h1,rfl⟩ e (fun z=>nomatch z) h
 | @tup a xs ea =>
  cases (show u = Value.ref a from rx)
  obtain ⟨_,_,_,p⟩:=(show ObjOk X.prog X.w H s.heap a (.tup xs) from I.hok a _ ea)
  obtain ⟨o,h1,h2,_⟩:=p
  exact PySem.W.kia_one PySem.W.kitx_tuple I.kIn ⟨o,h1,h2⟩ e (fun z=>nomatch z) h
 | @dK a kvs ea =>
  cases (show u = Value.ref a from rx)
  obtain ⟨_,_,vs,_,p⟩:=(show ObjOk X.prog X.w H s.heap a (.dK kvs) from I.hok a _ ea)
  obtain ⟨o,es,ep,h1,h2,_⟩:=p
  exact PySem.W.kia_one PySem.W.kitx_dict I.kIn ⟨o,h1,h2.1⟩ e (fun z=>nomatch z) h
 | @dT a kvs ea =>
  cases (show u = Value.ref a from rx)
  obtain ⟨_,_,xs,_,o,es,ep,h1,h2,_⟩:=(show ObjOk X.prog X.w H s.heap a (.dT kvs) from I.hok a _ ea)
  exact PySem.W.kia_one PySem.W.kitx_dict I.kIn ⟨o,h1,h2.1⟩ e (fun z=>nomatch z) h
 | @ins a C dx fs ea cl ha hn htk hm =>
  cases (show u = Value.ref a from rx)
  obtain ⟨mA,O,_⟩:=Q24 I.hok ea
  obtain ⟨od,J,_⟩:=O.look
  exact PySem.W.kia_one (PySem.W.kitx_own (cl.get _) cl.hd ha hn htk hm) I.kIn J e (fun z=>nomatch z) h
end
structure Room (k:Nat) (A:Around):Prop where
 hd:A.handled = none
 dp:A.depth + 3 * k + 5 < recursionLimit
 un:A.units + 16 * k + 200 < cLine
 gd:A.guards = some []
theorem Room.mono {j k:Nat} {A:Around} (r:Room k A) (h:j ≤ k):Room j A:=⟨r.hd,by have:=r.dp; omega,by have:=r.un; omega,r.gd⟩
theorem Room.deeper {k:Nat} {A:Around} (r:Room (k + 1) A) (env:Env):Room k (A.deeper env) :=
 ⟨r.hd,by have:=r.dp; show A.depth + 1 + 3 * k + 5 < _; omega,by have:=r.un; show A.units + 3 + 16 * k + 200 < _; omega,r.gd⟩
theorem Room.depth {k:Nat} {A:Around} (r:Room k A):A.depth < recursionLimit:=by have:=r.dp; omega
theorem Room.units {k:Nat} {A:Around} (r:Room k A):A.units + 64 < cLine:=by have:=r.un; omega
noncomputable abbrev Qwx:TA:=fun _ H Q=>Q [] H
noncomputable abbrev Qj5 (ta:TE) (tr:TA):TA:=fun σ H Q=>ta σ H fun x H1=>tr σ H1 fun xs H2=>Q (x :: xs) H2
section
variable {X:Cx} {e:Expr} {es:List Expr} {te:TE} {t:TA} {pos:Pos}
theorem Q70:PA X [] Qwx:=fun _ _ _ _ H Q I h=>Calls.spliced_nil ⟨[],H,I,.nil,h⟩
theorem Q25 (ha:PE X e te) (hr:PA X es t) (hs:starEach (e :: es) X.env = (false,eval e X.env) :: starEach es X.env:=by rfl):PA X (e :: es) (Qj5 te t):=by
 intro pos pins s σ H Q I h
 rw [hs]
 show wpAny _ _ (spliced ((false,eval e X.env) :: backTo pos (starEach es X.env))) _ _ s
 refine Calls.spliced_cons (thn (ha pins s σ H _ I h) fun u s1 ⟨x,H1,I1,r1,q1⟩=>?_)
 exact thn (hr pos pins s1 σ H1 _ I1 q1) fun us s2 ⟨xs,H2,I2,r2,q2⟩=>⟨x :: xs,H2,I2,.cons r1 r2,q2⟩
noncomputable abbrev tTup (t:TA):TE:=fun σ H Q=>t σ H fun xs H1=>xs.length ≤ sizeLine ∧ ∀ p,H1 p = none → Q (.ref p) (upd H1 p (.tup xs))
noncomputable abbrev tLst (t:TA):TE:=fun σ H Q=>t σ H fun xs H1=>xs.length ≤ sizeLine ∧ ∀ p,H1 p = none → Q (.ref p) (upd H1 p (.lst xs))
theorem Q71 {x1} (h:PA X es t):PE X (.Tuple es x1 pos) (tTup t):=by
 intro pins s σ H Q I hq
 refine wpAny_Tuple_spliced (thn (h pos pins s σ H _ I hq) fun us s1 ⟨xs,H1,I1,r,z,q⟩=>⟨by rw [← r.length]; exact z,?_⟩)
 have hf:H1 s1.heap.objs.size = none:=I1.hok.fresh (Nat.le_refl _)
 refine ⟨.ref s1.heap.objs.size,upd H1 s1.heap.objs.size (.tup xs),I1.laid (t':=s1.toks) (fun b u e=>Heap.get?_push_of_some _ e) (Nat.le_refl _) ?_,rfl,q _ hf⟩
 exact ⟨z,us,r,⟨_,Heap.get?_push_size _ rfl,rfl,_,rfl,rfl⟩⟩
theorem Q72 (h:PA X es t):PE X (.List es pos) (tLst t):=by
 intro pins s σ H Q I hq
 refine wpAny_List_spliced (thn (h pos pins s σ H _ I hq) fun us s1 ⟨xs,H1,I1,r,z,q⟩=>⟨by rw [← r.length]; exact z,?_⟩)
 have hf:H1 s1.heap.objs.size = none:=I1.hok.fresh (Nat.le_refl _)
 refine ⟨.ref s1.heap.objs.size,upd H1 s1.heap.objs.size (.lst xs),I1.laid (t':=s1.toks) (fun b u e=>Heap.get?_push_of_some _ e) (Nat.le_refl _) ?_,rfl,q _ hf⟩
 exact ⟨z,us,0,r,Heap.get?_push_size _ rfl⟩
end
noncomputable abbrev Sp:=List V → Hp → VK → XK → Prop
noncomputable abbrev CXT:=List Env → Hp → Shared → XK → Value → Shared → Prop
structure Env0 (P:Program) (w:World) (K:PySem.W.Frag) (mg:Str → Option Value) (base:Heap) (A:Around) (outer:List Env) (s:Shared) (H:Hp):Prop where
 frames:A.frames = some outer
 mod:Mod K mg base
 bs:∀ b o,base.get? b = some o → s.heap.get? b = some o ∧ H b = none
 bsz:base.objs.size ≤ s.heap.objs.size
 funs:s.heap.FunFrames base outer
 frf:(∀ b ∈ frs outer,H b = none) ∧ Qx2 K H
 hok:HOk P w H s.heap
 bare:AllBare s.gens
noncomputable def CE (outer:List Env) (P:Program) (w:World) (H:Hp) (s:Shared) (Q:VK) (u:Value) (s':Shared):Prop :=
 ∃ v H',s'.os = s.os ∧ AllBare s'.gens ∧ Un (frs outer) [] H H' s.heap s'.heap ∧ HOk P w H' s'.heap ∧ RelV v u ∧ Q v H'
noncomputable def CR (CX:CXT) (outer:List Env) (P:Program) (w:World) (H:Hp) (s:Shared) (Q:VK) (E:XK) (r:Result) (s':Shared):Prop :=
 match r with
 | .ok (.ret u)=>CE outer P w H s Q u s'
 | .ok _=>False
 | .error e=>CX outer H s E e s'
structure FnOk (P:Program) (w:World) (K:PySem.W.Frag) (mg:Str → Option Value) (base:Heap) (CX:CXT) (k:Nat) (f:Addr) (fd:FuncData) (ps:List Str) (sp:Sp):Prop where
 len:∀ vs H Q E,sp vs H Q E → vs.length = ps.length
 run:∀ (A:Around) (outer:List Env) (s:Shared) (H:Hp) (args:Args) (us:List Value) (vs:List V) (Q:VK) (E:XK),Room k A → Env0 P w K mg base A outer s H → BindsTo s fd args (ps.zip us) → Vals vs us → sp vs H Q E →
  codeAny (model P w) A (.call (.ref f) args) (CR CX outer P w H s Q E) s
section
variable {X:Cx} {pins:List (Addr × Obj)} {σ:St} {H:Hp} {s s':Shared}
theorem Inv.env0 (I:Inv X pins σ H s):Env0 X.prog X.w X.K X.mg X.base X.A X.stack s H :=
 ⟨I.ok.frames,I.ok.mod,I.bs,Nat.le_trans I.ok.bsz I.sz,I.stack,⟨I.stkFree,I.tab⟩,I.hok,I.bare⟩
theorem Inv.after {Q:VK} {u:Value} (I:Inv X pins σ H s) (h:CE X.stack X.prog X.w H s Q u s'):EP X pins σ Q u s':=by
 obtain ⟨v,H',os,bare,un,hok,r,q⟩:=h
 obtain ⟨hh,g,d,t,os'⟩:=s'
 obtain rfl:os' = s.os:=os
 exact ⟨v,H',I.call (h':=hh) (g':=g) (d':=d) (t':=t) (ch:=[]) un hok bare (fun b z=>absurd z (by simp)),r,q⟩
end
noncomputable abbrev Quv (sp:Sp) (dvs:List V) (E:XK) (t:TA):TE:=fun σ H Q=>t σ H fun vs H1=>sp (vs ++ dvs) H1 Q E
noncomputable def Binds (K:PySem.W.Frag) (fd:FuncData) (ps:List Str) (ds:List Value):Prop :=
 ∀ (s:Shared) (us:List Value),K.In s.heap → (us ++ ds).length = ps.length → BindsTo s fd ⟨us,[]⟩ (ps.zip (us ++ ds))
theorem Binds.all {K:PySem.W.Frag} {fd:FuncData} {ps:List Str} (h:∀ us:List Value,us.length = ps.length → bindArgs fd ⟨us,[]⟩ = pure (ps.zip us)):Binds K fd ps []:=fun s us _ hl=>by
 rw [List.append_nil] at hl ⊢
 exact .of_eq (h us hl)
noncomputable def Qs1 (CX:CXT) (X:Cx) (E:XK):Prop:=∀ (pins:List (Addr × Obj)) (σ:St) (H:Hp) (s:Shared) (e:Value) (s':Shared),Inv X pins σ H s → CX X.stack H s E e s' → X.xe e s'
section
variable {X:Cx} {CX:CXT} {k:Nat} {f C:Addr} {fd:FuncData} {ps:List Str} {sp:Sp} {dvs:List V} {ds:List Value} {E:XK} {x m:Str} {p pos apos:Pos} {e o:Expr} {es:List Expr} {ta:TE} {t:TA}
theorem Q73 {pins:List (Addr × Obj)} {σ:St} {H:Hp} {s:Shared} {Q:VK} {us:List Value} {vs:List V} (F:FnOk X.prog X.w X.K X.mg X.base CX k f fd ps sp) (hr:Room k X.A) (hb:Binds X.K fd ps ds) (hd:Vals dvs ds) (hx:Qs1 CX X E)
  (I:Inv X pins σ H s) (r:Vals vs us) (h:sp (vs ++ dvs) H Q E):wpAny (model X.prog X.w) X.A (call (.ref f) us) (EP X pins σ Q) X.xe s:=by
 have r2:Vals (vs ++ dvs) (us ++ ds):=r.append hd
 have hl:(us ++ ds).length = ps.length:=by rw [← r2.length]; exact F.len _ _ _ _ h
 refine wpAny_call (codeAny_mono (F.run X.A X.stack s H ⟨us,[]⟩ (us ++ ds) (vs ++ dvs) Q E hr I.env0 (hb s us I.kIn hl) r2 h) fun r s' hq=>?_)
 cases r with
 | error e=>exact hx pins σ H s e s' I hq
 | ok fl =>
  cases fl with
  | ret u=>exact I.after hq
  | next=>exact False.elim hq
  | brk=>exact False.elim hq
  | cont=>exact False.elim hq
theorem Q26 (F:FnOk X.prog X.w X.K X.mg X.base CX k f fd ps sp) (hr:Room k X.A) (hg:Gl X x) (hm:X.mg x = some (.ref f)) (hk:PySem.W.keepIn X.K (.ref f) = true) (hb:Binds X.K fd ps ds) (hd:Vals dvs ds) (hx:Qs1 CX X E)
  (ha:PA X (e :: es) t) (hdb:(x == ("__debug__" : Str)) = false:=by decide) (he:starEach (e :: es) X.env = (false,eval e X.env) :: starEach es X.env:=by rfl) (hpl:(backTo pos (starEach es X.env)).any (·.1) = false:=by rfl) :
  PE X (.Call (.Name x p) (e :: es) [] pos) (Quv sp dvs E t):=by
 intro pins s σ H Q I h
 refine wpAny_Call_Name_kw (Qoy I hg hm ?_ hdb)
 refine PySem.W.callWith_K (h₀:=X.base) I.ok.mod.kin hk (thn (ha pos pins s σ H _ I h) fun us s1 ⟨vs,H1,I1,r,q⟩=>⟨I1.kIn,?_⟩) he hpl
 exact Q73 F hr hb hd hx I1 r q
structure Mk (K:PySem.W.Frag) (C f:Addr):Prop where
 makes:PySem.W.makesIn K C = true
 init:PySem.W.findIn K (.ref C) "__init__" = some (some (.ref f))
 fn:PySem.W.isFn K (.ref f) = true
 kp:PySem.W.keepIn K (.ref C) = true
end
section
variable {X:Cx} {CX:CXT} {k:Nat} {f C:Addr} {fd:FuncData} {ps ks:List Str} {sp:Sp} {E:XK} {x m:Str} {p pos apos kpos:Pos} {e o:Expr} {es:List Expr} {kws:List Keyword} {te ta:TE} {t tk:TA} {nm:Option Str}
structure KBinds (K:PySem.W.Frag) (fd:FuncData) (ps ks:List Str) (g:List Value → List Value → List Value) (gV:List V → List V → List V):Prop where
 to:∀ (s:Shared) (us ws:List Value),K.In s.heap → (g us ws).length = ps.length → BindsTo s fd ⟨us,ks.zip ws⟩ (ps.zip (g us ws))
 rel:∀ {vs:List V} {us:List Value} {zs:List V} {ws:List Value},Vals vs us → Vals zs ws → Vals (gV vs zs) (g us ws)
variable {g:List Value → List Value → List Value} {gV:List V → List V → List V}
end
structure FnScope (N P:List Str) (sc:Scope):Prop where
 kind:sc.kind = .function
 co:sc.isCoroutine = false
 gen:sc.isGenerator = false
 nd:N.Nodup
 pre:N.take P.length = P
 par:∀ x ∈ P,sc.names.lookup x = some .local ∨ sc.names.lookup x = some .cell
 nofree:∀ y ∈ sc.names,y.2 ≠ .free
theorem Qns {kindOf:Str → Option NameKind} {x:Str}:∀ {binds:List (Str × Value)} {m:Str → Option Value},(∀ v,(x,v) ∉ binds) → bindL kindOf binds m x = m x
 | [],_,_=>rfl
 | (n,v) :: r,m,h=>by
  unfold bindL
  rw [Qns fun w hw=>h w (List.mem_cons_of_mem _ hw)]
  split
  ·have:x ≠ n:=by rintro rfl; exact h v List.mem_cons_self
   simp [this]
  ·rfl
theorem Qnt {kindOf:Str → Option NameKind} {x:Str}:∀ {binds:List (Str × Value)} {m:Str → Option Value},(∀ v,(x,v) ∉ binds) → bindC kindOf binds m x = m x
 | [],_,_=>rfl
 | (n,v) :: r,m,h=>by
  unfold bindC
  rw [Qnt fun w hw=>h w (List.mem_cons_of_mem _ hw)]
  split
  ·rfl
  ·have:x ≠ n:=by rintro rfl; exact h v List.mem_cons_self
   simp [this]
theorem Qnu {kindOf:Str → Option NameKind} {x:Str} {v:Value}:∀ {P:List Str} {vs:List Value} {i:Nat} {m:Str → Option Value},P.Nodup → P[i]? = some x → vs[i]? = some v → kindOf x = some .local →
  bindL kindOf (P.zip vs) m x = some v
 | [],_,_,_,_,h,_,_=>by simp at h
 | _ :: _,[],_,_,_,_,h,_=>by simp at h
 | p :: P,w :: vs,0,m,nd,h1,h2,hk=>by
  simp at h1 h2; subst h1; subst h2
  show bindL kindOf ((p,w) :: P.zip vs) m p = _
  unfold bindL
  rw [Qns fun v hv=>(List.nodup_cons.mp nd).1 (List.of_mem_zip hv).1,if_pos hk]
  simp
 | p :: P,w :: vs,i + 1,m,nd,h1,h2,hk=>by
  show bindL kindOf ((p,w) :: P.zip vs) m x = _
  unfold bindL
  exact Qnu (i:=i) (List.nodup_cons.mp nd).2 (by simpa using h1) (by simpa using h2) hk
theorem Qnv {kindOf:Str → Option NameKind} {x:Str} {v:Value}:∀ {P:List Str} {vs:List Value} {i:Nat} {m:Str → Option Value},P.Nodup → P[i]? = some x → vs[i]? = some v → kindOf x ≠ some .local →
  bindC kindOf (P.zip vs) m x = some v
 | [],_,_,_,_,h,_,_=>by simp at h
 | _ :: _,[],_,_,_,_,h,_=>by simp at h
 | p :: P,w :: vs,0,m,nd,h1,h2,hk=>by
  simp at h1 h2; subst h1; subst h2
  show bindC kindOf ((p,w) :: P.zip vs) m p = _
  unfold bindC
  rw [Qnt fun v hv=>(List.nodup_cons.mp nd).1 (List.of_mem_zip hv).1,if_neg hk]
  simp
 | p :: P,w :: vs,i + 1,m,nd,h1,h2,hk=>by
  show bindC kindOf ((p,w) :: P.zip vs) m x = _
  unfold bindC
  exact Qnv (i:=i) (List.nodup_cons.mp nd).2 (by simpa using h1) (by simpa using h2) hk
noncomputable def Qbk (N:List Str) (vs:List V):St:=vs.map some ++ List.replicate (N.length - vs.length) none
noncomputable def Qhq (g:Str → Bool) (CX:CXT) (P:Program) (w:World) (K:PySem.W.Frag) (mg:Str → Option Value) (base:Heap) (N:List Str) (qual:Str) (scope:Scope) (f:Addr) (cd:Value) (A:Around) (outer:List Env) (s:Shared) (H:Hp) (E:XK):Cx where
 prog:=P
 w:=w
 K:=K
 mg:=mg
 base:=base
 A:=A.deeper (envOfC qual scope s.heap.objs.size f cd)
 N:=N
 s₀:=s
 H₀:=H
 env:=envOfC qual scope s.heap.objs.size f cd
 outer:=outer
 stack:=envOfC qual scope s.heap.objs.size f cd :: outer
 ex:=[]
 calm:=true
 fn:=g
 pn:=[]
 xe:=fun e s'=>wpAny (model P w) (A.deeper (envOfC qual scope s.heap.objs.size f cd)) (leaving (envOfC qual scope s.heap.objs.size f cd) e) (fun _ s''=>CX outer H s E e s'') (fun e' s''=>CX outer H s E e' s'') s'
theorem Qq0 {sc:Scope} {n:Nat} {x:Str} (h:sc.names.lookup x = some .cell):∃ c,(cellsFrom n sc.names []).lookup x = some c:=by
 have q:=PySem.W.cellsFrom_some sc.names n [] (.inl h)
 exact Option.isSome_iff_exists.mp q
theorem Qnw {g:Str → Bool} {CX:CXT} {P:Program} {w:World} {K:PySem.W.Frag} {mg:Str → Option Value} {base:Heap} {N ps:List Str} {qual:Str} {scope:Scope} {f:Addr} {cd:Value} {A:Around} {outer:List Env} {s s1:Shared} {H:Hp} {E:XK} {us:List Value} {vs:List V}
  (S:FnScope N ps scope) (hd:A.handled = none) (e0:Env0 P w K mg base A outer s H) (hl:vs.length = ps.length) (r:Vals vs us)
  (x:InCallC s s.heap.objs.size (bindL (envOfC qual scope s.heap.objs.size f cd).kindOf (ps.zip us) fun _=>none) (cellsFrom (s.heap.objs.size + 1) scope.names []) (bindC (envOfC qual scope s.heap.objs.size f cd).kindOf (ps.zip us) fun _=>none) s1) :
  Inv (Qhq g CX P w K mg base N qual scope f cd A outer s H E) [] (Qbk N vs) H s1:=by
 have hpl:ps.length ≤ N.length:=by have:=congrArg List.length S.pre; rw [List.length_take] at this; omega
 obtain ⟨h1,tk,rfl,hk⟩:=x.done
 have noA:∀ b:Addr,b ∉ (Qhq g CX P w K mg base N qual scope f cd A outer s H E).ex:=fun b z=>absurd (show b ∈ ([]:List Addr) from z) (by simp)
 refine ⟨⟨e0.mod,S.kind,rfl,rfl,Nat.le_refl _,fun y z c h1 h2=>?_,fun y hy=>?_,fun y c _ h=>?_,fun _=>hd,Around.frames_deeper e0.frames,.inr ⟨rfl,rfl⟩,fun b z=>absurd z (noA b),e0.bs,e0.bsz,fun b _ _=>noA b,fun b z=>absurd z (noA b),e0.funs,e0.frf⟩,
  rfl,e0.bare,Un.kept hk,⟨_,x.toInCall.ns,fun i y v h1 h2 h3=>?_⟩,fun y c h=>⟨_,x.cell y c h⟩,e0.hok.fresh (Nat.le_refl _),fun y c h=>?_,fun p hp=>absurd (show p ∈ ([]:List (Addr × Obj)) from hp) (by simp),e0.hok.kept hk,?_⟩
 ·exact name_of_addr x.apart (PySem.mem_of_lookup h1) (PySem.mem_of_lookup h2)
 ·have hy:scope.names.lookup y = some .cell ∨ scope.names.lookup y = some .free:=hy
  rcases hy with hy | hy
  ·exact Qq0 hy
  ·exact absurd rfl (S.nofree _ (PySem.mem_of_lookup hy))
 ·exact Nat.le_of_lt (x.above y c (PySem.mem_of_lookup h))
 ·have hi:i < vs.length:=by
   unfold Qbk at h2
   by_cases hi:i < vs.length
   ·exact hi
   ·rw [List.getElem?_append_right (by simpa using hi)] at h2
    rw [List.getElem?_replicate] at h2
    split at h2 <;> cases h2
  have ha:vs[i]? = some v:=by
   unfold Qbk at h2
   rw [List.getElem?_append_left (by simpa using hi),List.getElem?_map] at h2
   cases e:vs[i]? with
   | none=>rw [e] at h2; cases h2
   | some a=>rw [e] at h2; cases h2; rfl
  obtain ⟨u,hu,rv⟩:=r.get ha
  have hp:ps[i]? = some y:=by
   rw [← S.pre,List.getElem?_take_of_lt (by omega)]; exact h1
  have ndP:ps.Nodup:=by rw [← S.pre]; exact S.nd.sublist (List.take_sublist _ _)
  refine ⟨u,rv,?_⟩
  rcases S.par y (List.mem_of_getElem? hp) with k | k
  ·exact .inl ⟨k,Qnu ndP hp hu k⟩
  ·obtain ⟨c,e⟩:=Qq0 (n:=s.heap.objs.size + 1) k
   refine .inr ⟨.inl k,c,e,?_⟩
   have q:=x.cell y c e
   rw [Qnv ndP hp hu (by show scope.names.lookup y ≠ _; rw [k]; decide)] at q
   exact q
 ·exact .inl (e0.hok.fresh (Nat.le_of_lt (x.above y c (PySem.mem_of_lookup h))))
 ·unfold Qbk
  show _ = N.length
  rw [List.length_append,List.length_map,List.length_replicate]
  omega
theorem Qabt {g:Str → Bool} {CX:CXT} {P:Program} {w:World} {K:PySem.W.Frag} {mg:Str → Option Value} {base:Heap} {k:Nat} {f:Addr} {name qual:Str} {params:Arguments} {body:List Stmt} {scope:Scope} {dV kV doc pm cdv ct oc:Value} {an od:Option Addr}
  {osl:Array (Option Value)} {N ps:List Str} {sp:Sp} (lk:K.lookup f = some ⟨oc,od,.func (PySem.W.fnOf name qual params body scope dV kV doc pm an cdv ct),osl⟩) (hcd:PySem.W.codeIn K cdv qual = true) (S:FnScope N ps scope)
  (len:∀ vs H Q E,sp vs H Q E → vs.length = ps.length)
  (hbody:∀ (A:Around) (outer:List Env) (s:Shared) (H:Hp) (vs:List V) (Q:VK) (E:XK),Room k (A.deeper (envOfC qual scope s.heap.objs.size f cdv)) → sp vs H Q E →
   ∃ t,PSs (Qhq g CX P w K mg base N qual scope f cdv A outer s H E) body t ∧ t { nx:=fun _ H'=>Q .non H',rt:=Q } (Qbk N vs) H) :
  FnOk P w K mg base CX (k + 1) f (PySem.W.fnOf name qual params body scope dV kV doc pm an cdv ct) ps sp:=by
 refine ⟨len,fun A outer s H args us vs Q E hr e0 hb r hsp=>?_⟩
 have hl:=len _ _ _ _ hsp
 have KX:K.In s.heap:=e0.mod.kin.keeps fun b o e=>(e0.bs b o e).1
 have lim:s.heap.NoLimit:=e0.mod.nolimit.keeps fun b o e=>(e0.bs b o e).1
 have hkind:∀ y ∈ ps.zip us,scope.names.lookup y.1 = some .local ∨ (scope.names.lookup y.1 = some .cell ∧ ((cellsFrom (s.heap.objs.size + 1) scope.names []).lookup y.1).isSome = true):=fun ⟨n,v⟩ hy=>by
  rcases S.par n (List.of_mem_zip hy).1 with q | q
  ·exact .inl q
  ·exact .inr ⟨q,PySem.W.cellsFrom_some _ _ _ (.inl q)⟩
 refine codeAny_call_function hr.depth (KX _ _ lk) rfl S.co S.gen rfl (PySem.W.codeRec_of KX hcd) (hb _ _ _ _ ?_)
 refine wpAny_newFunctionEnv_cells S.kind hkind fun env he s1 x=>?_
 subst he
 refine ⟨lim.keeps x.toInCall.keep,codeAny_func ?_⟩
 obtain ⟨t,ht,hq⟩:=hbody A outer s H vs Q E (hr.deeper _) hsp
 have I:Inv (Qhq g CX P w K mg base N qual scope f cdv A outer s H E) [] (Qbk N vs) H s1:=Qnw S hr.hd e0 hl r x
 refine wpAny_mono (ht [] s1 (Qbk N vs) H _ I hq) (fun fl s' hs=>?_) fun e s' hs=>hs
 have fin:∀ {σ':St} {H':Hp} {v:V} {u:Value},Inv (Qhq g CX P w K mg base N qual scope f cdv A outer s H E) [] σ' H' s' → RelV v u → Q v H' → CE outer P w H s Q u s' :=
  fun {σ' H' v u} J rv q=>⟨v,H',J.os,J.bare,J.base,J.hok,rv,q⟩
 cases fl with
 | ret u =>
  obtain ⟨v,σ',H',J,rv,q⟩:=hs
  exact fin J rv q
 | next =>
  obtain ⟨σ',H',J,q⟩:=hs
  exact fin (v:=V.non) (u:=Value.none) J rfl q
 | brk =>
  obtain ⟨_,_,_,q⟩:=hs
  exact False.elim q
 | cont =>
  obtain ⟨_,_,_,q⟩:=hs
  exact False.elim q
section
variable {X:Cx} {x:Str} {p pos:Pos} {e:Expr} {es:List Expr} {t:TA} {id T:String} {r:List V → Hp → VK → Prop}
noncomputable abbrev tCB (r:List V → Hp → VK → Prop) (t:TA):TE:=fun σ H Q=>t σ H fun vs H1=>r vs H1 Q
theorem Qyi (hc:CallR X (.builtin id) r) (hg:Gl X x) (hm:X.mg x = none) (hv:bootBuiltins x = some (.builtin id)) (ha:PA X (e :: es) t) (hn:x ≠ "__name__" := by decide) (hdb:(x == ("__debug__" : Str)) = false:=by decide)
  (he:starEach (e :: es) X.env = (false,eval e X.env) :: starEach es X.env:=by rfl) (hpl:(backTo pos (starEach es X.env)).any (·.1) = false:=by rfl):PE X (.Call (.Name x p) (e :: es) [] pos) (tCB r t):=by
 intro pins s σ H Q I h
 refine wpAny_Call_Name_kw (Qoz I hg hm hv ?_ hn hdb)
 exact PyProof.Rows.callWith_builtin1 (thn (ha pos pins s σ H _ I h) fun us s1 ⟨vs,H1,I1,r1,q1⟩=>hc pins s1 σ H1 vs us Q I1 r1 q1) he hpl
theorem Qwy (hc:CallR X (.type T) r) (hg:Gl X x) (hm:X.mg x = none) (hv:bootBuiltins x = some (.type T)) (ha:PA X (e :: es) t) (hn:x ≠ "__name__" := by decide) (hdb:(x == ("__debug__" : Str)) = false:=by decide)
  (he:starEach (e :: es) X.env = (false,eval e X.env) :: starEach es X.env:=by rfl) (hpl:(backTo pos (starEach es X.env)).any (·.1) = false:=by rfl):PE X (.Call (.Name x p) (e :: es) [] pos) (tCB r t):=by
 intro pins s σ H Q I h
 refine wpAny_Call_Name_kw (Qoz I hg hm hv ?_ hn hdb)
 exact PyProof.Rows.callWith_type1 (thn (ha pos pins s σ H _ I h) fun us s1 ⟨vs,H1,I1,r1,q1⟩=>hc pins s1 σ H1 vs us Q I1 r1 q1) he hpl
end
end L2
namespace HT
open PySem PyProof.Rows
noncomputable def lexLt:List Int → List Int → Bool
 | [],[]=>false
 | [],_ :: _=>true
 | _ :: _,[]=>false
 | x :: xs,y :: ys=>if x = y then lexLt xs ys else decide (x < y)
section
open PySem.SeqAt
open PySem.AutoSeq1 (wpAny_loadPart')
open PySem.MeetsSeq PySem.MeetsSeq2 PySem.MeetsSeq3
end
section
variable {prog:Program} {w:World} {A:Around} {E:Value → Shared → Prop} {s:Shared}
theorem cat_tup {t b:Addr} {vs ws:List Value} {Q:Value → Shared → Prop} (ht:IsTup s.heap t vs.toArray) (hb:IsTup s.heap b ws.toArray) (hv:vs ≠ [])
  (h1:ws = [] → Q (.ref t) s) (h2:ws ≠ [] → Q (.ref s.heap.objs.size) { s with heap:=s.heap.push { cls:=.type "tuple",data:=.seq (vs ++ ws).toArray } })
  (hsz:vs.length + ws.length ≤ sizeLine):wpAny (model prog w) A (binaryOp .Add (.ref t) (.ref b)) Q E s:=by
 obtain ⟨⟨cls,dd,data,sl⟩,ho,hc,n,hd⟩:=id ht
 obtain ⟨⟨cls2,dd2,data2,sl2⟩,ho2,hc2,n2,hd2⟩:=id hb
 simp only at hc hd hc2 hd2
 subst hc hd hc2 hd2
 have e:vs.toArray ++ ws.toArray = (vs ++ ws).toArray:=by simp
 by_cases hw:ws = []
 ·exact concat_meets ⟨_,ho,rfl⟩ ⟨_,ho2,rfl⟩ noFill_tuple_add seq_tuple_add PySem.F.slot_tuple_add PySem.F.entry_tuple_add (PySem.F.args_tuple_add_2 _ _)
   (tuple_addW1 t b vs.toArray ws.toArray n n2 dd dd2 sl sl2 (by simpa using hv) (by simp [hw])) ⟨ho,ho2,h1 hw⟩
 ·refine concat_meets ⟨_,ho,rfl⟩ ⟨_,ho2,rfl⟩ noFill_tuple_add seq_tuple_add PySem.F.slot_tuple_add PySem.F.entry_tuple_add (PySem.F.args_tuple_add_2 _ _)
   (tuple_addW2 t b vs.toArray ws.toArray n n2 dd dd2 sl sl2 (by simpa using hv) (by simpa using hw) (by rw [List.size_toArray,List.size_toArray]; exact hsz)) ⟨ho,ho2,?_⟩
  rw [e]
  exact h2 hw
noncomputable def sIx (n d:Nat):Option Int → Nat
 | none=>d
 | some v=>if v < 0 then (v + (n:Int)).toNat else min v.toNat n
theorem sIx_none (n d:Nat):sIx n d none = d:=rfl
theorem sIx_nat (n d k:Nat):sIx n d (some (k:Int)) = min k n:=by
 show (if (k:Int) < 0 then ((k:Int) + (n:Int)).toNat else min (k:Int).toNat n) = min k n
 rw [if_neg (by omega),Int.toNat_natCast]
theorem sIx_le (n d:Nat) (hd:d ≤ n) (o:Option Int):sIx n d o ≤ n:=by
 cases o with
 | none=>exact hd
 | some v =>
  show (if v < 0 then (v + (n:Int)).toNat else min v.toNat n) ≤ n
  by_cases hv:v < 0
  ·rw [if_pos hv]; omega
  ·rw [if_neg hv]; exact Nat.min_le_right _ _
theorem clip_eq (v:Int) (n d:Nat):(if v < 0 then max (v + (n:Int)) 0 else min v (n:Int)) = ((sIx n d (some v):Nat):Int):=by
 show (if v < 0 then max (v + (n:Int)) 0 else min v (n:Int)) = (((if v < 0 then (v + (n:Int)).toNat else min v.toNat n):Nat):Int)
 by_cases hv:v < 0
 ·simp only [if_pos hv]; omega
 ·simp only [if_neg hv]; omega
theorem adjust_gen (lo hi:Option Int) (n:Nat):Builtin.Slice.sliceAdjust lo hi 1 (n:Int) = (((sIx n 0 lo:Nat):Int),((sIx n n hi:Nat):Int)):=by
 have h1:¬ ((1:Int) < 0):=by omega
 unfold Builtin.Slice.sliceAdjust
 simp only [h1,if_false]
 refine Prod.ext ?_ ?_
 ·cases lo with
  | none=>rfl
  | some v=>exact clip_eq v n 0
 ·cases hi with
  | none=>rfl
  | some v=>exact clip_eq v n n
theorem places_gen (i j:Nat):Builtin.Slice.slicePlaces (i:Int) (j:Int) 1 = j - i:=by
 unfold Builtin.Slice.slicePlaces
 have h1:(1:Int) > 0:=by omega
 simp only [h1,if_true,Int.ediv_one]
 split <;> omega
theorem slicePart_ {v:Value} {o:Option Int} {Q:Option Int → Shared → Prop} (p:IsPart v o) (h:Q o s):wpAny (model prog w) A (Builtin.Slice.slicePartIndex v) Q E s:=by
 cases p with
 | none=>exact slicePart_none h
 | int i t=>exact slicePart_int h
theorem sliceApplied_gen {sl:Addr} {vl vu:Value} {lo hi:Option Int} {n:Nat} {Q:Int × Int × Nat → Shared → Prop} (hs:s.heap.IsSliceOf sl vl vu .none) (pl:IsPart vl lo) (pu:IsPart vu hi)
  (h:Q (((sIx n 0 lo:Nat):Int),1,sIx n n hi - sIx n 0 lo) s):wpAny (model prog w) A (Builtin.Slice.sliceApplied (.ref sl) (pure (n:Int))) Q E s:=by
 obtain ⟨os,hos,hcs,hds⟩:=id hs
 unfold Builtin.Slice.sliceApplied Builtin.Slice.sliceFields
 refine wpAny_bind (wpAny_bind (wpAny_field hos hds (x:=vl) rfl (wpAny_bind (wpAny_field hos hds (x:=vu) rfl (wpAny_bind (wpAny_field hos hds (x:=.none) rfl (wpAny_pure ?_)))))))
 refine wpAny_bind (slicePart_none ?_)
 show wpAny _ _ (if ((1:Int) == 0) = true then _ else _) _ _ s
 rw [if_neg (by decide)]
 refine wpAny_bind (slicePart_ pl (wpAny_bind (slicePart_ pu (wpAny_bind (wpAny_pure ?_)))))
 show wpAny _ _ (match Builtin.Slice.sliceAdjust lo hi 1 (n:Int) with | (lo,hi)=>pure (lo,(1:Int),Builtin.Slice.slicePlaces lo hi 1)) _ _ s
 rw [adjust_gen lo hi n]
 show wpAny _ _ (pure (((sIx n 0 lo:Nat):Int),(1:Int),Builtin.Slice.slicePlaces ((sIx n 0 lo:Nat):Int) ((sIx n n hi:Nat):Int) 1)) _ _ s
 rw [places_gen]
 exact wpAny_pure h
theorem pick_gen (xs:Array Value) (i k:Nat):((List.range k).filterMap fun (m:Nat)=>xs[((i:Int) + (m:Int) * 1).toNat]?).toArray = ((xs.toList.drop i).take k).toArray:=by
 have e:(fun (m:Nat)=>xs[((i:Int) + (m:Int) * 1).toNat]?) = fun m=>xs[i + m]?:=by
  funext m
  have:((i:Int) + (m:Int) * 1).toNat = i + m:=by omega
  rw [this]
 rw [e]
 have:=pick_run xs i k
 rw [List.filterMap_map] at this
 have e2:((fun x=>xs[x]?) ∘ fun x=>i + x) = fun m=>xs[i + m]?:=rfl
 rw [e2] at this
 rw [this]
theorem getItem_tuple_cut {t sl:Addr} {items:Array Value} {vl vu:Value} {lo hi:Option Int} {Q:Value → Shared → Prop} (ht:IsTup s.heap t items) (hs:s.heap.IsSliceOf sl vl vu .none) (pl:IsPart vl lo) (pu:IsPart vu hi)
  (hw:¬ (sIx items.size 0 lo = 0 ∧ sIx items.size items.size hi = items.size))
  (h:Q (.ref s.heap.objs.size) { s with heap:=s.heap.push { cls:=.type "tuple",data:=.seq ((items.toList.drop (sIx items.size 0 lo)).take (sIx items.size items.size hi - sIx items.size 0 lo)).toArray } })
  (hsz:items.size ≤ sizeLine):wpAny (model prog w) A (getItem (.ref t) (.ref sl)) Q E s:=by
 have htake:sizeOk (.seq ((items.toList.drop (sIx items.size 0 lo)).take (sIx items.size items.size hi - sIx items.size 0 lo)).toArray):=by
  show ((items.toList.drop (sIx items.size 0 lo)).take (sIx items.size items.size hi - sIx items.size 0 lo)).toArray.size ≤ sizeLine
  rw [List.size_toArray,List.length_take,List.length_drop,Array.length_toList]
  omega
 have hj:sIx items.size items.size hi ≤ items.size:=sIx_le _ _ (Nat.le_refl _) hi
 obtain ⟨os,hos,hcs,hds⟩:=id hs
 have hTs:s.TypeIs (.ref sl) "slice" := ⟨os,hos,hcs⟩
 unfold getItem
 try with_reducible refine wpAny_holding ?_
 first | refine wpAny_bind (wpAny_pure ?_) | skip
 refine wpAny_bind (wpAny_sequenceKey ht.typeIs (by decide) ?_)
 refine wpAny_bind (wpAny_callSpecial?_slot (name:=Str.ofString "__getitem__") ht.typeIs PyProof.Rows.slot_tuple_getitem
  (wpAny_call_entry PyProof.Rows.slot_tuple_getitem ht.typeIs entry_tuple_getitem ?_ (args_tuple_getitem _ _)))
 show wpAny _ _ (Builtin.Tuple.tupleItemsOf (.ref t) >>= _) _ _ s
 refine wpAny_bind (tupleItemsOf_ ht ?_)
 refine wpAny_bind (wpAny_typeOf hTs ?_)
 rw [if_pos (by decide)]
 refine wpAny_bind (sliceApplied_gen hs pl pu ?_)
 have hno:¬ ((((sIx items.size 0 lo:Nat):Int) == 0 && (1:Int) == 1 && (sIx items.size items.size hi - sIx items.size 0 lo) == items.size) = true):=by
  intro q
  rw [Bool.and_eq_true,Bool.and_eq_true] at q
  have q1:((sIx items.size 0 lo:Nat):Int) = 0:=eq_of_beq q.1.1
  have q2:sIx items.size items.size hi - sIx items.size 0 lo = items.size:=eq_of_beq q.2
  exact hw ⟨by omega,by omega⟩
 show wpAny _ _ (if (((sIx items.size 0 lo:Nat):Int) == 0 && (1:Int) == 1 && (sIx items.size items.size hi - sIx items.size 0 lo) == items.size) = true then _ else _) _ _ s
 rw [if_neg hno,pick_gen]
 first
  | exact wpAny_bind (m:=Builtin.Tuple.tupleExact _) (wpAny_newObj_type (wpAny_pure ⟨_,rfl,wpAny_pure h⟩) htake)
  | exact wpAny_bind (m:=Builtin.Tuple.tupleExact _) (wpAny_newObj_type (wpAny_bind (wpAny_pure (wpAny_pure ⟨_,rfl,wpAny_pure h⟩))) htake)
  | exact wpAny_bind (wpAny_bind (m:=Builtin.Tuple.tupleExact _) (wpAny_newObj_type (wpAny_pure (wpAny_pure ⟨_,rfl,wpAny_pure h⟩)) htake))
  | exact wpAny_bind (wpAny_bind (m:=Builtin.Tuple.tupleExact _) (wpAny_newObj_type (wpAny_pure ⟨_,rfl,wpAny_pure h⟩) htake))
end
end HT
namespace L2
open PySem PySem.Spec PyProof.Rows
noncomputable abbrev TO:=St → Hp → (Option Int → Hp → Prop) → Prop
noncomputable def PO (X:Cx) (e:Option Expr) (t:TO):Prop :=
 ∀ (pins:List (Addr × Obj)) (s:Shared) (σ:St) (H:Hp) (Q:Option Int → Hp → Prop),Inv X pins σ H s → t σ H Q →
  wpAny (model X.prog X.w) X.A (evalPart e X.env) (fun u s'=>∃ o H',Inv X pins σ H' s' ∧ IsPart u o ∧ Q o H') X.xe s
noncomputable abbrev Quw:TO:=fun _ H Q=>Q none H
noncomputable abbrev Qux (t:TE):TO:=fun σ H Q=>t σ H fun x H1=>∃ i,x = .int i ∧ Q (some i) H1
theorem Qkz {ns:List Int}:∀ {us:List Value},Vals (ns.map V.int) us → IntsAre us ns:=by
 induction ns with
 | nil=>intro us r; rw [List.map_nil] at r; cases r; exact .nil
 | cons n ns ih =>
  intro us r
  rw [List.map_cons] at r
  cases r with
  | cons r1 r2 =>
   obtain ⟨t,e⟩:=r1
   subst e
   exact .cons n t (ih r2)
section
variable {X:Cx} {e:Expr} {te:TE} {lo hi:Option Expr} {tl th:TO} {pos p2:Pos}
theorem Q27:PO X none Quw:=by
 intro pins s σ H Q I h
 rw [evalPart_none]
 exact wpAny_pure ⟨none,H,I,.none,h⟩
theorem Q28 (h:PE X e te):PO X (some e) (Qux te):=by
 intro pins s σ H Q I hw
 rw [evalPart_some]
 refine thn (h pins s σ H _ I hw) fun u s1 ⟨x,H1,I1,r1,q1⟩=>?_
 obtain ⟨i,rfl,q⟩:=q1
 obtain ⟨t,rfl⟩:=r1
 exact ⟨some i,H1,I1,.int i t,q⟩
noncomputable def SlR (X:Cx) (r:V → Option Int → Option Int → Hp → VK → Prop):Prop :=
 ∀ (pins:List (Addr × Obj)) (s:Shared) (σ:St) (H:Hp) (x:V) (v vl vu:Value) (lo hi:Option Int) (sl:Addr) (Q:VK),Inv X pins σ H s → RelV x v → s.heap.IsSliceOf sl vl vu .none → IsPart vl lo → IsPart vu hi → r x lo hi H Q →
  ∃ T id,typeLookup (.type T) "__getitem__" = pure (some (.builtin id)) ∧ s.TypeIs v T ∧ wpAny (model X.prog X.w) X.A (getItem v (.ref sl)) (EP X pins σ Q) X.xe s
theorem SlR.or {r r':V → Option Int → Option Int → Hp → VK → Prop} (h:SlR X r) (h':SlR X r'):SlR X (fun x lo hi H Q=>r x lo hi H Q ∨ r' x lo hi H Q):=by
 intro pins s σ H x v vl vu lo hi sl Q I rx hs pl pu q
 rcases q with q | q
 ·exact h pins s σ H x v vl vu lo hi sl Q I rx hs pl pu q
 ·exact h' pins s σ H x v vl vu lo hi sl Q I rx hs pl pu q
noncomputable abbrev tSl (r:V → Option Int → Option Int → Hp → VK → Prop) (te:TE) (tl th:TO):TE:=fun σ H Q=>te σ H fun x H1=>tl σ H1 fun l H2=>th σ H2 fun u H3=>r x l u H3 Q
theorem Qyj {r:V → Option Int → Option Int → Hp → VK → Prop} (hr:SlR X r) (he:PE X e te) (hl:PO X lo tl) (hu:PO X hi th):PE X (.Subscript e (.Slice lo hi none p2) pos) (tSl r te tl th):=by
 intro pins s σ H Q I h
 refine Subscript_ (thn (he pins s σ H _ I h) fun v s1 ⟨x,H1,I1,r1,q1⟩=>?_)
 refine wpAny_Slice (thn (hl pins s1 σ H1 _ I1 q1) fun vl s2 ⟨l,H2,I2,pl,q2⟩=>thn (hu pins s2 σ H2 _ I2 q2) fun vu s3 ⟨u,H3,I3,pu,q3⟩=>?_)
 rw [evalPart_none]
 refine wpAny_pure ?_
 have I4:Inv X pins σ H3 { s3 with heap:=s3.heap.push { cls:=.type "slice",data:=.fields #[vl,vu,.none] } }:=I3.kept (t':=s3.toks) fun b ob q=>Heap.get?_push_of_some _ q
 obtain ⟨T,id,hT,ht,hg⟩:=hr pins { s3 with heap:=s3.heap.push { cls:=.type "slice",data:=.fields #[vl,vu,.none] } } σ H3 x v vl vu l u s3.heap.objs.size Q I4 r1 (Heap.IsSliceOf.new ..) pl pu q3
 show wpAny (model X.prog X.w) X.A (subscriptTail e (.Slice lo hi none p2) v (.ref s3.heap.objs.size)) (EP X pins σ Q) X.xe { s3 with heap:=s3.heap.push { cls:=.type "slice",data:=.fields #[vl,vu,.none] } }
 exact tail_any (ops:=[.ref s3.heap.objs.size,v]) ht hT hg (by with_unfolding_all rfl)
noncomputable def Qgn (xs:List V) (lo hi:Option Int):List V:=(xs.drop (HT.sIx xs.length 0 lo)).take (HT.sIx xs.length xs.length hi - HT.sIx xs.length 0 lo)
theorem Qgo (xs:List V) (lo hi:Option Int):(Qgn xs lo hi).length ≤ xs.length:=by
 unfold Qgn
 rw [List.length_take,List.length_drop]
 omega
noncomputable def rSlT (K:PySem.W.Frag):V → Option Int → Option Int → Hp → VK → Prop:=fun x lo hi H Q=>∃ a xs,x = .ref a ∧ SqT K H a xs ∧
 ¬ (HT.sIx xs.length 0 lo = 0 ∧ HT.sIx xs.length xs.length hi = xs.length) ∧ ∀ p,H p = none → Q (.ref p) (upd H p (.tup (Qgn xs lo hi)))
theorem Q74:SlR X (rSlT X.K):=by
 intro pins s σ H x v vl vu lo hi sl Q I rx hs pl pu h
 obtain ⟨a,xs,rfl,hx,hw,q⟩:=h
 cases rx
 obtain ⟨its,r,ht,hz⟩:=I.tuple hx
 have hlen:its.toArray.size = xs.length:=by rw [List.size_toArray]; exact r.length.symm
 refine ⟨"tuple",_,PyProof.Rows.slot_tuple_getitem.lookup,ht.typeIs,?_⟩
 refine HT.getItem_tuple_cut ht hs pl pu (by rw [hlen]; exact hw) ?_ (by rw [hlen]; exact hz)
 rw [hlen]
 refine ⟨.ref s.heap.objs.size,_,I.laid (t':=s.toks) (o:=.tup (Qgn xs lo hi)) (fun b ob q=>Heap.get?_push_of_some _ q) (Nat.le_refl _) ?_,rfl,q _ (I.hok.fresh (Nat.le_refl _))⟩
 exact ⟨Nat.le_trans (Qgo xs lo hi) hz,_,(r.drop (HT.sIx xs.length 0 lo)).take (HT.sIx xs.length xs.length hi - HT.sIx xs.length 0 lo),IsTupD.new _ _⟩
noncomputable def Qabu (K:PySem.W.Frag):R2:=fun x y H Q=>∃ a b xs ys,x = .ref a ∧ y = .ref b ∧ SqT K H a xs ∧ SqT K H b ys ∧ xs ≠ [] ∧ xs.length + ys.length ≤ sizeLine ∧
 (ys = [] → Q (.ref a) H) ∧ (ys ≠ [] → ∀ p,H p = none → Q (.ref p) (upd H p (.tup (xs ++ ys))))
theorem Vals.nil_iff {xs:List V} {us:List Value} (r:Vals xs us):us = [] ↔ xs = []:=by
 cases r with
 | nil=>simp
 | cons _ _=>simp
theorem Q29:OpR X (binaryOp .Add) (Qabu X.K):=by
 intro pins s σ H x y v u Q I rx ry h
 obtain ⟨a,b,xs,ys,rfl,rfl,ha,hb,hx,hz,q1,q2⟩:=h
 cases rx
 cases ry
 obtain ⟨its,r1,p1,_⟩:=I.tuple ha
 obtain ⟨its2,r2,p2,_⟩:=I.tuple hb
 refine HT.cat_tup p1 p2 (fun z=>hx (r1.nil_iff.mp z)) (fun z=>⟨.ref a,H,I,rfl,q1 (r2.nil_iff.mp z)⟩) (fun z=>?_) (by rw [← r1.length,← r2.length]; exact hz)
 refine ⟨.ref s.heap.objs.size,_,I.laid (t':=s.toks) (o:=.tup (xs ++ ys)) (fun b ob q=>Heap.get?_push_of_some _ q) (Nat.le_refl _) ?_,rfl,q2 (fun w=>z (r2.nil_iff.mpr w)) _ (I.hok.fresh (Nat.le_refl _))⟩
 exact ⟨by rw [List.length_append]; exact hz,_,r1.append r2,IsTupD.new _ _⟩
end
noncomputable def ixN (n:Nat) (i:Int):Option Nat:=if 0 ≤ i then (if i < n then some i.toNat else none) else if -(n:Int) ≤ i then some (i + n).toNat else none
noncomputable def atI {α:Type} (xs:List α) (i:Int):Option α:=(ixN xs.length i).bind fun j=>xs[j]?
theorem Quy {n:Nat} {i:Int} {j:Nat} (h:ixN n i = some j):seqIndex? i n = some j ∧ j < n ∧ -(n:Int) ≤ i ∧ i < n:=by
 unfold ixN at h
 by_cases h0:0 ≤ i
 ·rw [if_pos h0] at h
  by_cases h1:i < n
  ·rw [if_pos h1] at h
   have e:i.toNat = j:=Option.some.inj h
   exact ⟨by rw [seqIndex_of h0 h1,e],by omega,by omega,h1⟩
  ·rw [if_neg h1] at h; cases h
 ·rw [if_neg h0] at h
  by_cases h1:-(n:Int) ≤ i
  ·rw [if_pos h1] at h
   have e:(i + n).toNat = j:=Option.some.inj h
   exact ⟨by rw [seqIndex_neg (by omega) h1,e],by omega,h1,by omega⟩
  ·rw [if_neg h1] at h; cases h
theorem Qo0 {α:Type} {xs:List α} {i:Int} {v:α} (h:atI xs i = some v):∃ j,seqIndex? i xs.length = some j ∧ xs[j]? = some v ∧ j < xs.length ∧ -(xs.length:Int) ≤ i ∧ i < xs.length:=by
 unfold atI at h
 cases e:ixN xs.length i with
 | none=>rw [e] at h; cases h
 | some j =>
  rw [e] at h
  obtain ⟨h1,h2,h3,h4⟩:=Quy e
  exact ⟨j,h1,h,h2,h3,h4⟩
theorem Qdi {α:Type} {xs:List α} {j:Nat} {v:α} (h:xs[j]? = some v):atI xs (j:Int) = some v:=by
 have hj:j < xs.length:=(List.getElem?_eq_some_iff.mp h).1
 have e:ixN xs.length (j:Int) = some j:=by
  unfold ixN
  rw [if_pos (by omega),if_pos (by omega)]; simp
 unfold atI; rw [e]; exact h
noncomputable def Qkn (b:Expr):Prop:=∀ o i,subscripted b false o i = operate [o,i] (getItem o i)
noncomputable def IxR (X:Cx) (r:R2):Prop :=
 ∀ (value slice:Expr) (pins:List (Addr × Obj)) (s:Shared) (σ:St) (H:Hp) (x y:V) (v u:Value) (Q:VK),Inv X pins σ H s → RelV x v → RelV y u → r x y H Q →
  subscripted slice false v u = operate [v,u] (getItem v u) → wpAny (model X.prog X.w) X.A (subscriptTail value slice v u) (EP X pins σ Q) X.xe s
noncomputable def MtR (X:Cx) (id:String) (r:V → List V → Hp → VK → Prop):Prop :=
 ∀ (pins:List (Addr × Obj)) (s:Shared) (σ:St) (H:Hp) (x:V) (xs:List V) (v:Value) (us:List Value) (Q:VK),Inv X pins σ H s → RelV x v → Vals xs us → r x xs H Q →
  wpAny (model X.prog X.w) X.A (call (.builtin id) (v :: us)) (EP X pins σ Q) X.xe s
section
variable {X:Cx} {a b:Expr} {ta tb:TE} {pos:Pos}
theorem IxR.or {r r':R2} (h:IxR X r) (h':IxR X r'):IxR X (fun x y H Q=>r x y H Q ∨ r' x y H Q):=by
 intro value slice pins s σ H x y v u Q I rx ry q hs
 rcases q with q | q
 ·exact h value slice pins s σ H x y v u Q I rx ry q hs
 ·exact h' value slice pins s σ H x y v u Q I rx ry q hs
theorem Qabv {r:R2} (hr:IxR X r) (ha:PE X a ta) (hb:PE X b tb) (hs:Qkn b):PE X (.Subscript a b pos) (tOp r ta tb):=by
 intro pins s σ H Q I h
 exact Subscript_ (Q7q ha hb I h fun v u s2 x y H2 I2 rx ry q=>hr a b pins s2 σ H2 x y v u Q I2 rx ry q (hs _ _))
noncomputable def rIxL (K:PySem.W.Frag):R2:=fun x y H Q=>∃ p xs i v,x = .ref p ∧ y = .int i ∧ SqL K H p xs ∧ atI xs i = some v ∧ Q v H
noncomputable def rIxT (K:PySem.W.Frag):R2:=fun x y H Q=>∃ p xs i v,x = .ref p ∧ y = .int i ∧ SqT K H p xs ∧ atI xs i = some v ∧ Q v H
noncomputable def rIxS:R2:=fun x y H Q=>∃ z i c,x = .str z ∧ y = .int i ∧ z.length ≤ sizeLine ∧ atI z.cps.toList i = some c ∧ Q (.str ⟨#[c]⟩) H
theorem Q3a:IxR X (rIxL X.K):=by
 intro value slice pins s σ H x y v u Q I rx ry h hs
 obtain ⟨p,xs,i,z,rfl,rfl,hq,he,q⟩:=h
 cases rx
 obtain ⟨t,rfl⟩:=ry
 obtain ⟨its,r,pl,hz⟩:=I.list hq
 obtain ⟨j,h1,h2,h3,h4,h5⟩:=Qo0 he
 obtain ⟨w,ew,rw'⟩:=r.get h2
 have hl:=r.length
 have hn:=Qky
 have fin:EP X pins σ Q w s:=⟨z,H,I,rw',q⟩
 by_cases h0:0 ≤ i
 ·have hj:i.toNat = j:=by
   rw [seqIndex_of h0 h5] at h1
   exact Option.some.inj h1
  exact item_listR pl.isList h0 (by omega) (by rw [hj]; simpa using ew) fin hs
 ·have hj:(i + (its.toArray.size:Int)).toNat = j:=by
   rw [seqIndex_neg (by omega) h4] at h1
   rw [List.size_toArray,← hl]
   exact Option.some.inj h1
  exact subscriptTail_builtinR (x:=w) pl.isList.typeIs slot_list_getitem.lookup
   (wpAny_getItem_list_neg (Q:=fun r s'=>r = w ∧ EP X pins σ Q r s') pl.isList (by omega) (by rw [List.size_toArray] <;> omega) (by omega) (by rw [hj]; simpa using ew) ⟨rfl,fin⟩) hs
theorem Q75:IxR X (rIxT X.K):=by
 intro value slice pins s σ H x y v u Q I rx ry h hs
 obtain ⟨p,xs,i,z,rfl,rfl,hq,he,q⟩:=h
 cases rx
 obtain ⟨t,rfl⟩:=ry
 obtain ⟨its,r,pl,hz⟩:=I.tuple hq
 obtain ⟨j,h1,h2,h3,h4,h5⟩:=Qo0 he
 obtain ⟨w,ew,rw'⟩:=r.get h2
 have hl:=r.length
 have hn:=Qky
 have fin:EP X pins σ Q w s:=⟨z,H,I,rw',q⟩
 exact subscriptTail_builtinR (x:=w) pl.typeIs slot_tuple_getitem.lookup
  (getItem_tuple (j:=j) (Q:=fun r s'=>r = w ∧ EP X pins σ Q r s') pl (by omega) (by omega) (by rw [List.size_toArray,← hl]; exact h1) (by simpa using ew) ⟨rfl,fin⟩) hs
theorem Q76:IxR X rIxS:=by
 intro value slice pins s σ H x y v u Q I rx ry h hs
 obtain ⟨z,i,c,rfl,rfl,hz,he,q⟩:=h
 obtain ⟨t,rfl⟩:=rx
 obtain ⟨t',rfl⟩:=ry
 obtain ⟨j,h1,h2,h3,h4,h5⟩:=Qo0 he
 have hl:z.cps.toList.length = z.length:=by simp [Str.length]
 rw [hl] at h1 h4 h5
 have hn:=Qky
 exact tail_any (typeIs_str s z t) slot_str_getitem.lookup (getItem_str (c:=c) (by
  have e1:decide (i < -(2 ^ 63:Int)) = false:=decide_eq_false (by omega)
  have e2:decide (i ≥ 2 ^ 63) = false:=decide_eq_false (by omega)
  rw [e1,e2,Bool.or_false]) (by rw [h1]; simpa using h2) ⟨.str ⟨#[c]⟩,H,I.tok _,⟨_,rfl⟩,q⟩) hs
noncomputable def rIx (K:PySem.W.Frag):R2:=fun x y H Q=>rIxL K x y H Q ∨ rIxT K x y H Q ∨ rIxS x y H Q
theorem Q77:IxR X (rIx X.K):=Q3a.or (Q75.or Q76)
theorem Qs2 (its:List Value) (n j:Nat) (u:Value):Obj.mapSeq (·.setIfInBounds j u) { cls:=.type "list",data:=.seq its.toArray n } = { cls:=.type "list",data:=.seq (its.set j u).toArray n }:=by
 simp [Obj.mapSeq]
theorem Inv.lst {pins:List (Addr × Obj)} {σ:St} {H:Hp} {s:Shared} {p:Addr} {xs:List V} (I:Inv X pins σ H s) (h:H p = some (.lst xs)) :
  ∃ (its:List Value) (n:Nat),Vals xs its ∧ s.heap.get? p = some { cls:=.type "list",data:=.seq its.toArray n } ∧ xs.length ≤ sizeLine:=by
 obtain ⟨z,its,n,r,e⟩:=I.hok p _ h
 exact ⟨its,n,r,e,z⟩
theorem Inv.lstUpd {pins:List (Addr × Obj)} {σ:St} {H:Hp} {s:Shared} {p:Addr} {xs ys:List V} {its its':List Value} {n n':Nat} {f:Obj → Obj} (I:Inv X pins σ H s) (h:H p = some (.lst xs))
  (ho:s.heap.get? p = some { cls:=.type "list",data:=.seq its.toArray n }) (hf:f { cls:=.type "list",data:=.seq its.toArray n } = { cls:=.type "list",data:=.seq its'.toArray n' }) (r:Vals ys its') (hz:ys.length ≤ sizeLine) (t:Nat) :
  Inv X pins σ (upd H p (.lst ys)) { s with heap:=s.heap.update p f,toks:=t }:=by
 have e:(s.heap.update p f).get? p = some { cls:=.type "list",data:=.seq its'.toArray n' }:=by
  rw [Heap.get?_update_self f ho (by rw [hf] <;> rfl),hf]
 refine I.write (x:=p) (e:=p) (by rw [h]; trivial) (.inl rfl) (fun b u hb q=>(Heap.get?_update_other _ _ (Ne.symm hb)).trans q) ⟨_,e⟩ ?_
 exact ⟨hz,its',n',r,e⟩
noncomputable def Quz:V → V → V → Hp → (Hp → Prop) → Prop:=fun o i v H Q=>∃ p xs k j,o = .ref p ∧ i = .int k ∧ H p = some (.lst xs) ∧ ixN xs.length k = some j ∧ Q (upd H p (.lst (xs.set j v)))
theorem Qyk:PSet X Quz:=by
 intro pins s σ H o i v ov iv u Q I ro ri rv h
 obtain ⟨p,xs,k,j,rfl,rfl,hp,hj,q⟩:=h
 cases ro
 obtain ⟨t,rfl⟩:=ri
 obtain ⟨its,n,r,ho,hz⟩:=I.lst hp
 obtain ⟨h1,h2,h3,h4⟩:=Quy hj
 have hl:=r.length
 have hn:=Qky
 have I':Inv X pins σ (upd H p (.lst (xs.set j v))) { s with heap:=s.heap.update p (Obj.mapSeq (·.setIfInBounds j u)) } :=
  I.lstUpd hp ho (Qs2 its n j u) (r.set rv j) (by rw [List.length_set]; exact hz) s.toks
 by_cases h0:0 ≤ k
 ·have hk:k.toNat = j:=by
   rw [seqIndex_of h0 h4] at h1
   exact Option.some.inj h1
  exact PySem.W.ki_setAt ho h0 (by omega) (by rw [List.size_toArray,← hl]; exact h4) (by rw [hk]; exact ⟨_,I',q⟩)
 ·have hk:(k + (its.toArray.size:Int)).toNat = j:=by
   rw [seqIndex_neg (by omega) h3] at h1
   rw [List.size_toArray,← hl]
   exact Option.some.inj h1
  exact PySem.W.ki_setBack ho (by omega) (by rw [List.size_toArray,← hl]; exact h3) (by omega) (by rw [hk]; exact ⟨_,I',q⟩)
theorem Qo1 (lo hi:Option Int) (n:Nat):(sliceBounds lo hi none n).1 = ((HT.sIx n 0 lo:Nat):Int) ∧ (sliceBounds lo hi none n).2.1 = ((HT.sIx n n hi:Nat):Int) ∧ (sliceBounds lo hi none n).2.2 = 1:=by
 refine ⟨?_,?_,rfl⟩
 ·cases lo with
  | none=>simp [sliceBounds,HT.sIx]
  | some i =>
   simp only [sliceBounds,HT.sIx,Option.getD_none,show (1:Int) > 0 by decide,if_true]
   by_cases h:i < 0
   ·simp only [h,if_true] <;> omega
   ·simp only [h,if_false] <;> omega
 ·cases hi with
  | none=>simp [sliceBounds,HT.sIx]
  | some i =>
   simp only [sliceBounds,HT.sIx,Option.getD_none,show (1:Int) > 0 by decide,if_true]
   by_cases h:i < 0
   ·simp only [h,if_true] <;> omega
   ·simp only [h,if_false] <;> omega
theorem Qm3 (its:List Value) (lo hi:Option Int):slicePick its.toArray lo hi none = ((its.drop (HT.sIx its.length 0 lo)).take (HT.sIx its.length its.length hi - HT.sIx its.length 0 lo)).toArray:=by
 obtain ⟨h1,h2,h3⟩:=Qo1 lo hi its.toArray.size
 unfold slicePick
 rw [h1,h2,h3]
 simp only [sliceRange_one,pick_run,List.size_toArray] <;> rfl
noncomputable def rSlL (K:PySem.W.Frag):V → Option Int → Option Int → Hp → VK → Prop:=fun x lo hi H Q=>∃ a xs,x = .ref a ∧ SqL K H a xs ∧ ∀ p,H p = none → Q (.ref p) (upd H p (.lst (Qgn xs lo hi)))
theorem Q3b:SlR X (rSlL X.K):=by
 intro pins s σ H x v vl vu lo hi sl Q I rx hs pl pu h
 obtain ⟨a,xs,rfl,hx,q⟩:=h
 cases rx
 obtain ⟨its,r,ht,hz⟩:=I.list hx
 have hlen:=r.length
 refine ⟨"list",_,slot_list_getitem.lookup,ht.isList.typeIs,?_⟩
 refine wpAny_getItem_list_slice ht.isList hs pl pu .none (by simp) ?_ (by rw [List.size_toArray] <;> omega)
 rw [Qm3,← hlen]
 refine ⟨.ref s.heap.objs.size,_,I.laid (t':=s.toks) (o:=.lst (Qgn xs lo hi)) (fun b ob q=>Heap.get?_push_of_some _ q) (Nat.le_refl _) ?_,rfl,q _ (I.hok.fresh (Nat.le_refl _))⟩
 exact ⟨Nat.le_trans (Qgo xs lo hi) hz,_,0,(r.drop (HT.sIx xs.length 0 lo)).take (HT.sIx xs.length xs.length hi - HT.sIx xs.length 0 lo),Heap.get?_push_size _ rfl⟩
theorem Qo2:CallR X (.builtin "len") (fun xs H Q=>∃ p ys,xs = [.ref p] ∧ (SqL X.K H p ys ∨ SqT X.K H p ys) ∧ Q (.int ys.length) H):=by
 intro pins s σ H xs us Q I r h
 obtain ⟨p,ys,rfl,hq,q⟩:=h
 obtain ⟨u,rfl,rx⟩:=Qe9 r
 cases rx
 have hn:=Qky
 rcases hq with hq | hq
 ·obtain ⟨its,r',pl,hz⟩:=I.list hq
  have hlen:=r'.length
  exact Calls.call_len_list pl.isList (by simp only [List.size_toArray] <;> omega) ⟨.int ys.length,H,I.tok _,⟨s.toks + 1,by rw [List.size_toArray,hlen]⟩,q⟩
 ·obtain ⟨its,r',pl,hz⟩:=I.tuple hq
  have hlen:=r'.length
  exact len_tuple pl (by simp only [List.size_toArray] <;> omega) ⟨.int ys.length,H,I.tok _,⟨s.toks + 1,by rw [List.size_toArray,hlen]⟩,q⟩
theorem CallR.or {f:Value} {r r':List V → Hp → VK → Prop} (h:CallR X f r) (h':CallR X f r'):CallR X f (fun xs H Q=>r xs H Q ∨ r' xs H Q):=by
 intro pins s σ H xs us Q I rs q
 rcases q with q | q
 ·exact h pins s σ H xs us Q I rs q
 ·exact h' pins s σ H xs us Q I rs q
theorem Qm4:CallR X (.type "tuple") (fun xs H Q=>∃ p ys,xs = [.ref p] ∧ ((SqL X.K H p ys ∧ ∀ l,H l = none → Q (.ref l) (upd H l (.tup ys))) ∨ (SqT X.K H p ys ∧ Q (.ref p) H))):=by
 intro pins s σ H xs us Q I r h
 obtain ⟨p,ys,rfl,h⟩:=h
 obtain ⟨u,rfl,rx⟩:=Qe9 r
 cases rx
 rcases h with ⟨hq,q⟩ | ⟨hq,q⟩
 ·obtain ⟨its,r',pl,hz⟩:=I.list hq
  have hlen:=r'.length
  refine call_tuple_list pl.isList (fun h' kp=>?_) (by simp only [List.size_toArray] <;> omega)
  have I1:Inv X pins σ H { s with heap:=h' }:=I.kept (t':=s.toks) kp
  have I2:Inv X pins σ (upd H h'.objs.size (.tup ys)) { s with heap:=h'.push { cls:=.type "tuple",data:=.seq its.toArray } } :=
   I1.laid (t':=s.toks) (fun b o e=>Heap.get?_push_of_some _ e) (Nat.le_refl _) (show ObjOk X.prog X.w _ _ _ (.tup ys) from ⟨hz,its,r',IsTupD.new _ _⟩)
  exact ⟨.ref h'.objs.size,_,I2,rfl,q _ (I1.hok.fresh (Nat.le_refl _))⟩
 ·obtain ⟨its,r',pl,hz⟩:=I.tuple hq
  exact call_tuple_same pl ⟨.ref p,H,I,rfl,q⟩
noncomputable def tyV (K:PySem.W.Frag) (T:String) (x:V) (H:Hp):Prop:=match x with
 | .str _=>T = "str"
 | .int _=>T = "int"
 | .ref p=>(T = "list" ∧ ∃ xs,SqL K H p xs) ∨ (T = "tuple" ∧ ∃ o,K.lookup p = some o ∧ o.cls = .type "tuple" ∧ o.dict = none) ∨
   (T = "dict" ∧ ((∃ kvs,H p = some (.dK kvs)) ∨ ∃ kvs,H p = some (.dT kvs))) ∨ (T = "set" ∧ ∃ S n,H p = some (.set S n))
 | _=>False
theorem Q78 {pins:List (Addr × Obj)} {σ:St} {H:Hp} {s:Shared} {T:String} {x:V} {v:Value} (I:Inv X pins σ H s) (r:RelV x v) (ty:tyV X.K T x H) :
  s.TypeIs v T ∧ ∀ a,v = .ref a → ∃ ob,s.heap.get? a = some ob ∧ ob.dict = none:=by
 cases x with
 | str z =>
  obtain ⟨t,rfl⟩:=r
  cases (show T = "str" from ty)
  exact ⟨typeIs_str s z t,fun _ e=>nomatch e⟩
 | int i =>
  obtain ⟨t,rfl⟩:=r
  cases (show T = "int" from ty)
  exact ⟨typeIs_int s i t,fun _ e=>nomatch e⟩
 | ref p =>
  cases r
  rcases ty with ⟨rfl,xs,hq⟩ | ⟨rfl,o,hk,hc,hd⟩ | ⟨rfl,hk⟩ | ⟨rfl,S,n,hk⟩
  ·obtain ⟨its,_,pl,_⟩:=I.list hq
   refine ⟨pl.isList.typeIs,fun a e=>?_⟩
   cases e
   obtain ⟨o,n,e,c,hd,_⟩:=pl
   exact ⟨o,e,hd⟩
  ·refine ⟨⟨o,I.kIn p o hk,hc⟩,fun a e=>?_⟩
   cases e
   exact ⟨o,I.kIn _ o hk,hd⟩
  ·have z:∃ o,s.heap.get? p = some o ∧ o.ExactDict:=by
    rcases hk with ⟨kvs,hk⟩ | ⟨kvs,hk⟩
    ·obtain ⟨_,_,_,_,o,_,_,e,ex,_⟩:=I.hok p _ hk
     exact ⟨o,e,ex⟩
    ·obtain ⟨_,_,_,_,o,_,_,e,ex,_⟩:=I.hok p _ hk
     exact ⟨o,e,ex⟩
   obtain ⟨o,e,ex⟩:=z
   refine ⟨⟨o,e,ex.1⟩,fun a e2=>?_⟩
   cases e2
   exact ⟨o,e,ex.2.1⟩
  ·obtain ⟨o,_,_,_,e,ex,_⟩:=I.hok p _ hk
   refine ⟨⟨o,e,ex.1⟩,fun a e2=>?_⟩
   cases e2
   exact ⟨o,e,ex.2.1⟩
 | _=>exact False.elim ty
noncomputable abbrev tBM (K:PySem.W.Frag) (T:String) (r:V → List V → Hp → VK → Prop) (to:TE) (t:TA):TE:=fun σ H Q=>to σ H fun x H1=>tyV K T x H1 ∧ t σ H1 fun xs H2=>r x xs H2 Q
variable {o e:Expr} {es:List Expr} {to:TE} {t:TA} {name:Str} {apos cpos:Pos} {T id:String} {r:V → List V → Hp → VK → Prop}
theorem Qab0 (pa:PlainAttrs T) (slot:Slot T name id) (hty:typeOf (.builtin id) = pure (.type "method_descriptor")) (hm:MtR X id r) (ho:PE X o to) (ha:PA X (e :: es) t)
  (hbase:attributeBase o name X.env (eval o X.env) = eval o X.env:=by rfl)
  (hfew:((backTo cpos (starEach (e :: es) X.env)).all (fun x=>!x.1) && (backToKw cpos (keywordEach [] X.env)).all (fun x=>x.1.isSome)
   && decide ((e :: es).length + ([]:List Keyword).length + (if ([]:List Keyword).isEmpty then 0 else 1) < 30)) = true:=by rfl)
  (hline:(apos.endLine == cpos.line) = true:=by rfl) (hs:starEach (e :: es) X.env = (false,eval e X.env) :: starEach es X.env:=by rfl) (hplain:(backTo cpos (starEach es X.env)).any (·.1) = false:=by rfl) :
  PE X (.Call (.Attribute o name apos) (e :: es) [] cpos) (tBM X.K T r to t):=by
 intro pins s σ H Q I h
 refine wpAny_Call_method_late hbase hfew hline rfl (thn (ho pins s σ H _ I h) fun v s1 ⟨x,H1,I1,r1,ty,q1⟩=>?_)
 obtain ⟨h1,h2⟩:=Q78 I1 r1 ty
 refine ⟨T,id,pa,slot,hty,h1,h2,?_⟩
 have hA:=ha cpos pins s1 σ H1 _ I1 q1
 rw [hs] at hA ⊢
 refine Calls.callWith_builtin (by show (false || (backTo cpos (starEach es X.env)).any (·.1)) = false; rw [hplain] <;> rfl) (Calls.evalArgs_plain ?_)
 exact thn hA fun us s2 ⟨vs,H2,I2,r2,q2⟩=>hm pins s2 σ H2 x vs v us Q I2 r1 r2 q2
end
noncomputable def MtM (X:Cx) (id:String) (r:V → List V → Hp → VK → Prop):Prop :=
 ∀ (pins:List (Addr × Obj)) (s:Shared) (σ:St) (H:Hp) (x:V) (xs:List V) (v:Value) (us:List Value) (Q:VK),Inv X pins σ H s → RelV x v → Vals xs us → r x xs H Q →
  wpAny (model X.prog X.w) X.A (call (.builtin id) (v :: us)) (EP X pins σ Q) X.xe s
theorem Vals.one:∀ {x:V} {us:List Value},Vals [x] us → ∃ u,us = [u] ∧ RelV x u
 | _,_,.cons r .nil=>⟨_,rfl,r⟩
theorem Vals.rep {xs:List V} {us:List Value} (h:Vals xs us):∀ k:Nat,Vals (List.replicate k xs).flatten (List.replicate k us).flatten
 | 0=>.nil
 | k + 1=>by
  rw [List.replicate_succ,List.replicate_succ,List.flatten_cons,List.flatten_cons]
  exact Vals.append h (Vals.rep h k)
theorem foldl_rep (its:List Value):∀ (k:Nat) (acc:List Value),
  List.foldl (fun x1 x2=>x1 ++ x2) acc.toArray (List.replicate k its.toArray) = (acc ++ (List.replicate k its).flatten).toArray
 | 0,acc=>by simp
 | k + 1,acc=>by
  have e:acc.toArray ++ its.toArray = (acc ++ its).toArray:=by simp
  have e2:(acc ++ its) ++ (List.replicate k its).flatten = acc ++ (List.replicate (k + 1) its).flatten:=by
   rw [List.replicate_succ,List.flatten_cons,List.append_assoc]
  rw [← e2,← foldl_rep its k (acc ++ its),← e,List.replicate_succ,List.foldl_cons]
section
variable {X:Cx} {pins:List (Addr × Obj)} {σ:St} {H:Hp} {s:Shared} {l b:Addr} {xs ys zs:List V}
theorem Inv.lset {its its':List Value} {n:Nat} {f:Array Value → Array Value} {t':Nat} (I:Inv X pins σ H s) (hH:H l = some (.lst xs))
  (e:s.heap.get? l = some { cls:=.type "list",data:=.seq its.toArray n }) (hf:f its.toArray = its'.toArray) (hv:Vals ys its') (hz:ys.length ≤ sizeLine) :
  Inv X pins σ (upd H l (.lst ys)) { s with heap:=s.heap.update l (Obj.mapSeq f),toks:=t' }:=by
 have q:=PySem.IsL.update e f
 rw [hf] at q
 refine I.write (x:=l) (e:=l) (by rw [hH]; exact trivial) (.inl rfl) (fun b' u hb hu=>(Heap.get?_update_other s.heap (Obj.mapSeq f) (Ne.symm hb)).trans hu) ⟨_,q⟩ ?_
 exact ⟨hz,its',_,hv,q⟩
theorem Inv.lnew {its:List Value} {t':Nat} (I:Inv X pins σ H s) (hv:Vals ys its) (hz:ys.length ≤ sizeLine) :
  Inv X pins σ (upd H s.heap.objs.size (.lst ys)) { s with heap:=s.heap.push { cls:=.type "list",data:=.seq its.toArray },toks:=t' } :=
 I.laid (fun _ _ q=>Heap.get?_push_of_some _ q) (Nat.le_refl _) ⟨hz,its,0,hv,Heap.get?_push_size _ rfl⟩
theorem Inv.fresh (I:Inv X pins σ H s):H s.heap.objs.size = none:=I.hok.fresh (Nat.le_refl _)
theorem Inv.lstM (I:Inv X pins σ H s) (hH:H l = some (.lst xs)):xs.length ≤ sizeLine ∧ ∃ (its:List Value) (n:Nat),Vals xs its ∧ xs.length = its.length ∧ s.heap.get? l = some { cls:=.type "list",data:=.seq its.toArray n }:=by
 obtain ⟨z,its,n,r,e⟩:=I.hok l _ hH
 exact ⟨z,its,n,r,r.length,e⟩
theorem Qk0 {n:Nat} (h:n ≤ sizeLine):Builtin.List.listTooLong n = false:=by
 unfold Builtin.List.listTooLong
 exact decide_eq_false (by omega)
end
section
variable {X:Cx}
noncomputable def Qko:V → List V → Hp → VK → Prop:=fun x vs H Q=>∃ l xs y,x = .ref l ∧ vs = [y] ∧ H l = some (.lst xs) ∧ xs.length < sizeLine ∧ Q .non (upd H l (.lst (xs ++ [y])))
theorem Qnx:MtM X "list.append" Qko:=by
 intro pins s σ H x vs v us Q I rx rv h
 obtain ⟨l,xs,y,rfl,rfl,hH,hz,q⟩:=h
 cases rx
 obtain ⟨u,rfl,ru⟩:=rv.one
 obtain ⟨z,its,n,r,hl,e⟩:=I.lstM hH
 refine call_meets F.slot_list_append ⟨_,e,rfl⟩ F.entry_list_append (F.args_list_append_2 _ _) (PySem.list_append l its.toArray n u (by rw [List.size_toArray]; omega)) ⟨e,?_⟩
 refine ⟨.non,_,I.lset (its':=its ++ [u]) hH e (by simp) (r.append (.cons ru .nil)) ?_,rfl,q⟩
 rw [List.length_append,List.length_singleton]
 omega
noncomputable def Q3c:V → List V → Hp → VK → Prop:=fun x vs H Q=>∃ l b xs zs,x = .ref l ∧ vs = [.ref b] ∧ H l = some (.lst xs) ∧ H b = some (.lst zs) ∧ xs.length + zs.length ≤ sizeLine ∧ Q .non (upd H l (.lst (xs ++ zs)))
theorem mt_extend:MtM X "list.extend" Q3c:=by
 intro pins s σ H x vs v us Q I rx rv h
 obtain ⟨l,b,xs,zs,rfl,rfl,hH,hB,hz,q⟩:=h
 cases rx
 obtain ⟨u,rfl,ru⟩:=rv.one
 cases ru
 obtain ⟨z,its,n,r,hl,e⟩:=I.lstM hH
 obtain ⟨z2,its2,n2,r2,hl2,e2⟩:=I.lstM hB
 have hsz:its.toArray.size + its2.toArray.size ≤ sizeLine:=by rw [List.size_toArray,List.size_toArray]; omega
 have hlong:¬ (!its.toArray.isEmpty && Builtin.List.listTooLong (its.toArray.size + its2.toArray.size)) = true:=by
  rw [Qk0 hsz,Bool.and_false]
  exact Bool.false_ne_true
 refine call_meets F.slot_list_extend ⟨_,e,rfl⟩ F.entry_list_extend (F.args_list_extend_2 _ _)
  (AutoSeq1.list_extend_list_list_0 l its.toArray n b its2.toArray n2 hlong (by rw [List.size_toArray]; omega) (by omega)) ⟨e,e2,?_⟩
 refine ⟨.non,_,I.lset (its':=its ++ its2) hH e (by simp) (r.append r2) ?_,rfl,q⟩
 rw [List.length_append]
 omega
noncomputable def rCat:R2:=fun x y H Q=>∃ l b xs zs,x = .ref l ∧ y = .ref b ∧ H l = some (.lst xs) ∧ H b = some (.lst zs) ∧ xs.length + zs.length ≤ sizeLine ∧ ∀ p,H p = none → Q (.ref p) (upd H p (.lst (xs ++ zs)))
theorem Q79:OpR X (binaryOp .Add) rCat:=by
 intro pins s σ H x y v u Q I rx ry h
 obtain ⟨l,b,xs,zs,rfl,rfl,hH,hB,hz,q⟩:=h
 cases rx
 cases ry
 obtain ⟨z,its,n,r,hl,e⟩:=I.lstM hH
 obtain ⟨z2,its2,n2,r2,hl2,e2⟩:=I.lstM hB
 refine PySem.P.add_list e e2 ?_ (by rw [List.size_toArray,List.size_toArray]; omega)
 have ea:its.toArray ++ its2.toArray = (its ++ its2).toArray:=by simp
 rw [ea]
 exact ⟨.ref _,_,I.lnew (t':=s.toks) (r.append r2) (by rw [List.length_append]; omega),rfl,q _ I.fresh⟩
noncomputable def rRep:R2:=fun x y H Q=>∃ l k xs,x = .ref l ∧ y = .int k ∧ H l = some (.lst xs) ∧ -(2 ^ 63) ≤ k ∧ k < 2 ^ 63 ∧ xs.length * k.toNat ≤ sizeLine ∧
 ∀ p,H p = none → Q (.ref p) (upd H p (.lst (List.replicate k.toNat xs).flatten))
theorem Qip {α:Type} (xs:List α) (k:Nat):(List.replicate k xs).flatten.length = k * xs.length:=by
 induction k with
 | zero=>simp
 | succ k ih=>rw [List.replicate_succ,List.flatten_cons,List.length_append,ih,Nat.succ_mul,Nat.add_comm]
theorem Q8a:OpR X (binaryOp .Mult) rRep:=by
 intro pins s σ H x y v u Q I rx ry h
 obtain ⟨l,k,xs,rfl,rfl,hH,h1,h2,hz,q⟩:=h
 cases rx
 obtain ⟨t,rfl⟩:=ry
 obtain ⟨z,its,n,r,hl,e⟩:=I.lstM hH
 have hlen:its.toArray.size * k.toNat ≤ sizeLine:=by rw [List.size_toArray,← hl]; exact hz
 have hcap:¬ its.toArray.size * k.toNat > (2 ^ 63 - 1) / 8:=by
  have:(sizeLine:Nat) ≤ (2 ^ 63 - 1) / 8:=by decide
  omega
 have hfit:¬ (!Builtin.List.listFitsIndex k) = true:=by
  rw [fitsIndex_both h1 h2]
  exact Bool.false_ne_true
 have hlong:¬ Builtin.List.listTooLong (its.toArray.size * k.toNat) = true:=by
  rw [Qk0 hlen]
  exact Bool.false_ne_true
 have hnew:List.foldl (fun x1 x2=>x1 ++ x2) #[] (List.replicate (if its.toArray.isEmpty = true then 0 else k.toNat) its.toArray) = (List.replicate k.toNat its).flatten.toArray:=by
  have f0:∀ m:Nat,List.foldl (fun x1 x2=>x1 ++ x2) #[] (List.replicate m its.toArray) = (List.replicate m its).flatten.toArray:=fun m=>by
   have:=foldl_rep its m []
   rw [List.nil_append] at this
   exact this
  rw [f0]
  cases its with
  | nil=>simp
  | cons a r'=>rw [if_neg (by simp)]
 refine wpAny_binaryOp_repeat_ref (T := "list") (U := "int") (by decide) ⟨_,e,rfl⟩ (fun s'=>typeIs_int s' k t) noFill_list_mul F.fills_int_mul F.slot_int_rmul repeat_list F.slot_int_index.lookup
  (call_meets F.slot_int_rmul (typeIs_int s k t) F.entry_int_rmul (F.args_int_rmul_2 _ _) (int___rmul___int_list k t l its.toArray n)
   ⟨e,rfl,⟨_,e,rfl⟩,call_meets F.slot_list_mul ⟨_,e,rfl⟩ F.entry_list_mul (F.args_list_mul_2 _ _) (AutoListH.list___mul___list_int_3 l its.toArray n k t hfit hcap hlong) ⟨e,?_⟩⟩)
 rw [hnew]
 exact ⟨.ref _,_,I.lnew (t':=s.toks) (r.rep k.toNat) (by rw [Qip,Nat.mul_comm]; exact hz),rfl,q _ I.fresh⟩
end
section
variable {prog:Program} {w:World} {A:Around} {E:Value → Shared → Prop} {s:Shared}
end
section
variable {X:Cx}
end
end L2
namespace Att
open PySem PySem.W PySem.Calls PyProof.Rows
theorem ints_of_wellAll {P:Params} {h:Heap}:∀ (ns:List Int) (vs:List Value),WellAll P h vs (ns.map WData.int) → IntsAre vs ns:=by
 intro ns
 induction ns with
 | nil =>
  intro vs w
  rw [List.map_nil] at w
  cases w
  exact .nil
 | cons n ns ih =>
  intro vs w
  rw [List.map_cons] at w
  cases w with
  | cons a b =>
   cases a
   exact .cons _ _ (ih _ b)
theorem script_of {l:OpenLaw} {n:Nat} (hn:l.most = some n) {P:Params} {h:Heap} {args:List WData} {vals:List Value}
  (hpre:l.row.toRowW.claim.pre args = true) (hwl:WellAll P h vals args) :
  ∃ a vs ns,vals = [Value.ref a] ∧ args = [WData.list (ns.map WData.int)] ∧ h.get? a = some { cls:=.type "list",data:=.seq vs.toArray } ∧ IntsAre vs ns ∧ ns.length ≤ n:=by
 have hsh:WShape.hasAll [] args [.list .int] = true:=(pre_splitW hpre).1
 have hc:l.pre.holds [] { args:=args } = true:=(pre_splitW hpre).2
 obtain ⟨d,r,rfl,h1,h2⟩:=hasAllW_cons hsh
 obtain rfl:=hasAllW_nil h2
 obtain ⟨xs,rfl,h3⟩:=hasW_list h1
 obtain ⟨ns,rfl⟩:=items_int h3
 have hlen:ns.length ≤ n:=by
  unfold OpenLaw.pre at hc
  have h4:(WTm.not (.lt (.lit (.int (n:Int))) (.len (.arg 0)))).holds [] { args:=[.list (ns.map .int)] } = true:=by
   have h4:=(holds_andW hc).1
   rw [hn] at h4
   exact h4
  have h5:=condW_of h4 (w_not (w_lt w_lit (w_len_list (w_arg rfl))))
  rw [List.length_map] at h5
  refine Nat.le_of_not_lt fun q=>?_
  have q':(n:Int) < ((ns.length:Nat):Int):=by omega
  first
   | (rw [decide_eq_true q'] at h5; exact absurd h5 (by decide))
   | (simp at h5; omega)
 cases hwl with
 | cons w1 w2 =>
  cases w2
  cases w1 with
  | list ho hall=>exact ⟨_,_,ns,rfl,rfl,ho,ints_of_wellAll ns _ hall,hlen⟩
theorem post_true (l:OpenLaw) (args:List WData):l.row.toRowW.claim.post args (.bool true) args = true :=
 postW_of (r:=l.row.toRowW) (X:=(true == true))
  (show WShape.has [] (.bool true) .bool = true by first | rfl | decide | simp [WShape.has,WShape.arms,WShape.armsAll])
  (show (WTm.eq .res (.lit (.bool true))).value [] { args:=args,res:=some (.bool true),after:=args } = some (.bool (true == true)) from w_eq_bool (w_res rfl) w_lit) rfl
theorem attach_call {l:OpenLaw} {n:Nat} {q:Program} {loose:List Str} {XP:(Str → Option Value) → Heap → Prop} {YP:World → Heap → Prop} {d:DefRec}
  (hn:l.most = some n) (hdf:d.params.defaults = [])
  (call:∀ (w:World) (s₀ s₁:Shared) (mg mb:Str → Option Value) (fa:Addr) (o:Obj) (pm cd doc:Value) (a:Addr) (vs:List Value) (ns:List Int),
   Ground q loose [] XP w s₀ mg mb s₁.heap → YP w s₁.heap →
   s₁.heap.get? fa = some o → o.data = .func (docDef d.name d.params d.body d.scope pm cd doc) → s₁.heap.CodeRec cd d.name → mg d.name = some (.ref fa) →
   s₁.heap.get? a = some { cls:=.type "list",data:=.seq vs.toArray } → IntsAre vs ns → ns.length ≤ n → s₁.gens = #[] →
   codeAny (model l.prog w) callerA (.call (.ref fa) ⟨[.ref a],[]⟩) (fun r s'=>r = .ok (.ret (.bool true)) ∧ OldK s₁.heap s'.heap ∧ s'.os = s₁.os ∧ AllBare s'.gens) s₁) :
  WalkO q loose XP YP l.row.toRowW d [] (fun f vs=>PySem.call f vs):=by
 intro w s₀ s₁ mg mb G Y fa o pm cd doc dV kV ho hd hcd hD hmg hg args vals as hpre hlay hrd hwl hlo
 obtain rfl:dV = .none:=Dflts.none hD hdf
 obtain rfl:kV = .none:=Dflts.noKw hD
 obtain ⟨a,vs,ns,rfl,rfl,hobj,hints,hlen⟩:=script_of hn hpre hwl
 refine enter_call (codeAny_mono (call w s₀ s₁ mg mb fa o pm cd doc a vs ns G Y ho (fd_plain hd) hcd hmg hobj hints hlen hg) fun r s' hq=>?_)
 obtain ⟨rfl,h2,h3,h4⟩:=hq
 exact ⟨.inl ⟨.bool true,.bool true,[],rfl,fun _=>rfl,.bool true,post_true l _,fun _=>⟨List.Pairwise.nil,fun _ hm=>(nomatch hm)⟩⟩,h2,h3,h4⟩
section
variable {prog:Program} {w:World} {A:Around} {E:Value → Shared → Prop} {s:Shared} {K:Frag}
end
end Att
namespace L2
open PySem PySem.Spec PyProof.Rows
theorem Qny:∀ {vs:List Value} {ns:List Int},IntsAre vs ns → Vals (ns.map V.int) vs
 | _,_,.nil=>.nil
 | _,_,.cons n t h=>.cons ⟨t,rfl⟩ (Qny h)
noncomputable abbrev KOf {K:PySem.W.Frag} {h:Heap} (_:K.In h):PySem.W.Frag:=K
noncomputable def Qdj (s:Stmt):Arguments:=match s with
 | .FunctionDef _ a _ _ _ _ _ _ _ _=>a
 | _=>{ posonlyargs:=[],args:=[],vararg:=none,kwonlyargs:=[],kw_defaults:=[],kwarg:=none,defaults:=[] }
noncomputable def Qa9 (s:Stmt):List Stmt:=match s with
 | .FunctionDef _ _ b _ _ _ _ _ _ _=>b
 | _=>[]
noncomputable def Qg (s:Stmt):Scope:=match s with
 | .FunctionDef _ _ _ _ _ _ sc _ _ _=>sc
 | _=>{ kind:=.function,names:=[],isGenerator:=false,isCoroutine:=false }
noncomputable abbrev CX0:CXT:=fun _ _ _ _ _ _=>False
noncomputable abbrev E0:XK:=fun _ _ _=>False
theorem Qab3 {X:Cx}:Qs1 CX0 X E0:=fun _ _ _ _ _ _ _ h=>h.elim
structure Fun (K:PySem.W.Frag) (x qual:Str) (st:Stmt) (f:Addr) (fd:FuncData):Prop where
 ex:∃ (oc:Value) (od:Option Addr) (kV doc pm:Value) (an:Option Addr) (cdv ct:Value) (osl:Array (Option Value)),
  fd = PySem.W.fnOf x qual (Qdj st) (Qa9 st) (Qg st) .none kV doc pm an cdv ct ∧ K.lookup f = some ⟨oc,od,.func fd,osl⟩ ∧ PySem.W.codeIn K cdv qual = true
 kp:PySem.W.keepIn K (.ref f) = true
section
variable {P:Program} {w:World} {K:PySem.W.Frag} {mg:Str → Option Value} {base:Heap}
theorem Fun.ok {x qual:Str} {st:Stmt} {f:Addr} {fd:FuncData} {N ps:List Str} {k:Nat} {sp:Sp} (F:Fun K x qual st f fd) (S:FnScope N ps (Qg st)) (len:∀ vs H Q E,sp vs H Q E → vs.length = ps.length)
  (hbody:∀ (cdv:Value) (A:Around) (outer:List Env) (s:Shared) (H:Hp) (vs:List V) (Q:VK) (E:XK),Room k (A.deeper (envOfC qual (Qg st) s.heap.objs.size f cdv)) → sp vs H Q E →
   ∃ t,PSs (Qhq (fun _=>true) CX0 P w K mg base N qual (Qg st) f cdv A outer s H E).nox (Qa9 st) t ∧ t { nx:=fun _ H'=>Q .non H',rt:=Q } (Qbk N vs) H):FnOk P w K mg base CX0 (k + 1) f fd ps sp:=by
 obtain ⟨oc,od,kV,doc,pm,an,cdv,ct,osl,rfl,lk,hcd⟩:=F.ex
 refine Qabt (g:=fun _=>true) lk hcd S len fun A outer s H vs Q E hr hsp=>?_
 obtain ⟨t,h,q⟩:=hbody cdv A outer s H vs Q E hr hsp
 exact ⟨t,h.nox,q⟩
theorem Fun.binds {x qual:Str} {st:Stmt} {f:Addr} {fd:FuncData} {ps:List Str} (F:Fun K x qual st f fd)
  (h:∀ (kV doc pm:Value) (an:Option Addr) (cdv ct:Value) (us:List Value),us.length = ps.length → bindArgs (PySem.W.fnOf x qual (Qdj st) (Qa9 st) (Qg st) .none kV doc pm an cdv ct) ⟨us,[]⟩ = pure (ps.zip us)):Binds K fd ps []:=by
 obtain ⟨oc,od,kV,doc,pm,an,cdv,ct,osl,rfl,lk,hcd⟩:=F.ex
 exact .all (h kV doc pm an cdv ct)
theorem Q8b {x qual:Str} {st:Stmt} {f:Addr} {oc:Value} {od an:Option Addr} {osl:Array (Option Value)} {kV doc pm cdv ct:Value} (l:K.lookup f = some ⟨oc,od,.func (PySem.W.fnOf x qual (Qdj st) (Qa9 st) (Qg st) .none kV doc pm an cdv ct),osl⟩)
  (c:PySem.W.codeIn K cdv qual = true) (k:PySem.W.keepIn K (.ref f) = true):Fun K x qual st f (PySem.W.fnOf x qual (Qdj st) (Qa9 st) (Qg st) .none kV doc pm an cdv ct):=⟨⟨oc,od,kV,doc,pm,an,cdv,ct,osl,rfl,l,c⟩,k⟩
end
section
variable {X:Cx}
theorem pv (i:Nat) {x:Str} {pos:Pos} (hN:X.N[i]? = some x:=by rfl) (hv:Vis X.env.scope x:=by first | exact Or.inl rfl | exact Or.inr (Or.inl rfl) | exact Or.inr (Or.inr rfl)) (hd:(x == ("__debug__" : Str)) = false:=by decide)
  (hcd:(x == ("__classdict__" : Str)) = false:=by decide):PE X (.Name x pos) (Qox i):=Qx3 hN hv hd hcd
end
theorem ite2 {c A B:Prop} [Decidable c] (h1:c → A) (h2:¬ c → B):if c then A else B:=by
 by_cases h:c
 ·rw [if_pos h]
  exact h1 h
 ·rw [if_neg h]
  exact h2 h
noncomputable def Same (H H':Hp):Prop:=∀ b o,H b = some o → H' b = some o
theorem Same.refl (H:Hp):Same H H:=fun _ _ h=>h
theorem Same.trans {H H1 H2:Hp} (a:Same H H1) (b:Same H1 H2):Same H H2:=fun c o h=>b c o (a c o h)
theorem Same.seq {K:PySem.W.Frag} {H H':Hp} {a:Addr} {xs:List V} (e:Same H H') (h:SqL K H a xs):SqL K H' a xs:=by
 rcases h with (h | ⟨o,h⟩) | h
 ·exact .inl (.inl (e _ _ h))
 ·exact .inl (.inr ⟨o,e _ _ h⟩)
 ·exact .inr h
structure LamT where
 qual:Str
 params:Arguments
 body:Expr
 scope:Scope
 caps:List Str
 ps:List Str
noncomputable abbrev noE:Expr:=.Constant .none 0 ⟨0,0,0,0⟩
noncomputable def Qab4:Stmt → Expr
 | .Assign _ e _=>e
 | .Return (some e) _=>e
 | _=>noE
noncomputable def Qab5 (i:Nat):Expr → Expr
 | .Call _ as _ _=>as.getD i noE
 | _=>noE
noncomputable def Qab6 (x:Str) (caps ps:List Str):Expr → LamT
 | .Lambda a b s _=>⟨x ++ ".<locals>." ++ "<lambda>",a,b,s,caps,ps⟩
 | _=>⟨x,{ posonlyargs:=[],args:=[],vararg:=none,kwonlyargs:=[],kw_defaults:=[],kwarg:=none,defaults:=[] },noE,{ kind:=.function,names:=[],isGenerator:=false,isCoroutine:=false,more:=[] },caps,ps⟩
noncomputable def Q8c:Stmt:=PySem.Challenge.pw_noughtways_k65_whole_ways_joined_and_spr.main.body.getD 46 (.Pass ⟨0,0,0,0⟩)
noncomputable def Q8d:Expr:=Qab5 1 (Qab4 ((Qa9 Q8c).getD 0 (.Pass ⟨0,0,0,0⟩)))
noncomputable def Qo3:LamT:=Qab6 "ways_to_sets" ["tables"] ["places","at"] Q8d
noncomputable def Qcw:List (Nat × LamT):=[(38,Qo3)]
section
variable {κ:Type} [DecidableEq κ]
noncomputable def Qhr (kvs:List (κ × V)) (k:κ):Option V:=(kvs.find? fun kv=>decide (kv.1 = k)).map (·.2)
noncomputable def Qgl (kvs:List (κ × V)) (k:κ) (v:V):List (κ × V) :=
 if (kvs.any fun kv=>decide (kv.1 = k)) = true then kvs.map (fun kv=>if kv.1 = k then (kv.1,v) else kv) else kvs ++ [(k,v)]
theorem Qiq {p:κ × V} {r:List (κ × V)} {k:κ} (e:p.1 = k):Qhr (p :: r) k = some p.2:=by simp [Qhr,List.find?_cons,e]
theorem Qir {p:κ × V} {r:List (κ × V)} {k:κ} (e:¬ p.1 = k):Qhr (p :: r) k = Qhr r k:=by simp [Qhr,List.find?_cons,e]
theorem Qis (k:κ):∀ kvs:List (κ × V),(kvs.any fun kv=>decide (kv.1 = k)) = (Qhr kvs k).isSome
 | []=>rfl
 | p :: r=>by
  rw [List.any_cons]
  by_cases e:p.1 = k
  ·simp only [Qiq e,decide_eq_true e,Bool.true_or,Option.isSome_some]
  ·rw [Qir e,decide_eq_false e,Bool.false_or]; exact Qis k r
theorem Qgp (kvs:List (κ × V)) (k:κ) (v:V):(Qgl kvs k v).length ≤ kvs.length + 1:=by
 unfold Qgl
 split
 ·rw [List.length_map]; omega
 ·rw [List.length_append,List.length_cons,List.length_nil]; omega
theorem Qyl {kvs:List (κ × V)} {k:κ} (v:V) (h:Qhr kvs k = none):Qgl kvs k v = kvs ++ [(k,v)]:=by
 unfold Qgl
 rw [Qis,h]
 exact if_neg (by decide)
theorem RelO.isSome_eq {o:Option V} {u:Option Value} (r:RelO o u):o.isSome = u.isSome:=by
 cases o with
 | none=>cases u with
  | none=>rfl
  | some _=>exact (show False from r).elim
 | some _=>cases u with
  | none=>exact (show False from r).elim
  | some _=>rfl
theorem RelO.getD {o:Option V} {u:Option Value} {d:V} {d':Value} (r:RelO o u) (rd:RelV d d'):RelV (o.getD d) (u.getD d'):=by
 cases o with
 | none=>cases u with
  | none=>exact rd
  | some _=>exact (show False from r).elim
 | some _=>cases u with
  | none=>exact (show False from r).elim
  | some _=>exact r
theorem KV.val {kvs:List (κ × V)} {vs:List (κ × Value)} (r:KV kvs vs) (k:κ):RelO (Qhr kvs k) (valueAt vs k):=by
 unfold KV at r
 induction r with
 | nil=>exact True.intro
 | @cons p q ps qs h t ih =>
  obtain ⟨h1,h2⟩:=h
  by_cases e:p.1 = k
  ·have e':q.1 = k:=h1.symm.trans e
   have b:valueAt (q :: qs) k = some q.2:=by simp [valueAt,List.find?_cons,e']
   rw [Qiq e,b]; exact h2
  ·have e':¬ q.1 = k:=fun z=>e (h1.trans z)
   have b:valueAt (q :: qs) k = valueAt qs k:=by simp [valueAt,List.find?_cons,e']
   rw [Qir e,b]; exact ih
theorem KV.any {kvs:List (κ × V)} {vs:List (κ × Value)} (r:KV kvs vs) (k:κ):(kvs.any fun kv=>decide (kv.1 = k)) = vs.any fun kv=>decide (kv.1 = k):=by
 unfold KV at r
 induction r with
 | nil=>rfl
 | cons h t ih=>rw [List.any_cons,List.any_cons,ih,h.1]
theorem KV.repl {kvs:List (κ × V)} {vs:List (κ × Value)} (r:KV kvs vs) (k:κ) {y:V} {u:Value} (ry:RelV y u) :
  KV (kvs.map fun kv=>if kv.1 = k then (kv.1,y) else kv) (vs.map fun kv=>if kv.1 = k then (kv.1,u) else kv):=by
 unfold KV at r ⊢
 induction r with
 | nil=>exact .nil
 | @cons p q ps qs h t ih =>
  rw [List.map_cons,List.map_cons]
  refine .cons ?_ ih
  obtain ⟨h1,h2⟩:=h
  by_cases e:p.1 = k
  ·rw [if_pos e,if_pos (h1.symm.trans e)]; exact ⟨h1,ry⟩
  ·rw [if_neg e,if_neg (fun z=>e (h1.trans z))]; exact ⟨h1,h2⟩
theorem KV.put {kvs:List (κ × V)} {vs:List (κ × Value)} (r:KV kvs vs) (k:κ) {y:V} {u:Value} (ry:RelV y u):KV (Qgl kvs k y) (stored vs k u):=by
 unfold Qgl stored
 rw [r.any k]
 by_cases e:(vs.any fun kv=>decide (kv.1 = k)) = true
 ·rw [if_pos e,if_pos e]; exact r.repl k ry
 ·rw [if_neg e,if_neg e]; exact Paired.snoc r ⟨rfl,ry⟩
theorem KV.length {kvs:List (κ × V)} {vs:List (κ × Value)} (r:KV kvs vs):kvs.length = vs.length:=Paired.length r
end
theorem Qnz {P:Program} {w:World} {k:Key} {u:Value} (r:RelV (kV k) u):(Qap P w).is k u = true:=by
 cases k with
 | inl i=>obtain ⟨t,e⟩:=(show ∃ t,u = Value.int i t from r); subst e; exact Qqv P w i t
 | inr x=>obtain ⟨t,e⟩:=(show ∃ t,u = Value.str x t from r); subst e; exact Qqw P w x t
theorem Qn0 {P:Program} {w:World}:∀ {ks:List Key} {us:List Value},Vals (ks.map kV) us → ItemsAre (Qap P w) ks us
 | [],_,r=>by rw [List.map_nil] at r; cases r; exact .nil
 | k :: ks,_,r=>by
  rw [List.map_cons] at r
  cases r with
  | cons h t=>exact .cons (Qnz h) (Qn0 t)
noncomputable abbrev KT (H:Hp):List (List Key × V) → List (List Key × Addr × Value) → Prop:=Paired fun p q=>p.1 = q.1 ∧ H q.2.1 = some (.tup (p.1.map kV)) ∧ RelV p.2 q.2.2
theorem KT.val {H:Hp} {kvs:List (List Key × V)} {xs:List (List Key × Addr × Value)} (r:KT H kvs xs) (k:List Key):RelO (Qhr kvs k) ((atKey xs k).map (·.2)):=by
 induction r with
 | nil=>exact True.intro
 | @cons p q ps qs h t ih =>
  obtain ⟨h1,_,h2⟩:=h
  by_cases e:p.1 = k
  ·have e':q.1 = k:=h1.symm.trans e
   have b:atKey (q :: qs) k = some q.2:=by simp [atKey,List.find?_cons,e']
   rw [Qiq e,b]; exact h2
  ·have e':¬ q.1 = k:=fun z=>e (h1.trans z)
   have b:atKey (q :: qs) k = atKey qs k:=by simp [atKey,List.find?_cons,e']
   rw [Qir e,b]; exact ih
theorem KT.repl {H:Hp} {kvs:List (List Key × V)} {xs:List (List Key × Addr × Value)} (r:KT H kvs xs) (k:List Key) {y:V} {u:Value} (ry:RelV y u) :
  KT H (kvs.map fun kv=>if kv.1 = k then (kv.1,y) else kv) (xs.map (putAt k u)):=by
 induction r with
 | nil=>exact .nil
 | @cons p q ps qs h t ih =>
  rw [List.map_cons,List.map_cons]
  refine .cons ?_ ih
  obtain ⟨h1,h2,h3⟩:=h
  unfold putAt
  by_cases e:p.1 = k
  ·rw [if_pos e,if_pos (h1.symm.trans e)]; exact ⟨h1,h2,ry⟩
  ·rw [if_neg e,if_neg (fun z=>e (h1.trans z))]; exact ⟨h1,h2,h3⟩
theorem KT.put {H:Hp} {kvs:List (List Key × V)} {xs:List (List Key × Addr × Value)} (r:KT H kvs xs) (k:List Key) {b:Addr} {y:V} {u:Value} (hb:H b = some (.tup (k.map kV))) (ry:RelV y u) :
  KT H (Qgl kvs k y) (storedH xs k b u):=by
 have e:(kvs.any fun kv=>decide (kv.1 = k)) = (atKey xs k).isSome:=by
  rw [Qis,(r.val k).isSome_eq,Option.isSome_map]
 unfold Qgl storedH
 rw [e]
 by_cases q:(atKey xs k).isSome = true
 ·rw [if_pos q,if_pos q]; exact r.repl k ry
 ·rw [if_neg q,if_neg q]; exact Paired.snoc r ⟨rfl,hb,ry⟩
theorem KT.keeps {H H':Hp} {kvs:List (List Key × V)} {xs:List (List Key × Addr × Value)} (r:KT H kvs xs) (ht:∀ b ys,H b = some (.tup ys) → H' b = some (.tup ys)):KT H' kvs xs :=
 Paired.mapP r fun _ _ z=>⟨z.1,ht _ _ z.2.1,z.2.2⟩
section
variable {P:Program} {w:World} {H:Hp} {h:Heap} {a:Addr}
theorem Qym {u:HO} (ok:HOk P w H h) (e:Rd H a u):ObjOk P w H h a u:=e.ok ok
theorem Qk1 {kvs:List (Key × V)} (ok:HOk P w H h) (e:Rd H a (.dK kvs)):kvs.length ≤ sizeLine ∧ (a == sysModules) = false ∧ ∃ vs,KV kvs vs ∧ h.DictOf (Qap P w) a vs :=
 show ObjOk P w H h a (.dK kvs) from Qym ok e
theorem Qab7 {kvs:List (Key × V)} (ok:HOk P w H h) (e:H a = some (.dK kvs)):kvs.length ≤ sizeLine ∧ (a == sysModules) = false ∧ ∃ vs,KV kvs vs ∧ h.DictOf (Qap P w) a vs:=Qk1 ok (.inl e)
theorem Qh5 {ks:List Key} (ok:HOk P w H h) (e:H a = some (.tup (ks.map kV))):(tupleKind (Qap P w)).is h ks a:=by
 obtain ⟨_,its,r,o,h1,h2,n,h3,_⟩:=(show ObjOk P w H h a (.tup (ks.map kV)) from ok a _ e)
 exact ⟨o,its.toArray,n,h1,h2,h3,by simpa using Qn0 r⟩
theorem Qk2 {kvs:List (List Key × V)} (ok:HOk P w H h) (e:Rd H a (.dT kvs)):kvs.length ≤ sizeLine ∧ (a == sysModules) = false ∧
  ∃ xs,KT H kvs xs ∧ h.DictOfH (tupleKind (Qap P w)) a xs:=by
 obtain ⟨z,y,xs,r,o,es,ep,h1,h2,h3,h4,h5,_⟩:=(show ObjOk P w H h a (.dT kvs) from Qym ok e)
 refine ⟨z,y,xs,r,o,es,ep,h1,h2,h3,h4,fun x hx=>?_,h5⟩
 have all:∀ {l:List (List Key × V)} {m:List (List Key × Addr × Value)},KT H l m → ∀ x ∈ m,(tupleKind (Qap P w)).is h x.1 x.2.1:=by
  intro l m q
  induction q with
  | nil=>intro x hx; exact nomatch hx
  | @cons p q ps qs hq t ih =>
   intro x hx
   rcases List.mem_cons.mp hx with e | hx
   ·subst e
    exact Qh5 ok (by rw [← hq.1]; exact hq.2.1)
   ·exact ih x hx
 exact all r x hx
theorem Qu0 {kvs:List (List Key × V)} (ok:HOk P w H h) (e:H a = some (.dT kvs)):kvs.length ≤ sizeLine ∧ (a == sysModules) = false ∧
  ∃ xs,KT H kvs xs ∧ h.DictOfH (tupleKind (Qap P w)) a xs:=Qk2 ok (.inl e)
end
theorem Qu1 {h:Heap} {a:Addr} {o:Obj} {es:Array DictEntry} {ep:Nat} (x:Qsw h a) (ho:h.get? a = some o) (hd:o.data = .dict es ep):ep = es.size:=by
 obtain ⟨o2,es2,e1,e2⟩:=x
 rw [ho] at e1
 cases e1
 rw [hd] at e2
 cases e2
 rfl
theorem Q5r {P:Program} {w:World} {H:Hp} {h:Heap} {a:Addr} {kvs:List (List Key × V)} (ok:HOk P w H h) (e:Rd H a (.dT kvs)):Qsw h a:=by
 obtain ⟨_,_,xs,_,o,es,ep,h1,_,h3,_,_,h6⟩:=(show ObjOk P w H h a (.dT kvs) from Qym ok e)
 subst h6
 exact ⟨o,es,h1,h3⟩
noncomputable def DGet (H:Hp) (a:Addr) (y:V) (r:Option V):Prop :=
 (∃ kvs k,Rd H a (.dK kvs) ∧ y = kV k ∧ r = Qhr kvs k) ∨ ∃ kvs k b,Rd H a (.dT kvs) ∧ y = .ref b ∧ H b = some (.tup (k.map kV)) ∧ r = Qhr kvs k
noncomputable def DPut (H:Hp) (a:Addr) (y v:V) (H':Hp):Prop :=
 (∃ kvs k,H a = some (.dK kvs) ∧ y = kV k ∧ kvs.length < sizeLine ∧ H' = upd H a (.dK (Qgl kvs k v))) ∨
 ∃ kvs k b,H a = some (.dT kvs) ∧ y = .ref b ∧ H b = some (.tup (k.map kV)) ∧ kvs.length < sizeLine ∧ H' = upd H a (.dT (Qgl kvs k v))
theorem DGet.t {H:Hp} {a b:Addr} {kvs:List (List Key × V)} {k:List Key} (e:H a = some (.dT kvs)) (eb:H b = some (.tup (k.map kV))):DGet H a (.ref b) (Qhr kvs k):=.inr ⟨kvs,k,b,.inl e,rfl,eb,rfl⟩
theorem DPut.t {H:Hp} {a b:Addr} {kvs:List (List Key × V)} {k:List Key} {v:V} (e:H a = some (.dT kvs)) (eb:H b = some (.tup (k.map kV))) (hl:kvs.length < sizeLine) :
  DPut H a (.ref b) v (upd H a (.dT (Qgl kvs k v))):=.inr ⟨kvs,k,b,e,rfl,eb,hl,rfl⟩
section
variable {X:Cx} {pins:List (Addr × Obj)} {σ:St} {H:Hp} {s:Shared} {a:Addr} {y v:V} {u r:Value} {o:Option V} {A:Around} {E:Value → Shared → Prop}
theorem Inv.big (I:Inv X pins σ H s):sysModules < s.heap.objs.size:=by
 have h:mainGlobals < s.heap.objs.size:=(I.mod.glob.keeps I.bk).lt
 exact Nat.lt_trans (by decide) h
theorem Qwz {Q:Value → Shared → Prop} (hu:A.units + 1 < cLine) (I:Inv X pins σ H s) (g:DGet H a y (some v)) (ry:RelV y u) (h:∀ w' s',Inv X pins σ H s' → RelV v w' → Q w' s') :
  wpAny (model X.prog X.w) A (getItem (.ref a) u) Q E s:=by
 rcases g with ⟨kvs,k,e,ey,l⟩ | ⟨kvs,k,b,e,ey,eb,l⟩
 ·subst ey
  obtain ⟨z,hd,vs,rel,dd⟩:=Qk1 I.hok e
  obtain ⟨w',hw,rw'⟩:=RelO.some_of (v:=v) (o:=valueAt vs k) (by rw [l]; exact rel.val k)
  exact wpAny_getItem_of (Qnz ry) dd.mapOf hw (h w' _ (I.tok _) rw')
 ·subst ey
  cases (show u = Value.ref b from ry)
  obtain ⟨z,hd,xs,rel,dd⟩:=Qk2 I.hok e
  obtain ⟨w',hw,rw'⟩:=RelO.some_of (v:=v) (o:=(atKey xs k).map (·.2)) (by rw [l]; exact rel.val k)
  obtain ⟨p,hp,hp2⟩:=Option.map_eq_some_iff.mp hw
  refine wpAny_getItem_heap (tupleKind_room_in1 hu) (Qh5 I.hok eb) dd hp ?_
  rw [hp2]
  exact h w' _ (I.tok _) rw'
theorem d_in {Q:Value → Shared → Prop} (hu:A.units + 1 < cLine) (I:Inv X pins σ H s) (g:DGet H a y o) (ry:RelV y u) (h:∀ s',Inv X pins σ H s' → Q (.bool o.isSome) s') :
  wpAny (model X.prog X.w) A (compareOp .In u (.ref a)) Q E s:=by
 rcases g with ⟨kvs,k,e,ey,l⟩ | ⟨kvs,k,b,e,ey,eb,l⟩
 ·subst ey
  obtain ⟨z,hd,vs,rel,dd⟩:=Qk1 I.hok e
  refine wpAny_in_of (Qnz ry) hd dd.mapOf ?_
  rw [← (rel.val k).isSome_eq,← l]
  exact h _ (I.tok _)
 ·subst ey
  cases (show u = Value.ref b from ry)
  obtain ⟨z,hd,xs,rel,dd⟩:=Qk2 I.hok e
  refine wpAny_in_heap (tupleKind_room_in1 hu) (Qh5 I.hok eb) hd dd ?_
  have q:=(rel.val k).isSome_eq
  rw [Option.isSome_map] at q
  rw [← q,← l]
  exact h _ (I.tok _)
theorem Q3d {Q:Value → Shared → Prop} (hu:A.units + 1 < cLine) (I:Inv X pins σ H s) (g:DGet H a y o) (ry:RelV y u) (h:∀ s',Inv X pins σ H s' → Q (.bool (!o.isSome)) s') :
  wpAny (model X.prog X.w) A (compareOp .NotIn u (.ref a)) Q E s:=by
 rcases g with ⟨kvs,k,e,ey,l⟩ | ⟨kvs,k,b,e,ey,eb,l⟩
 ·subst ey
  obtain ⟨z,hd,vs,rel,dd⟩:=Qk1 I.hok e
  refine wpAny_notIn_of (Qnz ry) hd dd.mapOf ?_
  rw [← (rel.val k).isSome_eq,← l]
  exact h _ (I.tok _)
 ·subst ey
  cases (show u = Value.ref b from ry)
  obtain ⟨z,hd,xs,rel,dd⟩:=Qk2 I.hok e
  refine wpAny_notIn_heap (tupleKind_room_in1 hu) (Qh5 I.hok eb) hd dd ?_
  have q:=(rel.val k).isSome_eq
  rw [Option.isSome_map] at q
  rw [← q,← l]
  exact h _ (I.tok _)
theorem Qo4 {h':Heap} {t':Nat} {ob:HO} (I:Inv X pins σ H s) (mu:Mut (H a)) (hs:Heap.SameBut a s.heap h') (he:∃ q,h'.get? a = some q) (new:ObjOk X.prog X.w (upd H a ob) h' a ob) :
  Inv X pins σ (upd H a ob) { s with heap:=h',toks:=t' } :=
 I.write (x:=a) (e:=a) mu (.inl rfl) (fun b q hb z=>(hs.2 b hb).trans z) he new
theorem Q8e {P:Program} {w:World} {H':Hp} {h':Heap} {kvs:List (Key × V)} {vs:List (Key × Value)} (z:kvs.length ≤ sizeLine) (hd:(a == sysModules) = false) (rel:KV kvs vs) (dd:h'.DictOf (Qap P w) a vs) :
  ObjOk P w H' h' a (.dK kvs):=⟨z,hd,vs,rel,dd⟩
theorem Qw0 {H':Hp} {Q:Unit → Shared → Prop} (hu:A.units + 1 < cLine) (I:Inv X pins σ H s) (g:DPut H a y v H') (ry:RelV y u) (rv:RelV v r) (h:∀ s',Inv X pins σ H' s' → Q () s') :
  wpAny (model X.prog X.w) A (setItem (.ref a) u r) Q E s:=by
 rcases g with ⟨kvs,k,e,ey,l,eH⟩ | ⟨kvs,k,b,e,ey,eb,l,eH⟩
 ·subst ey eH
  obtain ⟨z,hd,vs,rel,dd⟩:=Qab7 I.hok e
  have hz:vs.length ≤ sizeLine:=by rw [← rel.length]; exact z
  have hl:(Qgl kvs k v).length ≤ sizeLine:=by have:=Qgp kvs k v; omega
  refine wpAny_setItem_pairs (hsz:=hz) (Qnz ry) dd fun h' dd' hs=>h _ ?_
  have he:∃ q,h'.get? a = some q:=let ⟨q,_,_,hq,_⟩:=dd'; ⟨q,hq⟩
  exact Qo4 I (by rw [e]; exact True.intro) hs he (Q8e hl hd (rel.put k rv) dd')
 ·subst ey eH
  cases (show u = Value.ref b from ry)
  obtain ⟨z,hd,xs,rel,dd⟩:=Qu0 I.hok e
  have hz:xs.length ≤ sizeLine:=by rw [← Paired.length rel]; exact z
  have hl:(Qgl kvs k v).length ≤ sizeLine:=by have:=Qgp kvs k v; omega
  refine Qsx (tupleKind_room_in1 hu) (Qh5 I.hok eb) dd (Q5r I.hok (.inl e)) (fun h' dd' hep hs=>h _ ?_) hz
  obtain ⟨q,es,ep,hq,h2,h3,h4,_,h5⟩:=dd'
  refine Qo4 I (by rw [e]; exact True.intro) hs ⟨q,hq⟩ ⟨hl,hd,_,(rel.put k eb rv).keeps fun c ys ec=>?_,q,es,ep,hq,h2,h3,h4,h5,Qu1 hep hq h3⟩
  rw [Q4 (Q5l ec e (fun z=>nomatch z))]
  exact ec
end
section
variable {X:Cx} {pins:List (Addr × Obj)} {σ:St} {H:Hp} {s:Shared} {a:Addr} {kvs:List (Key × V)} {k:Key} {u:Value} {A:Around} {E:Value → Shared → Prop}
end
noncomputable def Q8f (i:Expr):Prop:=∀ ov iv,subscripted i false ov iv = operate [ov,iv] (getItem ov iv)
theorem Q3e {prog:Program} {w:World} {A:Around} {E:Value → Shared → Prop} {s:Shared} {env:Env} {value slice:Expr} {pos:Pos} {T id:String} {Q:Value → Shared → Prop}
  (hl:typeLookup (.type T) "__getitem__" = pure (some (.builtin id))) (hs:Q8f slice)
  (h:wpAny (model prog w) A (eval value env) (fun o s₁=>wpAny (model prog w) A (eval slice env) (fun i s₂=>s₂.TypeIs o T ∧ wpAny (model prog w) A (getItem o i) Q E s₂) E s₁) E s) :
  wpAny (model prog w) A (eval (.Subscript value slice pos) env) Q E s:=by
 refine Subscript_ (wpAny_mono h (fun o s₁ h₁=>wpAny_mono h₁ (fun i s₂ h₂=>?_) fun _ _ x=>x) fun _ _ x=>x)
 obtain ⟨hT,h₂⟩:=h₂
 unfold subscriptTail
 refine wpAny_bind ?_
 rw [getitemInPython_of_ne hT.not_modules]
 refine wpAny_bind (wpAny_specialOf hT hl ?_)
 have fin:wpAny (model prog w) A (subscripted slice false o i) (fun r s₃=>wpAny (model prog w) A (letTemporaryGo value o r >>= fun _=>pure r) Q E s₃) E s₂:=by
  rw [hs o i]
  exact wpAny_operating (wpAny_mono h₂ (fun r s₃ h₃=>wpAny_bind (wpAny_letTemporaryGo (wpAny_pure h₃))) fun _ _ x=>x)
 first
  | exact wpAny_pure (wpAny_bind fin)
  | exact wpAny_bind (wpAny_pure (wpAny_bind fin))
  | exact wpAny_bind fin
theorem Qq1 {X:Cx} {pins:List (Addr × Obj)} {σ:St} {H:Hp} {s:Shared} {a:Addr} {y:V} {o:Option V} (I:Inv X pins σ H s) (g:DGet H a y o):s.TypeIs (.ref a) "dict" := by
 rcases g with ⟨kvs,k,e,_,_⟩ | ⟨kvs,k,b,e,_,_,_⟩
 ·obtain ⟨_,_,vs,_,dd⟩:=Qk1 I.hok e
  exact dd.typeIs
 ·obtain ⟨_,_,xs,_,dd⟩:=Qk2 I.hok e
  exact dd.typeIs
noncomputable def Qab8 (td ty:TE):TE:=fun σ H Q=>td σ H fun x H1=>ty σ H1 fun y H2=>∃ a v,x = .ref a ∧ DGet H2 a y (some v) ∧ Q v H2
noncomputable def tDIn (ty td:TE):TE:=fun σ H Q=>ty σ H fun y H1=>td σ H1 fun x H2=>∃ a o,x = .ref a ∧ DGet H2 a y o ∧ Q (.bl o.isSome) H2
noncomputable def Q3f (ty td:TE):TE:=fun σ H Q=>ty σ H fun y H1=>td σ H1 fun x H2=>∃ a o,x = .ref a ∧ DGet H2 a y o ∧ Q (.bl (!o.isSome)) H2
noncomputable def Qab9 (td ty tv:TE):TS:=fun D σ H=>tv σ H fun v H1=>td σ H1 fun x H2=>ty σ H2 fun y H3=>∃ a H4,x = .ref a ∧ DPut H3 a y v H4 ∧ D.nx σ H4
section
variable {X:Cx} {o i e value:Expr} {pos pos' tpos:Pos} {td ty tv:TE}
theorem Q3g (hu:X.A.units + 1 < cLine) (ho:PE X o td) (hi:PE X i ty) (hs:Q8f i):PE X (.Subscript o i pos) (Qab8 td ty):=by
 intro pins s σ H Q I h
 refine Q3e PySem.F.slot_dict_getitem.lookup hs (thn (ho pins s σ H _ I h) fun u s1 ⟨x,H1,I1,rx,q1⟩=>thn (hi pins s1 σ H1 _ I1 q1) fun iv s2 ⟨y,H2,I2,ry,a,v,ex,g,q2⟩=>?_)
 subst ex
 obtain rfl:u = Value.ref a:=rx
 exact ⟨Qq1 I2 g,Qwz hu I2 g ry fun w' s3 I3 rw'=>⟨v,H2,I3,rw',q2⟩⟩
theorem Q8g (hu:X.A.units + 1 < cLine) (hi:PE X i ty) (ho:PE X o td):PC X .In i o (tDIn ty td):=by
 intro pins s σ H Q I h
 refine thn (hi pins s σ H _ I h) fun iv s1 ⟨y,H1,I1,ry,q1⟩=>thn (ho pins s1 σ H1 _ I1 q1) fun u s2 ⟨x,H2,I2,rx,a,ov,ex,g,q2⟩=>?_
 subst ex
 obtain rfl:u = Value.ref a:=rx
 exact d_in hu I2 g ry fun s3 I3=>⟨.bl ov.isSome,H2,I3,rfl,q2⟩
theorem Qw1 (hu:X.A.units + 1 < cLine) (hi:PE X i ty) (ho:PE X o td):PC X .NotIn i o (Q3f ty td):=by
 intro pins s σ H Q I h
 refine thn (hi pins s σ H _ I h) fun iv s1 ⟨y,H1,I1,ry,q1⟩=>thn (ho pins s1 σ H1 _ I1 q1) fun u s2 ⟨x,H2,I2,rx,a,ov,ex,g,q2⟩=>?_
 subst ex
 obtain rfl:u = Value.ref a:=rx
 exact Q3d hu I2 g ry fun s3 I3=>⟨.bl (!ov.isSome),H2,I3,rfl,q2⟩
theorem Q3h (hu:X.A.units + 1 < cLine) (ho:PE X o td) (hi:PE X i ty) (hv:PE X value tv) (hs:swapsWith value (some (.Subscript o i pos')) pos.line X.env = pure false) :
  PS X (.Assign [.Subscript o i pos'] value pos) (Qab9 td ty tv):=by
 intro pins s σ H D I h
 refine wpAny_Assign_Subscript (thn (hv pins s σ H _ I h) fun r s1 ⟨v,H1,I1,rv,q1⟩=>thn (ho pins s1 σ H1 _ I1 q1) fun u s2 ⟨x,H2,I2,rx,q2⟩=>thn (hi pins s2 σ H2 _ I2 q2) fun iv s3 ⟨y,H3,I3,ry,a,H4,ex,g,q3⟩=>?_) hs
 subst ex
 obtain rfl:u = Value.ref a:=rx
 exact Qw0 hu I3 g ry rv fun s4 I4=>⟨σ,H4,I4,q3⟩
end
theorem Qyn {P:Program} {w:World} {H:Hp} (h:Heap) (hb:sysModules < h.objs.size):ObjOk P w H (h.push { cls:=.type "dict",data:=.dict #[] }) h.objs.size (.dT []) :=
 ⟨Nat.zero_le _,beq_eq_false_iff_ne.mpr (Ne.symm (Nat.ne_of_lt hb)),[],.nil,_,#[],0,Heap.get?_push_size _ rfl,⟨rfl,rfl,rfl⟩,rfl,rfl,List.nodup_nil,rfl⟩
section
variable {X:Cx} {pos:Pos}
end
structure M1 (X:Cx) (o:Expr) (m:Str) (apos:Pos) (e:Expr) (cpos:Pos):Prop where
 base:attributeBase o m X.env (eval o X.env) = eval o X.env
 few:((backTo cpos (starEach [e] X.env)).all (fun x=>!x.1) && (backToKw cpos (keywordEach [] X.env)).all (fun x=>x.1.isSome)
  && decide (([e]:List Expr).length + ([]:List Keyword).length + (if ([]:List Keyword).isEmpty then 0 else 1) < 30)) = true
 line:(apos.endLine == cpos.line) = true
 trees:backTo cpos (starEach [e] X.env) = [(false,eval e X.env)]
structure M2 (X:Cx) (o:Expr) (m:Str) (apos:Pos) (e f:Expr) (cpos:Pos):Prop where
 base:attributeBase o m X.env (eval o X.env) = eval o X.env
 few:((backTo cpos (starEach [e,f] X.env)).all (fun x=>!x.1) && (backToKw cpos (keywordEach [] X.env)).all (fun x=>x.1.isSome)
  && decide (([e,f]:List Expr).length + ([]:List Keyword).length + (if ([]:List Keyword).isEmpty then 0 else 1) < 30)) = true
 line:(apos.endLine == cpos.line) = true
 trees:backTo cpos (starEach [e,f] X.env) = [(false,eval e X.env),(false,eval f X.env)]
noncomputable def IsD (H:Hp) (a:Addr):Prop:=(∃ kvs,Rd H a (.dK kvs)) ∨ ∃ kvs,Rd H a (.dT kvs)
theorem Q8h {X:Cx} {pins:List (Addr × Obj)} {σ:St} {H:Hp} {s:Shared} {a:Addr} (I:Inv X pins σ H s) (d:IsD H a) :
  s.TypeIs (.ref a) "dict" ∧ (∀ b,Value.ref a = .ref b → ∃ ob,s.heap.get? b = some ob ∧ ob.dict = none) ∧ (a == sysModules) = false:=by
 rcases d with ⟨kvs,e⟩ | ⟨kvs,e⟩
 ·obtain ⟨_,hd,vs,_,dd⟩:=Qk1 I.hok e
  refine ⟨dd.typeIs,fun b q=>?_,hd⟩
  cases q
  obtain ⟨ob,_,_,h1,h2,_⟩:=dd
  exact ⟨ob,h1,h2.2.1⟩
 ·obtain ⟨_,hd,xs,_,dd⟩:=Qk2 I.hok e
  refine ⟨dd.typeIs,fun b q=>?_,hd⟩
  cases q
  obtain ⟨ob,_,_,h1,h2,_⟩:=dd
  exact ⟨ob,h1,h2.2.1⟩
section
variable {X:Cx} {pins:List (Addr × Obj)} {σ:St} {H:Hp} {s:Shared} {a:Addr} {y d:V} {u r:Value} {o:Option V} {A:Around} {E:Value → Shared → Prop}
theorem Q8i {Q:Value → Shared → Prop} (hu:A.units + 1 < cLine) (I:Inv X pins σ H s) (g:DGet H a y o) (ry:RelV y u) (h:∀ w' s',Inv X pins σ H s' → RelV (o.getD .non) w' → Q w' s') :
  wpAny (model X.prog X.w) A (call (.builtin "dict.get") [.ref a,u]) Q E s:=by
 rcases g with ⟨kvs,k,e,ey,l⟩ | ⟨kvs,k,b,e,ey,eb,l⟩
 ·subst ey
  obtain ⟨z,hd,vs,rel,dd⟩:=Qk1 I.hok e
  refine call_meetsIn PySem.F.slot_dict_get dd.typeIs PySem.F.entry_dict_get (PySem.F.args_dict_get_2 _ _) (meets_dict_get (Qap X.prog X.w) a (Qnz ry) hd) ⟨_,dd.mapOf,h _ _ (I.tok _) ?_⟩
  rw [l]
  exact (rel.val k).getD rfl
 ·subst ey
  cases (show u = Value.ref b from ry)
  obtain ⟨z,hd,xs,rel,dd⟩:=Qk2 I.hok e
  refine call_meetsIn PySem.F.slot_dict_get dd.typeIs PySem.F.entry_dict_get (PySem.F.args_dict_get_2 _ _) (meetsH_dict_get (tupleKind (Qap X.prog X.w)) a b hd) ⟨tupleKind_room_in1 hu,k,xs,Qh5 I.hok eb,dd,h _ _ (I.tok _) ?_⟩
  rw [l]
  exact (rel.val k).getD rfl
end
noncomputable def Q8j (td ty:TE):TE:=fun σ H Q=>td σ H fun x H1=>∃ a,x = .ref a ∧ IsD H1 a ∧ ty σ H1 fun y H2=>∃ o,DGet H2 a y o ∧ Q (o.getD .non) H2
section
variable {X:Cx} {o e f:Expr} {apos cpos:Pos} {td ty tx:TE}
theorem Qyo (hu:X.A.units + 1 < cLine) (ho:PE X o td) (he:PE X e ty) (m:M1 X o "get" apos e cpos):PE X (.Call (.Attribute o "get" apos) [e] [] cpos) (Q8j td ty):=by
 intro pins s σ H Q I h
 refine wpAny_Call_method m.base m.few m.line PySem.F.plainAttrs_dict PySem.F.slot_dict_get PySem.F.type_dict_get (thn (ho pins s σ H _ I h) fun u s1 ⟨x,H1,I1,rx,a,ex,d,q1⟩=>?_)
 subst ex
 obtain rfl:u = Value.ref a:=rx
 obtain ⟨t1,t2,_⟩:=Q8h I1 d
 refine ⟨t1,t2,?_⟩
 rw [m.trees]
 refine Calls.callWith_builtin rfl (Calls.evalArgs_plain (Calls.spliced_cons (thn (he pins s1 σ H1 _ I1 q1) fun iv s2 ⟨y,H2,I2,ry,ov,g,q2⟩=>Calls.spliced_nil ?_)))
 exact Q8i hu I2 g ry fun w' s3 I3 rw'=>⟨_,H2,I3,rw',q2⟩
end
section
variable {X:Cx} {pins:List (Addr × Obj)} {σ:St} {H:Hp} {s:Shared} {a:Addr} {kvs:List (Key × V)} {A:Around} {E:Value → Shared → Prop}
end
section
variable {X:Cx} {pins:List (Addr × Obj)} {σ:St} {H:Hp} {s:Shared} {a:Addr} {y:V} {u:Value} {A:Around} {E:Value → Shared → Prop}
end
noncomputable def Qit (env:Env):List (Str × NameKind) → List (Str × Addr) → List (Str × Addr)
 | [],acc=>acc
 | (n,k) :: r,acc=>if k == .free then Qit env r ((n,(env.cells.lookup n).getD 0) :: acc) else Qit env r acc
theorem Qh6 {env:Env}:∀ (names:List (Str × NameKind)) (acc:List (Str × Addr)),(∀ x ∈ names,x.2 = .free → ∃ c,env.cells.lookup x.1 = some c) →
  (forIn names acc (fun (x:Str × NameKind) (cs:List (Str × Addr))=>(if (x.2 == .free) = true then do let a ← cellOf env x.1; pure (ForInStep.yield ((x.1,a) :: cs)) else pure (ForInStep.yield cs):Sem (ForInStep (List (Str × Addr)))))) = (pure (Qit env names acc):Sem (List (Str × Addr)))
 | [],acc,_=>by rw [List.forIn_nil]; rfl
 | (n,k) :: r,acc,h=>by
  have hr:∀ x ∈ r,x.2 = .free → ∃ c,env.cells.lookup x.1 = some c:=fun x hx=>h x (List.mem_cons_of_mem _ hx)
  rw [List.forIn_cons]
  unfold Qit
  by_cases hk:(k == NameKind.free) = true
  ·obtain ⟨c,hc⟩:=h (n,k) List.mem_cons_self (by simpa using hk)
   have hc':env.cells.lookup n = some c:=hc
   rw [if_pos hk]
   simp only [hk,if_true,cellOf,hc',pure_bind,Option.getD_some]
   exact Qh6 r _ hr
  ·rw [if_neg hk]
   simp only [hk,if_false,pure_bind,Bool.false_eq_true]
   exact Qh6 r _ hr
theorem Qs3 {env:Env} {scope:Scope} (h:∀ x ∈ scope.names,x.2 = .free → ∃ c,env.cells.lookup x.1 = some c):closureFor scope env = pure (Qit env scope.names []):=by
 have q:=Qh6 (env:=env) scope.names [] h
 unfold closureFor
 simp only [bind_pure_comp] at q ⊢
 have e:(fun (x:Str × NameKind) (r:List (Str × Addr))=>(if (x.2 == NameKind.free) = true then (fun a=>ForInStep.yield ((x.1,a) :: r)) <$> cellOf env x.1 else pure (ForInStep.yield r):Sem (ForInStep (List (Str × Addr))))) = (fun (x:Str × NameKind) (cs:List (Str × Addr))=>(match x with | (name,kind)=>if (kind == NameKind.free) = true then (fun a=>ForInStep.yield ((name,a) :: cs)) <$> cellOf env name else pure (ForInStep.yield cs):Sem (ForInStep (List (Str × Addr))))):=by
  funext x cs
  obtain ⟨n,k⟩:=x
  rfl
 rw [e] at q
 simpa using q
theorem Qca {env:Env} {x:Str} {c:Addr}:∀ (names:List (Str × NameKind)) (acc:List (Str × Addr)),(∀ y ∈ names,y.2 = .free → ∃ c,env.cells.lookup y.1 = some c) → (Qit env names acc).lookup x = some c →
  acc.lookup x = some c ∨ env.cells.lookup x = some c
 | [],acc,_,h=>.inl h
 | (n,k) :: r,acc,hf,h=>by
  have hr:∀ x ∈ r,x.2 = .free → ∃ c,env.cells.lookup x.1 = some c:=fun x hx=>hf x (List.mem_cons_of_mem _ hx)
  unfold Qit at h
  by_cases hk:(k == NameKind.free) = true
  ·rw [if_pos hk] at h
   obtain ⟨d,hd⟩:=hf (n,k) List.mem_cons_self (by simpa using hk)
   have hd':env.cells.lookup n = some d:=hd
   rcases Qca r _ hr h with q | q
   ·rw [List.lookup_cons,hd'] at q
    by_cases hx:(x == n) = true
    ·rw [hx] at q
     have e:x = n:=by simpa using hx
     subst e
     simp only [Option.getD_some] at q
     exact .inr (hd'.trans q)
    ·have hx':(x == n) = false:=by simpa using hx
     rw [hx'] at q
     exact .inl q
   ·exact .inr q
  ·rw [if_neg hk] at h
   exact Qca r _ hr h
theorem Qiu {env:Env} {x:Str}:∀ (names:List (Str × NameKind)) (acc:List (Str × Addr)),((x,NameKind.free) ∈ names ∨ ∃ c,acc.lookup x = some c) → ∃ c,(Qit env names acc).lookup x = some c
 | [],acc,h=>by
  rcases h with h | h
  ·cases h
  ·exact h
 | (n,k) :: r,acc,h=>by
  unfold Qit
  by_cases hk:(k == NameKind.free) = true
  ·rw [if_pos hk]
   refine Qiu r _ ?_
   by_cases hx:(x == n) = true
   ·exact .inr ⟨_,by rw [List.lookup_cons,hx]⟩
   ·have hx':(x == n) = false:=by simpa using hx
    rcases h with h | ⟨c,h⟩
    ·rcases List.mem_cons.mp h with e | h
     ·cases e; simp at hx
     ·exact .inl h
    ·exact .inr ⟨c,by rw [List.lookup_cons,hx']; exact h⟩
  ·rw [if_neg hk]
   refine Qiu r _ ?_
   rcases h with h | h
   ·rcases List.mem_cons.mp h with e | h
    ·cases e; simp at hk
    ·exact .inl h
   ·exact .inr h
theorem Qce {x:Str} {c:Addr}:∀ (names:List (Str × NameKind)) (n:Nat) (acc:List (Str × Addr)),(cellsFrom n names acc).lookup x = some c → acc.lookup x = some c ∨ (n ≤ c ∧ (x,NameKind.cell) ∈ names)
 | [],_,_,h=>.inl h
 | (y,k) :: r,n,acc,h=>by
  unfold cellsFrom at h
  by_cases hk:(k == NameKind.cell) = true
  ·rw [if_pos hk] at h
   have hk':k = .cell:=by simpa using hk
   rcases Qce r _ _ h with q | ⟨q1,q2⟩
   ·rw [List.lookup_cons] at q
    by_cases hx:(x == y) = true
    ·rw [hx] at q
     cases q
     exact .inr ⟨Nat.le_refl _,by rw [show x = y by simpa using hx,hk']; exact List.mem_cons_self⟩
    ·rw [show (x == y) = false by simpa using hx] at q
     exact .inl q
   ·exact .inr ⟨by omega,List.mem_cons_of_mem _ q2⟩
  ·rw [if_neg hk] at h
   rcases Qce r _ _ h with q | ⟨q1,q2⟩
   ·exact .inl q
   ·exact .inr ⟨q1,List.mem_cons_of_mem _ q2⟩
theorem Qdk {x:Str} {c:Addr}:∀ (names:List (Str × NameKind)) (n:Nat) (acc:List (Str × Addr)),(x,NameKind.cell) ∈ names → (cellsFrom n names acc).lookup x = some c → n ≤ c
 | [],_,_,h,_=>by cases h
 | (y,k) :: r,n,acc,hm,h=>by
  unfold cellsFrom at h
  by_cases hk:(k == NameKind.cell) = true
  ·rw [if_pos hk] at h
   by_cases hx:(x == y) = true
   ·rcases Qce r _ _ h with q | ⟨q1,q2⟩
    ·rw [List.lookup_cons,hx] at q
     cases q
     exact Nat.le_refl _
    ·omega
   ·rcases List.mem_cons.mp hm with e | hm
    ·cases e; simp at hx
    ·have:=Qdk r _ _ hm h
     omega
  ·rw [if_neg hk] at h
   rcases List.mem_cons.mp hm with e | hm
   ·cases e; simp at hk
   ·exact Qdk r _ _ hm h
theorem Qe0:∀ (names:List (Str × NameKind)) (n:Nat) (acc:List (Str × Addr)),(∀ x c,acc.lookup x = some c → c < n) → (∀ x y c,acc.lookup x = some c → acc.lookup y = some c → x = y) →
  ∀ x y c,(cellsFrom n names acc).lookup x = some c → (cellsFrom n names acc).lookup y = some c → x = y
 | [],_,_,_,hi=>hi
 | (z,k) :: r,n,acc,hb,hi=>by
  unfold cellsFrom
  by_cases hk:(k == NameKind.cell) = true
  ·rw [if_pos hk]
   refine Qe0 r (n + 1) _ (fun x c h=>?_) (fun x y c h1 h2=>?_)
   ·rw [List.lookup_cons] at h
    by_cases hx:(x == z) = true
    ·rw [hx] at h; cases h; exact Nat.lt_succ_self _
    ·rw [show (x == z) = false by simpa using hx] at h
     exact Nat.lt_succ_of_lt (hb x c h)
   ·rw [List.lookup_cons] at h1 h2
    by_cases hx:(x == z) = true
    ·rw [hx] at h1; cases h1
     by_cases hy:(y == z) = true
     ·rw [show x = z by simpa using hx,show y = z by simpa using hy]
     ·rw [show (y == z) = false by simpa using hy] at h2
      exact absurd (hb y n h2) (Nat.lt_irrefl _)
    ·rw [show (x == z) = false by simpa using hx] at h1
     by_cases hy:(y == z) = true
     ·rw [hy] at h2; cases h2
      exact absurd (hb x n h1) (Nat.lt_irrefl _)
     ·rw [show (y == z) = false by simpa using hy] at h2
      exact hi x y c h1 h2
  ·rw [if_neg hk]
   exact Qe0 r n acc hb hi
theorem Qdd {names:List (Str × NameKind)}:∀ (names:List (Str × NameKind)) (h:Heap) (acc:List (Str × Addr)),(∀ x c,acc.lookup x = some c → ∃ v,h.IsCell c v) → ∀ x c,(cellsFrom h.objs.size names acc).lookup x = some c → ∃ v,(pushCells h names).IsCell c v
 | [],_,_,hi=>hi
 | (z,k) :: r,h,acc,hi=>by
  unfold cellsFrom pushCells
  by_cases hk:(k == NameKind.cell) = true
  ·rw [if_pos hk,if_pos hk]
   have q:=Qdd (names:=names) r (h.push { cls:=.type "cell",data:=.cell none }) ((z,h.objs.size) :: acc) (fun x c hx=>by
    rw [List.lookup_cons] at hx
    by_cases hz:(x == z) = true
    ·rw [hz] at hx; cases hx
     exact ⟨none,⟨_,Heap.get?_push_size _ rfl,rfl⟩⟩
    ·rw [show (x == z) = false by simpa using hz] at hx
     obtain ⟨v,w⟩:=hi x c hx
     exact ⟨v,w.keeps fun b o e=>Heap.get?_push_of_some _ e⟩)
   rwa [Heap.size_push] at q
  ·rw [if_neg hk,if_neg hk]
   exact Qdd (names:=names) r h acc hi
theorem Qq2 {M:Model} {A:Around} {E:Value → Shared → Prop} {s:Shared} {scope:Scope} {globals:Addr} {cl:List (Str × Addr)} {qual:Str} {env:Env} {Q:Env → Shared → Prop}
  (hQ:Q { scope:=scope,locals:=s.heap.objs.size,globals:=globals,cells:=cellsFrom (s.heap.objs.size + 1) scope.names cl,qual:=qual,func:=none,code:=env.code,frame:=env.frame,builtins:=env.builtins } { s with heap:=pushCells (s.heap.push { cls:=.type "dict",data:=.dict #[] }) scope.names }) :
  wpAny M A (newFunctionEnv scope globals cl [] qual none .none (some env)) Q E s:=by
 simp only [newFunctionEnv,Option.isSome_some,if_true]
 refine wpAny_bind (wpAny_alloc ?_)
 refine wpAny_bind (wpAny_layCells _ (fun name kind cells=>by cases hkc:kind == NameKind.cell <;> simp [hkc]) _ _ _ _ ?_)
 rw [show ({ s with heap:=s.heap.push { cls:=.type "dict",data:=.dict #[] } }:Shared).heap.objs.size = s.heap.objs.size + 1 from Heap.size_push ..]
 simp only [List.forIn_nil,pure_bind]
 exact wpAny_pure hQ
theorem Qo5 {prog:Program} {w:World} {A:Around} {R:Result → Shared → Prop} {s:Shared} {elt target iter:Expr} {ifs:List Expr} {scope:Scope} {pos:Pos} {it acc:Value} {env:Env} (I:Nat → Shared → Prop)
  (turn:∀ n s,I n s → wpAny (model prog w) A (pyNext it) (fun r s1=>match r with
   | none=>R (.ok .next) s1
   | some v=>wpAny (model prog w) A (letOwnedTupleGo target it v) (fun _ s1'=>wpAny (model prog w) A (assign target env v) (fun _ s2 =>
     wpAny (model prog w) A (forIn ifs true fun c r=>if r = true then do let ok ← isTrue c env (eval c env); pure (ForInStep.yield ok) else pure (ForInStep.yield r)) (fun ok s3 =>
      if ok = true then wpAny (model prog w) A (eval elt env) (fun x s4 =>
       wpAny (model prog w) A (call (.builtin "list.append") [acc,x]) (fun _ s5=>∃ m,m < n ∧ I m s5) (fun _ _=>False) s4) (fun _ _=>False) s3
      else ∃ m,m < n ∧ I m s3) (fun _ _=>False) s2) (fun _ _=>False) s1') (fun _ _=>False) s1) (fun _ _=>False) s)
  (n:Nat) (h:I n s) :
  codeAny (model prog w) A (.compLoop (.ListComp elt [⟨target,iter,ifs,0⟩] scope pos) 0 it acc env) R s:=by
 refine codeAny_loop rfl I (fun n s hI=>?_) n h
 show wpAny _ A ((compTurn (.ListComp elt [⟨target,iter,ifs,0⟩] scope pos) 0 it acc env).onRaise (fun x=>do noteFrame x env; theTreesLotGoes x)) _ _ s
 refine wpAny_noted ?_
 rw [compTurn_list]
 refine wpAny_bind (wpAny_standAt (wpAny_bind (wpAny_mono (turn n s hI) (fun r s1 h1=>?_) fun _ _ h'=>h'.elim)))
 cases r with
 | none=>exact wpAny_pure h1
 | some v =>
  refine wpAny_bind (wpAny_mono h1 (fun _ s1' h1'=>wpAny_bind (wpAny_mono h1' (fun _ s2 h2=>wpAny_bind (wpAny_mono h2 (fun ok s3 h3=>?_) fun _ _ h'=>h'.elim)) fun _ _ h'=>h'.elim)) fun _ _ h'=>h'.elim)
  cases ok with
  | false=>exact wpAny_pure ⟨rfl,h3⟩
  | true =>
   exact wpAny_bind (wpAny_bind (wpAny_mono h3 (fun x s4 h4=>wpAny_bind (wpAny_mono h4 (fun _ s5 h5=>wpAny_pure (wpAny_pure ⟨rfl,h5⟩)) fun _ _ h'=>h'.elim)) fun _ _ h'=>h'.elim))
noncomputable def Qbc (X:Cx) (scope:Scope) (N:List Str) (s:Shared) (H:Hp) (fp:List Addr):Cx where
 prog:=X.prog
 w:=X.w
 K:=X.K
 mg:=X.mg
 base:=X.base
 A:=X.A
 N:=N
 s₀:=s
 H₀:=H
 env:={ scope:=relabel scope X.env,locals:=s.heap.objs.size,globals:=X.env.globals,cells:=cellsFrom (s.heap.objs.size + 1) scope.names (Qit X.env scope.names []),qual:=X.env.qual,func:=none,code:=X.env.code,frame:=X.env.frame,builtins:=X.env.builtins }
 outer:=X.stack
 stack:=X.stack
 ex:=fp
 fn:=fun x=>decide ((x,NameKind.cell) ∈ scope.names)
 calm:=X.calm
 pn:=[]
 xe:=fun _ _=>False
noncomputable def Qfg (js:List (Option Nat)) (σ:St):St:=js.map fun o=>match o with | none=>none | some j=>(σ[j]?).join
noncomputable def Qn1 (X:Cx) (scope:Scope) (N:List Str) (js:List (Option Nat)):Bool :=
 (N.length == js.length) && (N.zip js).all fun p=>match p.2 with
  | none=>true
  | some j=>X.N[j]? == some p.1 && (scope.names.lookup p.1 == some .free && (X.env.scope.names.lookup p.1 == some .cell || X.env.scope.names.lookup p.1 == some .free))
noncomputable def scOk (X:Cx) (scope:Scope):Bool :=
 scope.names.all fun p=>(p.2 != .free || (X.env.scope.names.lookup p.1 == some .cell || X.env.scope.names.lookup p.1 == some .free)) && scope.names.lookup p.1 == some p.2
section
variable {X:Cx} {pins:List (Addr × Obj)} {σ:St} {H:Hp} {s:Shared} {scope:Scope}
theorem scOk.get (h:scOk X scope = true) {p:Str × NameKind} (hp:p ∈ scope.names):(p.2 = .free → X.env.scope.names.lookup p.1 = some .cell ∨ X.env.scope.names.lookup p.1 = some .free) ∧ scope.names.lookup p.1 = some p.2:=by
 have q:=List.all_eq_true.mp h p hp
 rw [Bool.and_eq_true] at q
 refine ⟨fun e=>?_,by simpa using q.2⟩
 have q1:=q.1
 rw [e] at q1
 simpa using q1
theorem scOk.cells (I:Inv X pins σ H s) (h:scOk X scope = true):∀ x ∈ scope.names,x.2 = .free → ∃ c,X.env.cells.lookup x.1 = some c:=fun x hx e=>I.ok.has x.1 ((scOk.get h hx).1 e)
theorem scOk.one (h:scOk X scope = true) {x:Str} {k j:NameKind} (e:(x,k) ∈ scope.names) (e':(x,j) ∈ scope.names):k = j:=by
 have q1:=(scOk.get h e).2
 have q2:=(scOk.get h e').2
 exact Option.some.inj (q1.symm.trans q2)
theorem Qjs (I:Inv X pins σ H s) (h:scOk X scope = true) {n:Nat} {x:Str} {c:Addr} (e:(cellsFrom n scope.names (Qit X.env scope.names [])).lookup x = some c):X.env.cells.lookup x = some c ∨ (n ≤ c ∧ (x,NameKind.cell) ∈ scope.names):=by
 rcases Qce _ _ _ e with q | q
 ·rcases Qca _ _ (scOk.cells I h) q with z | z
  ·cases z
  ·exact .inl z
 ·exact .inr q
theorem Qcx {env:Env} {x:Str} {k:NameKind}:∀ {names:List (Str × NameKind)},(names.map fun (n,k)=>if (k == NameKind.free && env.scope.kind == .function && env.kindOf n == some .cell) then (n,NameKind.cell) else (n,k)).lookup x = some k →
  names.lookup x = some k ∨ (k = .cell ∧ names.lookup x = some .free)
 | [],h=>by cases h
 | (n,j) :: r,h=>by
  rw [List.map_cons] at h
  replace h:List.lookup x ((if (j == NameKind.free && env.scope.kind == .function && env.kindOf n == some .cell) = true then (n,NameKind.cell) else (n,j)) :: _) = some k:=h
  by_cases hc:(j == NameKind.free && env.scope.kind == .function && env.kindOf n == some .cell) = true
  ·rw [if_pos hc,List.lookup_cons] at h
   rw [List.lookup_cons]
   by_cases hx:(x == n) = true
   ·rw [hx] at h ⊢
    cases h
    simp only [Bool.and_eq_true] at hc
    exact .inr ⟨rfl,by rw [show j = .free by simpa using hc.1.1]⟩
   ·rw [show (x == n) = false by simpa using hx] at h ⊢
    exact Qcx h
  ·rw [if_neg hc,List.lookup_cons] at h
   rw [List.lookup_cons]
   by_cases hx:(x == n) = true
   ·rw [hx] at h ⊢
    exact .inl h
   ·rw [show (x == n) = false by simpa using hx] at h ⊢
    exact Qcx h
theorem Qfh {env:Env} {x:Str}:∀ {names:List (Str × NameKind)},names.lookup x = some .free →
  (names.map fun (n,k)=>if (k == NameKind.free && env.scope.kind == .function && env.kindOf n == some .cell) then (n,NameKind.cell) else (n,k)).lookup x = some .cell ∨
  (names.map fun (n,k)=>if (k == NameKind.free && env.scope.kind == .function && env.kindOf n == some .cell) then (n,NameKind.cell) else (n,k)).lookup x = some .free
 | [],h=>by cases h
 | (n,j) :: r,h=>by
  rw [List.map_cons]
  show List.lookup x ((if (j == NameKind.free && env.scope.kind == .function && env.kindOf n == some .cell) = true then (n,NameKind.cell) else (n,j)) :: _) = some .cell ∨ List.lookup x ((if (j == NameKind.free && env.scope.kind == .function && env.kindOf n == some .cell) = true then (n,NameKind.cell) else (n,j)) :: _) = some .free
  rw [List.lookup_cons] at h
  by_cases hx:(x == n) = true
  ·rw [hx] at h
   cases h
   by_cases hc:(NameKind.free == NameKind.free && env.scope.kind == .function && env.kindOf n == some .cell) = true
   ·rw [if_pos hc,List.lookup_cons,hx]; exact .inl rfl
   ·rw [if_neg hc,List.lookup_cons,hx]; exact .inr rfl
  ·rw [show (x == n) = false by simpa using hx] at h
   by_cases hc:(j == NameKind.free && env.scope.kind == .function && env.kindOf n == some .cell) = true
   ·rw [if_pos hc,List.lookup_cons,show (x == n) = false by simpa using hx]; exact Qfh h
   ·rw [if_neg hc,List.lookup_cons,show (x == n) = false by simpa using hx]; exact Qfh h
theorem Q3i {N:List Str} {fp:List Addr} (I:Inv X pins σ H s) (hk:scope.kind = .function) (h:scOk X scope = true) (hf:∀ b ∈ fp,Qm2 X pins H b) (ho:∀ b ∈ fp,∃ o,s.heap.get? b = some o ∧ ∀ v,o.data ≠ .cell v):(Qbc X scope N s H fp).Ok where
 mod:=I.ok.mod
 kind:=hk
 glob:=I.ok.glob
 blt:=I.ok.blt
 above:=Nat.le_refl _
 inj:=fun x y c h1 h2=>Qe0 _ _ _ (fun z c hz=>by
   rcases Qca _ _ (scOk.cells I h) hz with q | q
   ·cases q
   ·obtain ⟨v,w⟩:=I.cell z c q
    exact Nat.lt_succ_of_lt w.lt) (fun y z c h1 h2=>by
   rcases Qca _ _ (scOk.cells I h) h1 with q | q
   ·cases q
   ·rcases Qca _ _ (scOk.cells I h) h2 with q' | q'
    ·cases q'
    ·exact I.ok.inj y z c q q') x y c h1 h2
 has:=fun x hx=>by
  have key:(x,NameKind.cell) ∈ scope.names ∨ (x,NameKind.free) ∈ scope.names:=by
   rcases hx with hx | hx
   ·rcases Qcx hx with q | ⟨_,q⟩
    ·exact .inl (PySem.mem_of_lookup q)
    ·exact .inr (PySem.mem_of_lookup q)
   ·rcases Qcx hx with q | ⟨q,_⟩
    ·exact .inr (PySem.mem_of_lookup q)
    ·cases q
  rcases key with q | q
  ·have e:scope.names.lookup x = some .cell:=(scOk.get h q).2
   exact Option.isSome_iff_exists.mp (PySem.W.cellsFrom_some scope.names _ _ (.inl e))
  ·obtain ⟨c,hc⟩:=Qiu (env:=X.env) scope.names [] (.inl q)
   exact Option.isSome_iff_exists.mp (PySem.W.cellsFrom_some scope.names _ _ (.inr (by rw [hc]; rfl)))
 cab:=fun x c hx hc=>Nat.le_of_succ_le (Qdk _ _ _ (of_decide_eq_true hx) hc)
 hd:=I.ok.hd
 frames:=I.ok.frames
 stk:=.inl rfl
 exf:=fun b hb=>by
  obtain ⟨o,e,d⟩:=ho b hb
  refine ⟨Nat.ne_of_lt (Heap.lt_size e),fun x c hc z=>?_⟩
  rcases Qjs I h hc with q | ⟨q,_⟩
  ·exact (hf b hb).2.2.2.2.1 x c q z
  ·rw [z] at q
   exact absurd (Nat.lt_of_lt_of_le (Heap.lt_size e) (Nat.le_of_succ_le q)) (Nat.lt_irrefl _)
 bs:=I.bs
 bsz:=Nat.le_trans I.ok.bsz I.sz
 noex:=fun b o e hb=>by
  rcases (hf b hb).2.2.2.1 with q | q
  ·exact I.ok.noex b o e q
  ·exact absurd (Nat.lt_of_lt_of_le (Heap.lt_size e) (Nat.le_trans I.ok.bsz q)) (Nat.lt_irrefl _)
 exfs:=fun b hb hs=>by
  rcases List.mem_cons.mp (I.stkSub b hs) with q | q
  ·exact (hf b hb).2.1 q
  ·exact (hf b hb).2.2.1 q
 funs:=I.stack
 frf:=⟨I.stkFree,I.tab⟩
theorem Qyp {N:List Str} {js:List (Option Nat)} {fp:List Addr} (I:Inv X pins σ H s) (hk:scope.kind = .function) (h:scOk X scope = true) (hc:Qn1 X scope N js = true) (hf:∀ b ∈ fp,Qm2 X pins H b) (ho:∀ b ∈ fp,∃ o,s.heap.get? b = some o ∧ ∀ v,o.data ≠ .cell v) :
  Inv (Qbc X scope N s H fp) [] (Qfg js σ) H { s with heap:=pushCells (s.heap.push { cls:=.type "dict",data:=.dict #[] }) scope.names }:=by
 have kp:∀ b o,s.heap.get? b = some o → (pushCells (s.heap.push { cls:=.type "dict",data:=.dict #[] }) scope.names).get? b = some o:=fun b o e=>pushCells_keeps _ _ _ _ (Heap.get?_push_of_some _ e)
 have hcap:N.length = js.length ∧ ∀ p ∈ N.zip js,∀ j,p.2 = some j → X.N[j]? = some p.1 ∧ scope.names.lookup p.1 = some .free ∧ (X.env.scope.names.lookup p.1 = some .cell ∨ X.env.scope.names.lookup p.1 = some .free):=by
  unfold Qn1 at hc
  rw [Bool.and_eq_true] at hc
  refine ⟨by simpa using hc.1,fun p hp j e=>?_⟩
  have q:=List.all_eq_true.mp hc.2 p hp
  rw [e] at q
  simpa using q
 refine ⟨Q3i I hk h hf ho,rfl,I.bare,Un.kept kp,?_,fun x c e=>?_,I.hok.fresh (Nat.le_refl _),fun x c e=>?_,fun p hp=>absurd (show p ∈ ([]:List (Addr × Obj)) from hp) (by simp),I.hok.kept kp,?_⟩
 ·refine ⟨fun _=>none,(Heap.Ns.new s.heap (.type "dict")).keeps (pushCells_keeps _ _),fun i x v h1 h2 h3=>?_⟩
  obtain ⟨o,ho1,ho2⟩:∃ o,js[i]? = some o ∧ (match o with | none=>none | some j=>(σ[j]?).join) = some v:=by
   unfold Qfg at h2
   rw [List.getElem?_map] at h2
   cases e:js[i]? with
   | none=>rw [e] at h2; cases h2
   | some o=>rw [e] at h2; exact ⟨o,rfl,Option.some.inj h2⟩
  cases o with
  | none=>cases ho2
  | some j =>
   have hz:(x,some j) ∈ N.zip js:=List.mem_of_getElem? (i:=i) (by rw [List.getElem?_zip_eq_some]; exact ⟨h1,ho1⟩)
   obtain ⟨q1,q2,q3⟩:=hcap.2 _ hz j rfl
   have hσ:σ[j]? = some (some v):=by
    have ho2:(σ[j]?).join = some v:=ho2
    cases e:σ[j]? with
    | none=>rw [e] at ho2; cases ho2
    | some w=>rw [e] at ho2; exact congrArg some ho2
   obtain ⟨m,hn,hl⟩:=I.loc
   obtain ⟨u,r,l⟩:=hl j x v q1 hσ (by rcases q3 with z | z; exact .inr (.inl z); exact .inr (.inr z))
   refine ⟨u,r,.inr ⟨Qfh q2,?_⟩⟩
   have fin:∀ c,X.env.cells.lookup x = some c → s.heap.IsCell c (some u) → ∃ c,(cellsFrom (s.heap.objs.size + 1) scope.names (Qit X.env scope.names [])).lookup x = some c ∧ (pushCells (s.heap.push { cls:=.type "dict",data:=.dict #[] }) scope.names).IsCell c (some u):=fun c hc hv=>by
    obtain ⟨d,hd⟩:=Qiu (env:=X.env) scope.names [] (.inl (PySem.mem_of_lookup q2))
    obtain ⟨c',hc'⟩:=Option.isSome_iff_exists.mp (PySem.W.cellsFrom_some scope.names (s.heap.objs.size + 1) (Qit X.env scope.names []) (.inr (by rw [hd]; rfl)))
    refine ⟨c',hc',?_⟩
    rcases Qjs I h hc' with z | ⟨_,z⟩
    ·rw [hc] at z; cases z
     exact hv.keeps kp
    ·have:=scOk.one h z (PySem.mem_of_lookup q2)
     cases this
   rcases l with ⟨hk,_⟩ | ⟨_,c,hc,hv⟩
   ·have hk:X.env.scope.names.lookup x = some .local:=hk
    rcases q3 with z | z <;> (rw [z] at hk; cases hk)
   ·exact fin c hc hv
 ·have q:=Qdd (names:=[]) scope.names (s.heap.push { cls:=.type "dict",data:=.dict #[] }) (Qit X.env scope.names []) (fun y d hd=>by
   rcases Qca _ _ (scOk.cells I h) hd with z | z
   ·cases z
   ·obtain ⟨v,w⟩:=I.cell y d z
    exact ⟨v,w.keeps fun b o e=>Heap.get?_push_of_some _ e⟩)
  rw [Heap.size_push] at q
  exact q x c e
 ·rcases Qjs I h e with q | ⟨q,_⟩
  ·rcases I.freeC x c q with z | ⟨_,z⟩
   ·exact .inl z
   ·refine .inr ⟨?_,z⟩
    show decide ((x,NameKind.cell) ∈ scope.names) = false
    refine decide_eq_false fun hx=>?_
    have h1:=Qdk _ _ _ hx e
    obtain ⟨v,w⟩:=I.cell x c q
    exact absurd (Nat.lt_of_lt_of_le (Nat.lt_succ_of_lt w.lt) h1) (Nat.lt_irrefl _)
  ·exact .inl (I.hok.fresh (Nat.le_of_succ_le q))
 ·show (Qfg js σ).length = N.length
  unfold Qfg
  rw [List.length_map,hcap.1]
end
noncomputable def Qaca (J:It) (l:Addr) (σ:St) (H1:Hp) (g:TG) (tc:TT) (te:TE) (Q:VK):Prop:=∃ W:Nat → Nat → List V → St → Hp → Prop,
 (∃ m,W 0 m [] σ (upd H1 l (.lst []))) ∧ ∀ i m ys σ2 H2,W i m ys σ2 H2 →
  (J.stop i H2 ∧ Q (.ref l) H2) ∨
  (J.go i H2 ∧ ∀ x H3,J.yld i H2 x H3 → g x σ2 H3 fun σ4 H4=>tc σ4 H4 fun b H5 =>
   if b = true then te σ4 H5 fun y H6=>H6 l = some (.lst ys) ∧ ys.length < sizeLine ∧ ∃ m',m' < m ∧ W (i + 1) m' (ys ++ [y]) σ4 (upd H6 l (.lst (ys ++ [y])))
   else ∃ m',m' < m ∧ W (i + 1) m' ys σ4 H5)
noncomputable abbrev Qyq (wi:TI) (js:List (Option Nat)) (g:TG) (tc:TT) (te:TE):TE:=fun σ H Q=>wi σ H fun J H1=>∀ l,H1 l = none → Qaca J l (Qfg js σ) H1 g tc te Q
noncomputable def PTs (X:Cx) (ifs:List Expr) (t:TT):Prop :=
 ∀ (pins:List (Addr × Obj)) (s:Shared) (σ:St) (H:Hp) (Q:Bool → Hp → Prop),Inv X pins σ H s → t σ H Q →
  wpAny (model X.prog X.w) X.A (forIn ifs true fun c r=>if r = true then do let ok ← isTrue c X.env (eval c X.env); pure (ForInStep.yield ok) else pure (ForInStep.yield r)) (TP X pins σ Q) X.xe s
noncomputable abbrev tYes:TT:=fun _ H Q=>Q true H
theorem Q3j {X:Cx}:PTs X [] tYes:=fun pins s σ H Q I h=>wpAny_tests_nil ⟨H,I,h⟩
theorem Q3k {X:Cx} {c:Expr} {t:TT} (h:PT X c t):PTs X [c] t:=fun pins s σ H Q I q=>wpAny_tests_one (h pins s σ H Q I q)
theorem Qyr {X:Cx} {tg elt iter:Expr} {ifs:List Expr} {scope:Scope} {pos:Pos} {N:List Str} {js:List (Option Nat)} {wi:TI} {g:TG} {tc:TT} {te:TE} (hcalm:X.calm = true)
  (hi:PI X tg iter wi) (hg:∀ s H fp,PG (Qbc X scope N s H fp) tg g) (hc:∀ s H fp,PTs (Qbc X scope N s H fp) ifs tc) (he:∀ s H fp,PE (Qbc X scope N s H fp) elt te)
  (hk:scope.kind = .function:=by rfl) (h1:scOk X scope = true:=by rfl) (h2:Qn1 X scope N js = true:=by rfl)
  (hs:∀ x,foldedSetIterable iter X.env x = pure x:=by intro _; rfl):PE X (.ListComp elt [⟨tg,iter,ifs,0⟩] scope pos) (Qyq wi js g tc te):=by
 intro pins s σ H Q I h
 rw [eval_ListComp]
 refine wpAny_comprehension_free (use:=none) rfl hs (Qs3 (scOk.cells I h1)) hk (fun x hx hl=>by rw [(scOk.get h1 hx).2,hl]) ?_
 refine thn (hi pins s σ H _ I h) fun v s1 h1'=>thn h1' fun itv s2 h2'=>?_
 obtain ⟨it,fp,tn,J,H2,e,I2,T,st2,f2,q⟩:=h2'
 subst e
 refine wpAny_newObj_type ?_
 have hl:H2 s2.heap.objs.size = none:=I2.hok.fresh (Nat.le_refl _)
 obtain ⟨W,⟨m0,w0⟩,turn⟩:=q _ hl
 have I3:Inv X pins σ (upd H2 s2.heap.objs.size (.lst [])) { s2 with heap:=s2.heap.push { cls:=.type "list",data:=.seq ([]:List Value).toArray } }:=I2.lnew (t':=s2.toks) (ys:=[]) .nil (Nat.zero_le _)
 generalize hs3:({ s2 with heap:=s2.heap.push { cls:=.type "list",data:=.seq ([]:List Value).toArray } }:Shared) = s3 at I3
 generalize hH3:upd H2 s2.heap.objs.size (.lst []) = H3 at I3 w0
 generalize hl':s2.heap.objs.size = l at turn hH3 hl
 have kp3:∀ b o,s2.heap.get? b = some o → s3.heap.get? b = some o:=fun b o e=>by rw [← hs3]; exact Heap.get?_push_of_some _ e
 have ob3:∀ b ∈ fp,∃ o,s3.heap.get? b = some o ∧ ∀ v,o.data ≠ .cell v:=fun b hb=>by
  obtain ⟨o,e,d⟩:=T.obj _ _ st2 b hb
  exact ⟨o,kp3 b o e,d⟩
 have f3:∀ b ∈ fp,Qm2 X pins H3 b:=fun b hb=>by
  obtain ⟨o,e,d⟩:=T.obj _ _ st2 b hb
  refine ⟨?_,(f2 b hb).2⟩
  rw [← hH3,Q4 (Nat.ne_of_lt (by rw [← hl']; exact Heap.lt_size e))]
  exact (f2 b hb).1
 refine Qq2 ?_
 have I4:=Qyp (N:=N) (js:=js) I3 hk h1 h2 f3 ob3
 have st4:tn 0 (pushCells (s3.heap.push { cls:=.type "dict",data:=.dict #[] }) scope.names):=T.keep _ _ _ st2 fun b hb o e=>pushCells_keeps _ _ _ _ (Heap.get?_push_of_some _ (kp3 b o e))
 have fr4:∀ b ∈ fp,H3 b = none:=fun b hb=>(f3 b hb).1
 have fpX:∀ {H':Hp},(∀ b ∈ fp,H' b = none) → ∀ b ∈ fp,Qm2 (Qbc X scope N s3 H3 fp) [] H' b:=fun hn b hb=>by
  have ok:=I4.ok
  refine ⟨hn b hb,(ok.exf b hb).1,ok.exfs b hb,.inl hb,(ok.exf b hb).2,fun p hp=>absurd (show p ∈ ([]:List (Addr × Obj)) from hp) (by simp)⟩
 -- the block's end
 have fin:∀ {σ':St} {H':Hp} {s':Shared},Inv (Qbc X scope N s3 H3 fp) [] σ' H' s' → Q (.ref l) H' → compPost (model X.prog X.w) X.A X.xe none (EP X pins σ Q) (.ref l) s3.heap.objs.size (.ok .next) s':=fun {σ' H' s'} I' q'=>by
  obtain ⟨m,hn,_⟩:=id I'.loc
  refine ⟨m,hn,fun h' hsb=>⟨.ref l,H',?_,rfl,q'⟩⟩
  have hfr:H' s3.heap.objs.size = none:=I'.free
  refine I3.call' (s':={ s' with heap:=h' }) (ch:=fp) I'.os ⟨fun b o e n hb hx=>?_,fun b o e n hb hx=>?_,I'.base.free,fun b o e hx=>?_,I'.base.tups,I'.base.frzs,I'.base.tbls⟩ (fun b u e=>?_) I'.bare (fun b hb=>⟨(f3 b hb).2.2.2.1,(f3 b hb).2.1,(f3 b hb).2.2.2.2.1,(f3 b hb).2.2.2.2.2⟩)
  ·exact (hsb.2 b (Nat.ne_of_lt (Heap.lt_size e))).trans (I'.base.keep b o e n hb hx)
  ·obtain ⟨sl,z⟩:=I'.base.slot b o e n hb hx
   exact ⟨sl,(hsb.2 b (Nat.ne_of_lt (Heap.lt_size e))).trans z⟩
  ·obtain ⟨o',z⟩:=I'.base.there b o e hx
   exact ⟨o',(hsb.2 b (Nat.ne_of_lt (Heap.lt_size e))).trans z⟩
  ·refine (I'.hok b u e).stay (fun c w' hc z=>(hsb.2 c ?_).trans z) (fun _ z=>z) fun _ _ z=>z
   rintro rfl
   rcases hc with rfl | hc
   ·rw [hfr] at e; cases e
   ·rw [hfr] at hc; cases hc
 have loop:codeAny (model X.prog X.w) X.A (.compLoop (.ListComp elt [⟨tg,iter,ifs,0⟩] scope pos) 0 (.ref it) (.ref l) (Qbc X scope N s3 H3 fp).env) (compPost (model X.prog X.w) X.A X.xe none (EP X pins σ Q) (.ref l) s3.heap.objs.size)
   { s3 with heap:=pushCells (s3.heap.push { cls:=.type "dict",data:=.dict #[] }) scope.names }:=by
  refine Qo5 (fun n s'=>∃ i ys σ' H',Inv (Qbc X scope N s3 H3 fp) [] σ' H' s' ∧ tn i s'.heap ∧ (∀ b ∈ fp,H' b = none) ∧ W i n ys σ' H') ?_ m0 ⟨0,[],Qfg js σ,H3,I4,st4,fr4,w0⟩
  rintro n s5 ⟨i,ys,σ5,H5,I5,st5,fr5,w5⟩
  rcases turn i n ys σ5 H5 w5 with ⟨stop,qn⟩ | ⟨go,step⟩
  ·refine thn (T.done (Qbc X scope N s3 H3 fp) rfl rfl rfl hcalm i [] s5 σ5 H5 _ I5 (fpX fr5) st5 stop) fun r s6 ⟨hr,I6⟩=>?_
   subst hr
   exact fin I6 qn
  ·refine thn (T.item (Qbc X scope N s3 H3 fp) rfl rfl rfl hcalm i [] s5 σ5 H5 _ I5 (fpX fr5) st5 go) fun r s6 ⟨u,hr,h6⟩=>?_
   subst hr
   refine thn h6 fun _ s7 ⟨x,H7,I7,r7,y7,st7,fr7⟩=>?_
   have I7':=I7.pinned (fpX fr7) (T.obj _ _ st7)
   have again:∀ {σ8:St} {H8:Hp} {s8:Shared} {ys8:List V},Inv (Qbc X scope N s3 H3 fp) ([] ++ Qkx fp s7.heap) σ8 H8 s8 → (∃ m',m' < n ∧ W (i + 1) m' ys8 σ8 H8) →
     ∃ m,m < n ∧ ∃ i ys σ' H',Inv (Qbc X scope N s3 H3 fp) [] σ' H' s8 ∧ tn i s8.heap ∧ (∀ b ∈ fp,H' b = none) ∧ W i m ys σ' H':=fun {σ8 H8 s8 ys8} I8 ⟨m',hm,w8⟩=>by
    refine ⟨m',hm,i + 1,ys8,σ8,H8,I8.unpinned,T.keep _ _ _ st7 fun b hb o e=>(I8.pin (b,o) (List.mem_append_right _ (List.mem_append_right _ (Qff hb e)))).1,fun b hb=>?_,w8⟩
    obtain ⟨o,e,d⟩:=T.obj _ _ st7 b hb
    exact (I8.pin (b,o) (List.mem_append_right _ (List.mem_append_right _ (Qff hb e)))).2.1
   refine thn (hg s3 H3 fp _ s7 σ5 H7 x u _ I7' r7 (step x H7 y7)) fun _ s8 ⟨σ8,H8,I8,q8⟩=>?_
   refine thn (hc s3 H3 fp _ s8 σ8 H8 _ I8 q8) fun ok s9 ⟨H9,I9,q9⟩=>?_
   cases ok with
   | false =>
    rw [if_neg Bool.false_ne_true] at q9 ⊢
    exact again I9 q9
   | true =>
    rw [if_pos rfl] at q9 ⊢
    refine thn (he s3 H3 fp _ s9 σ8 H9 _ I9 q9) fun y s10 ⟨vy,H10,I10,r10,a10,z10,q10⟩=>?_
    refine thn (Qnx (X:=Qbc X scope N s3 H3 fp) _ s10 σ8 H10 (.ref l) [vy] (.ref l) [y] (fun _ H'=>∃ m',m' < n ∧ W (i + 1) m' (ys ++ [vy]) σ8 H') I10 rfl (.cons r10 .nil) ⟨l,ys,vy,rfl,rfl,a10,z10,q10⟩) fun _ s11 ⟨_,H11,I11,_,q11⟩=>?_
    exact again I11 q11
 first
  | exact codeAny_compStart_list loop (T.self _ 0 _ _ _ st4 loop)
  | (rw [← hs3] at loop st4
     exact codeAny_compStart_list loop (T.self _ 0 _ _ _ st4 loop))
section
variable {X:Cx}
theorem Qq3:CallR X (.builtin "isinstance") (fun xs H Q=>∃ x T t b,xs = [x,.ty T] ∧ TyOf X.K H x t ∧ PySem.W.kitOne X.K t (.type T) = some b ∧ Q (.bl b) H):=by
 intro pins s σ H xs us Q I r h
 obtain ⟨x,T,t,b,rfl,ty,e,q⟩:=h
 obtain ⟨u,w',rfl,rx,ry⟩:=Qyg r
 obtain rfl:w' = Value.type T:=ry
 exact Qww I rx ty e fun tk=>⟨.bl b,H,I.tok _,rfl,q⟩
noncomputable def Qke:V → Bool
 | .bl b=>b
 | .int i=>i != 0
 | _=>false
noncomputable def Qk3:V → Bool
 | .bl _=>true
 | .int _=>true
 | .non=>true
 | _=>false
theorem Qq4 {A:Around} {s:Shared} {x:V} {v:Value} {Q:Bool → Shared → Prop} {E:Value → Shared → Prop} (r:RelV x v) (f:Qk3 x = true) (h:Q (Qke x) s):wpAny (model X.prog X.w) A (truthy v) Q E s:=by
 cases x with
 | bl b=>cases r; exact wpAny_truthy_bool h
 | int i=>obtain ⟨t,rfl⟩:=r; exact truthy_int h
 | non=>cases r; exact truthy_none h
 | _=>exact absurd (show false = true from f) Bool.false_ne_true
theorem Qs4 {α:Type} (f:α → Bool) (d:α) (xs:List α):((List.range xs.length).all fun i=>f (xs.getD i d)) = xs.all f:=by
 rw [Bool.eq_iff_iff,List.all_eq_true,List.all_eq_true]
 constructor
 ·intro h x hx
  obtain ⟨i,hi,rfl⟩:=List.getElem_of_mem hx
  have:=h i (List.mem_range.mpr hi)
  rwa [List.getD_eq_getElem?_getD,List.getElem?_eq_getElem hi,Option.getD_some] at this
 ·intro h i hi
  have hi:=List.mem_range.mp hi
  rw [List.getD_eq_getElem?_getD,List.getElem?_eq_getElem hi,Option.getD_some]
  exact h _ (List.getElem_mem hi)
theorem Qs5 {α:Type} (f:α → Bool) (d:α) (xs:List α):((List.range xs.length).any fun i=>f (xs.getD i d)) = xs.any f:=by
 rw [Bool.eq_iff_iff,List.any_eq_true,List.any_eq_true]
 constructor
 ·rintro ⟨i,hi,h⟩
  have hi:=List.mem_range.mp hi
  rw [List.getD_eq_getElem?_getD,List.getElem?_eq_getElem hi,Option.getD_some] at h
  exact ⟨_,List.getElem_mem hi,h⟩
 ·rintro ⟨x,hx,h⟩
  obtain ⟨i,hi,rfl⟩:=List.getElem_of_mem hx
  exact ⟨i,List.mem_range.mpr hi,by rw [List.getD_eq_getElem?_getD,List.getElem?_eq_getElem hi,Option.getD_some]; exact h⟩
theorem Qys (hc:X.calm = true):CallR X (.builtin "all") (fun xs H Q=>∃ p ys,xs = [.ref p] ∧ SqL X.K H p ys ∧ ys.all Qk3 = true ∧ Q (.bl (ys.all Qke)) H):=by
 intro pins s σ H xs us Q I r h
 obtain ⟨p,ys,rfl,hq,hf,q⟩:=h
 obtain ⟨u,rfl,rx⟩:=Qe9 r
 cases rx
 obtain ⟨its,r',pl,hz⟩:=I.list hq
 have hlt:p < s.heap.objs.size:=by obtain ⟨_,e,_⟩:=pl.isList; exact Heap.lt_size e
 have hlen:=r'.length
 refine call_all_walk (wpAny_pyIter_list pl.isList ?_)
 refine ⟨s.heap.objs.size,[s.heap.objs.size,p],[s.heap.objs.size],its.toArray.size,_,_,fun i=>Qke (ys.getD i .non),rfl,Walks.list (A:=X.A.in1) (I.ok.hd hc) _ p (Nat.ne_of_lt hlt) its.toArray,
  ⟨⟨_,Heap.get?_push_size _ rfl,rfl,rfl⟩,pl.isList.push _⟩,fun i v s' Q' E' hP hQ=>?_,fun h' tk hk=>?_⟩
 ·have hi:its[i]? = some v:=by simpa using hP
  have hy:∃ y,ys[i]? = some y:=by
   have:=(List.getElem?_eq_some_iff.mp hi).1
   exact ⟨ys[i],List.getElem?_eq_getElem (by omega)⟩
  obtain ⟨y,hy⟩:=hy
  obtain ⟨v',hv',rv⟩:=r'.get hy
  rw [hi] at hv'; cases hv'
  refine Qq4 (X:=X) rv (List.all_eq_true.mp hf y (List.mem_of_getElem? hy)) ?_
  have hQ:Q' (Qke (ys.getD i V.non)) s':=hQ
  rw [List.getD_eq_getElem?_getD,hy,Option.getD_some] at hQ
  exact hQ
 ·rw [List.size_toArray,← hlen,Qs4]
  exact ⟨.bl _,H,I.kept fun b x e=>hk b x (fun hm=>by rw [List.mem_singleton.mp hm] at e; exact Nat.lt_irrefl _ (Heap.lt_size e)) (Heap.get?_push_of_some _ e),rfl,q⟩
theorem Qyt (hc:X.calm = true):CallR X (.builtin "any") (fun xs H Q=>∃ p ys,xs = [.ref p] ∧ SqL X.K H p ys ∧ ys.all Qk3 = true ∧ Q (.bl (ys.any Qke)) H):=by
 intro pins s σ H xs us Q I r h
 obtain ⟨p,ys,rfl,hq,hf,q⟩:=h
 obtain ⟨u,rfl,rx⟩:=Qe9 r
 cases rx
 obtain ⟨its,r',pl,hz⟩:=I.list hq
 have hlt:p < s.heap.objs.size:=by obtain ⟨_,e,_⟩:=pl.isList; exact Heap.lt_size e
 have hlen:=r'.length
 refine call_any_walk (wpAny_pyIter_list pl.isList ?_)
 refine ⟨s.heap.objs.size,[s.heap.objs.size,p],[s.heap.objs.size],its.toArray.size,_,_,fun i=>Qke (ys.getD i .non),rfl,Walks.list (A:=X.A.in1) (I.ok.hd hc) _ p (Nat.ne_of_lt hlt) its.toArray,
  ⟨⟨_,Heap.get?_push_size _ rfl,rfl,rfl⟩,pl.isList.push _⟩,fun i v s' Q' E' hP hQ=>?_,fun h' tk hk=>?_⟩
 ·have hi:its[i]? = some v:=by simpa using hP
  have hy:∃ y,ys[i]? = some y:=by
   have:=(List.getElem?_eq_some_iff.mp hi).1
   exact ⟨ys[i],List.getElem?_eq_getElem (by omega)⟩
  obtain ⟨y,hy⟩:=hy
  obtain ⟨v',hv',rv⟩:=r'.get hy
  rw [hi] at hv'; cases hv'
  refine Qq4 (X:=X) rv (List.all_eq_true.mp hf y (List.mem_of_getElem? hy)) ?_
  have hQ:Q' (Qke (ys.getD i V.non)) s':=hQ
  rw [List.getD_eq_getElem?_getD,hy,Option.getD_some] at hQ
  exact hQ
 ·rw [List.size_toArray,← hlen,Qs5]
  exact ⟨.bl _,H,I.kept fun b x e=>hk b x (fun hm=>by rw [List.mem_singleton.mp hm] at e; exact Nat.lt_irrefl _ (Heap.lt_size e)) (Heap.get?_push_of_some _ e),rfl,q⟩
theorem Qw2 (hc:X.calm = true):CallR X (.builtin "max") (fun xs H Q=>∃ (p:Addr) (ns:List Int),xs = [.ref p] ∧ SqL X.K H p (ns.map V.int) ∧ ns ≠ [] ∧ ∀ M,M ∈ ns → (∀ a ∈ ns,a ≤ M) → Q (.int M) H):=by
 intro pins s σ H xs us Q I r h
 obtain ⟨p,ns,rfl,hq,hne,q⟩:=h
 obtain ⟨u,rfl,rx⟩:=Qe9 r
 cases rx
 obtain ⟨its,r',pl,hz⟩:=I.list hq
 have hi:IntsAre its ns:=Qkz r'
 obtain ⟨xs,e⟩:=hi.allInts.items
 have hns:ns = xs.toList.map (·.1):=by rw [← hi.numsOf,← nums_intItems,← e]
 have hsz:0 < xs.size:=by
  have h3:0 < ns.length:=List.length_pos_iff.mpr hne
  rw [hns,List.length_map,Array.length_toList] at h3; exact h3
 have hl:=pl.isList
 rw [e] at hl
 refine max_intList (I.ok.hd hc) hl hsz fun v h' tk hv hk=>?_
 obtain ⟨t,rfl⟩:=intItems_at hv
 obtain ⟨h1,h2⟩:=argBest_gt (numAt xs) (xs.size - 1)
 refine ⟨.int _,H,I.kept hk,⟨t,rfl⟩,q _ ?_ fun a ha=>?_⟩
 ·rw [hns,numAt_eq]; exact getD_mem (by rw [List.length_map,Array.length_toList]; omega)
 ·rw [hns] at ha
  obtain ⟨j,hj,rfl⟩:=mem_getD ha
  rw [List.length_map,Array.length_toList] at hj
  rw [← numAt_eq]; exact h2 j (by omega)
theorem Qw3 (hc:X.calm = true):CallR X (.builtin "sum") (fun xs H Q=>∃ (p:Addr) (ns:List Int),xs = [.ref p] ∧ SqL X.K H p (ns.map V.int) ∧ Q (.int ns.sum) H):=by
 intro pins s σ H xs us Q I r h
 obtain ⟨p,ns,rfl,hq,q⟩:=h
 obtain ⟨u,rfl,rx⟩:=Qe9 r
 cases rx
 obtain ⟨its,r',pl,hz⟩:=I.list hq
 have hi:IntsAre its ns:=Qkz r'
 obtain ⟨xs,hx⟩:=hi.allInts.items
 have hl':s.heap.IsList p (intItems xs):=hx ▸ pl.isList
 refine sum_intListG (I.ok.hd hc) hl' fun h' tk t' hk=>?_
 have e1:ns = xs.toList.map (·.1):=by
  rw [← nums_intItems,← hx]
  exact (show numsOf its.toArray.toList = ns from hi.numsOf).symm
 have e2:preSum (numAt xs) xs.size = ns.sum:=by
  rw [preSum_eq,List.take_of_length_le (by simp),e1]
 rw [e2]
 exact ⟨.int _,H,I.kept hk,⟨t',rfl⟩,q⟩
end
open PySem.AutoSeq1 (wpAny_loadPart')
theorem Same.upd {H:Hp} {a:Addr} {o:HO} (h:H a = none):Same H (upd H a o):=fun b u e=>by rw [Q4 (Qbt e h)]; exact e
theorem Qo6 (l:Addr) (items:Array Value) (n:Nat) (b:Addr) (items2:Array Value) (n2:Nat) (dd:Option Addr) (sl:Array (Option Value)) (hs0:¬(!items.isEmpty && Builtin.List.listTooLong (items.size + items2.size)) = true) (hs1:items.size ≤ sizeLine) (hs2:items.size + items2.size ≤ sizeLine + 1) :
  Meets (Builtin.«list.extend» ⟨[.ref l,.ref b],[]⟩) (fun _ R s=>s.heap.get? l = some { cls:=.type "list",dict:=none,data:=.seq items n,slots:=#[] } ∧ s.heap.get? b = some { cls:=.type "tuple",dict:=dd,data:=.seq items2 n2,slots:=sl } ∧ R (.ok (.ret Value.none)) { s with heap:=s.heap.update l (Obj.mapSeq fun x=>x ++ items2),toks:=s.toks }) :=
 .of_wp fun prog w A R s h=>by
  obtain ⟨hp,g,d,tk,os⟩:=s; obtain ⟨hl,hb,h⟩:=h; have f1:=AutoSeq1.idx_int; have f2:=AutoSeq1.sub_tuple_tuple; have f3:=AutoSeq1.sub_list_list; have f4:=AutoSeq1.sub_tuple_list; have f5:=AutoSeq1.sub_list_tuple
  have hz':(items ++ items2).size ≤ sizeLine + 1:=by rw [Array.size_append]; exact hs2
  wp_walk using (wpAny_updateSeq hl rfl (hz:=hs1) (_hz':=hz')),wpAny_loadPart' hl,wpAny_loadPart' hb; exact ⟨_,rfl,h⟩
theorem Qs6 (l:Addr) (items:Array Value) (n:Nat) (x:Int) (u:Tok) (dd:Option Addr) (sl:Array (Option Value)) (h0:¬ (x < -(2 ^ 63) || x ≥ 2 ^ 63) = true) (h1:¬ (items.isEmpty || x == 1) = true) (h2:¬ (x ≤ 0 || items.isEmpty) = true) (h3:¬ items.size * x > (2 ^ 63 - 1) / 8) (h4:¬ Builtin.Tuple.tupleTooMany (items.size * x) = true)
  (hz:(List.foldl (fun x1 x2=>x1 ++ x2) #[] (List.replicate x.toNat items)).size ≤ sizeLine) :
  Meets (Builtin.«tuple.__mul__» ⟨[.ref l,.int x u],[]⟩) (fun _ R s=>s.heap.get? l = some { cls:=.type "tuple",dict:=dd,data:=.seq items n,slots:=sl } ∧ R (.ok (.ret (Value.ref s.heap.objs.size))) { s with heap:=s.heap.push { cls:=Value.type "tuple",data:=Data.seq (List.foldl (fun x1 x2=>x1 ++ x2) #[] (List.replicate x.toNat items)) },toks:=s.toks }) :=
 .of_wp fun prog w A R s h=>by
  obtain ⟨hp,g,d,tk,os⟩:=s; obtain ⟨hl,h⟩:=h; have f1:=AutoSeq1.idx_int
  wp_walk using wpAny_loadPart' hl
  rw [if_neg h0]
  wp_walk using wpAny_loadPart' hl
  rw [if_neg h3]
  wp_walk using wpAny_loadPart' hl
  exact ⟨_,rfl,h⟩
theorem Qq5 (l:Addr) (items:Array Value) (n:Nat) (x:Int) (u:Tok) (dd:Option Addr) (sl:Array (Option Value)) (h0:¬ (x < -(2 ^ 63) || x ≥ 2 ^ 63) = true) (h1:(items.isEmpty || x == 1) = true) :
  Meets (Builtin.«tuple.__mul__» ⟨[.ref l,.int x u],[]⟩) (fun _ R s=>s.heap.get? l = some { cls:=.type "tuple",dict:=dd,data:=.seq items n,slots:=sl } ∧ R (.ok (.ret (Value.ref l))) s) :=
 .of_wp fun prog w A R s h=>by
  obtain ⟨hp,g,d,tk,os⟩:=s; obtain ⟨hl,h⟩:=h; have f1:=AutoSeq1.idx_int
  wp_walk using wpAny_loadPart' hl
  rw [if_neg h0]
  wp_walk using wpAny_loadPart' hl
  exact ⟨_,rfl,h⟩
theorem Qk4 (a:Int) (t:Tok) (l:Addr) (items:Array Value) (n:Nat) (dd:Option Addr) (sl:Array (Option Value)) :
  Meets (Builtin.«int.__rmul__» ⟨[.int a t,.ref l],[]⟩) (fun _ R s=>s.heap.get? l = some { cls:=.type "tuple",dict:=dd,data:=.seq items n,slots:=sl } ∧ R (.ok (.ret Value.notImplemented)) s) :=
 .of_wp fun prog w A R s h=>by obtain ⟨hp,g,d,tk,os⟩:=s; obtain ⟨hl,h⟩:=h; wp_walk; exact ⟨_,rfl,h⟩
theorem Qjt:fillsNumberSlot (.type "tuple") "mul" = pure false :=
 PySem.fillsNumberSlot_seq (id := "tuple.__mul__") (r:=some (.builtin "tuple.__rmul__")) F.slot_tuple_mul.lookup (by decide +kernel) F.slot_tuple_rmul.lookup (by decide +kernel)
theorem Qo7:seqRepeat? (.type "tuple") = pure (some (.builtin "tuple.__mul__")):=by
 unfold seqRepeat?
 rw [PySem.seqSlot_of (T := "tuple") (name := "__mul__") (id := "tuple.__mul__") F.slot_tuple_mul.lookup (by decide +kernel),PySem.seqSlot_of (T := "tuple") (name := "__rmul__") (id := "tuple.__rmul__") F.slot_tuple_rmul.lookup (by decide +kernel)]
 rfl
section
variable {X:Cx}
noncomputable def Qgq (K:PySem.W.Frag):V → List V → Hp → VK → Prop:=fun x vs H Q=>∃ l b xs zs,x = .ref l ∧ vs = [.ref b] ∧ H l = some (.lst xs) ∧ SqT K H b zs ∧ xs.length + zs.length ≤ sizeLine ∧ Q .non (upd H l (.lst (xs ++ zs)))
theorem Qs7:MtM X "list.extend" (Qgq X.K):=by
 intro pins s σ H x vs v us Q I rx rv h
 obtain ⟨l,b,xs,zs,rfl,rfl,hH,hB,hz,q⟩:=h
 cases rx
 obtain ⟨u,rfl,ru⟩:=rv.one
 cases ru
 obtain ⟨z,its,n,r,hl,e⟩:=I.lstM hH
 obtain ⟨its2,r2,⟨⟨cls,dd,data,sl⟩,e2,hc,n2,hd⟩,_⟩:=I.tuple hB
 simp only at hc hd
 subst hc hd
 have hl2:=r2.length
 have hsz:its.toArray.size + its2.toArray.size ≤ sizeLine:=by rw [List.size_toArray,List.size_toArray]; omega
 have hlong:¬ (!its.toArray.isEmpty && Builtin.List.listTooLong (its.toArray.size + its2.toArray.size)) = true:=by
  rw [Qk0 hsz,Bool.and_false]
  exact Bool.false_ne_true
 refine call_meets F.slot_list_extend ⟨_,e,rfl⟩ F.entry_list_extend (F.args_list_extend_2 _ _)
  (Qo6 l its.toArray n b its2.toArray n2 dd sl hlong (by rw [List.size_toArray]; omega) (by omega)) ⟨e,e2,?_⟩
 refine ⟨.non,_,I.lset (its':=its ++ its2) hH e (by simp) (r.append r2) ?_,rfl,q⟩
 rw [List.length_append]
 omega
noncomputable def Q5s (K:PySem.W.Frag):R2:=fun x y H Q=>∃ a b xs ys,x = .ref a ∧ y = .ref b ∧ H a = some (.tup xs) ∧ H b = some (.tup ys) ∧ xs.length + ys.length ≤ sizeLine ∧ ∀ p H',Same H H' → H' p = some (.tup (xs ++ ys)) → (p = a ∨ p = b ∨ H p = none) → Q (.ref p) H'
theorem Q3l:OpR X (binaryOp .Add) (Q5s X.K):=by
 intro pins s σ H x y v u Q I rx ry h
 obtain ⟨a,b,xs,ys,rfl,rfl,ha,hb,hz,q⟩:=h
 by_cases hx:xs = []
 ·cases rx
  cases ry
  subst hx
  obtain ⟨its,r1,⟨⟨cls,dd,data,sl⟩,e1,hc,n,hd⟩,_⟩:=I.tuple (SqT.of ha)
  obtain ⟨its2,r2,⟨⟨cls2,dd2,data2,sl2⟩,e2,hc2,n2,hd2⟩,_⟩:=I.tuple (SqT.of hb)
  simp only at hc hd hc2 hd2
  subst hc hd hc2 hd2
  cases r1
  exact concat_meets ⟨_,e1,rfl⟩ ⟨_,e2,rfl⟩ noFill_tuple_add seq_tuple_add PySem.F.slot_tuple_add PySem.F.entry_tuple_add (PySem.F.args_tuple_add_2 _ _)
   (tuple_addW0 a b _ _ n n2 dd dd2 sl sl2 rfl) ⟨e1,e2,⟨.ref b,H,I,rfl,q b H (Same.refl H) hb (.inr (.inl rfl))⟩⟩
 ·refine Q29 pins s σ H _ _ v u Q I rx ry ⟨a,b,xs,ys,rfl,rfl,SqT.of ha,SqT.of hb,hx,hz,fun e=>q a H (Same.refl H) (by rw [ha,e,List.append_nil]) (.inl rfl),fun _ p hp=>q p _ (Same.upd hp) Qp (.inr (.inr hp))⟩
noncomputable def rSlS (K:PySem.W.Frag):V → Option Int → Option Int → Hp → VK → Prop:=fun x lo hi H Q=>∃ a xs,x = .ref a ∧ H a = some (.tup xs) ∧ ∀ p H',Same H H' → H' p = some (.tup (Qgn xs lo hi)) → (p = a ∨ H p = none) → Q (.ref p) H'
theorem Q3m:SlR X (rSlS X.K):=by
 intro pins s σ H x v vl vu lo hi sl Q I rx hs pl pu h
 obtain ⟨a,xs,rfl,hx,q⟩:=h
 by_cases hw:HT.sIx xs.length 0 lo = 0 ∧ HT.sIx xs.length xs.length hi = xs.length
 ·cases rx
  obtain ⟨its,r,ht,hz⟩:=I.tuple (SqT.of (K:=X.K) hx)
  have hlen:its.toArray.size = xs.length:=by rw [List.size_toArray]; exact r.length.symm
  refine ⟨"tuple",_,PyProof.Rows.slot_tuple_getitem.lookup,ht.typeIs,?_⟩
  have hcut:Qgn xs lo hi = xs:=by
   unfold Qgn
   rw [hw.1,hw.2,List.drop_zero,Nat.sub_zero,List.take_length]
  obtain ⟨os,hos,hcs,hds⟩:=id hs
  have hTs:s.TypeIs (.ref sl) "slice" := ⟨os,hos,hcs⟩
  unfold getItem
  try with_reducible refine wpAny_holding ?_
  first | refine wpAny_bind (wpAny_pure ?_) | skip
  refine wpAny_bind (wpAny_sequenceKey ht.typeIs (by decide) ?_)
  refine wpAny_bind (wpAny_callSpecial?_slot (name:=Str.ofString "__getitem__") ht.typeIs PyProof.Rows.slot_tuple_getitem
   (wpAny_call_entry PyProof.Rows.slot_tuple_getitem ht.typeIs entry_tuple_getitem ?_ (args_tuple_getitem _ _)))
  show wpAny _ _ (Builtin.Tuple.tupleItemsOf (.ref a) >>= _) _ _ s
  refine wpAny_bind (tupleItemsOf_ ht ?_)
  refine wpAny_bind (wpAny_typeOf hTs ?_)
  rw [if_pos (by decide)]
  refine wpAny_bind (HT.sliceApplied_gen hs pl pu ?_)
  rw [hlen,hw.1,hw.2]
  show wpAny _ _ (if ((((0:Nat):Int) == 0 && (1:Int) == 1 && (xs.length - 0) == xs.length) = true) then _ else _) _ _ s
  rw [if_pos (by simp)]
  have fin:EP X pins σ Q (.ref a) s:=⟨.ref a,H,I,rfl,q a H (Same.refl H) (by rw [hcut]; exact hx) (.inl rfl)⟩
  refine wpAny_bind (wpAny_bind (wpAny_typeOf ht.typeIs (wpAny_pure ?_)))
  rw [if_pos (by decide)]
  exact wpAny_bind (wpAny_rule (wpAny_pure ⟨_,rfl,wpAny_pure fin⟩))
 ·exact Q74 pins s σ H _ v vl vu lo hi sl Q I rx hs pl pu ⟨a,xs,rfl,SqT.of hx,hw,fun p hp=>q p _ (Same.upd hp) Qp (.inr hp)⟩
end
open PySem.AutoSeq1 (wpAny_loadPart')
section
variable {X:Cx}
noncomputable def Q5t:R2:=fun x y H Q=>∃ a k xs,x = .ref a ∧ y = .int k ∧ H a = some (.tup xs) ∧ xs ≠ [] ∧ 1 ≤ k ∧ k < 2 ^ 31 ∧ xs.length * k.toNat ≤ sizeLine ∧ ∀ p H',Same H H' → H' p = some (.tup (List.replicate k.toNat xs).flatten) → (p = a ∨ H p = none) → Q (.ref p) H'
theorem Q3n:OpR X (binaryOp .Mult) Q5t:=by
 intro pins s σ H x y v u Q I rx ry h
 obtain ⟨a,k,xs,rfl,rfl,hH,hne,h1,h2,hz,q⟩:=h
 cases rx
 obtain ⟨t,rfl⟩:=ry
 obtain ⟨its,r,⟨⟨cls,dd,data,sl⟩,e,hc,n,hd⟩,_⟩:=I.tuple (SqT.of (K:=X.K) hH)
 simp only at hc hd
 subst hc hd
 have hl:=r.length
 have hn0:its ≠ []:=fun z=>hne (r.nil_iff.mp z)
 have hem:its.toArray.isEmpty = false:=by
  cases its with
  | nil=>exact absurd rfl hn0
  | cons _ _=>rfl
 have h0:¬ (decide (k < -(2 ^ 63)) || decide (k ≥ 2 ^ 63)) = true:=by
  simp only [Bool.or_eq_true,decide_eq_true_eq]
  omega
 refine wpAny_binaryOp_repeat_ref (T := "tuple") (U := "int") (by decide) ⟨_,e,rfl⟩ (fun s'=>typeIs_int s' k t) Qjt F.fills_int_mul F.slot_int_rmul Qo7 F.slot_int_index.lookup
  (call_meets F.slot_int_rmul (typeIs_int s k t) F.entry_int_rmul (F.args_int_rmul_2 _ _) (Qk4 k t a its.toArray n dd sl) ⟨e,rfl,⟨_,e,rfl⟩,?_⟩)
 by_cases hk:k = 1
 ·subst hk
  refine call_meets F.slot_tuple_mul ⟨_,e,rfl⟩ F.entry_tuple_mul (F.args_tuple_mul_2 _ _) (Qq5 a its.toArray n 1 t dd sl h0 (by simp)) ⟨e,?_⟩
  exact ⟨.ref a,H,I,rfl,q a H (Same.refl H) (by rw [hH]; simp) (.inl rfl)⟩
 ·have hlen:its.toArray.size * k.toNat ≤ sizeLine:=by rw [List.size_toArray,← hl]; exact hz
  have hki:(its.toArray.size:Int) * k = ((its.toArray.size * k.toNat:Nat):Int):=by
   rw [Int.natCast_mul,Int.toNat_of_nonneg (by omega)]
  have hs:sizeLine = 16777216:=sizeLine_eq
  have hnew:List.foldl (fun x1 x2=>x1 ++ x2) #[] (List.replicate k.toNat its.toArray) = (List.replicate k.toNat its).flatten.toArray:=by
   have:=foldl_rep its k.toNat []
   rw [List.nil_append] at this
   exact this
  refine call_meets F.slot_tuple_mul ⟨_,e,rfl⟩ F.entry_tuple_mul (F.args_tuple_mul_2 _ _) (Qs6 a its.toArray n k t dd sl h0 (by rw [hem]; simpa using hk) (by rw [hem]; simp; omega)
   (by rw [hki]; omega) (by rw [hki]; unfold Builtin.Tuple.tupleTooMany; rw [decide_eq_true_eq]; omega) (by rw [hnew,List.size_toArray,Qip,← hl,Nat.mul_comm]; exact hz)) ⟨e,?_⟩
  rw [hnew]
  have I2:Inv X pins σ (upd H s.heap.objs.size (.tup (List.replicate k.toNat xs).flatten)) { s with heap:=s.heap.push { cls:=.type "tuple",data:=.seq (List.replicate k.toNat its).flatten.toArray },toks:=s.toks } :=
   I.laid (fun b o e=>Heap.get?_push_of_some _ e) (Nat.le_refl _) ⟨by rw [Qip,Nat.mul_comm]; exact hz,_,r.rep k.toNat,IsTupD.new _ _⟩
  exact ⟨.ref _,_,I2,rfl,q _ _ (Same.upd I.fresh) Qp (.inr I.fresh)⟩
end
section
variable {X:Cx}
theorem Qw4 {j:Int} (h0:0 < j) (h:j < 2 ^ 64):j.natAbs.log2 < 9000:=by
 have h1:j.natAbs ≠ 0:=by omega
 have h2:j.natAbs.log2 < 64:=(Nat.log2_lt h1).mpr (by omega)
 omega
noncomputable def CDv (i j:Int):Prop:=0 < j ∧ j < 2 ^ 64
theorem Qyu:CallR X (.builtin "divmod") (fun xs H Q=>∃ i j,xs = [.int i,.int j] ∧ CDv i j ∧ ∀ p,H p = none → Q (.ref p) (upd H p (.tup [.int (i / j),.int (i % j)]))):=by
 intro pins s σ H xs us Q I r h
 obtain ⟨i,j,rfl,⟨h1,h2⟩,q⟩:=h
 obtain ⟨u,w',rfl,⟨t,rfl⟩,⟨t',rfl⟩⟩:=Qyg r
 refine divmod_int (by omega) ?_ (.inl (PyProof.noPylong_of_log2 (Qw4 h1 h2)))
 rw [Int.fdiv_eq_ediv_of_nonneg i (by omega),Int.fmod_eq_emod_of_nonneg i (by omega)]
 have hn:H s.heap.objs.size = none:=I.hok.fresh (Nat.le_refl _)
 refine ⟨.ref s.heap.objs.size,_,?_,rfl,q _ hn⟩
 refine I.laid (fun b o e=>Heap.get?_push_of_some _ e) (Nat.le_refl _) ⟨by simp only [List.length_cons,List.length_nil]; rw [sizeLine_eq]; decide,[.int (i / j) s.toks,.int (i % j) (s.toks + 1)],.cons ⟨_,rfl⟩ (.cons ⟨_,rfl⟩ .nil),?_⟩
 exact ⟨_,Heap.get?_push_size s.heap rfl,rfl,0,rfl,rfl⟩
noncomputable def Qn2 (K:PySem.W.Frag):R2:=fun x y H Q=>(rI0 fun i j=>.int (i + j)) x y H Q ∨ rCat x y H Q ∨ Q5s K x y H Q
theorem uAdd:OpR X (binaryOp .Add) (Qn2 X.K):=Q7s.or (Q79.or Q3l)
noncomputable def Q5u:R2:=fun x y H Q=>(rI CMul fun i j=>.int (i * j)) x y H Q ∨ rRep x y H Q ∨ Q5t x y H Q
theorem uMul:OpR X (binaryOp .Mult) Q5u:=Q7u.or (Q8a.or Q3n)
noncomputable abbrev Q3o (K:PySem.W.Frag) (tl:TE):TI:=fun σ H R=>tl σ H fun x H1=>∃ a,x = .ref a ∧ (((∃ xs,SqL K H1 a xs) ∧ R (Itl K a) H1) ∨ ((∃ xs,SqT K H1 a xs) ∧ R (Itt K a) H1))
theorem Q8k {tg l:Expr} {tl:TE} (hl:PE X l tl):PI X tg l (Q3o X.K tl):=by
 intro pins s σ H R I h
 refine thn (hl pins s σ H _ I h) fun v s1 ⟨x,H1,I1,r1,q1⟩=>?_
 obtain ⟨a,e,q⟩:=q1
 subst e
 cases r1
 rcases q with ⟨⟨xs,hq⟩,q⟩ | ⟨⟨xs,hq⟩,q⟩
 ·obtain ⟨its,rv,p,hz⟩:=I1.list hq
  refine wpAny_pyIter_list p.isList ?_
  refine ⟨s1.heap.objs.size,[s1.heap.objs.size],_,_,H1,rfl,I1.kept (t':=s1.toks) fun b o e=>Heap.get?_push_of_some _ e,Qwq a _,⟨_,Heap.get?_push_size _ rfl,rfl,rfl⟩,fun b hb=>?_,q⟩
  have e:b = s1.heap.objs.size:=by simpa using hb
  subst e
  exact I1.fpOk (Nat.le_refl _) (I1.hok.fresh (Nat.le_refl _))
 ·obtain ⟨its,rv,p,hz⟩:=I1.tuple hq
  refine wpAny_pyIter_tuple (show s1.heap.IsTuple a its.toArray from p) ?_
  refine ⟨s1.heap.objs.size,[s1.heap.objs.size],_,_,H1,rfl,I1.kept (t':=s1.toks) fun b o e=>Heap.get?_push_of_some _ e,Qsz a _,⟨_,Heap.get?_push_size _ rfl,rfl,rfl⟩,fun b hb=>?_,q⟩
  have e:b = s1.heap.objs.size:=by simpa using hb
  subst e
  exact I1.fpOk (Nat.le_refl _) (I1.hok.fresh (Nat.le_refl _))
noncomputable def Qyv (K:PySem.W.Frag):V → Option Int → Option Int → Hp → VK → Prop:=fun x lo hi H Q=>rSlL K x lo hi H Q ∨ rSlS K x lo hi H Q
theorem uSl:SlR X (Qyv X.K):=Q3b.or Q3m
end
structure Dfn (K:PySem.W.Frag) (mg:Str → Option Value) (x:Str) (st:Stmt):Prop where
 ex:∃ f fd,Fun K x x st f fd ∧ mg x = some (.ref f)
noncomputable def Has (P:Program) (w:World) (K:PySem.W.Frag) (mg:Str → Option Value) (base:Heap) (x:Str) (ps:List Str) (k:Nat) (sp:Sp):Prop :=
 ∃ f fd,PySem.W.keepIn K (.ref f) = true ∧ mg x = some (.ref f) ∧ Binds K fd ps [] ∧ FnOk P w K mg base CX0 k f fd ps sp
noncomputable def Qz (x:Str) (st:Stmt) (ps:List Str):Prop:=∀ (kV doc pm:Value) (an:Option Addr) (cdv ct:Value) (us:List Value),us.length = ps.length → bindArgs (PySem.W.fnOf x x (Qdj st) (Qa9 st) (Qg st) .none kV doc pm an cdv ct) ⟨us,[]⟩ = pure (ps.zip us)
section
variable {P:Program} {w:World} {K:PySem.W.Frag} {mg:Str → Option Value} {base:Heap}
theorem Q8l {x:Str} {st:Stmt} {N ps:List Str} {k:Nat} {sp:Sp} (d:Dfn K mg x st) (S:FnScope N ps (Qg st)) (bd:Qz x st ps) (len:∀ vs H Q E,sp vs H Q E → vs.length = ps.length)
  (hbody:∀ (f:Addr) (cdv:Value) (A:Around) (outer:List Env) (s:Shared) (H:Hp) (vs:List V) (Q:VK) (E:XK),Room k (A.deeper (envOfC x (Qg st) s.heap.objs.size f cdv)) → sp vs H Q E →
   ∃ t,PSs (Qhq (fun _=>true) CX0 P w K mg base N x (Qg st) f cdv A outer s H E).nox (Qa9 st) t ∧ t { nx:=fun _ H'=>Q .non H',rt:=Q } (Qbk N vs) H):Has P w K mg base x ps (k + 1) sp:=by
 obtain ⟨f,fd,F,m⟩:=d.ex
 exact ⟨f,fd,F.kp,m,F.binds bd,F.ok S len fun cdv A outer s H vs Q E hr hs=>hbody f cdv A outer s H vs Q E hr hs⟩
end
theorem Qyw {X:Cx} {x:Str} {ps:List Str} {k:Nat} {sp:Sp} {e:Expr} {es:List Expr} {t:TA} {p pos:Pos} (h:Has X.prog X.w X.K X.mg X.base x ps k sp) (hr:Room k X.A) (ha:PA X (e :: es) t) (hg:Gl X x:=by rfl)
  (hdb:(x == ("__debug__" : Str)) = false:=by decide) (he:starEach (e :: es) X.env = (false,eval e X.env) :: starEach es X.env:=by rfl) (hpl:(backTo pos (starEach es X.env)).any (·.1) = false:=by rfl) :
  PE X (.Call (.Name x p) (e :: es) [] pos) (Quv sp [] E0 t):=by
 obtain ⟨f,fd,kp,m,b,F⟩:=h
 exact Q26 F hr hg m kp b .nil Qab3 ha hdb he hpl
inductive T where
 | non | bl (b:Bool) | int (i:Int) | str (x:Str) | tup (ts:List T) | lst (ts:List T) | dct (ks:List Key) (ts:List T) | dtt (ks:List (List Int)) (ts:List T) | clo (k:Nat) (ts:List T)
noncomputable def kIs (ks:List Int):List Key:=ks.map Sum.inl
noncomputable def CellsAt (H:Hp):List Addr → List V → Prop
 | [],vs=>vs = []
 | c :: cs,vs=>∃ v r oc u w,vs = v :: r ∧ H c = some (.frz oc w) ∧ oc.data = .cell (some u) ∧ RelV v u ∧ CellsAt H cs r
noncomputable def CloAt (H:Hp) (f:Addr) (l:LamT) (us:List V):Prop:=∃ cs c' pm ctv,cs.Nodup ∧ cs.length = l.caps.length ∧ H f = some (.frz (PySem.W.kla_obj "<lambda>" l.qual l.params l.body l.scope (l.caps.zip cs) pm c' ctv) (.own f)) ∧ H c' = some (.cod l.qual) ∧ CellsAt H cs us
theorem CellsAt.mono {H H':Hp} (h:Same H H'):∀ {cs:List Addr} {vs:List V},CellsAt H cs vs → CellsAt H' cs vs
 | [],_,r=>r
 | c :: cs,_,r=>by
  obtain ⟨v,w,oc,u,w',e,a,b,d,q⟩:=r
  exact ⟨v,w,oc,u,w',e,h _ _ a,b,d,CellsAt.mono h q⟩
theorem CloAt.mono {H H':Hp} (h:Same H H') {f:Addr} {l:LamT} {us:List V} (r:CloAt H f l us):CloAt H' f l us:=by
 obtain ⟨cs,c',pm,ctv,a,b,c,d,e⟩:=r
 exact ⟨cs,c',pm,ctv,a,b,h _ _ c,h _ _ d,e.mono h⟩
mutual
noncomputable def Is (H:Hp):V → T → Prop
 | v,.non=>v = .non
 | v,.bl b=>v = .bl b
 | v,.int i=>v = .int i
 | v,.str x=>v = .str x
 | v,.tup ts=>ts.length ≤ 100000 ∧ ∃ a vs,v = .ref a ∧ H a = some (.tup vs) ∧ IsL H vs ts
 | v,.lst ts=>ts.length ≤ 100000 ∧ ∃ a vs,v = .ref a ∧ H a = some (.lst vs) ∧ IsL H vs ts
 | v,.dct ks ts=>∃ a vs,v = .ref a ∧ H a = some (.dK (ks.zip vs)) ∧ ks.length = vs.length ∧ IsL H vs ts
 | v,.dtt ks ts=>ks.length ≤ 100000 ∧ ∃ a vs,v = .ref a ∧ H a = some (.dT ((ks.map kIs).zip vs)) ∧ ks.length = vs.length ∧ IsL H vs ts
 | v,.clo k ts=>∃ f us l,v = .ref f ∧ Qcw.lookup k = some l ∧ CloAt H f l us ∧ IsL H us ts
noncomputable def IsL (H:Hp):List V → List T → Prop
 | vs,[]=>vs = []
 | vs,t :: ts=>∃ v r,vs = v :: r ∧ Is H v t ∧ IsL H r ts
end
mutual
theorem Is.mono {H H':Hp} (h:Same H H'):∀ {v:V} {t:T},Is H v t → Is H' v t
 | v,.non,r=>by unfold Is at r ⊢; exact r
 | v,.bl b,r=>by unfold Is at r ⊢; exact r
 | v,.int i,r=>by unfold Is at r ⊢; exact r
 | v,.str x,r=>by unfold Is at r ⊢; exact r
 | v,.tup ts,r=>by
  unfold Is at r ⊢
  obtain ⟨z,a,vs,e,ha,q⟩:=r
  exact ⟨z,a,vs,e,h _ _ ha,IsL.mono h q⟩
 | v,.lst ts,r=>by
  unfold Is at r ⊢
  obtain ⟨z,a,vs,e,ha,q⟩:=r
  exact ⟨z,a,vs,e,h _ _ ha,IsL.mono h q⟩
 | v,.dct ks ts,r=>by
  unfold Is at r ⊢
  obtain ⟨a,vs,e,ha,l,q⟩:=r
  exact ⟨a,vs,e,h _ _ ha,l,IsL.mono h q⟩
 | v,.dtt ks ts,r=>by
  unfold Is at r ⊢
  obtain ⟨z,a,vs,e,ha,l,q⟩:=r
  exact ⟨z,a,vs,e,h _ _ ha,l,IsL.mono h q⟩
 | v,.clo l ts,r=>by
  unfold Is at r ⊢
  obtain ⟨f,us,l,e,k,c,q⟩:=r
  exact ⟨f,us,l,e,k,c.mono h,IsL.mono h q⟩
theorem IsL.mono {H H':Hp} (h:Same H H'):∀ {vs:List V} {ts:List T},IsL H vs ts → IsL H' vs ts
 | vs,[],r=>by unfold IsL at r ⊢; exact r
 | vs,t :: ts,r=>by
  unfold IsL at r ⊢
  obtain ⟨v,w,e,a,b⟩:=r
  exact ⟨v,w,e,Is.mono h a,IsL.mono h b⟩
end
theorem IsL.nil {H:Hp}:IsL H [] []:=by unfold IsL; rfl
theorem IsL.cons {H:Hp} {v:V} {t:T} {vs:List V} {ts:List T} (a:Is H v t) (b:IsL H vs ts):IsL H (v :: vs) (t :: ts):=by unfold IsL; exact ⟨v,vs,rfl,a,b⟩
theorem IsL.cons_inv {H:Hp} {vs:List V} {t:T} {ts:List T} (r:IsL H vs (t :: ts)):∃ v w,vs = v :: w ∧ Is H v t ∧ IsL H w ts:=by unfold IsL at r; exact r
theorem IsL.nil_inv {H:Hp} {vs:List V} (r:IsL H vs []):vs = []:=by unfold IsL at r; exact r
theorem IsL.length {H:Hp}:∀ {ts:List T} {vs:List V},IsL H vs ts → vs.length = ts.length
 | [],vs,r=>by rw [r.nil_inv]; rfl
 | t :: ts,vs,r=>by
  obtain ⟨v,w,rfl,_,q⟩:=r.cons_inv
  rw [List.length_cons,List.length_cons,q.length]
theorem IsL.get {H:Hp}:∀ {ts:List T} {vs:List V} {i:Nat} {v:V},IsL H vs ts → vs[i]? = some v → ∃ t,ts[i]? = some t ∧ Is H v t
 | [],vs,i,v,r,e=>by rw [r.nil_inv] at e; simp at e
 | t :: ts,vs,0,v,r,e=>by
  obtain ⟨x,w,rfl,a,q⟩:=r.cons_inv
  rw [List.getElem?_cons_zero] at e ⊢
  cases e
  exact ⟨t,rfl,a⟩
 | t :: ts,vs,i + 1,v,r,e=>by
  obtain ⟨x,w,rfl,a,q⟩:=r.cons_inv
  rw [List.getElem?_cons_succ] at e ⊢
  exact IsL.get q e
theorem IsL.getT {H:Hp}:∀ {ts:List T} {vs:List V} {i:Nat} {t:T},IsL H vs ts → ts[i]? = some t → ∃ v,vs[i]? = some v ∧ Is H v t
 | [],vs,i,v,r,e=>by simp at e
 | t :: ts,vs,0,v,r,e=>by
  obtain ⟨x,w,rfl,a,q⟩:=r.cons_inv
  rw [List.getElem?_cons_zero] at e ⊢
  cases e
  exact ⟨x,rfl,a⟩
 | t :: ts,vs,i + 1,v,r,e=>by
  obtain ⟨x,w,rfl,a,q⟩:=r.cons_inv
  rw [List.getElem?_cons_succ] at e ⊢
  exact IsL.getT q e
theorem IsL.append {H:Hp}:∀ {ts us:List T} {vs ws:List V},IsL H vs ts → IsL H ws us → IsL H (vs ++ ws) (ts ++ us)
 | [],us,vs,ws,r,q=>by rw [r.nil_inv]; exact q
 | t :: ts,us,vs,ws,r,q=>by
  obtain ⟨x,w,rfl,a,r⟩:=r.cons_inv
  exact .cons a (r.append q)
theorem IsL.take {H:Hp}:∀ {ts:List T} {vs:List V} (n:Nat),IsL H vs ts → IsL H (vs.take n) (ts.take n)
 | _,_,0,_=>by rw [List.take_zero,List.take_zero]; exact .nil
 | [],vs,n + 1,r=>by rw [r.nil_inv]; exact .nil
 | t :: ts,vs,n + 1,r=>by
  obtain ⟨x,w,rfl,a,r⟩:=r.cons_inv
  exact .cons a (r.take n)
theorem IsL.drop {H:Hp}:∀ {ts:List T} {vs:List V} (n:Nat),IsL H vs ts → IsL H (vs.drop n) (ts.drop n)
 | _,_,0,r=>r
 | [],vs,n + 1,r=>by rw [r.nil_inv]; exact .nil
 | t :: ts,vs,n + 1,r=>by
  obtain ⟨x,w,rfl,a,r⟩:=r.cons_inv
  exact r.drop n
theorem IsL.flat {H:Hp}:∀ (k:Nat) {ts:List T} {vs:List V},IsL H vs ts → IsL H (List.replicate k vs).flatten (List.replicate k ts).flatten
 | 0,ts,vs,r=>by simpa using IsL.nil
 | k + 1,ts,vs,r=>by
  rw [List.replicate_succ,List.replicate_succ,List.flatten_cons,List.flatten_cons]
  exact r.append (IsL.flat k r)
theorem IsL.one {H:Hp} {v:V} {t:T} (a:Is H v t):IsL H [v] [t]:=.cons a .nil
theorem Is.int {H:Hp} {i:Int}:Is H (.int i) (.int i):=by unfold Is; rfl
theorem Is.bl {H:Hp} {b:Bool}:Is H (.bl b) (.bl b):=by unfold Is; rfl
theorem Is.non {H:Hp}:Is H .non .non:=by unfold Is; rfl
theorem Is.tup {H:Hp} {a:Addr} {vs:List V} {ts:List T} (h:H a = some (.tup vs)) (r:IsL H vs ts) (z:ts.length ≤ 100000):Is H (.ref a) (.tup ts):=by unfold Is; exact ⟨z,a,vs,rfl,h,r⟩
theorem Is.lst {H:Hp} {a:Addr} {vs:List V} {ts:List T} (h:H a = some (.lst vs)) (r:IsL H vs ts) (z:ts.length ≤ 100000):Is H (.ref a) (.lst ts):=by unfold Is; exact ⟨z,a,vs,rfl,h,r⟩
theorem Is.int_inv {H:Hp} {v:V} {i:Int} (r:Is H v (.int i)):v = .int i:=by unfold Is at r; exact r
theorem Is.tup_inv {H:Hp} {v:V} {ts:List T} (r:Is H v (.tup ts)):∃ a vs,v = .ref a ∧ H a = some (.tup vs) ∧ IsL H vs ts:=by unfold Is at r; exact r.2
theorem Is.tup_len {H:Hp} {v:V} {ts:List T} (r:Is H v (.tup ts)):ts.length ≤ 100000:=by unfold Is at r; exact r.1
theorem Is.lst_len {H:Hp} {v:V} {ts:List T} (r:Is H v (.lst ts)):ts.length ≤ 100000:=by unfold Is at r; exact r.1
theorem Is.lst_inv {H:Hp} {v:V} {ts:List T} (r:Is H v (.lst ts)):∃ a vs,v = .ref a ∧ H a = some (.lst vs) ∧ IsL H vs ts:=by unfold Is at r; exact r.2
theorem IsL.ints {H:Hp}:∀ (ns:List Int),IsL H (ns.map V.int) (ns.map T.int)
 | []=>.nil
 | n :: ns=>.cons Is.int (IsL.ints ns)
theorem IsL.ints_inv {H:Hp}:∀ {ns:List Int} {vs:List V},IsL H vs (ns.map T.int) → vs = ns.map V.int
 | [],vs,r=>r.nil_inv
 | n :: ns,vs,r=>by
  obtain ⟨x,w,rfl,a,r⟩:=r.cons_inv
  rw [a.int_inv,r.ints_inv]
  rfl
theorem Qbj {n:Nat} (h:n ≤ 100000):n ≤ sizeLine:=by rw [sizeLine_eq]; omega
noncomputable def tyT:T → String
 | .non => "NoneType" | .bl _ => "bool" | .int _ => "int" | .str _ => "str" | .tup _ => "tuple" | .lst _ => "list" | .dct _ _ => "dict" | .dtt _ _ => "dict" | .clo _ _ => "function"
noncomputable def Qhz:T → Bool
 | .clo _ _=>true
 | _=>false
theorem Is.tyOf {K:PySem.W.Frag} {H:Hp} {v:V} {t:T} (r:Is H v t) (hc:Qhz t = false):TyOf K H v (.type (tyT t)):=by
 cases t with
 | non=>unfold Is at r; subst r; exact .non
 | bl b=>unfold Is at r; subst r; exact .bl b
 | int i=>unfold Is at r; subst r; exact .int i
 | str x=>unfold Is at r; subst r; exact .str x
 | tup ts=>obtain ⟨a,vs,rfl,h,_⟩:=r.tup_inv; exact .tup h
 | lst ts=>obtain ⟨a,vs,rfl,h,_⟩:=r.lst_inv; exact .lst h
 | dct ks ts=>unfold Is at r; obtain ⟨a,vs,rfl,h,_⟩:=r; exact .dK h
 | dtt ks ts=>unfold Is at r; obtain ⟨_,a,vs,rfl,h,_⟩:=r; exact .dT h
 | clo l ts=>cases hc
noncomputable def Qk5 (a c:String):Bool:=a == c || (a == "bool" && c == "int")
theorem Q3p (K:PySem.W.Frag):∀ a ∈ ["NoneType","bool","int","str","tuple","list","dict"],∀ c ∈ ["int","bool","tuple","list","dict","str"],PySem.W.kitOne K (.type a) (.type c) = some (Qk5 a c):=by
 intro a ha c hc
 simp only [List.mem_cons,List.not_mem_nil,or_false] at ha hc
 rcases ha with rfl | rfl | rfl | rfl | rfl | rfl | rfl <;> rcases hc with rfl | rfl | rfl | rfl | rfl | rfl <;> rfl
theorem Qw5 {X:Cx}:CallR X (.builtin "isinstance") (fun xs H Q=>∃ x c t,xs = [x,.ty c] ∧ Is H x t ∧ Qhz t = false ∧ c ∈ ["int","bool","tuple","list","dict","str"] ∧ Q (.bl (Qk5 (tyT t) c)) H):=by
 intro pins s σ H xs us Q I r h
 obtain ⟨x,c,t,e,ty,nc,hc,q⟩:=h
 refine Qq3 pins s σ H xs us Q I r ⟨x,c,_,_,e,ty.tyOf nc,Q3p X.K (tyT t) ?_ c hc,q⟩
 cases t <;> first | (cases nc; done) | simp [tyT]
noncomputable def Q1:Expr → Bool
 | .Starred _ _=>false
 | _=>true
theorem Qbm {e:Expr} {es:List Expr} {env:Env} (h:Q1 e = true):starEach (e :: es) env = (false,eval e env) :: starEach es env:=by
 cases e <;> first | rfl | exact absurd h Bool.false_ne_true
theorem paC {X:Cx} {e:Expr} {es:List Expr} {te:TE} {t:TA} (ha:PE X e te) (hr:PA X es t) (hs:Q1 e = true:=by rfl):PA X (e :: es) (Qj5 te t):=Q25 ha hr (Qbm hs)
section
variable {X:Cx} {e a b:Expr} {es:List Expr} {t:T} {ts:List T} {pos:Pos}
theorem PE.weak {te te':TE} (h:PE X e te) (q:∀ σ H Q,te' σ H Q → te σ H Q):PE X e te':=fun pins s σ H Q I hq=>h pins s σ H Q I (q _ _ _ hq)
theorem PA.weak {ta ta':TA} (h:PA X es ta) (q:∀ σ H Q,ta' σ H Q → ta σ H Q):PA X es ta':=fun pos pins s σ H Q I hq=>h pos pins s σ H Q I (q _ _ _ hq)
end
structure Wk (J:It) (xs:List V) (P:Hp → Prop):Prop where
 go:∀ i H,i < xs.length → P H → J.go i H
 yld:∀ i H x H',i < xs.length → P H → J.yld i H x H' → H' = H ∧ xs[i]? = some x
 stop:∀ i H,xs.length ≤ i → P H → J.stop i H
 mono:∀ H H',Same H H' → P H → P H'
noncomputable def Qm5 (lo:Int) (n:Nat):List V:=(List.range n).map fun i=>V.int (lo + (i:Nat))
theorem Qk6 (lo:Int) (n:Nat):(Qm5 lo n).length = n:=by unfold Qm5; rw [List.length_map,List.length_range]
theorem Qyx {lo:Int} {n i:Nat} {v:V} (h:(Qm5 lo n)[i]? = some v):i < n ∧ v = .int (lo + i):=by
 have hi:i < n:=by
  have:=(List.getElem?_eq_some_iff.mp h).1
  rwa [Qk6] at this
 unfold Qm5 at h
 rw [List.getElem?_map,List.getElem?_range hi] at h
 exact ⟨hi,(Option.some.inj h).symm⟩
section
variable {X:Cx}
noncomputable def Q8m (K:PySem.W.Frag):List V → Hp → VK → Prop:=fun xs H Q=>∃ p ys,xs = [.ref p] ∧ (SqL K H p ys ∨ SqT K H p ys) ∧ Q (.int ys.length) H
theorem kLen (K:PySem.W.Frag) (hK:X.K = K):CallR X (.builtin "len") (Q8m K):=by subst hK; exact Qo2
noncomputable def Q8n (K:PySem.W.Frag):List V → Hp → VK → Prop:=fun xs H Q=>∃ p ys,xs = [.ref p] ∧ SqL K H p ys ∧ ys.all Qk3 = true ∧ Q (.bl (ys.all Qke)) H
theorem kAll (K:PySem.W.Frag) (hK:X.K = K) (hc:X.calm = true):CallR X (.builtin "all") (Q8n K):=by subst hK; exact Qys hc
noncomputable def Q8o (K:PySem.W.Frag):List V → Hp → VK → Prop:=fun xs H Q=>∃ p ys,xs = [.ref p] ∧ SqL K H p ys ∧ ys.all Qk3 = true ∧ Q (.bl (ys.any Qke)) H
theorem kAny (K:PySem.W.Frag) (hK:X.K = K) (hc:X.calm = true):CallR X (.builtin "any") (Q8o K):=by subst hK; exact Qyt hc
noncomputable def Qyy (K:PySem.W.Frag):List V → Hp → VK → Prop:=fun xs H Q=>∃ (p:Addr) (ns:List Int),xs = [.ref p] ∧ SqL K H p (ns.map V.int) ∧ ns ≠ [] ∧ ∀ M,M ∈ ns → (∀ a ∈ ns,a ≤ M) → Q (.int M) H
theorem Qacd (K:PySem.W.Frag) (hK:X.K = K) (hc:X.calm = true):CallR X (.builtin "max") (Qyy K):=by subst hK; exact Qw2 hc
noncomputable def Qyz (K:PySem.W.Frag):List V → Hp → VK → Prop:=fun xs H Q=>∃ (p:Addr) (ns:List Int),xs = [.ref p] ∧ SqL K H p (ns.map V.int) ∧ Q (.int ns.sum) H
theorem Qace (K:PySem.W.Frag) (hK:X.K = K) (hc:X.calm = true):CallR X (.builtin "sum") (Qyz K):=by subst hK; exact Qw3 hc
noncomputable def Qs8 (K:PySem.W.Frag):List V → Hp → VK → Prop:=fun xs H Q=>∃ p ys,xs = [.ref p] ∧ ((SqL K H p ys ∧ ∀ l,H l = none → Q (.ref l) (upd H l (.tup ys))) ∨ (SqT K H p ys ∧ Q (.ref p) H))
theorem Q8p (K:PySem.W.Frag) (hK:X.K = K):CallR X (.type "tuple") (Qs8 K):=by subst hK; exact Qm4
noncomputable def Q5v:List V → Hp → VK → Prop:=fun xs H Q=>∃ x c t,xs = [x,.ty c] ∧ Is H x t ∧ Qhz t = false ∧ c ∈ ["int","bool","tuple","list","dict","str"] ∧ Q (.bl (Qk5 (tyT t) c)) H
theorem Qacf:CallR X (.builtin "isinstance") Q5v:=Qw5
theorem kAdd (K:PySem.W.Frag) (hK:X.K = K):OpR X (binaryOp .Add) (Qn2 K):=by subst hK; exact uAdd
theorem kIx (K:PySem.W.Frag) (hK:X.K = K):IxR X (rIx K):=by subst hK; exact Q77
theorem kSl (K:PySem.W.Frag) (hK:X.K = K):SlR X (Qyv K):=by subst hK; exact uSl
theorem kSeq (K:PySem.W.Frag) (hK:X.K = K) {tg l:Expr} {tl:TE} (hl:PE X l tl):PI X tg l (Q3o K tl):=by subst hK; exact Q8k hl
theorem kTup (K:PySem.W.Frag) (hK:X.K = K) {es:List Expr} {k:Nat} {t:TGs} {n:Nat} {pos:Pos} (hc:X.calm = true) (h:PGs X es t)
  (hn:(assignEach es X.env).length = n:=by rfl) (hst:(assignEach es X.env).findIdx? (·.1) = none:=by rfl):PG X (.Tuple es k pos) (Q2x K n t):=by subst hK; exact Q7k hc h hn hst
theorem Qy0 (K:PySem.W.Frag) (hK:X.K = K):MtM X "list.extend" (Qgq K):=by subst hK; exact Qs7
theorem kBm (K:PySem.W.Frag) (hK:X.K = K) {T:String} {o e:Expr} {es:List Expr} {to:TE} {t:TA} {name:Str} {apos cpos:Pos} {id:String} {r:V → List V → Hp → VK → Prop} (pa:PlainAttrs T) (slot:Slot T name id) (hty:typeOf (.builtin id) = pure (.type "method_descriptor")) (hm:MtR X id r) (ho:PE X o to) (ha:PA X (e :: es) t)
  (hbase:attributeBase o name X.env (eval o X.env) = eval o X.env:=by rfl)
  (hfew:((backTo cpos (starEach (e :: es) X.env)).all (fun x=>!x.1) && (backToKw cpos (keywordEach [] X.env)).all (fun x=>x.1.isSome)
   && decide ((e :: es).length + ([]:List Keyword).length + (if ([]:List Keyword).isEmpty then 0 else 1) < 30)) = true:=by rfl)
  (hline:(apos.endLine == cpos.line) = true:=by rfl) (hs:starEach (e :: es) X.env = (false,eval e X.env) :: starEach es X.env:=by rfl) (hplain:(backTo cpos (starEach es X.env)).any (·.1) = false:=by rfl) :
  PE X (.Call (.Attribute o name apos) (e :: es) [] cpos) (tBM K T r to t):=by
 subst hK
 exact Qab0 pa slot hty hm ho ha hbase hfew hline hs hplain
end
noncomputable def Tups (H H':Hp):Prop:=∀ a xs,H a = some (.tup xs) → H' a = some (.tup xs)
noncomputable def MkT (xs:List V) (H:Hp) (Q:VK):Prop:=xs.length ≤ sizeLine ∧ ∀ p,H p = none → Q (.ref p) (upd H p (.tup xs))
noncomputable def MkL (xs:List V) (H:Hp) (Q:VK):Prop:=xs.length ≤ sizeLine ∧ ∀ p,H p = none → Q (.ref p) (upd H p (.lst xs))
noncomputable abbrev Qacg (t:TA):TE:=fun σ H Q=>t σ H fun xs H1=>MkT xs H1 Q
noncomputable abbrev Q5w (t:TA):TE:=fun σ H Q=>t σ H fun xs H1=>MkL xs H1 Q
structure QE (X:Cx) (e:Expr) (t:TE):Prop where
 h:PE X e t
structure QT (X:Cx) (e:Expr) (t:TT):Prop where
 h:PT X e t
structure QW (X:Cx) (e:Expr) (t:TT):Prop where
 h:PW X e t
structure QA (X:Cx) (es:List Expr) (t:TA):Prop where
 h:PA X es t
structure QS (X:Cx) (st:Stmt) (t:TS):Prop where
 h:PS X st t
structure QB (X:Cx) (st:List Stmt) (t:TS):Prop where
 h:PSs X st t
structure QI (X:Cx) (tg it:Expr) (t:TI):Prop where
 h:PI X tg it t
structure QG (X:Cx) (tg:Expr) (t:TG):Prop where
 h:PG X tg t
structure QGs (X:Cx) (tg:List Expr) (t:TGs):Prop where
 h:PGs X tg t
structure QC (X:Cx) (ifs:List Expr) (t:TT):Prop where
 h:PTs X ifs t
structure QO (X:Cx) (e:Option Expr) (t:TO):Prop where
 h:PO X e t
structure QOp (X:Cx) (f:Value → Value → Sem Value) (r:R2):Prop where
 h:OpR X f r
structure QUn (X:Cx) (f:Value → Sem Value) (r:V → Hp → VK → Prop):Prop where
 h:UnR X f r
structure QCl (X:Cx) (f:Value) (r:List V → Hp → VK → Prop):Prop where
 h:CallR X f r
structure QIx (X:Cx) (r:R2):Prop where
 h:IxR X r
structure QSl (X:Cx) (r:V → Option Int → Option Int → Hp → VK → Prop):Prop where
 h:SlR X r
structure QMt (X:Cx) (id:String) (r:V → List V → Hp → VK → Prop):Prop where
 h:MtR X id r
section
variable {X:Cx} {e a b:Expr} {es rest:List Expr} {te ta tb:TE} {t:TA} {tt uu tA tB':TT} {pos p p2:Pos} {x:Str}
theorem Qiv (i:Nat) (hN:X.N[i]? = some x:=by rfl) (hv:Vis X.env.scope x:=by first | exact Or.inl rfl | exact Or.inr (Or.inl rfl) | exact Or.inr (Or.inr rfl)) (hd:(x == ("__debug__" : Str)) = false:=by decide)
  (hcd:(x == ("__classdict__" : Str)) = false:=by decide):QE X (.Name x pos) (Qox i):=⟨pv i hN hv hd hcd⟩
theorem Qq6 {i j}:QE X (.Constant (.int i) j pos) (tC (.int i)):=⟨Q67⟩
theorem q_bl {b j}:QE X (.Constant (.bool b) j pos) (tC (.bl b)):=⟨Qabd⟩
theorem Qaci {j}:QE X (.Constant .none j pos) (tC .non):=⟨Q68⟩
theorem Q8q {v:V} (h:∃ u,X.mg x = some u ∧ RelV v u) (hg:Gl X x:=by rfl) (hd:(x == ("__debug__" : Str)) = false:=by decide):QE X (.Name x pos) (tC v):=by
 obtain ⟨u,m,r⟩:=h
 exact ⟨Q2o hg m r hd⟩
theorem Qw6 (T:String) (hm:X.mg x = none) (hv:bootBuiltins x = some (.type T)) (hg:Gl X x:=by rfl) (hn:x ≠ "__name__" := by decide) (hd:(x == ("__debug__" : Str)) = false:=by decide):QE X (.Name x pos) (tC (.ty T)):=⟨Q2p (v:=.ty T) hg hm hv rfl hn hd⟩
theorem q_op {op:Operator} {r:R2} (ho:QOp X (binaryOp op) r) (ha:QE X a ta) (hb:QE X b tb):QE X (.BinOp a op b pos) (tOp r ta tb):=⟨Qabk ho.h ha.h hb.h⟩
theorem q_un {op:UnaryOp} {r:V → Hp → VK → Prop} (ho:QUn X (unaryOp op) r) (ha:QE X a ta):QE X (.UnaryOp op a pos) (tUn r ta):=⟨Qabl ho.h ha.h⟩
theorem Qack (ha:QE X a ta):QE X (.UnaryOp .Not a pos) (Q5n ta):=⟨Q7f ha.h⟩
theorem Qacl {op} (ha:QE X a ta):QE X (.BoolOp op [a] pos) ta:=⟨Q7d ha.h⟩
theorem Qacm (ha:QE X a ta) (hb:QE X (.BoolOp .And (b :: rest) pos) tb):QE X (.BoolOp .And (a :: b :: rest) pos) (Q5m ta tb):=⟨Q7e ha.h hb.h⟩
theorem q_if {c:Expr} (hc:QT X c tA) (ha:QE X a ta) (hb:QE X b tb):QE X (.IfExp c a b pos) (tIf tA ta tb):=⟨Qx6 hc.h ha.h hb.h⟩
theorem Qacn {op:CmpOp} {r:R2} (ho:QOp X (compareOp op) r) (ha:QE X a ta) (hb:QE X b tb) (hm:behindInMarks op b = false):QE X (.Compare a [op] [b] pos) (tOp r ta tb):=⟨Q22 ho.h ha.h hb.h hm⟩
theorem Qy1 {op:CmpOp} {r:R2} (ho:QOp X (compareOp op) r) (ha:QE X a ta) (hb:QE X b tb) (hm:behindInMarks op b = false):QT X (.Compare a [op] [b] pos) (Q5q (tOp r ta tb)):=⟨Q23 ho.h ha.h hb.h hm⟩
theorem Q8r (ha:QE X e te) (he:∀ whole,isTrue e X.env whole = (do let v ← whole; standAt e.pos; holding [v] (truthy v)):=by intro _; rfl):QT X e (tB te):=⟨Q69 ha.h he⟩
theorem Q8s (ha:QT X a tA):QT X (.UnaryOp .Not a pos) (tNot tA):=⟨Q7c ha.h⟩
theorem q_wt (ha:QW X e tA):QT X e tA:=⟨ha.h.pt⟩
theorem Q3q (ha:QT X a tA):QW X (.BoolOp .And [a] pos) tA:=⟨Q2q ha.h⟩
theorem Q8t (ha:QT X a tA):QW X (.BoolOp .Or [a] pos) tA:=⟨Q7a ha.h⟩
theorem Q8u (ha:QT X a tA) (hb:QW X (.BoolOp .And (b :: rest) pos) tB'):QW X (.BoolOp .And (a :: b :: rest) pos) (tAnd tA tB'):=⟨Q7b ha.h hb.h⟩
theorem Qaco (ha:QT X a tA) (hb:QW X (.BoolOp .Or (b :: rest) pos) tB'):QW X (.BoolOp .Or (a :: b :: rest) pos) (tOr tA tB'):=⟨Qabg ha.h hb.h⟩
theorem Qfa:QA X [] Qwx:=⟨Q70⟩
theorem Qcm (ha:QE X e te) (hr:QA X es t) (hs:Q1 e = true:=by rfl):QA X (e :: es) (Qj5 te t):=⟨paC ha.h hr.h hs⟩
theorem Qacp {x1} (h:QA X es t):QE X (.Tuple es x1 pos) (Qacg t):=⟨Q71 h.h⟩
theorem Q5x (h:QA X es t):QE X (.List es pos) (Q5w t):=⟨Q72 h.h⟩
variable {ts:List T} {u:T}
theorem q_fn {ps:List Str} {k:Nat} {sp:Sp} (h:Has X.prog X.w X.K X.mg X.base x ps k sp) (hr:Room k X.A) (ha:QA X (e :: es) t) (hg:Gl X x:=by rfl)
  (hdb:(x == ("__debug__" : Str)) = false:=by decide) (he:Q1 e = true:=by rfl) (hpl:(backTo pos (starEach es X.env)).any (·.1) = false:=by rfl):QE X (.Call (.Name x p) (e :: es) [] pos) (Quv sp [] E0 t):=⟨Qyw h hr ha.h hg hdb (Qbm he) hpl⟩
theorem Q8v {id:String} {r:List V → Hp → VK → Prop} (hc:QCl X (.builtin id) r) (hm:X.mg x = none) (hv:bootBuiltins x = some (.builtin id)) (ha:QA X (e :: es) t) (hg:Gl X x:=by rfl) (hn:x ≠ "__name__" := by decide) (hdb:(x == ("__debug__" : Str)) = false:=by decide)
  (he:Q1 e = true:=by rfl) (hpl:(backTo pos (starEach es X.env)).any (·.1) = false:=by rfl):QE X (.Call (.Name x p) (e :: es) [] pos) (tCB r t):=⟨Qyi hc.h hg hm hv ha.h hn hdb (Qbm he) hpl⟩
theorem Qy2 {T:String} {r:List V → Hp → VK → Prop} (hc:QCl X (.type T) r) (hm:X.mg x = none) (hv:bootBuiltins x = some (.type T)) (ha:QA X (e :: es) t) (hg:Gl X x:=by rfl) (hn:x ≠ "__name__" := by decide) (hdb:(x == ("__debug__" : Str)) = false:=by decide)
  (he:Q1 e = true:=by rfl) (hpl:(backTo pos (starEach es X.env)).any (·.1) = false:=by rfl):QE X (.Call (.Name x p) (e :: es) [] pos) (tCB r t):=⟨Qwy hc.h hg hm hv ha.h hn hdb (Qbm he) hpl⟩
theorem Q3r (K:PySem.W.Frag) (hK:X.K = K) {T:String} {o:Expr} {to:TE} {name:Str} {apos cpos:Pos} {id:String} {r:V → List V → Hp → VK → Prop} (pa:PlainAttrs T) (slot:Slot T name id) (hty:typeOf (.builtin id) = pure (.type "method_descriptor")) (hm:QMt X id r) (ho:QE X o to) (ha:QA X (e :: es) t)
  (hbase:attributeBase o name X.env (eval o X.env) = eval o X.env:=by rfl)
  (hfew:((backTo cpos (starEach (e :: es) X.env)).all (fun x=>!x.1) && (backToKw cpos (keywordEach [] X.env)).all (fun x=>x.1.isSome)
   && decide ((e :: es).length + ([]:List Keyword).length + (if ([]:List Keyword).isEmpty then 0 else 1) < 30)) = true:=by rfl)
  (hline:(apos.endLine == cpos.line) = true:=by rfl) (hs:Q1 e = true:=by rfl) (hplain:(backTo cpos (starEach es X.env)).any (·.1) = false:=by rfl) :
  QE X (.Call (.Attribute o name apos) (e :: es) [] cpos) (tBM K T r to t):=⟨kBm K hK pa slot hty hm.h ho.h ha.h hbase hfew hline (Qbm hs) hplain⟩
theorem q_ix {r:R2} (hr:QIx X r) (ha:QE X a ta) (hb:QE X b tb) (hs:Qkn b:=by exact fun _ _=>rfl):QE X (.Subscript a b pos) (tOp r ta tb):=⟨Qabv hr.h ha.h hb.h hs⟩
theorem q_sl {r:V → Option Int → Option Int → Hp → VK → Prop} {lo hi:Option Expr} {tl th:TO} (hr:QSl X r) (he:QE X e te) (hl:QO X lo tl) (hu:QO X hi th):QE X (.Subscript e (.Slice lo hi none p2) pos) (tSl r te tl th):=⟨Qyj hr.h he.h hl.h hu.h⟩
theorem q_no:QO X none Quw:=⟨Q27⟩
theorem Qs9 (h:QE X e te):QO X (some e) (Qux te):=⟨Q28 h.h⟩
variable {tg:Expr}
theorem Q5y (K:PySem.W.Frag) (hK:X.K = K) (hl:QE X e te):QI X tg e (Q3o K te):=⟨kSeq K hK hl.h⟩
theorem Q8w (hm:X.mg "range" = none) (ha:QA X [a] t) (hg:Gl X "range" := by rfl) (hs:Q1 a = true:=by rfl):QI X tg (.Call (.Name "range" p) [a] [] pos) (Q5p t):=⟨Qwr hg hm ha.h (Qbm hs)⟩
theorem Qam {i:Nat} (hN:X.N.Nodup) (hi:X.N[i]? = some x:=by rfl) (hx:Loc X.env.scope x:=by first | exact Or.inl rfl | exact Or.inr rfl) (hf:X.fn x = true ∨ X.env.scope.names.lookup x = some .local:=by first | exact .inl rfl | exact .inr rfl | exact .inl (by decide +kernel)):QG X (.Name x pos) (Qhy i):=⟨Q2v hN hi hx hf⟩
theorem Q8x:QGs X [] Q7j:=⟨Q2w⟩
theorem Qu2 {es:List Expr} {t:TG} {u:TGs} (h1:QG X e t) (h2:QGs X es u) (hs:(assignEach (e :: es) X.env).map (·.2) = assign e X.env :: (assignEach es X.env).map (·.2):=by rfl):QGs X (e :: es) (Qx8 t u):=⟨Qx9 h1.h h2.h hs⟩
theorem Q8y (K:PySem.W.Frag) (hK:X.K = K) {es:List Expr} {k:Nat} {t:TGs} {n:Nat} (hc:X.calm = true) (h:QGs X es t) (hn:(assignEach es X.env).length = n:=by rfl) (hst:(assignEach es X.env).findIdx? (·.1) = none:=by rfl):QG X (.Tuple es k pos) (Q2x K n t):=⟨kTup K hK hc h.h hn hst⟩
theorem Qy3 {o i:Expr} {to ti:TE} (ho:QE X o to) (hi:QE X i ti)
  (ha:∀ v,assign (.Subscript o i pos) X.env v = (do
   let ov ← holding [v] (eval o X.env)
   let iv ← holding [v,ov] (eval i X.env)
   standAt pos
   holding [v,ov,iv] (setItem ov iv v)
   release [v,ov,iv] []):=by intro _; rfl):QG X (.Subscript o i pos) (Q7l to ti Quz):=⟨Q7m ho.h hi.h Qyk ha⟩
theorem q_c0:QC X [] tYes:=⟨Q3j⟩
theorem q_c1 (h:QT X e tt):QC X [e] tt:=⟨Q3k h.h⟩
theorem Q8z {elt iter:Expr} {ifs:List Expr} {scope:Scope} (N:List Str) (js:List (Option Nat)) {wi:TI} {g:TG} {tc:TT} (hcalm:X.calm = true)
  (hi:QI X tg iter wi) (hg:∀ s H fp,QG (Qbc X scope N s H fp) tg g) (hc:∀ s H fp,QC (Qbc X scope N s H fp) ifs tc) (he:∀ s H fp,QE (Qbc X scope N s H fp) elt te)
  (hk:scope.kind = .function:=by rfl) (h1:scOk X scope = true:=by rfl) (h2:Qn1 X scope N js = true:=by rfl)
  (hs:∀ x,foldedSetIterable iter X.env x = pure x:=by intro _; rfl):QE X (.ListComp elt [⟨tg,iter,ifs,0⟩] scope pos) (Qyq wi js g tc te):=⟨Qyr hcalm hi.h (fun s H fp=>(hg s H fp).h) (fun s H fp=>(hc s H fp).h) (fun s H fp=>(he s H fp).h) hk h1 h2 hs⟩
variable {st:Stmt} {sts:List Stmt} {t1 t2:TS}
theorem Qy4:QB X [] Q5o:=⟨Q2s⟩
theorem Qo8 (h1:QS X st t1) (h2:QB X sts t2):QB X (st :: sts) (Q2r t1 t2):=⟨Qx7 h1.h h2.h⟩
theorem Qo9 (h1:QS X st t1):QB X [st] t1:=⟨Q2t h1.h⟩
theorem Qk7 (he:QE X e te) (hs:swapsWith e none pos.line X.env = pure false:=by rfl):QS X (.Expr e pos) (Qur te):=⟨Q2u he.h hs⟩
theorem Qu3 (he:QE X e te):QS X (.Return (some e) pos) (Q7g te):=⟨Q7h he.h⟩
theorem Q5z {c:Expr} {bs cs:List Stmt} (hc:QT X c tt) (ha:QB X bs t1) (hb:QB X cs t2):QS X (.If c bs cs pos) (tIfS tt t1 t2):=⟨Qabi hc.h ha.h hb.h⟩
theorem Q50 {iter:Expr} {body:List Stmt} {wi:TI} {g:TG} (hp:PassesOwn (model X.prog X.w) X.A X.env X.xe) (hc:X.calm = true) (hi:QI X tg iter wi) (hg:QG X tg g) (hb:QB X body t1)
  (hs:∀ x,foldedSetIterable iter X.env x = pure x:=by intro _; rfl):QS X (.For tg iter body [] pos) (Q2y wi g t1):=⟨Q7p hp hc hi.h hg.h hb.h hs⟩
theorem Qav {i:Nat} (hN:X.N.Nodup) (he:QE X e te) (hi:X.N[i]? = some x:=by rfl) (hx:Loc X.env.scope x:=by first | exact Or.inl rfl | exact Or.inr rfl) (hs:swapsWith e (some (.Name x p2)) pos.line X.env = pure false:=by rfl) (hf:X.fn x = true ∨ X.env.scope.names.lookup x = some .local:=by first | exact .inl rfl | exact .inr rfl) :
  QS X (.Assign [.Name x p2] e pos) (Qqz te (Qhy i)):=⟨Q7o hN hi hx he.h hs hf⟩
theorem Qy5 {g:TG} (he:QE X e te) (hg:QG X tg g) (hs:swapsWithSole [tg] e pos.line X.env = pure false:=by rfl) (hw:swappedStores [tg] e X.env = pure none:=by rfl)
  (h1:(assignEach [tg] X.env).map (·.2) = [assign tg X.env]:=by rfl):QS X (.Assign [tg] e pos) (Qqz te g):=⟨Q7n he.h hg.h hs hw h1⟩
theorem Q3s {c:Expr} {body:List Stmt} (hp:PassesOwn (model X.prog X.w) X.A X.env X.xe) (hc:QT X c tt) (hb:QB X body t1):QS X (.While c body [] pos) (Qya tt t1):=⟨Qyb hp hc.h hb.h⟩
theorem Q51 (K:PySem.W.Frag) (hK:X.K = K):QOp X (binaryOp .Add) (Qn2 K):=⟨kAdd K hK⟩
theorem Qacs:QOp X (binaryOp .Sub) (rI0 fun i j=>.int (i - j)):=⟨Q7t⟩
theorem Qact:QOp X (binaryOp .Pow) (rI Q7r fun i j=>.int (i ^ j.toNat)):=⟨Q7v⟩
theorem Qacu:QUn X (unaryOp .USub) (rU fun i=>.int (-i)):=⟨Q7w⟩
theorem o_eq:QOp X (compareOp .Eq) rEq:=⟨Qabn⟩
theorem o_ne:QOp X (compareOp .NotEq) rNe:=⟨Qabo⟩
theorem Q80:QOp X (compareOp .Lt) (rI0 fun i j=>.bl (decide (i < j))):=⟨Qabp⟩
theorem o_le:QOp X (compareOp .LtE) (rI0 fun i j=>.bl (decide (i ≤ j))):=⟨Qabq⟩
theorem o_gt:QOp X (compareOp .Gt) (rI0 fun i j=>.bl (decide (j < i))):=⟨Qabr⟩
theorem o_ge:QOp X (compareOp .GtE) (rI0 fun i j=>.bl (decide (j ≤ i))):=⟨Qabs⟩
noncomputable def rIsN:R2:=fun x y H Q=>y = .non ∧ Q (.bl (decide (x = .non))) H
noncomputable def Q52:R2:=fun x y H Q=>y = .non ∧ Q (.bl (!decide (x = .non))) H
theorem Qacw:QOp X (compareOp .Is) rIsN:=⟨Q7y⟩
theorem Qy6:QOp X (compareOp .IsNot) Q52:=⟨Q21⟩
theorem o_ix (K:PySem.W.Frag) (hK:X.K = K):QIx X (rIx K):=⟨kIx K hK⟩
theorem o_sl (K:PySem.W.Frag) (hK:X.K = K):QSl X (Qyv K):=⟨kSl K hK⟩
theorem Qk8:QMt X "list.append" Qko:=⟨Qnx⟩
theorem Qw7 (K:PySem.W.Frag) (hK:X.K = K):QMt X "list.extend" (Qgq K):=⟨Qy0 K hK⟩
theorem Q81:QCl X (.builtin "isinstance") Q5v:=⟨Qacf⟩
theorem Qay (K:PySem.W.Frag) (hK:X.K = K):QCl X (.builtin "len") (Q8m K):=⟨kLen K hK⟩
theorem Qu4 (K:PySem.W.Frag) (hK:X.K = K) (hc:X.calm = true:=by rfl):QCl X (.builtin "all") (Q8n K):=⟨kAll K hK hc⟩
theorem Qy7 (K:PySem.W.Frag) (hK:X.K = K) (hc:X.calm = true:=by rfl):QCl X (.builtin "any") (Q8o K):=⟨kAny K hK hc⟩
theorem Qacz (K:PySem.W.Frag) (hK:X.K = K) (hc:X.calm = true:=by rfl):QCl X (.builtin "sum") (Qyz K):=⟨Qace K hK hc⟩
theorem Q82 (K:PySem.W.Frag) (hK:X.K = K) (hc:X.calm = true:=by rfl):QCl X (.builtin "max") (Qyy K):=⟨Qacd K hK hc⟩
noncomputable def Q53:List V → Hp → VK → Prop:=fun xs H Q=>∃ i j,xs = [.int i,.int j] ∧ Q (.int (if j > i then j else i)) H
theorem Q83 (hc:X.calm = true:=by rfl):QCl X (.builtin "max") Q53:=⟨Qwt hc⟩
noncomputable def rAbs:List V → Hp → VK → Prop:=fun xs H Q=>∃ i,xs = [.int i] ∧ Q (.int (if i < 0 then -i else i)) H
theorem Qac1:QCl X (.builtin "abs") rAbs:=⟨Qyh⟩
noncomputable def rDvm:List V → Hp → VK → Prop:=fun xs H Q=>∃ i j,xs = [.int i,.int j] ∧ CDv i j ∧ ∀ p,H p = none → Q (.ref p) (upd H p (.tup [.int (i / j),.int (i % j)]))
theorem Qac3:QCl X (.builtin "divmod") rDvm:=⟨Qyu⟩
noncomputable def Q54:List V → Hp → VK → Prop:=fun xs H Q=>(∃ i,xs = [.int i] ∧ Q (.int i) H) ∨ ∃ k,xs = [.bl k] ∧ Q (.int (if k then 1 else 0)) H
theorem Qta:QCl X (.type "int") Q54:=⟨Qwu⟩
theorem Qb7 (K:PySem.W.Frag) (hK:X.K = K):QCl X (.type "tuple") (Qs8 K):=⟨Q8p K hK⟩
end
section
variable {P:Program} {w:World} {K:PySem.W.Frag} {mg:Str → Option Value} {base:Heap}
theorem Qac4 {x:Str} {st:Stmt} {N ps:List Str} {k:Nat} {sp:Sp} (d:Dfn K mg x st) (S:FnScope N ps (Qg st)) (bd:Qz x st ps) (len:∀ vs H Q E,sp vs H Q E → vs.length = ps.length)
  (hbody:∀ (f:Addr) (cdv:Value) (A:Around) (outer:List Env) (s:Shared) (H:Hp) (vs:List V) (Q:VK) (E:XK),Room k (A.deeper (envOfC x (Qg st) s.heap.objs.size f cdv)) → sp vs H Q E →
   ∃ t,QB (Qhq (fun _=>true) CX0 P w K mg base N x (Qg st) f cdv A outer s H E).nox (Qa9 st) t ∧ t { nx:=fun _ H'=>Q .non H',rt:=Q } (Qbk N vs) H):Has P w K mg base x ps (k + 1) sp :=
 Q8l d S bd len fun f cdv A outer s H vs Q E hr hs=>let ⟨t,a,b⟩:=hbody f cdv A outer s H vs Q E hr hs; ⟨t,a.h,b⟩
end
open Classical in
noncomputable def dls (H:Hp) (S:Addr → Prop):Hp:=fun b=>if S b then none else H b
theorem Qcb {H:Hp} {S:Addr → Prop} {b:Addr} (h:¬ S b):dls H S b = H b:=by unfold dls; rw [if_neg h]
theorem Qah {H:Hp} {S:Addr → Prop} {b:Addr} {o:HO} (e:dls H S b = some o):¬ S b ∧ H b = some o:=by
 unfold dls at e
 by_cases h:S b
 ·rw [if_pos h] at e; cases e
 ·rw [if_neg h] at e; exact ⟨h,e⟩
theorem Qy8 (H:Hp) (S:Addr → Prop):Same (dls H S) H:=fun b o e=>(Qah e).2
theorem Qbn {S:Addr → Prop} {H H':Hp} (s:Same H H'):Same (dls H S) (dls H' S):=fun b o e=>by
 obtain ⟨n,e⟩:=Qah e
 rw [Qcb n]; exact s b o e
theorem Qdl {S S':Addr → Prop} {H:Hp} (h:∀ b,S b → S' b):Same (dls H S') (dls H S):=fun b o e=>by
 obtain ⟨n,e⟩:=Qah e
 rw [Qcb fun z=>n (h b z)]; exact e
noncomputable def Q3t:HO → Bool
 | .lst _=>true
 | .dT _=>true
 | _=>false
noncomputable def Pen (H:Hp) (S:Addr → Prop):Prop:=∀ b,S b → ∃ o,H b = some o ∧ Q3t o = true
theorem Pen.mono {H H':Hp} {S:Addr → Prop} (h:Pen H S) (s:Same H H'):Pen H' S:=fun b hb=>by
 obtain ⟨xs,e,p⟩:=h b hb
 exact ⟨xs,s _ _ e,p⟩
theorem Pen.new {H:Hp} {S:Addr → Prop} {q:Addr} (h:Pen H S) (hq:H q = none):¬ S q:=fun z=>by
 obtain ⟨xs,e,_⟩:=h q z
 rw [hq] at e; cases e
theorem Qy9 {H:Hp} {S:Addr → Prop} (h:Pen H S):Tups H (dls H S):=fun a ys e=>by
 rw [Qcb fun z=>by
  obtain ⟨xs,e',p⟩:=h a z
  rw [e] at e'; cases e'; cases p]
 exact e
section
variable {K:PySem.W.Frag} {H:Hp} {S:Addr → Prop} {x y:V} {ts us:List T} {Q:VK}
theorem Qw8 {H':Hp} {a:Addr} {vs:List V} (hp:Pen H' S) (e:H' a = some (.tup vs)):dls H' S a = some (.tup vs):=Qy9 hp a vs e
theorem Qfi {a:Addr} {vs:List V} (hp:Pen H S) (e:H a = some (.tup vs)) (r:IsL (dls H S) vs ts) (z:ts.length ≤ 100000):Is (dls H S) (.ref a) (.tup ts):=.tup (Qw8 hp e) r z
noncomputable def Qdz (ts:List T) (lo hi:Option Int):List T:=(ts.drop (HT.sIx ts.length 0 lo)).take (HT.sIx ts.length ts.length hi - HT.sIx ts.length 0 lo)
theorem Qiw (ts:List T) (lo hi:Option Int):(Qdz ts lo hi).length ≤ ts.length:=by
 unfold Qdz
 rw [List.length_take,List.length_drop]
 omega
theorem IsL.cut {D:Hp} {vs:List V} (r:IsL D vs ts) (lo hi:Option Int):IsL D (Qgn vs lo hi) (Qdz ts lo hi):=by
 unfold Qgn Qdz
 rw [r.length]
 exact (r.drop _).take _
theorem Qza {lo hi:Option Int} (hp:Pen H S) (it:Is (dls H S) x (.tup ts)) (k:∀ y H',Same H H' → Is (dls H' S) y (.tup (Qdz ts lo hi)) → Q y H'):Qyv K x lo hi H Q:=by
 obtain ⟨a,vs,rfl,ha,r⟩:=it.tup_inv
 refine .inr ⟨a,vs,rfl,(Qah ha).2,fun q H' s' e' _=>k _ H' s' (Qfi (hp.mono s') e' ((r.cut lo hi).mono (Qbn s')) ?_)⟩
 have:=Qiw ts lo hi
 have:=it.tup_len
 omega
theorem Q84 (hp:Pen H S) (ix:Is (dls H S) x (.tup ts)) (iy:Is (dls H S) y (.tup us)) (hz:ts.length + us.length ≤ 100000) (k:∀ z H',Same H H' → Is (dls H' S) z (.tup (ts ++ us)) → Q z H'):Qn2 K x y H Q:=by
 obtain ⟨a,vs,rfl,ha,r⟩:=ix.tup_inv
 obtain ⟨b,ws,rfl,hb,r2⟩:=iy.tup_inv
 refine .inr (.inr ⟨a,b,vs,ws,rfl,rfl,(Qah ha).2,(Qah hb).2,Qbj (by rw [r.length,r2.length]; exact hz),fun q H' s' e' _=>k _ H' s' (Qfi (hp.mono s') e' ((r.append r2).mono (Qbn s')) (by rw [List.length_append]; exact hz))⟩)
theorem Q85 {vs:List V} (hp:Pen H S) (r:IsL (dls H S) vs ts) (hz:ts.length ≤ 100000) (k:∀ z H',Same H H' → Is (dls H' S) z (.tup ts) → Q z H'):MkT vs H Q :=
 ⟨Qbj (by rw [r.length]; exact hz),fun q hq=>k _ _ (Same.upd hq) (Qfi (hp.mono (Same.upd hq)) Qp (r.mono (Qbn (Same.upd hq))) hz)⟩
theorem Q86 {vs:List V} (hp:Pen H S) (r:IsL (dls H S) vs ts) (hz:ts.length ≤ 100000) (k:∀ l H',Same H H' → H l = none → H' l = some (.lst vs) → Is (dls H' S) (.ref l) (.lst ts) → Q (.ref l) H'):MkL vs H Q :=
 ⟨Qbj (by rw [r.length]; exact hz),fun q hq=>k _ _ (Same.upd hq) hq Qp (.lst (by rw [Qcb (hp.new hq),Qp]) (r.mono (Qbn (Same.upd hq))) hz)⟩
noncomputable def Sm (D:Hp) (x:V):Prop:=∃ t,Is D x t
end
structure Raw (fs:List Addr) (g:Heap) (H:Hp) (h h':Heap):Prop where
 keep:∀ b o,h.get? b = some o → ((∃ u,g.get? b = some u) ∨ H b ≠ none) → b ∉ fs → h'.get? b = some o
 slot:∀ b o,h.get? b = some o → ((∃ u,g.get? b = some u) ∨ H b ≠ none) → ∃ sl,h'.get? b = some { o with slots:=sl }
 size:h.objs.size ≤ h'.objs.size
theorem Raw.refl (fs:List Addr) (g:Heap) (H:Hp) (h:Heap):Raw fs g H h h:=⟨fun _ _ e _ _=>e,fun _ o e _=>⟨o.slots,e⟩,Nat.le_refl _⟩
theorem Raw.trans {fs:List Addr} {g:Heap} {H:Hp} {h h1 h2:Heap} (a:Raw fs g H h h1) (b:Raw fs g H h1 h2):Raw fs g H h h2 where
 keep:=fun c o e p q=>b.keep c o (a.keep c o e p q) p q
 slot:=fun c o e p=>by
  obtain ⟨sl,e1⟩:=a.slot c o e p
  obtain ⟨sl',e2⟩:=b.slot c _ e1 p
  exact ⟨sl',e2⟩
 size:=Nat.le_trans a.size b.size
noncomputable def XObj (H:Hp) (h:Heap) (g:Heap) (e:Addr) (cls:Value) (dx:Option Addr):Prop :=
 g.get? e = none ∧ H e = none ∧ ∃ oe vs,h.get? e = some oe ∧ oe.cls = cls ∧ oe.dict = dx ∧ oe.data = .fields vs ∧ 1 < vs.size ∧
  (vs[1]? = some .none ∨ ∃ T oT ts,vs[1]? = some (.ref T) ∧ T ≠ e ∧ g.get? T = none ∧ H T = none ∧ h.get? T = some oT ∧ oT.data = .fields ts ∧ 3 < ts.size)
section
variable {M:Model} {A:Around} {E:Value → Shared → Prop} {s:Shared} {H:Hp} {g:Heap} {e L:Addr} {cls:Value} {dx:Option Addr} {env:Env} {outer:List Env} {base:Heap} {Q:Unit → Shared → Prop}
theorem Qpa {fs:List Addr} {h:Heap} {a:Addr} {f:Obj → Obj} (ha:g.get? a = none) (hH:H a = none):Raw fs g H h (h.update a f):=by
 have ne:∀ b,((∃ u,g.get? b = some u) ∨ H b ≠ none) → a ≠ b:=fun b p z=>by
  subst z
  rcases p with p | p
  ·obtain ⟨u,q⟩:=p
   rw [ha] at q; cases q
  ·exact p hH
 refine ⟨fun b o e p _=>?_,fun b o e p=>⟨o.slots,?_⟩,?_⟩
 ·rw [Heap.get?_update_other _ _ (ne b p)]; exact e
 ·rw [Heap.get?_update_other _ _ (ne b p)]; exact e
 ·exact Nat.le_of_eq (by rw [Heap.size_update])
theorem Qzb {fs:List Addr} {h:Heap} {o:Obj}:Raw fs g H h (h.push o) :=
 ⟨fun _ _ e _ _=>Heap.get?_push_of_some _ e,fun _ u e _=>⟨u.slots,Heap.get?_push_of_some _ e⟩,by rw [Heap.size_push]; omega⟩
theorem Qw9 {fs:List Addr} {h h':Heap} (x:Heap.SlotsOnly fs h h'):Raw fs g H h h' :=
 ⟨fun b o e _ q=>(x.2.1 b q).trans e,fun b o e _=>x.2.2 b o e,Nat.le_of_eq x.1.symm⟩
theorem Qn3 {hd0:Value} {nx:Bool} (hfr:A.frames = some (env :: outer)) (hl:s.heap.FunFrames base (env :: outer)) (hf:env.frame = some L) (fresh:∀ b,s.heap.objs.size ≤ b → H b = none) (hn:∀ b o,g.get? b = some o → b < s.heap.objs.size)
  (X:XObj H s.heap g e cls dx) (h:∀ h',XObj H h' g e cls dx → Raw (frs (env :: outer)) g H s.heap h' → Q () { s with heap:=h' }) :
  wpAny M A (do let a ← frameOf env; let pl ← entryPlaceOf L nx; let b ← EntryCells.newEntry hd0 a .none (rawInt L) .none pl; setField (.ref e) 1 b) Q E s:=by
 obtain ⟨hne,hHe,oe,vs,he,hc,hdx,hd,hsz,_⟩:=X
 have nofr:e ∉ frs (env :: outer):=fun hm=>by
  obtain ⟨_,o,ho,hnf⟩:=hl.mem hm
  rw [he] at ho; cases ho; exact hnf vs hd
 refine wpAny_bind (wpAny_frameOf_fun hfr hl hf fun h1 hs1=>wpAny_bind (wpAny_entryPlaceOf fun pl hpl=>?_))
 unfold EntryCells.newEntry newFields
 refine wpAny_bind (wpAny_newObj_type ?_ (hpl.sizeOk5 _ _ _ _ _))
 have he1:h1.get? e = some oe:=(hs1.2.1 e nofr).trans he
 have sz1:h1.objs.size = s.heap.objs.size:=hs1.1
 generalize hob:({ cls:=.type "traceback",dict:=none,data:=.fields ([hd0,.ref L,.none,rawInt L,.none] ++ (if pl.isEmpty then List.replicate 6 Value.none else pl)).toArray }:Obj) = ob
 have he2:(h1.push ob).get? e = some oe:=Heap.get?_push_of_some _ he1
 have hTe:h1.objs.size ≠ e:=Nat.ne_of_gt (Heap.lt_size he1)
 have dd:=Obj.data_mapFields hd (·.setIfInBounds 1 (Value.ref h1.objs.size))
 refine wpAny_setField he2 hd hsz (h _ ?_ (((Qw9 hs1).trans Qzb).trans (Qpa hne hHe)))
 refine ⟨hne,hHe,_,_,Heap.get?_update_self _ he2 (Obj.isFreed_of_fields dd),(Obj.cls_mapFields _ _).trans hc,?_,dd,by simpa using hsz,.inr ⟨h1.objs.size,ob,_,by simp [hsz],hTe,?_,fresh _ (by omega),?_,by rw [← hob],?_⟩⟩
 ·rw [← hdx]
  cases oe
  subst hd
  rfl
 ·cases z:g.get? h1.objs.size with
  | none=>rfl
  | some o=>exact absurd (hn _ _ z) (by rw [sz1]; exact Nat.lt_irrefl _)
 ·rw [Heap.get?_update_other _ _ (Ne.symm hTe)]
  exact Heap.get?_push_size h1 (by rw [← hob]; rfl)
 ·simp only [List.size_toArray,List.length_append,List.length_cons,List.length_nil]
  omega
theorem Qzc (hfr:A.frames = some (env :: outer)) (hl:s.heap.FunFrames base (env :: outer)) (hf:env.frame = some L) (fresh:∀ b,s.heap.objs.size ≤ b → H b = none) (hn:∀ b o,g.get? b = some o → b < s.heap.objs.size)
  (X:XObj H s.heap g e cls dx) (h:∀ h',XObj H h' g e cls dx → Raw (frs (env :: outer)) g H s.heap h' → Q () { s with heap:=h' }) :
  wpAny M A (noteFrame (.ref e) env) Q E s:=by
 obtain ⟨hne,hHe,oe,vs,he,hc,hdx,hd,hsz,h1⟩:=id X
 unfold noteFrame
 simp only [hf]
 rcases h1 with h1 | ⟨T,oT,ts,h1,hTe,hnT,hHT,hT,hdT,h3⟩
 ·refine wpAny_bind (wpAny_field he hd h1 ?_)
  rw [if_neg (by decide)]
  exact Qn3 hfr hl hf fresh hn X h
 ·refine wpAny_bind (wpAny_field he hd h1 ?_)
  rw [if_pos (by simp)]
  refine wpAny_bind (wpAny_field hT hdT (Array.getElem?_eq_getElem h3) ?_)
  by_cases hz:(ts[3] == rawInt L) = true
  ·rw [if_pos hz]
   exact wpAny_pure (h _ X (Raw.refl _ _ _ _))
  ·rw [if_neg hz]
   refine wpAny_bind (wpAny_setField hT hdT h3 ?_)
   have rw1:Raw (frs (env :: outer)) g H s.heap (s.heap.update T (Obj.mapFields (·.setIfInBounds 3 Value.none))):=Qpa hnT hHT
   have oth:∀ b,b ≠ T → (s.heap.update T (Obj.mapFields (·.setIfInBounds 3 Value.none))).get? b = s.heap.get? b:=fun b hb=>Heap.get?_update_other _ _ (Ne.symm hb)
   have dT:=Obj.data_mapFields hdT (·.setIfInBounds 3 Value.none)
   refine Qn3 (s:={ s with heap:=s.heap.update T (Obj.mapFields (·.setIfInBounds 3 Value.none)) }) hfr (hl.of_keeps fun b o hb hnf=>⟨o,(oth b ?_).trans hb,rfl⟩) hf (fun b hb=>fresh b (Nat.le_trans rw1.size hb)) (fun b o q=>Nat.lt_of_lt_of_le (hn b o q) rw1.size)
    ⟨hne,hHe,oe,vs,(oth e (Ne.symm hTe)).trans he,hc,hdx,hd,hsz,.inr ⟨T,_,_,h1,hTe,hnT,hHT,Heap.get?_update_self _ hT (Obj.isFreed_of_fields dT),dT,by simpa using h3⟩⟩ fun h' x r=>h h' x (rw1.trans r)
   intro z
   rw [z,hT] at hb
   cases hb
   exact hnf ts hdT
theorem Qtb {fs:List Addr} (X:XObj H s.heap g e cls dx) (h:∀ h',XObj H h' g e cls dx → Raw fs g H s.heap h' → Q () { s with heap:=h' }):wpAny M A (setFlight (.ref e) none) Q E s:=by
 obtain ⟨hne,hHe,oe,vs,he,hc,hdx,hd,hsz,h1⟩:=id X
 unfold setFlight
 rcases h1 with h1 | ⟨T,oT,ts,h1,hTe,hnT,hHT,hT,hdT,h3⟩
 ·refine wpAny_bind (wpAny_field he hd h1 ?_)
  rw [if_neg (by decide)]
  exact wpAny_pure (h _ X (Raw.refl _ _ _ _))
 ·refine wpAny_bind (wpAny_field he hd h1 ?_)
  rw [if_pos (by simp)]
  have dT:=Obj.data_mapFields hdT (·.setIfInBounds 3 Value.none)
  refine wpAny_setField hT hdT h3 (h _ ⟨hne,hHe,oe,vs,?_,hc,hdx,hd,hsz,.inr ⟨T,_,_,h1,hTe,hnT,hHT,Heap.get?_update_self _ hT (Obj.isFreed_of_fields dT),dT,by simpa using h3⟩⟩ (Qpa hnT hHT))
  rw [Heap.get?_update_other _ _ hTe]
  exact he
theorem Qxa (hfr:A.frames = some (env :: outer)) (hl:s.heap.FunFrames base (env :: outer)) (hf:env.frame = some L) (fresh:∀ b,s.heap.objs.size ≤ b → H b = none) (hn:∀ b o,g.get? b = some o → b < s.heap.objs.size)
  (X:XObj H s.heap g e cls dx) (h:∀ h',XObj H h' g e cls dx → Raw (frs (env :: outer)) g H s.heap h' → Q () { s with heap:=h' }) :
  wpAny M A (leaving env (.ref e)) Q E s:=by
 unfold leaving
 exact wpAny_bind (Qzc hfr hl hf fresh hn X fun h1 x1 r1=>Qtb x1 fun h2 x2 r2=>h h2 x2 (r1.trans r2))
end
noncomputable def CXE (P:Program) (w:World):CXT:=fun outer H s E e s'=>∃ a cls dx H',e = .ref a ∧ s'.os = s.os ∧ AllBare s'.gens ∧ Un (frs outer) [] H H' s.heap s'.heap ∧ HOk P w H' s'.heap ∧ XObj H' s'.heap s.heap a cls dx ∧ E cls dx H'
noncomputable abbrev XR:=Value → Option Addr → St → Hp → Prop
noncomputable def Qj6 (X:Cx) (R:XR):Prop:=∀ (pins:List (Addr × Obj)) (σ:St) (H:Hp) (s:Shared) (e:Value) (s':Shared),Inv X pins σ H s → CXE X.prog X.w X.stack H s (fun cls dx H'=>R cls dx σ H') e s' → X.xe e s'
section
variable {P:Program} {w:World} {H H0:Hp} {h h' h0 g:Heap} {fs fs':List Addr}
theorem Raw.hok (r:Raw fs g H h h') (ok:HOk P w H h) (hf:∀ b ∈ fs,H b = none):HOk P w H h':=fun a o e=>by
 have ht:∀ b u,H b = some u → ((∃ u,g.get? b = some u) ∨ H b ≠ none) ∧ b ∉ fs:=fun b u q=>⟨.inr (by rw [q]; simp),fun z=>by rw [hf b z] at q; cases q⟩
 refine (ok a o e).stay (fun b u hb q=>?_) (fun _ q=>q) fun _ _ q=>q
 rcases hb with rfl | hb
 ·exact r.keep _ u q (ht _ _ e).1 (ht _ _ e).2
 ·exact r.keep _ u q (ht _ _ hb).1 (ht _ _ hb).2
theorem Raw.un (r:Raw fs' g H h h') (u:Un fs [] H0 H h0 h) (hg:∀ b o,h0.get? b = some o → ∃ v,g.get? b = some v) (hs:∀ b ∈ fs',b ∈ fs ∨ h0.objs.size ≤ b):Un fs [] H0 H h0 h' where
 keep:=fun b o e n hb hx=>r.keep b o (u.keep b o e n hb hx) (.inl (hg b o e)) fun z=>by
  rcases hs b z with z | z
  ·exact hb z
  ·exact absurd (Nat.lt_of_lt_of_le (Heap.lt_size e) z) (Nat.lt_irrefl _)
 slot:=fun b o e n hb hx=>by
  obtain ⟨sl,q⟩:=u.slot b o e n hb hx
  obtain ⟨sl',q'⟩:=r.slot b _ q (.inl (hg b o e))
  exact ⟨sl',q'⟩
 free:=u.free
 there:=fun b o e hx=>by
  obtain ⟨o',q⟩:=u.there b o e hx
  obtain ⟨sl',q'⟩:=r.slot b _ q (.inl (hg b o e))
  exact ⟨_,q'⟩
 tups:=u.tups
 frzs:=u.frzs
 tbls:=u.tbls
theorem XObj.mono {e:Addr} {cls:Value} {dx:Option Addr} {g':Heap} (x:XObj H h g e cls dx) (hg:∀ b o,g'.get? b = some o → ∃ v,g.get? b = some v):XObj H h g' e cls dx:=by
 have nn:∀ b,g.get? b = none → g'.get? b = none:=fun b q=>by
  cases z:g'.get? b with
  | none=>rfl
  | some o =>
   obtain ⟨v,q'⟩:=hg b o z
   rw [q] at q'; cases q'
 obtain ⟨h1,h2,oe,vs,a1,a2,a3,a4,a5,a6⟩:=x
 refine ⟨nn _ h1,h2,oe,vs,a1,a2,a3,a4,a5,a6.imp (fun z=>z) fun ⟨T,oT,ts,b1,b2,b3,b4⟩=>⟨T,oT,ts,b1,b2,nn _ b3,b4⟩⟩
end
section
variable {X:Cx} {pins:List (Addr × Obj)} {σ:St} {H H':Hp} {s s':Shared} {e:Addr} {cls:Value} {dx:Option Addr}
theorem Inv.thrown (I:Inv X pins σ H s) (os:s'.os = s.os) (bare:AllBare s'.gens) (un:Un (frs X.stack) [] H H' s.heap s'.heap) (hok:HOk X.prog X.w H' s'.heap):Inv X pins σ H' s' :=
 I.call' (ch:=[]) os un hok bare fun b z=>absurd z (by simp)
end
theorem Q55 {g:Str → Bool} {P:Program} {w:World} {K:PySem.W.Frag} {mg:Str → Option Value} {base:Heap} {N:List Str} {qual:Str} {scope:Scope} {f:Addr} {cd:Value} {A:Around} {outer:List Env} {s0:Shared} {H0:Hp} {E:XK} :
  Qj6 (Qhq g (CXE P w) P w K mg base N qual scope f cd A outer s0 H0 E) (fun cls dx _ H=>E cls dx H):=by
 intro pins σ H s e s' I h
 obtain ⟨a,cls,dx,H',rfl,os,bare,un,hok,xo,hE⟩:=h
 have J:=I.thrown os bare un hok
 show wpAny _ _ (leaving _ _) _ _ _
 refine Qxa (base:=base) (outer:=outer) J.ok.frames J.stack rfl (fun b hb=>J.hok.fresh hb) (fun b o q=>?_) xo fun h' x' r'=>?_
 ·obtain ⟨o',q'⟩:=un.there b o q (by simp)
  exact Heap.lt_size q'
 ·have hg:∀ b o,s0.heap.get? b = some o → ∃ v,s.heap.get? b = some v:=fun b o q=>I.base.there b o q (by intro z; exact absurd (show b ∈ ([]:List Addr) from z) (by simp))
  refine ⟨a,cls,dx,H',rfl,J.os,J.bare,r'.un J.base hg (fun b hb=>?_),r'.hok hok J.stkFree,x'.mono hg,hE⟩
  rcases List.mem_cons.mp (J.stkSub b hb) with z | z
  ·rw [z]; exact .inr J.ok.above
  ·exact .inl z
noncomputable def CodeOf (K:PySem.W.Frag) (mg:Str → Option Value) (x:Str) (cdv:Value):Prop:=∃ f oc od fd osl,mg x = some (.ref f) ∧ K.lookup f = some ⟨oc,od,.func fd,osl⟩ ∧ fd.code = cdv
theorem CodeOf.one {K:PySem.W.Frag} {mg:Str → Option Value} {x:Str} {c d:Value} (a:CodeOf K mg x c) (b:CodeOf K mg x d):c = d:=by
 obtain ⟨f,_,_,_,_,m,l,e⟩:=a
 obtain ⟨g,_,_,_,_,m2,l2,e2⟩:=b
 rw [m] at m2
 cases m2
 rw [l] at l2
 cases l2
 exact e.symm.trans e2
noncomputable def Q3u (P:Program) (w:World) (K:PySem.W.Frag) (mg:Str → Option Value) (base:Heap) (x:Str) (ps:List Str) (k:Nat) (sp:Sp):Prop :=
 ∃ f fd,PySem.W.keepIn K (.ref f) = true ∧ mg x = some (.ref f) ∧ Binds K fd ps [] ∧ FnOk P w K mg base (CXE P w) k f fd ps sp
section
variable {P:Program} {w:World} {K:PySem.W.Frag} {mg:Str → Option Value} {base:Heap}
end
noncomputable abbrev Qzd (sp:Sp) (R:XR) (t:TA):TE:=fun σ H Q=>t σ H fun vs H1=>sp vs H1 Q (fun cls dx H2=>R cls dx σ H2)
section
variable {X:Cx} {x:Str} {ps:List Str} {k:Nat} {sp:Sp} {e:Expr} {es:List Expr} {t:TA} {p pos cpos np:Pos} {R:XR}
theorem Qac5 (h:Q3u X.prog X.w X.K X.mg X.base x ps k sp) (pz:Qj6 X R) (hr:Room k X.A) (ha:QA X (e :: es) t) (hg:Gl X x:=by rfl)
  (hdb:(x == ("__debug__" : Str)) = false:=by decide) (he:starEach (e :: es) X.env = (false,eval e X.env) :: starEach es X.env:=by rfl) (hpl:(backTo pos (starEach es X.env)).any (·.1) = false:=by rfl) :
  QE X (.Call (.Name x p) (e :: es) [] pos) (Qzd sp R t):=by
 obtain ⟨f,fd,kp,m,b,F⟩:=h
 refine ⟨fun pins s σ H Q I hq=>?_⟩
 refine wpAny_Call_Name_kw (Qoy I hg m ?_ hdb)
 refine PySem.W.callWith_K (h₀:=X.base) I.ok.mod.kin kp (thn (ha.h pos pins s σ H _ I hq) fun us s1 ⟨vs,H1,I1,r,q⟩=>⟨I1.kIn,?_⟩) he hpl
 have hl:(us ++ []).length = ps.length:=by rw [List.append_nil,← r.length]; exact F.len _ _ _ _ q
 have r2:Vals vs (us ++ []):=by rw [List.append_nil]; exact r
 refine wpAny_call (codeAny_mono (F.run X.A X.stack s1 H1 ⟨us,[]⟩ (us ++ []) vs Q _ hr I1.env0 (b s1 us I1.kIn hl) r2 q) fun rr s' hq'=>?_)
 cases rr with
 | error ev=>exact pz pins σ H1 s1 ev s' I1 hq'
 | ok fl =>
  cases fl with
  | ret u=>exact I1.after hq'
  | next=>exact False.elim hq'
  | brk=>exact False.elim hq'
  | cont=>exact False.elim hq'
theorem Q3v {st:Stmt}:QS X st (fun _ _ _=>False):=⟨fun _ _ _ _ _ _ h=>h.elim⟩
theorem q_sx {st:Stmt} {t:TS} (h:QS X.nox st t):QS X st t:=⟨fun pins s σ H D I hw=>wpAny_mono (h.h pins s σ H D (I.wish _) hw) (fun _ _ q=>q.unwish) fun _ _ z=>False.elim z⟩
end
section
variable {X:Cx} {x:Str} {e:Expr} {es:List Expr} {t:TA} {pos cpos np:Pos} {R:XR} {C:Addr} {B newId initId:String} {bmB:List Value}
end
structure RoomH (k:Nat) (A:Around):Prop where
 dp:A.depth + 3 * k + 5 < recursionLimit
 un:A.units + 16 * k + 200 < cLine
structure FnOkH (P:Program) (w:World) (K:PySem.W.Frag) (mg:Str → Option Value) (base:Heap) (CX:CXT) (k:Nat) (f:Addr) (fd:FuncData) (ps:List Str) (sp:Sp):Prop where
 len:∀ vs H Q E,sp vs H Q E → vs.length = ps.length
 run:∀ (A:Around) (outer:List Env) (s:Shared) (H:Hp) (args:Args) (us:List Value) (vs:List V) (Q:VK) (E:XK),RoomH k A → Env0 P w K mg base A outer s H → BindsTo s fd args (ps.zip us) → Vals vs us → sp vs H Q E →
  codeAny (model P w) A (.call (.ref f) args) (CR CX outer P w H s Q E) s
section
variable {X:Cx} {pins p2:List (Addr × Obj)} {σ σ0:St} {H H0:Hp} {s s0:Shared} {h':Heap} {R:XR}
end
section
variable {X:Cx} {pins:List (Addr × Obj)} {σ:St} {H:Hp} {s:Shared} {M:Model} {A:Around} {E:Value → Shared → Prop} {Q:Unit → Shared → Prop} {i:Nat} {x:Str} {v:V}
end
section
variable {X:Cx} {body suite:List Stmt} {b0:Stmt} {x n:Str} {np hpos pos:Pos} {tb:XR → TS} {th:TS} {i:Nat} {C0:Addr} {bmB:List Value} {newId:String}
end
mutual
noncomputable def eqT:T → T → Bool
 | .non,.non=>true
 | .bl a,.bl b=>a == b
 | .int a,.int b=>a == b
 | .bl a,.int b=>(if a then 1 else 0) == b
 | .int a,.bl b=>a == (if b then 1 else 0)
 | .str a,.str b=>a == b
 | .tup a,.tup b=>eqL a b
 | .lst a,.lst b=>eqL a b
 | _,_=>false
noncomputable def eqL:List T → List T → Bool
 | [],[]=>true
 | x :: xs,y :: ys=>eqT x y && eqL xs ys
 | _,_=>false
end
noncomputable def Qm:Nat → T → Bool
 | _,.non=>true
 | _,.bl _=>true
 | _,.int _=>true
 | _,.str _=>true
 | n + 1,.tup ts=>ts.all (Qm n)
 | n + 1,.lst ts=>ts.all (Qm n)
 | _,_=>false
theorem Qix:eqL [] [] = true:=by unfold eqL; rfl
theorem Qgr (x y:T) (xs ys:List T):eqL (x :: xs) (y :: ys) = (eqT x y && eqL xs ys):=by rw [eqL]
theorem Qiy:∀ {xs ys:List T},xs.length ≠ ys.length → eqL xs ys = false
 | [],[],h=>absurd rfl h
 | [],_ :: _,_=>by unfold eqL; rfl
 | _ :: _,[],_=>by unfold eqL; rfl
 | x :: xs,y :: ys,h=>by rw [Qgr,Qiy (xs:=xs) (ys:=ys) (by simpa using h),Bool.and_false]
theorem Qn4:∀ {xs ys:List T} {e:Nat → Bool},(∀ (j:Nat) a b,xs[j]? = some a → ys[j]? = some b → e j = eqT a b) → ((List.range (min xs.length ys.length)).all e && (xs.length == ys.length)) = eqL xs ys
 | [],[],e,_=>by rw [Qix]; rfl
 | [],y :: ys,e,_=>by rw [Qiy (by simp)]; simp
 | x :: xs,[],e,_=>by rw [Qiy (by simp)]; simp
 | x :: xs,y :: ys,e,h=>by
  rw [Qgr,← Qn4 (xs:=xs) (ys:=ys) (e:=fun j=>e (j + 1)) fun j a b p q=>h (j + 1) a b p q,List.length_cons,List.length_cons,Nat.succ_min_succ,List.range_succ_eq_map,List.all_cons,List.all_map,← h 0 x y rfl rfl,Bool.and_assoc]
  congr 2
  simp
theorem Qk9:∀ (n:Nat) (t:T),Qm n t = true → eqT t t = true
 | _,.non,_=>by rw [eqT]
 | _,.bl b,_=>by rw [eqT]; simp
 | _,.int i,_=>by rw [eqT]; simp
 | _,.str x,_=>by rw [eqT]; simp
 | n + 1,.tup ts,h=>by
  have h:ts.all (Qm n) = true:=by rw [Qm] at h; exact h
  have go:∀ ts:List T,ts.all (Qm n) = true → eqL ts ts = true:=fun ts=>by
   induction ts with
   | nil=>intro _; exact Qix
   | cons x xs ih =>
    intro h
    rw [List.all_cons,Bool.and_eq_true] at h
    rw [Qgr,Qk9 n x h.1,ih h.2]
    rfl
  rw [eqT]; exact go ts h
 | n + 1,.lst ts,h=>by
  have h:ts.all (Qm n) = true:=by rw [Qm] at h; exact h
  have go:∀ ts:List T,ts.all (Qm n) = true → eqL ts ts = true:=fun ts=>by
   induction ts with
   | nil=>intro _; exact Qix
   | cons x xs ih =>
    intro h
    rw [List.all_cons,Bool.and_eq_true] at h
    rw [Qgr,Qk9 n x h.1,ih h.2]
    rfl
  rw [eqT]; exact go ts h
 | 0,.tup _,h=>by simp [Qm] at h
 | 0,.lst _,h=>by simp [Qm] at h
 | 0,.dct _ _,h=>by simp [Qm] at h
 | 0,.clo _ _,h=>by simp [Qm] at h
 | _ + 1,.dct _ _,h=>by simp [Qm] at h
 | _ + 1,.clo _ _,h=>by simp [Qm] at h
 | 0,.dtt _ _,h=>by simp [Qm] at h
 | _ + 1,.dtt _ _,h=>by simp [Qm] at h
theorem Q56 {H:Hp}:∀ (n:Nat) {v:V} {t t':T},Is H v t → Is H v t' → Qm n t = true → Qm n t' = true → eqT t t' = true:=by
 intro n
 induction n with
 | zero =>
  intro v t t' i j h h'
  cases t <;> first | (simp [Qm] at h; done) | skip
  all_goals (cases t' <;> first | (simp [Qm] at h'; done) | skip)
  all_goals (unfold Is at i j; rw [i] at j; first | (cases j; simp [eqT]; done) | cases j)
 | succ n ih =>
  intro v t t' i j h h'
  have go:∀ (ts us:List T) (vs:List V),IsL H vs ts → IsL H vs us → ts.all (Qm n) = true → us.all (Qm n) = true → eqL ts us = true:=by
   intro ts
   induction ts with
   | nil =>
    intro us vs q1 q2 _ _
    rw [q1.nil_inv] at q2
    cases us with
    | nil=>exact Qix
    | cons y ys=>obtain ⟨_,_,z,_⟩:=q2.cons_inv; cases z
   | cons x xs ihx =>
    intro us vs q1 q2 a1 a2
    obtain ⟨v,r,rfl,c1,c2⟩:=q1.cons_inv
    cases us with
    | nil=>have:=q2.nil_inv; cases this
    | cons y ys =>
     obtain ⟨v',r',z,d1,d2⟩:=q2.cons_inv
     cases z
     rw [List.all_cons,Bool.and_eq_true] at a1 a2
     rw [Qgr,ihx ys r c2 d2 a1.2 a2.2,Bool.and_true]
     exact ih c1 d1 a1.1 a2.1
  cases t with
  | dct _ _=>simp [Qm] at h
  | clo _ _=>simp [Qm] at h
  | dtt _ _=>simp [Qm] at h
  | tup ts =>
   obtain ⟨a,vs,rfl,ha,q⟩:=i.tup_inv
   cases t' with
   | tup us =>
    obtain ⟨a',vs',e,ha',q'⟩:=j.tup_inv
    cases e
    rw [ha] at ha'
    cases ha'
    rw [eqT]
    exact go ts us vs q q' (by simpa only [Qm] using h) (by simpa only [Qm] using h')
   | lst us =>
    obtain ⟨a',vs',e,ha',q'⟩:=j.lst_inv
    cases e
    rw [ha] at ha'
    cases ha'
   | dct _ _=>simp [Qm] at h'
   | clo _ _=>simp [Qm] at h'
   | dtt _ _=>simp [Qm] at h'
   | _=>unfold Is at j; cases j
  | lst ts =>
   obtain ⟨a,vs,rfl,ha,q⟩:=i.lst_inv
   cases t' with
   | lst us =>
    obtain ⟨a',vs',e,ha',q'⟩:=j.lst_inv
    cases e
    rw [ha] at ha'
    cases ha'
    rw [eqT]
    exact go ts us vs q q' (by simpa only [Qm] using h) (by simpa only [Qm] using h')
   | tup us =>
    obtain ⟨a',vs',e,ha',q'⟩:=j.tup_inv
    cases e
    rw [ha] at ha'
    cases ha'
   | dct _ _=>simp [Qm] at h'
   | clo _ _=>simp [Qm] at h'
   | dtt _ _=>simp [Qm] at h'
   | _=>unfold Is at j; cases j
  | _ =>
   cases t' with
   | dct _ _=>simp [Qm] at h'
   | clo _ _=>simp [Qm] at h'
   | dtt _ _=>simp [Qm] at h'
   | tup us =>
    obtain ⟨a',vs',e,ha',q'⟩:=j.tup_inv
    unfold Is at i
    rw [i] at e; cases e
   | lst us =>
    obtain ⟨a',vs',e,ha',q'⟩:=j.lst_inv
    unfold Is at i
    rw [i] at e; cases e
   | _=>unfold Is at i j; rw [i] at j; first | (cases j; simp [eqT]; done) | cases j
inductive Shp (P:Program) (w:World) (H:Hp) (h:Heap):T → Value → Prop
 | non:Shp P w H h .non .none
 | bl (b):Shp P w H h (.bl b) (.bool b)
 | int (i t):Shp P w H h (.int i) (.int i t)
 | str (x t):Shp P w H h (.str x) (.str x t)
 | tup {a vs ts its}:Is H (.ref a) (.tup ts) → IsL H vs ts → Vals vs its → h.IsTuple a its.toArray → Shp P w H h (.tup ts) (.ref a)
 | lst {a vs ts its}:Is H (.ref a) (.lst ts) → IsL H vs ts → Vals vs its → h.IsList a its.toArray → Shp P w H h (.lst ts) (.ref a)
 | dct {ks ts u}:Shp P w H h (.dct ks ts) u
 | clo {l ts u}:Shp P w H h (.clo l ts) u
 | dtt {ks ts u}:Shp P w H h (.dtt ks ts) u
theorem Is.shp {P:Program} {w:World} {H:Hp} {h:Heap} {v:V} {u:Value}:∀ {t:T},Is H v t → RelV v u → HOk P w H h → Shp P w H h t u
 | .non,i,r,_=>by unfold Is at i; subst i; cases r; exact .non
 | .bl b,i,r,_=>by unfold Is at i; subst i; cases r; exact .bl b
 | .int n,i,r,_=>by unfold Is at i; subst i; obtain ⟨t,rfl⟩:=r; exact .int n t
 | .str x,i,r,_=>by unfold Is at i; subst i; obtain ⟨t,rfl⟩:=r; exact .str x t
 | .tup ts,i,r,ok=>by
  obtain ⟨a,vs,rfl,ha,q⟩:=i.tup_inv
  cases r
  obtain ⟨_,its,rv,p⟩:=ok a _ ha
  exact .tup i q rv p.tup
 | .lst ts,i,r,ok=>by
  obtain ⟨a,vs,rfl,ha,q⟩:=i.lst_inv
  cases r
  obtain ⟨_,its,n,rv,p⟩:=ok a _ ha
  exact .lst i q rv ⟨_,p,rfl,n,rfl⟩
 | .dct ks ts,_,_,_=>.dct
 | .clo l ts,_,_,_=>.clo
 | .dtt ks ts,_,_,_=>.dtt
section
variable {P:Program} {w:World} {H:Hp}
noncomputable def eAt (ts us:List T) (j:Nat):Bool:=eqT (ts.getD j .non) (us.getD j .non)
theorem Qn5 (ts us:List T):((List.range (min ts.length us.length)).all (eAt ts us) && (ts.length == us.length)) = eqL ts us :=
 Qn4 fun j a b p q=>by unfold eAt; rw [List.getD_eq_getElem?_getD,List.getD_eq_getElem?_getD,p,q]; rfl
theorem Qq7 {s:Shared} {A:Around} {n:Nat} {ts us:List T} {vs ws:List V} {its its2:List Value} (i1:IsL H vs ts) (i2:IsL H ws us) (r1:Vals vs its) (r2:Vals ws its2) (ok:HOk P w H s.heap) (h1:ts.all (Qm n) = true) (h2:us.all (Qm n) = true)
  (ih:∀ (t t':T) (u u':Value),Qm n t = true → Qm n t' = true → Shp P w H s.heap t u → Shp P w H s.heap t' u' → SeqAt.EqAt A s u u' (eqT t t')) :
  ∀ (j:Nat) (g1:j < its.toArray.size) (g2:j < its2.toArray.size),SeqAt.EqAt A s its.toArray[j] its2.toArray[j] (eAt ts us j):=by
 intro j g1 g2
 have g1':j < its.length:=by simpa using g1
 have g2':j < its2.length:=by simpa using g2
 have l1:j < vs.length:=by rw [r1.length]; exact g1'
 have l2:j < ws.length:=by rw [r2.length]; exact g2'
 obtain ⟨u,hu,ru⟩:=r1.get (List.getElem?_eq_getElem l1)
 obtain ⟨u',hu',ru'⟩:=r2.get (List.getElem?_eq_getElem l2)
 obtain ⟨t,ht,it⟩:=i1.get (List.getElem?_eq_getElem l1)
 obtain ⟨t',ht',it'⟩:=i2.get (List.getElem?_eq_getElem l2)
 have e1:its.toArray[j] = u:=by
  rw [List.getElem?_eq_getElem g1'] at hu
  simpa using hu
 have e2:its2.toArray[j] = u':=by
  rw [List.getElem?_eq_getElem g2'] at hu'
  simpa using hu'
 have e3:eAt ts us j = eqT t t':=by unfold eAt; rw [List.getD_eq_getElem?_getD,List.getD_eq_getElem?_getD,ht,ht']; rfl
 rw [e1,e2,e3]
 exact ih t t' u u' (List.all_eq_true.mp h1 t (List.mem_of_getElem? ht)) (List.all_eq_true.mp h2 t' (List.mem_of_getElem? ht')) (it.shp ru ok) (it'.shp ru' ok)
theorem Qiz {ts:List T} {vs:List V} {its:List Value} (i:IsL H vs ts) (r:Vals vs its):its.toArray.size = ts.length:=by
 rw [List.size_toArray,← r.length,i.length]
open SeqAt in
theorem Qze {s:Shared} {A:Around} {n:Nat} {ts us:List T} {a b:Addr} {vs ws:List V} {its its2:List Value} (i1:IsL H vs ts) (i2:IsL H ws us) (r1:Vals vs its) (r2:Vals ws its2) (ok:HOk P w H s.heap) (h1:ts.all (Qm n) = true) (h2:us.all (Qm n) = true)
  (hl:s.heap.IsTuple a its.toArray) (hb:s.heap.IsTuple b its2.toArray) (hu:A.units < cLine) (ih:∀ (t t':T) (u u':Value),Qm n t = true → Qm n t' = true → Shp P w H s.heap t u → Shp P w H s.heap t' u' → EqAt A.in1 s u u' (eqT t t')) :
  RcAt A s (.ref a) (.ref b) (eqL ts us) ∧ RcNeAt A s (.ref a) (.ref b) (!eqL ts us):=by
 have key:=Qq7 i1 i2 r1 r2 ok h1 h2 ih
 have l1:=Qiz i1 r1
 have l2:=Qiz i2 r2
 have k1:=RcAt.tuples hl hb hu key
 have k2:=RcNeAt.tuples hl hb hu key
 rw [l1,l2,Qn5] at k1 k2
 exact ⟨k1,k2⟩
open SeqAt in
theorem Qzf {s:Shared} {A:Around} {n:Nat} {ts us:List T} {a b:Addr} {vs ws:List V} {its its2:List Value} (i1:IsL H vs ts) (i2:IsL H ws us) (r1:Vals vs its) (r2:Vals ws its2) (ok:HOk P w H s.heap) (h1:ts.all (Qm n) = true) (h2:us.all (Qm n) = true)
  (hl:s.heap.IsList a its.toArray) (hb:s.heap.IsList b its2.toArray) (hu:A.units < cLine) (ih:∀ (t t':T) (u u':Value),Qm n t = true → Qm n t' = true → Shp P w H s.heap t u → Shp P w H s.heap t' u' → EqAt A.in1 s u u' (eqT t t')) :
  RcAt A s (.ref a) (.ref b) (eqL ts us) ∧ RcNeAt A s (.ref a) (.ref b) (!eqL ts us):=by
 have key:=Qq7 i1 i2 r1 r2 ok h1 h2 ih
 have l1:=Qiz i1 r1
 have l2:=Qiz i2 r2
 by_cases hz:ts.length = us.length
 ·have k1:=RcAt.lists hl hb (by rw [l1,l2,hz]) hu key
  have k2:=RcNeAt.lists hl hb (by rw [l1,l2,hz]) hu key
  have e:=Qn5 ts us
  rw [hz,Nat.min_self,beq_self_eq_true,Bool.and_true] at e
  rw [l1,hz,e] at k1 k2
  exact ⟨k1,k2⟩
 ·rw [Qiy hz]
  have hb':(its.toArray.size != its2.toArray.size) = true:=by rw [l1,l2]; simpa using hz
  exact ⟨RcAt.lists_lengths hl hb hb' hu,RcNeAt.lists_lengths hl hb hb' hu⟩
open SeqAt in
theorem Q87:∀ (n:Nat) {s:Shared} {A:Around},HOk P w H s.heap → A.units + n < cLine → ∀ (t t':T) (u u':Value),Qm n t = true → Qm n t' = true → Shp P w H s.heap t u → Shp P w H s.heap t' u' → EqAt A s u u' (eqT t t'):=by
 intro n
 induction n with
 | zero =>
  intro s A ok hu t t' u u' h1 h2 s1 s2
  cases s1 with
  | dct=>simp [Qm] at h1
  | clo=>simp [Qm] at h1
  | dtt=>simp [Qm] at h1
  | tup j1 i1 r1 p1=>simp [Qm] at h1
  | lst j1 i1 r1 p1=>simp [Qm] at h1
  | non =>
   cases s2 with
   | dct=>simp [Qm] at h2
   | clo=>simp [Qm] at h2
   | dtt=>simp [Qm] at h2
   | tup j2 i2 r2 p2=>simp [Qm] at h2
   | lst j2 i2 r2 p2=>simp [Qm] at h2
   | non=>simp only [eqT]; exact EqAt.same _
   | bl b=>simp only [eqT]; exact EqAt.none_bool  b
   | int i t=>simp only [eqT]; exact EqAt.none_int  i t
   | str x t=>simp only [eqT]; exact EqAt.none_str  x t
  | bl c =>
   cases s2 with
   | dct=>simp [Qm] at h2
   | clo=>simp [Qm] at h2
   | dtt=>simp [Qm] at h2
   | tup j2 i2 r2 p2=>simp [Qm] at h2
   | lst j2 i2 r2 p2=>simp [Qm] at h2
   | non=>simp only [eqT]; exact EqAt.bool_none c
   | bl b=>simp only [eqT]; exact EqAt.bool_bool c b
   | int i t=>simp only [eqT]; exact EqAt.bool_int c i t
   | str x t=>simp only [eqT]; exact EqAt.bool_str c x t
  | int c ct =>
   cases s2 with
   | dct=>simp [Qm] at h2
   | clo=>simp [Qm] at h2
   | dtt=>simp [Qm] at h2
   | tup j2 i2 r2 p2=>simp [Qm] at h2
   | lst j2 i2 r2 p2=>simp [Qm] at h2
   | non=>simp only [eqT]; exact EqAt.int_none c ct
   | bl b=>simp only [eqT]; exact EqAt.int_bool c ct b
   | int i t=>simp only [eqT]; exact EqAt.int_int c ct i t
   | str x t=>simp only [eqT]; exact EqAt.int_str c ct x t
  | str c ct =>
   cases s2 with
   | dct=>simp [Qm] at h2
   | clo=>simp [Qm] at h2
   | dtt=>simp [Qm] at h2
   | tup j2 i2 r2 p2=>simp [Qm] at h2
   | lst j2 i2 r2 p2=>simp [Qm] at h2
   | non=>simp only [eqT]; exact EqAt.str_none c ct
   | bl b=>simp only [eqT]; exact EqAt.str_bool c ct b
   | int i t=>simp only [eqT]; exact EqAt.str_int c ct i t
   | str x t=>simp only [eqT]; exact EqAt.str_str c ct x t
 | succ n ih =>
  intro s A ok hu t t' u u' h1 h2 s1 s2
  have hu0:A.units < cLine:=by omega
  have ih':=ih (s:=s) (A:=A.in1) ok (by show A.units + 1 + n < cLine; omega)
  cases s1 with
  | dct=>simp [Qm] at h1
  | clo=>simp [Qm] at h1
  | dtt=>simp [Qm] at h1
  | tup j1 i1 r1 p1 =>
   have g1:=h1
   rw [Qm] at g1
   cases s2 with
   | dct=>simp [Qm] at h2
   | clo=>simp [Qm] at h2
   | dtt=>simp [Qm] at h2
   | tup j2 i2 r2 p2 =>
    have g2:=h2
    rw [Qm] at g2
    rename_i a vs ts its b ws us its2
    by_cases hab:a = b
    ·subst hab
     rw [Q56 (n + 1) j1 j2 h1 h2]
     exact EqAt.same _
    ·rw [eqT]
     exact EqAt.of_refs hab (Qze i1 i2 r1 r2 ok g1 g2 p1 p2 hu0 ih').1
   | lst j2 i2 r2 p2=>simp only [eqT]; exact EqAt.tuple_list p1 p2 hu0
   | non=>simp only [eqT]; exact EqAt.tuple_none p1 hu0
   | bl b=>simp only [eqT]; exact EqAt.tuple_bool b p1 hu0
   | int i t=>simp only [eqT]; exact EqAt.tuple_int i t p1 hu0
   | str x t=>simp only [eqT]; exact EqAt.tuple_str x t p1 hu0
  | lst j1 i1 r1 p1 =>
   have g1:=h1
   rw [Qm] at g1
   cases s2 with
   | dct=>simp [Qm] at h2
   | clo=>simp [Qm] at h2
   | dtt=>simp [Qm] at h2
   | lst j2 i2 r2 p2 =>
    have g2:=h2
    rw [Qm] at g2
    rename_i a vs ts its b ws us its2
    by_cases hab:a = b
    ·subst hab
     rw [Q56 (n + 1) j1 j2 h1 h2]
     exact EqAt.same _
    ·rw [eqT]
     exact EqAt.of_refs hab (Qzf i1 i2 r1 r2 ok g1 g2 p1 p2 hu0 ih').1
   | tup j2 i2 r2 p2=>simp only [eqT]; exact EqAt.list_tuple p1 p2 hu0
   | non=>simp only [eqT]; exact EqAt.list_none p1 hu0
   | bl b=>simp only [eqT]; exact EqAt.list_bool b p1 hu0
   | int i t=>simp only [eqT]; exact EqAt.list_int i t p1 hu0
   | str x t=>simp only [eqT]; exact EqAt.list_str x t p1 hu0
  | non =>
   cases s2 with
   | dct=>simp [Qm] at h2
   | clo=>simp [Qm] at h2
   | dtt=>simp [Qm] at h2
   | tup j2 i2 r2 p2=>simp only [eqT]; exact EqAt.none_tuple p2 hu0
   | lst j2 i2 r2 p2=>simp only [eqT]; exact EqAt.none_list p2 hu0
   | non=>simp only [eqT]; exact EqAt.same _
   | bl b=>simp only [eqT]; exact EqAt.none_bool b
   | int i t=>simp only [eqT]; exact EqAt.none_int i t
   | str x t=>simp only [eqT]; exact EqAt.none_str x t
  | bl c =>
   cases s2 with
   | dct=>simp [Qm] at h2
   | clo=>simp [Qm] at h2
   | dtt=>simp [Qm] at h2
   | tup j2 i2 r2 p2=>simp only [eqT]; exact EqAt.bool_tuple c p2 hu0
   | lst j2 i2 r2 p2=>simp only [eqT]; exact EqAt.bool_list c p2 hu0
   | non=>simp only [eqT]; exact EqAt.bool_none c
   | bl b=>simp only [eqT]; exact EqAt.bool_bool c b
   | int i t=>simp only [eqT]; exact EqAt.bool_int c i t
   | str x t=>simp only [eqT]; exact EqAt.bool_str c x t
  | int c ct =>
   cases s2 with
   | dct=>simp [Qm] at h2
   | clo=>simp [Qm] at h2
   | dtt=>simp [Qm] at h2
   | tup j2 i2 r2 p2=>simp only [eqT]; exact EqAt.int_tuple c ct p2 hu0
   | lst j2 i2 r2 p2=>simp only [eqT]; exact EqAt.int_list c ct p2 hu0
   | non=>simp only [eqT]; exact EqAt.int_none c ct
   | bl b=>simp only [eqT]; exact EqAt.int_bool c ct b
   | int i t=>simp only [eqT]; exact EqAt.int_int c ct i t
   | str x t=>simp only [eqT]; exact EqAt.int_str c ct x t
  | str c ct =>
   cases s2 with
   | dct=>simp [Qm] at h2
   | clo=>simp [Qm] at h2
   | dtt=>simp [Qm] at h2
   | tup j2 i2 r2 p2=>simp only [eqT]; exact EqAt.str_tuple c ct p2 hu0
   | lst j2 i2 r2 p2=>simp only [eqT]; exact EqAt.str_list c ct p2 hu0
   | non=>simp only [eqT]; exact EqAt.str_none c ct
   | bl b=>simp only [eqT]; exact EqAt.str_bool c ct b
   | int i t=>simp only [eqT]; exact EqAt.str_int c ct i t
   | str x t=>simp only [eqT]; exact EqAt.str_str c ct x t
end
section
variable {X:Cx}
noncomputable def Q3w (neg:Bool):R2:=fun x y H Q=>∃ t t',Is H x t ∧ Is H y t' ∧ Qm 50 t = true ∧ Qm 50 t' = true ∧ ((∃ ts us,t = .tup ts ∧ t' = .tup us) ∨ ∃ ts us,t = .lst ts ∧ t' = .lst us) ∧ Q (.bl (if neg then !eqT t t' else eqT t t')) H
theorem Qn6 (hu:X.A.units + 64 < cLine) {pins:List (Addr × Obj)} {σ:St} {H:Hp} {s:Shared} (I:Inv X pins σ H s) {x y:V} {v u:Value} {t t':T} (rx:RelV x v) (ry:RelV y u) (i:Is H x t) (j:Is H y t') (h1:Qm 50 t = true) (h2:Qm 50 t' = true)
  (hk:(∃ ts us,t = .tup ts ∧ t' = .tup us) ∨ ∃ ts us,t = .lst ts ∧ t' = .lst us):SeqAt.RcAt X.A s v u (eqT t t') ∧ SeqAt.RcNeAt X.A s v u (!eqT t t'):=by
 have ih:=Q87 49 (A:=X.A.in1) (P:=X.prog) (w:=X.w) I.hok (by show X.A.units + 1 + 49 < cLine; omega)
 have s1:=i.shp rx I.hok
 have s2:=j.shp ry I.hok
 rcases hk with ⟨ts,us,rfl,rfl⟩ | ⟨ts,us,rfl,rfl⟩
 ·rw [Qm] at h1 h2
  rw [eqT]
  cases s1 with
  | tup j1 i1 r1 p1 =>
   cases s2 with
   | tup j2 i2 r2 p2=>exact Qze i1 i2 r1 r2 I.hok h1 h2 p1 p2 (by omega) ih
 ·rw [Qm] at h1 h2
  rw [eqT]
  cases s1 with
  | lst j1 i1 r1 p1 =>
   cases s2 with
   | lst j2 i2 r2 p2=>exact Qzf i1 i2 r1 r2 I.hok h1 h2 p1 p2 (by omega) ih
theorem Qac7 (hu:X.A.units + 64 < cLine):QOp X (compareOp .Eq) (Q3w false):=⟨by
 intro pins s σ H x y v u Q I rx ry q
 obtain ⟨t,t',i,j,h1,h2,hk,q⟩:=q
 exact (Qn6 hu I rx ry i j h1 h2 hk).1 _ _ _ _ ⟨.bl _,H,I,rfl,q⟩⟩
theorem Qac8 (hu:X.A.units + 64 < cLine):QOp X (compareOp .NotEq) (Q3w true):=⟨by
 intro pins s σ H x y v u Q I rx ry q
 obtain ⟨t,t',i,j,h1,h2,hk,q⟩:=q
 exact (Qn6 hu I rx ry i j h1 h2 hk).2 _ _ _ _ ⟨.bl _,H,I,rfl,q⟩⟩
end
section
open PySem.W
end
noncomputable def xcOk (K:PySem.W.Frag) (D:Addr):Bool:=PySem.W.findIn K (.ref D) "__getattribute__" == some (some (.builtin "BaseException.__getattribute__")) && PySem.W.findIn K (.ref D) "__getattr__" == some none && PySem.W.mroIn K D (.type "BaseException") == some true && (PySem.W.clsIn K D).isSome && PySem.W.findIn K (.ref D) "__class__" == some (some (.builtin "object.__class__")) &&
 PySem.W.specialIn K (.builtin "object.__class__") "__get__" == some (some (.builtin "getset_descriptor.__get__")) && PySem.W.takesIn K (.builtin "object.__class__") == some true && PySem.W.mroIn K D (.type "object") == some true
section
variable {X:Cx}
end
section
variable {P:Program} {w:World} {K:PySem.W.Frag} {mg:Str → Option Value} {base:Heap}
end
section
variable {X:Cx} {x:Str} {ps:List Str} {k:Nat} {sp:Sp} {e:Expr} {es:List Expr} {t:TA} {p pos:Pos}
end
noncomputable def cad (mg:Str → Option Value) (x:Str):Addr:=match mg x with
 | some (.ref a)=>a
 | _=>0
noncomputable def bmV:List Value:=[.type "ValueError",.type "Exception",.type "BaseException",.type "object"]
noncomputable def Qtc:List Str:=["NoTable","NoWay","NoSet","NoRest","NoLine","NoRow","NoTables","Below","NoText","TooGreat"]
noncomputable def Qac9 (K:PySem.W.Frag) (c0:Addr) (cs:List Addr):Bool :=
 PySem.W.excIn K c0 bmV "ValueError.__new__" && (cs.take 6).all (fun c=>PySem.W.excIn K c bmV "ValueError.__new__") && cs.all (fun c=>xcOk K c && PySem.W.mroIn K c (.ref c0) == some true && PySem.W.kitOne K (.ref c) (.type "ValueError") == some true) &&
  cs.zipIdx.all (fun p=>cs.zipIdx.all fun q=>PySem.W.kitOne K (.ref p.1) (.ref q.1) == some (p.2 == q.2))
structure Exs (K:PySem.W.Frag) (mg:Str → Option Value):Prop where
 m0:mg "NoughtError" = some (.ref (cad mg "NoughtError"))
 m:∀ (i:Nat) (x:Str),Qtc[i]? = some x → mg x = some (.ref (cad mg x))
 ok:Qac9 K (cad mg "NoughtError") (Qtc.map (cad mg)) = true
section
variable {K:PySem.W.Frag} {mg:Str → Option Value}
end
section
variable {X:Cx} {pins:List (Addr × Obj)} {σ:St} {H:Hp} {s:Shared} {h':Heap}
end
section
variable {X:Cx}
end
section
variable {P:Program} {w:World} {A:Around} {E:Value → Shared → Prop} {s:Shared}
noncomputable def IsIt:Bool → Heap → Addr → Addr → Nat → Prop
 | true,h,i,l,n=>h.IsListIter i l n
 | false,h,i,l,n=>h.IsTupleIter i l n
noncomputable def IsSq:Bool → Heap → Addr → Array Value → Prop
 | true,h,l,xs=>h.IsList l xs
 | false,h,l,xs=>h.IsTuple l xs
structure ZT (lb lc:Bool) (h:Heap) (z ti to i1 i2 l1 l2:Addr) (n:Nat) (xs ys:Array Value):Prop where
 z:IsZip h z ti to .none
 ti:IsPair h ti (.ref i1) (.ref i2)
 to:∃ a b,IsPair h to a b
 i1:IsIt lb h i1 l1 n
 i2:IsIt lc h i2 l2 n
 l1:IsSq lb h l1 xs
 l2:IsSq lc h l2 ys
end
section
variable {P:Program} {w:World} {A:Around} {E:Value → Shared → Prop} {s:Shared}
end
section
variable {X:Cx}
end
noncomputable def excF (K:PySem.W.Frag) (c0 C:Addr) (bmB:List Value) (newId:String) (f:Addr):Bool:=match K.lookup C with
 | some ⟨.type "type",_,.cls cl,ks⟩=>(match cl.mro,ks.toList with
  | .ref C1 :: .ref b0 :: tl,[_,_,_,_,some (.builtin n1),_]=>C1 == C && n1 == newId && b0 == c0 && tl == bmB && !cl.hasDel && cl.hasDict && PySem.W.tailIn K bmB (.ref b0 :: tl)
  | _,_=>false)
 | _=>false
noncomputable def Q88 (K:PySem.W.Frag) (c0 C f:Addr):Bool:=excF K c0 C bmV "ValueError.__new__" f && PySem.W.findIn K (.ref C) "__init__" == some (some (.ref f)) && PySem.W.findIn K (.ref C) "__setattr__" == some (some (.builtin "object.__setattr__")) && PySem.W.findIn K (.ref C) "at" == some none && PySem.W.mroIn K C (.type "object") == some true
section
variable {prog:Program} {w:World} {A:Around} {E:Value → Shared → Prop} {h:Heap} {g:Array GenState} {d:Drawn} {t:Nat} {os:OsState}
variable {nm q:Str} {C N c0:Addr} {bs bm bmB:List Value} {hd:Bool} {sn:List Str} {sub:List Value} {ab:Bool} {col:Option Bool} {dd:Option Addr} {k0 k1 k2 k3 k5:Option Value} {B nid iid:String}
structure Ini (K:PySem.W.Frag) (c0 C:Addr):Prop where
 ex:∃ (f:Addr) (fd:FuncData) (qn:Str) (st:Stmt) (p1 p2 p3 p4:Pos),Q88 K c0 C f = true ∧ Fun K "__init__" qn st f fd ∧ (∃ od osl,K.lookup f = some ⟨.type "function",od,.func fd,osl⟩) ∧ FnScope ["self","at"] ["self","at"] (Qg st) ∧
  (Qg st).names.lookup ("self" : Str) = some .local ∧ (Qg st).names.lookup ("at" : Str) = some .local ∧ Binds K fd ["self","at"] [] ∧ Qa9 st = [.Assign [.Attribute (.Name "self" p1) "at" p2] (.Name "at" p3) p4]
end
section
variable {X:Cx} {pins:List (Addr × Obj)} {σ:St} {H:Hp} {s:Shared}
end
section
variable {M:Model} {A:Around} {E:Value → Shared → Prop} {env:Env} {nm q:Str} {C N:Addr} {bs bm:List Value} {hd:Bool} {sn:List Str} {sub:List Value} {ab:Bool} {col:Option Bool} {dd:Option Addr} {k0 k1 k2 k3 k5:Option Value} {nid:String}
end
section
variable {X:Cx} {x:Str} {e:Expr} {t:TA} {pos cpos np:Pos} {R:XR} {c0 C:Addr} {k:Nat}
end
section
variable {X:Cx} {e:Expr} {te:TE} {pos:Pos}
end
section
variable {prog:Program} {w:World} {A:Around} {E:Value → Shared → Prop} {h:Heap} {g:Array GenState} {d:Drawn} {t:Nat} {os:OsState}
variable {nm q:Str} {C N c0:Addr} {bs bm bmB:List Value} {hd:Bool} {sn:List Str} {sub:List Value} {ab:Bool} {col:Option Bool} {dd:Option Addr} {k0 k1 k2 k3 k5:Option Value} {B nid iid:String}
noncomputable def Q3x (K:PySem.W.Frag) (c0 C f:Addr):Bool:=excF K c0 C bmV "ValueError.__new__" f && PySem.W.findIn K (.ref C) "__init__" == some (some (.ref f)) && PySem.W.findIn K (.ref C) "__setattr__" == some (some (.builtin "object.__setattr__")) && PySem.W.findIn K (.ref C) "many" == some none && PySem.W.findIn K (.ref C) "most" == some none && PySem.W.mroIn K C (.type "object") == some true
structure Ini2 (K:PySem.W.Frag) (c0 C:Addr):Prop where
 ex:∃ (f:Addr) (fd:FuncData) (qn:Str) (st:Stmt) (p1 p2 p3 p4 q1 q2 q3 q4:Pos),Q3x K c0 C f = true ∧ Fun K "__init__" qn st f fd ∧ (∃ od osl,K.lookup f = some ⟨.type "function",od,.func fd,osl⟩) ∧ FnScope ["self","many","most"] ["self","many","most"] (Qg st) ∧
  (Qg st).names.lookup ("self" : Str) = some .local ∧ (Qg st).names.lookup ("many" : Str) = some .local ∧ (Qg st).names.lookup ("most" : Str) = some .local ∧ Binds K fd ["self","many","most"] [] ∧
  Qa9 st = [.Assign [.Attribute (.Name "self" p1) "many" p2] (.Name "many" p3) p4,.Assign [.Attribute (.Name "self" q1) "most" q2] (.Name "most" q3) q4]
end
section
variable {X:Cx} {pins:List (Addr × Obj)} {σ:St} {H:Hp} {s:Shared}
end
section
variable {X:Cx} {x:Str} {e e2:Expr} {t:TA} {pos cpos np:Pos} {R:XR} {c0 C:Addr} {k:Nat}
end
section
variable {X:Cx} {e:Expr} {te:TE} {pos:Pos}
end
section
variable {X:Cx}
noncomputable def Qu5 (K:PySem.W.Frag):V → List V → Hp → VK → Prop:=fun x vs H Q=>∃ (l:Addr) (ns:List Int) (n:Int),x = .ref l ∧ vs = [.int n] ∧ H l = some (.tup (ns.map V.int)) ∧ Q (.int (ns.count n:Nat)) H
noncomputable def isI (n:Int) (v:Value):Bool:=match v with
 | .int m _=>m == n
 | _=>false
theorem Qla (n:Int):∀ {ns:List Int} {us:List Value},Vals (ns.map V.int) us → us.countP (isI n) = ns.count n
 | [],_,.nil=>rfl
 | m :: ns,_,.cons r t=>by
  obtain ⟨tk,rfl⟩:=r
  rw [List.countP_cons,Qla n t,List.count_cons]
  rfl
theorem Qlb:∀ {ns:List Int} {us:List Value},Vals (ns.map V.int) us → ∀ y ∈ us,∃ m t,y = .int m t
 | [],_,.nil,y,h=>nomatch h
 | m :: ns,_,.cons r t,y,h=>by
  obtain ⟨tk,rfl⟩:=r
  rcases List.mem_cons.mp h with rfl | h
  ·exact ⟨m,tk,rfl⟩
  ·exact Qlb t y h
theorem Qxb:MtM X "tuple.count" (Qu5 X.K):=by
 intro pins s σ H x vs v us Q I rx rv h
 obtain ⟨l,ns,n,rfl,rfl,hH,q⟩:=h
 cases rx
 obtain ⟨u,rfl,ru⟩:=rv.one
 obtain ⟨tk,rfl⟩:=ru
 obtain ⟨hz,its,r,⟨c,dd,dt,sl⟩,e,hc,m,hd,_⟩:=(show ObjOk X.prog X.w H s.heap l (.tup (ns.map V.int)) from I.hok l _ hH)
 dsimp only at hc hd
 subst hc hd
 refine call_meets F.slot_tuple_count ⟨_,e,rfl⟩ F.entry_tuple_count (F.args_tuple_count_2 _ _) (SeqAt.tuple_countAt l _ m dd sl (.int n tk) (isI n)) ⟨e,fun y hy=>?_,?_⟩
 ·have hy:y ∈ its:=by simpa using hy
  obtain ⟨k,t',rfl⟩:=Qlb r y hy
  exact SeqAt.EqAt.int_int k t' n tk
 ·have ec:List.countP (isI n) its.toArray.toList = ns.count n:=by rw [List.toList_toArray]; exact Qla n r
  rw [ec]
  exact ⟨.int _,H,I.tok _,⟨_,rfl⟩,q⟩
theorem Qzg (K:PySem.W.Frag) (hK:X.K = K):QMt X "tuple.count" (Qu5 K):=⟨by subst hK; exact Qxb⟩
noncomputable abbrev tBMT (r:V → List V → Hp → VK → Prop) (to:TE) (t:TA):TE:=fun σ H Q=>to σ H fun x H1=>(∃ b xs,x = .ref b ∧ H1 b = some (.tup xs)) ∧ t σ H1 fun xs H2=>r x xs H2 Q
theorem Qadd {o e:Expr} {es:List Expr} {to:TE} {t:TA} {name:Str} {apos cpos:Pos} {id:String} {r:V → List V → Hp → VK → Prop} (pa:PlainAttrs "tuple") (slot:Slot "tuple" name id) (hty:typeOf (.builtin id) = pure (.type "method_descriptor")) (hm:QMt X id r) (ho:QE X o to) (ha:QA X (e :: es) t)
  (hbase:attributeBase o name X.env (eval o X.env) = eval o X.env:=by rfl)
  (hfew:((backTo cpos (starEach (e :: es) X.env)).all (fun x=>!x.1) && (backToKw cpos (keywordEach [] X.env)).all (fun x=>x.1.isSome)
   && decide ((e :: es).length + ([]:List Keyword).length + (if ([]:List Keyword).isEmpty then 0 else 1) < 30)) = true:=by rfl)
  (hline:(apos.endLine == cpos.line) = true:=by rfl) (hs:Q1 e = true:=by rfl) (hplain:(backTo cpos (starEach es X.env)).any (·.1) = false:=by rfl) :
  QE X (.Call (.Attribute o name apos) (e :: es) [] cpos) (tBMT r to t):=by
 refine ⟨fun pins s σ H Q I h=>?_⟩
 refine wpAny_Call_method_late hbase hfew hline rfl (thn (ho.h pins s σ H _ I h) fun v s1 ⟨x,H1,I1,r1,ty,q1⟩=>?_)
 obtain ⟨b,xs,rfl,hb⟩:=ty
 cases r1
 obtain ⟨_,its,_,ob,e1,c1,n1,_,d1⟩:=(show ObjOk X.prog X.w H1 s1.heap b (.tup xs) from I1.hok b _ hb)
 refine ⟨"tuple",id,pa,slot,hty,⟨ob,e1,c1⟩,fun a z=>by cases z; exact ⟨ob,e1,d1⟩,?_⟩
 have hA:=ha.h cpos pins s1 σ H1 _ I1 q1
 rw [Qbm hs] at hA ⊢
 refine Calls.callWith_builtin (by show (false || (backTo cpos (starEach es X.env)).any (·.1)) = false; rw [hplain] <;> rfl) (Calls.evalArgs_plain ?_)
 exact thn hA fun us s2 ⟨vs,H2,I2,r2,q2⟩=>hm.h pins s2 σ H2 (.ref b) vs (.ref b) us Q I2 rfl r2 q2
end
noncomputable def keyD:Key → PyData
 | .inl i=>.int i
 | .inr x=>.str x
mutual
noncomputable def pyD:T → PyData
 | .non=>.none
 | .bl b=>.bool b
 | .int i=>.int i
 | .str x=>.str x
 | .tup ts=>.tuple (Qm6 ts)
 | .lst ts=>.list (Qm6 ts)
 | .dct ks ts=>.dict ((ks.map keyD).zip (Qm6 ts))
 | .dtt _ _=>.none
 | .clo _ _=>.none
noncomputable def Qm6:List T → List PyData
 | []=>[]
 | t :: ts=>pyD t :: Qm6 ts
end
mutual
noncomputable def Qeg:T → Bool
 | .tup ts=>Qlc ts
 | .lst ts=>Qlc ts
 | .dct _ _=>false
 | .clo _ _=>false
 | .dtt _ _=>false
 | _=>true
noncomputable def Qlc:List T → Bool
 | []=>true
 | t :: ts=>Qeg t && Qlc ts
end
mutual
theorem Qq8:∀ t:T,Qeg t = true → (pyD t).hasDict = false
 | .non,_=>by simp only [pyD,PyData.hasDict]
 | .bl _,_=>by simp only [pyD,PyData.hasDict]
 | .int _,_=>by simp only [pyD,PyData.hasDict]
 | .str _,_=>by simp only [pyD,PyData.hasDict]
 | .tup ts,h=>by simp only [pyD,PyData.hasDict]; exact Qfj ts (by simpa only [Qeg] using h)
 | .lst ts,h=>by simp only [pyD,PyData.hasDict]; exact Qfj ts (by simpa only [Qeg] using h)
 | .dct _ _,h=>by simp only [Qeg] at h; cases h
 | .clo _ _,h=>by simp only [Qeg] at h; cases h
 | .dtt _ _,h=>by simp only [Qeg] at h; cases h
theorem Qfj:∀ ts:List T,Qlc ts = true → PyData.hasDictAll (Qm6 ts) = false
 | [],_=>by simp only [Qm6,PyData.hasDictAll]
 | t :: ts,h=>by
  simp only [Qlc,Bool.and_eq_true] at h
  simp only [Qm6,PyData.hasDictAll,Qq8 t h.1,Qfj ts h.2,Bool.or_false]
end
section
variable {P:Program} {w:World} {H:Hp} {h:Heap}
mutual
theorem Qzh (ok:HOk P w H h):∀ (t:T) {v:V} {u:Value},Qeg t = true → Is H v t → RelV v u → ∃ as,Reads h u (pyD t) as
 | .non,v,u,_,i,r=>by unfold Is at i; subst i; cases r; exact ⟨_,by unfold pyD; exact .none⟩
 | .bl b,v,u,_,i,r=>by unfold Is at i; subst i; cases r; exact ⟨_,by unfold pyD; exact .bool b⟩
 | .int n,v,u,_,i,r=>by unfold Is at i; subst i; obtain ⟨t,rfl⟩:=r; exact ⟨_,by unfold pyD; exact .int n t⟩
 | .str x,v,u,_,i,r=>by unfold Is at i; subst i; obtain ⟨t,rfl⟩:=r; exact ⟨_,by unfold pyD; exact .str x t⟩
 | .tup ts,v,u,f,i,r=>by
  obtain ⟨a,vs,rfl,ha,q⟩:=i.tup_inv
  cases r
  obtain ⟨_,its,rv,o,e,c,n,d,_⟩:=(show ObjOk P w H h a (.tup vs) from ok a _ ha)
  obtain ⟨as,R⟩:=Qju ok ts (by simpa only [Qeg] using f) q rv
  exact ⟨as,by unfold pyD; exact .tuple e c d (by simpa using R)⟩
 | .lst ts,v,u,f,i,r=>by
  obtain ⟨a,vs,rfl,ha,q⟩:=i.lst_inv
  cases r
  obtain ⟨_,its,n,rv,e⟩:=(show ObjOk P w H h a (.lst vs) from ok a _ ha)
  obtain ⟨as,R⟩:=Qju ok ts (by simpa only [Qeg] using f) q rv
  exact ⟨a :: as,by unfold pyD; exact .list e rfl rfl (by simpa using R)⟩
 | .dct _ _,v,u,f,i,r=>by simp only [Qeg] at f; cases f
 | .clo _ _,v,u,f,i,r=>by simp only [Qeg] at f; cases f
 | .dtt _ _,v,u,f,i,r=>by simp only [Qeg] at f; cases f
theorem Qju (ok:HOk P w H h):∀ (ts:List T) {vs:List V} {us:List Value},Qlc ts = true → IsL H vs ts → Vals vs us → ∃ as,ReadsAll h us (Qm6 ts) as
 | [],vs,us,_,i,r=>by
  rw [i.nil_inv] at r
  cases r
  exact ⟨_,by unfold Qm6; exact .nil⟩
 | t :: ts,vs,us,f,i,r=>by
  obtain ⟨v,w',rfl,iv,iw⟩:=i.cons_inv
  simp only [Qlc,Bool.and_eq_true] at f
  cases r with
  | cons r0 rr =>
   obtain ⟨as,R⟩:=Qzh ok t f.1 iv r0
   obtain ⟨bs,R2⟩:=Qju ok ts f.2 iw rr
   exact ⟨_,by unfold Qm6; exact .cons R R2⟩
end
end
noncomputable def isD:T → Bool
 | .dct [] []=>true
 | .dct [.inr _] [.int _]=>true
 | _=>false
noncomputable def shOk (t:T):Bool:=(pyD t).showable && decide ((pyD t).shown.length ≤ sizeLine) && decide ((pyD t).depth ≤ 40) && (Qeg t || isD t)
section
variable {X:Cx}
end
noncomputable def OkD:Nat → T → Bool
 | _,.non=>true
 | _,.bl _=>true
 | _,.int i=>decide (i.natAbs < 10 ^ 31)
 | _,.str x=>decide (x.cps.size ≤ 2) && x.cps.toList.all fun c=>decide (c < 16 ^ 8)
 | n + 1,.tup ts=>decide (ts.length ≤ 16) && ts.all (OkD n)
 | n + 1,.lst ts=>decide (ts.length ≤ 16) && ts.all (OkD n)
 | _,_=>false
structure ShD (c d:Nat) (t:T):Prop where
 b:(pyD t).bulk ≤ c
 l:(pyD t).leavesShort 32 = true
 s:(pyD t).showable = true
 d:(pyD t).depth ≤ d
 f:Qeg t = true
namespace Z
section
variable {H:Hp} {S:Addr → Prop} {x y:V} {Q:VK} {K:PySem.W.Frag}
noncomputable def Sm (r:Nat) (D:Hp) (x:V):Prop:=∃ t,Is D x t ∧ OkD r t = true
variable {r:Nat}
end
end Z
end L2
namespace PySem
open Sem (wp)
open AutoSeq1 (wpAny_loadPart')
section
variable {prog:Program} {w:World} {A:Around} {E:Value → Shared → Prop} {s:Shared}
theorem wpAny_collect_range {Q:List Value → Shared → Prop} {r:Addr} {a b c:Int} {t u v:Tok} {n:Nat} (hh:A.handled = none) (hr:IsRange s.heap r a b c t u v) (hsmall:Builtin.Range.small a b c = true)
  (hn:Builtin.Range.rangeSize a b c = n) (hlen:n ≤ 2 ^ 24)
  (hQ:∀ h' tk acc,(∀ b o',s.heap.get? b = some o' → h'.get? b = some o') → ItemsOf (fun i v=>∃ t,v = .int (a + i * c) t) acc n → Q acc.toList { s with heap:=h',toks:=tk }) :
  wpAny (model prog w) A (collect (.ref r)) Q E s:=by
 unfold collect
 refine wpAny_bind (wpAny_runValue (codeAny_builtin F.entry_proto_collect ?_))
 rw [Around.under_plainId F.plain_proto_collect _]
 show wpAny _ A.in1 (newList [] >>= fun l=>again (.builtin "list.__iadd__" ⟨[l,.ref r],[]⟩)) _ _ s
 refine wpAny_bind (wpAny_newObj_type ?_)
 refine wpAny_pure ⟨plainId_quiet F.plain_list_iadd _,codeAny_builtin F.entry_list_iadd ?_⟩
 rw [Around.under_plainId F.plain_list_iadd _]
 show wpAny _ A.in1 (Builtin.List.listExtendWith (.ref s.heap.objs.size) (.ref r) (.ref s.heap.objs.size)) _ _ _
 have hS:(s.heap.push { cls:=.type "list",data:=.seq ([]:List Value).toArray }).get? s.heap.objs.size = some { cls:=.type "list",data:=.seq #[] 0 }:=Heap.get?_push_size _ rfl
 refine wpAny_mono (wpAny_extend_range (A:=A) (R:=fun q s'=>q = .ok (.ret (.ref s.heap.objs.size)) ∧ ∃ h' tk acc c',s' = { s with heap:=h',toks:=tk } ∧ (∀ b o,s.heap.get? b = some o → h'.get? b = some o) ∧ h'.get? s.heap.objs.size = some { cls:=.type "list",dict:=none,data:=.seq acc c',slots:=#[] } ∧ ItemsOf (fun i v=>∃ t,v = .int (a + i * c) t) acc n)
  (s:={ s with heap:=s.heap.push { cls:=.type "list",data:=.seq ([]:List Value).toArray } }) hh (Heap.get?_push_of_some _ hr) hsmall hn hlen _ (.ref s.heap.objs.size) 0 hS
  fun h' tk acc' c' hk hS' hacc=>⟨rfl,h',tk,acc',c',rfl,fun b o e=>hk b o (Nat.ne_of_lt (Heap.lt_size e)) (Heap.get?_push_of_some _ e),hS',hacc⟩) (fun fin s' h=>?_) (fun e s' h=>?_)
 ·have fin' : ∀ h' tk acc c', (∀ b o, s.heap.get? b = some o → h'.get? b = some o) → h'.get? s.heap.objs.size = some { cls := .type "list", dict := none, data := .seq acc c', slots := #[] } → ItemsOf (fun i v => ∃ t, v = .int (a + i * c) t) acc n → wpAny (model prog w) A (match Value.ref s.heap.objs.size with
    | Value.ref a=>do
     match (← load a).data with
      | Data.seq xs _=>pure xs.toList
      | _=>unsupported "internal:collect"
    | _=>unsupported "internal:collect") Q E { s with heap:=h',toks:=tk }:=fun h' tk acc c' hk hS' hacc=>by
   show wpAny _ A (load s.heap.objs.size >>= _) _ _ _
   refine wpAny_bind (wpAny_load hS' ?_)
   exact wpAny_pure (hQ h' tk acc hk hacc)
  cases fin with
  | done f =>
   obtain ⟨e,h',tk,acc,c',rfl,hk,hS',hacc⟩:=h
   cases e
   exact fin' h' tk acc c' hk hS' hacc
  | again c'=>exact ⟨h.1,codeAny_mono h.2 fun q s'' hq=>by obtain ⟨rfl,h',tk,acc,c',rfl,hk,hS',hacc⟩:=hq; exact fin' h' tk acc c' hk hS' hacc⟩
 ·exact absurd h.1 (by simp)
end
theorem meets_tuple_new_range {r:Addr} {a b c:Int} {t u v:Tok} {n:Nat} (hsmall:Builtin.Range.small a b c = true) (hn:Builtin.Range.rangeSize a b c = n) (hlen:n ≤ 2 ^ 24) (hz:n ≤ sizeLine) :
  Meets (Builtin.«tuple.__new__» ⟨[.type "tuple",.ref r],[]⟩)
   (fun A R s=>A.handled = none ∧ IsRange s.heap r a b c t u v ∧ ∀ (h':Heap) (tk:Nat) (acc:Array Value),(∀ b o',s.heap.get? b = some o' → h'.get? b = some o') → ItemsOf (fun i v=>∃ t,v = .int (a + i * c) t) acc n → R (.ok (.ret (.ref h'.objs.size))) { s with heap:=h'.push { cls:=.type "tuple",data:=.seq acc },toks:=tk }) :=
 .of_wp fun prog w A R s h=>by
  obtain ⟨hp,g,d,tk,os⟩:=s; obtain ⟨hh,ht,h⟩:=h
  have hsub:=sub_tuple_self
  have hinit:=init_tuple_lookup
  have hmh:=madeHere_tuple
  have hT:Shared.TypeIs ⟨hp,g,d,tk,os⟩ (.ref r) "range" := ⟨_,ht,rfl⟩
  wp_walk using wpAny_loadPart' ht,wpAny_typeOf hT,wpAny_collect_range (A:=A.in1) hh ht hsmall hn hlen
  intro h' tk' acc hk hacc
  show wpAny _ _ (Builtin.Tuple.tupleExact acc.toList.toArray >>= fun v=>ret v) _ _ _
  unfold Builtin.Tuple.tupleExact
  refine wpAny_bind (wpAny_newObj_type ?_ (by show acc.toList.toArray.size ≤ sizeLine; simp only [Array.toArray_toList]; rw [hacc.1]; exact hz))
  refine wpAny_pure ⟨_,rfl,?_⟩
  have e:acc.toList.toArray = acc:=by simp
  rw [e]
  exact h h' tk' acc hk hacc
theorem call_tuple_range {prog:Program} {w:World} {A:Around} {E:Value → Shared → Prop} {s:Shared} {Q:Value → Shared → Prop} {r:Addr} {a b c:Int} {t u v:Tok} {n:Nat} (hh:A.handled = none) (hr:IsRange s.heap r a b c t u v) (hsmall:Builtin.Range.small a b c = true) (hn:Builtin.Range.rangeSize a b c = n) (hlen:n ≤ 2 ^ 24) (hz:n ≤ sizeLine)
  (h:∀ (h':Heap) (tk:Nat) (acc:Array Value),(∀ b o',s.heap.get? b = some o' → h'.get? b = some o') → ItemsOf (fun i v=>∃ t,v = .int (a + i * c) t) acc n → Q (.ref h'.objs.size) { s with heap:=h'.push { cls:=.type "tuple",data:=.seq acc },toks:=tk }) :
  wpAny (model prog w) A (call (.type "tuple") [.ref r]) Q E s :=
 callType_new F.called_tuple (by decide) (F.typeCall_tuple_1 _) (F.newCall_tuple_1 _) (fun obj=>F.args_object_init_2 obj _) F.entry_tuple_new
  (meets_tuple_new_range hsmall hn hlen hz) ⟨hh,hr,fun h' tk acc hk hacc=>⟨⟨_,Heap.get?_push_size _ rfl,rfl⟩,h h' tk acc hk hacc⟩⟩
end PySem
namespace L2
open PySem PySem.Spec PyProof.Rows
section
variable {X:Cx}
theorem Qq9:∀ {xs:List V} {us:List Value},xs.length = us.length → (∀ (j:Nat) x u,xs[j]? = some x → us[j]? = some u → RelV x u) → Vals xs us
 | [],[],_,_=>.nil
 | [],_ :: _,h,_=>by cases h
 | _ :: _,[],h,_=>by cases h
 | x :: xs,u :: us,h,g=>.cons (g 0 x u rfl rfl) (Qq9 (by simpa using h) fun j a b e1 e2=>g (j + 1) a b (by rw [List.getElem?_cons_succ]; exact e1) (by rw [List.getElem?_cons_succ]; exact e2))
theorem Qtd {lo:Int} {n:Nat} {acc:Array Value} (h:ItemsOf (fun i v=>∃ t,v = Value.int (lo + i * 1) t) acc n):Vals (Qm5 lo n) acc.toList:=by
 refine Qq9 (by rw [Qk6,Array.length_toList,h.1]) fun j x u e1 e2=>?_
 obtain ⟨_,rfl⟩:=Qyx e1
 obtain ⟨t,rfl⟩:=h.2 j u (by simpa using e2)
 exact ⟨t,by simp⟩
noncomputable def Q3y:List V → Hp → VK → Prop:=fun xs H Q=>∃ j:Int,xs = [.int j] ∧ ∀ p,H p = none → Q (.ref p) (upd H p (.rng 0 j))
theorem Qzi:QCl X (.type "range") Q3y:=⟨by
 intro pins s σ H xs us Q I r h
 obtain ⟨j,rfl,q⟩:=h
 obtain ⟨u,rfl,⟨t,rfl⟩⟩:=Qe9 r
 refine call_range_1 ⟨.ref s.heap.objs.size,_,I.laid (o:=.rng 0 j) (fun b o e=>Heap.get?_push_of_some _ e) (Nat.le_refl _) ?_,rfl,q _ I.fresh⟩
 exact ⟨_,_,_,Heap.get?_push_size _ rfl⟩⟩
noncomputable def Qade:List V → Hp → VK → Prop:=fun xs H Q=>∃ (p:Addr) (lo hi:Int),xs = [.ref p] ∧ H p = some (.rng lo hi) ∧ (-(2 ^ 62) ≤ lo ∧ lo < 2 ^ 62 ∧ -(2 ^ 62) ≤ hi ∧ hi < 2 ^ 62) ∧ (hi - lo).toNat ≤ 100000 ∧ ∀ l,H l = none → Q (.ref l) (upd H l (.tup (Qm5 lo (hi - lo).toNat)))
theorem Q89 (hc:X.calm = true:=by rfl):QCl X (.type "tuple") Qade:=⟨by
 intro pins s σ H xs us Q I r h
 obtain ⟨p,lo,hi,rfl,hp,⟨h1,h2,h3,h4⟩,hz,q⟩:=h
 obtain ⟨u,rfl,rx⟩:=Qe9 r
 cases rx
 obtain ⟨t,u,v,e⟩:=(show ObjOk X.prog X.w H s.heap p (.rng lo hi) from I.hok p _ hp)
 have hsz:(hi - lo).toNat ≤ sizeLine:=Qbj hz
 refine call_tuple_range (n:=(hi - lo).toNat) (I.ok.hd hc) e (small_one h1 h2 h3 h4) (by rw [rangeSize_one]; split <;> omega) (by omega) hsz fun h' tk acc hk hacc=>?_
 have I1:Inv X pins σ H { s with heap:=h' }:=I.kept (t':=s.toks) hk
 have I2:Inv X pins σ (upd H h'.objs.size (.tup (Qm5 lo (hi - lo).toNat))) { s with heap:=h'.push { cls:=.type "tuple",data:=.seq acc },toks:=tk } :=
  I1.laid (t':=tk) (fun b o e=>Heap.get?_push_of_some _ e) (Nat.le_refl _) (show ObjOk X.prog X.w _ _ _ (.tup (Qm5 lo (hi - lo).toNat)) from ⟨by rw [Qk6]; exact hsz,acc.toList,Qtd hacc,by have:=IsTupD.new h' acc; simpa using this⟩)
 exact ⟨.ref h'.objs.size,_,I2,rfl,q _ (I1.hok.fresh (Nat.le_refl _))⟩⟩
end
end L2
namespace L2
open PySem PySem.Spec PyProof.Rows PySem.W PySem.Calls
noncomputable def runK {α:Type} (lt:Nat → Nat → Bool):KasT α → α
 | .ret a=>a
 | .ask i j k=>runK lt (k (lt i j))
noncomputable def ordK (n:Nat) (lt:Nat → Nat → Bool):List Nat:=if n < 2 then List.range n else (runK lt (kas_sort n)).toList
noncomputable def pick {α:Type} (vs:List α) (d:α) (is:List Nat):List α:=is.map fun i=>vs.getD i d
noncomputable abbrev ltK (ks:List (List Int)):Nat → Nat → Bool:=fun i j=>HT.lexLt (ks.getD i []) (ks.getD j [])
noncomputable def Qzj (ks:List (List Int)):List (List Int):=pick ks [] (ordK ks.length (ltK ks))
noncomputable def Q57:List (List Int) → Bool
 | []=>true
 | k :: _=>!k.isEmpty
end L2
namespace L2
open PySem PySem.Spec PyProof.Rows PySem.W PySem.Calls
noncomputable def Qu6 (k:List Int):Int:=reduceHash (Builtin.Tuple.tupleHashOf (k.map hashInt))
noncomputable def Qld (ks:List (List Int)) (j:Nat):List Int:=ks.getD j []
noncomputable def hAt (ks:List (List Int)) (es:Array Nat) (i:Nat):Int:=(es[i]?.map fun x=>Qu6 (Qld ks x)).getD 0
noncomputable def Qadh (ks:List (List Int)) (j:Nat) (r:SetTable × Array Nat):Option (SetTable × Array Nat) :=
 match r.1.probe (hAt ks r.2) (Qu6 (Qld ks j)) (r.1.probeStart (Qu6 (Qld ks j))) with
 | some (.empty s none) =>
  if (r.1.put s).1.fits (SetTable.insertAt r.2 (r.1.put s).2 j).size && !(r.1.put s).1.tooFull && !(r.1.put s).1.gaveWay && decide ((SetTable.insertAt r.2 (r.1.put s).2 j).size ≤ 1000) then some ((r.1.put s).1,SetTable.insertAt r.2 (r.1.put s).2 j) else none
 | some (.candidate _ i _)=>match r.2[i]? with
  | some x=>if Qld ks x = Qld ks j then some r else none
  | none=>none
 | _=>none
noncomputable def Qzk (led:Bool) (ks:List (List Int)):Nat → Option (SetTable × Array Nat)
 | 0=>some (.fresh 0 0 led,#[])
 | n + 1=>match Qzk led ks n with
  | some r=>Qadh ks n r
  | none=>none
noncomputable def Qadi (t:SetTable):Nat → Nat
 | 0=>0
 | i + 1=>t.place.getD i 0 + 1
noncomputable def Qzl (t:SetTable) (n:Nat):Bool:=(List.range (n + 1)).all fun i=>SetTable.below t.place (Qadi t i) == i
noncomputable def Qu7 (x:Nat):List Nat → List (List Nat)
 | []=>[[x]]
 | y :: ys=>(x :: y :: ys) :: (Qu7 x ys).map (y :: ·)
noncomputable def Q58:List Nat → List (List Nat)
 | []=>[[]]
 | x :: xs=>(Q58 xs).flatMap (Qu7 x)
noncomputable def Qte (ks:List (List Int)) (is:List Nat):List (List Int):=pick ks [] is
noncomputable def srtS (ks:List (List Int)):Option (List (List Int)) :=
 match Qzk true ks ks.length,Qzk false ks ks.length with
 | some (t,es),some (t',es') =>
  if Qzl t es.size && decide (es.size < 6) && (es.toList.all fun j=>decide (j < ks.length) && !(Qld ks j).isEmpty) && decide (es'.toList = es.toList) &&
    (Q58 es.toList).all (fun is=>decide (Qzj (Qte ks is) = Qzj (Qte ks es.toList))) then some (Qzj (Qte ks es.toList)) else none
 | _,_=>none
end L2
namespace L2
open PySem PySem.Spec PyProof.Rows PySem.W PySem.Calls
noncomputable abbrev btx (w:World):Bool:=w.params.followText "set-order"
structure SOk (w:World) (es:Array (Int × Value)) (t:SetTable):Prop where
 fits:t.fits es.size = true
 plain:t.plain = true
 led:btx w = false → t.led = true
 wk:btx w = false → Qzl t es.size = true
section
variable {prog:Program} {w:World} {A:Around} {E:Value → Shared → Prop} {s:Shared} {it d:Addr} {i ep:Nat} {es:Array (Int × Value)} {t:SetTable}
end
set_option genInjectivity false
set_option genSizeOf false
inductive PV where
 | fz (t:T) | ow (t:T) | sl (i:Nat)
inductive Slot where
 | un | fz (t:T) | ow (t:T) | ml (t:T) | ro (t:T) | pin (a:Addr)
noncomputable abbrev En:=List Slot
structure Xn where
 c:Nat
 arg:List Int
inductive Out (α:Type) where
 | ok (a:α) (ρ:En) | xn (x:Xn) (ρ:En) | no
noncomputable def Out.bind {α β:Type} (o:Out α) (k:α → En → Out β):Out β:=match o with
 | .ok a ρ=>k a ρ
 | .xn x ρ=>.xn x ρ
 | .no=>.no
noncomputable def Out.opt {α:Type} (o:Option α) (ρ:En):Out α:=match o with
 | some a=>.ok a ρ
 | none=>.no
noncomputable def Slot.prv:Slot → Option T
 | .ow t=>some t | .ml t=>some t | .ro t=>some t | _=>none
noncomputable def Slot.mut:Slot → Bool
 | .ow (.lst _)=>true | .ml (.lst _)=>true | _=>false
noncomputable def Slot.mutD:Slot → Bool
 | .ow (.dtt _ _)=>true | .ml (.dtt _ _)=>true | _=>false
noncomputable def Slot.put (t:T):Slot → Slot
 | .ow _=>.ow t | .ml _=>.ml t | s=>s
noncomputable def Slot.lend:Slot → Slot
 | .ow t=>.ml t | .pin _=>.un | s=>s
noncomputable def Qa (ρ:En) (i:Nat):Slot:=match ρ[i]? with
 | some s=>s
 | none=>.un
noncomputable def cont (ρ:En):PV → Option T
 | .fz t=>some t
 | .ow t=>some t
 | .sl i=>(Qa ρ i).prv
noncomputable def frz:PV → Option T
 | .fz t=>some t
 | .ow t=>some t
 | .sl _=>none
noncomputable def Qdv:List PV → Option (List T)
 | []=>some []
 | r :: rs=>match frz r,Qdv rs with
  | some t,some ts=>some (t :: ts)
  | _,_=>none
inductive BOp where
 | add | sub | mul | fdv | mod | pow | shl | shr | band
inductive COp where
 | eq | ne | lt | le | gt | ge | isn | isnn | inn | nin
inductive Bi where
 | len | abs | all | any | sum | max | min | dvm | int | list | tup | repr | dct | lstD | dcl | maxT | srt | srtS
inductive Tg where
 | nm (i:Nat) | tp (is:List Nat)
mutual
inductive E where
 | var (i:Nat) | int (i:Int) | bl (b:Bool) | non | str (x:Str)
 | tup (es:Es) | lst (es:Es)
 | bin (o:BOp) (a b:E) | neg (a:E)
 | not (a:E) | and (a b:E) | or (a b:E) | ite (c a b:E)
 | cmp (o:COp) (a b:E)
 | isI (a:E) (n:String)
 | inR (ng:Bool) (a lo hi:E)
 | call (f:Nat) (es:Es)
 | bi (b:Bi) (es:Es)
 | cnt (a b:E)
 | ix (a i:E) | slc (a:E) (lo hi:Es) | rev (a:E)
 | comp (w:W) (js:List (Option Nat)) (tg:Tg) (cs:Es) (e:E)
 | tupR (l:Bool) (a:E)
 | dnew | din (ng:Bool) (k d:E) | dix (d k:E)
 | tcall (f:Nat) (es:Es) | lstR2 (a b:E) | lit (t:T) | dg1 (d k:E) | dg2 (d k x:E) | d1 (k x:E)
 | app (i:Nat) (es:Es) | lam (k:Nat) (js:List Nat) | lix (i:Nat) (a:E) | compS (i:Nat) (js:List (Option Nat)) (tg:Tg) (cs:Es) (e:E) | compZ (i j:Nat) (js:List (Option Nat)) (tg:Tg) (cs:Es) (e:E) | chl (a b c:E) | orv (a b:E)
 | fzE (e:E) | bad
inductive Es where
 | nil | cons (e:E) (es:Es)
inductive W where
 | seq (e:E) | rng1 (a:E) | rng2 (a b:E) | enm (e:E) | zip (a b:E) | dks (e:E)
end
inductive S where
 | nil | seq (a b:S) | expr (e:E) | set (i:Nat) (e:E) | setF (i:Nat) (e:E) | unp (is:List Nat) (e:E) | par (i j:Nat) (a b:E)
 | app (i:Nat) (e:E) | ext (i:Nat) (e:E) | put (i:Nat) (k e:E) | dput (i:Nat) (k e:E)
 | ret (e:E) | retN | ite (c:E) (a b:S) | whl (c:E) (b:S) | for_ (w:W) (tg:Tg) (b:S) | forS (i:Nat) (tg:Tg) (b:S) | extL (i:Nat) (e:E)
 | brk | cnt | frz (i:Nat) | raise (c:Nat) (es:Es) | scr (i a b f:Nat) (c1 c2:E) | ins (i:Nat) (k e:E) | rem (i:Nat) (e:E) | nest (iF iR iH iW iS iT iN:Nat) (a0 a:S) (c v e1 e2:E) | parO (i j:Nat) (a b:E) | tryR (i:Nat) (b:S) (h:Nat → List Int → Option T) | bad
inductive Arg where
 | fz (t:T) | ml (t:T) | ro (t:T)
inductive FR where
 | ok (r:PV) (fin:List T) | xn (x:Xn) (fin:List T) | no
inductive SO where
 | nx (ρ:En) | rt (r:PV) (ρ:En) | bk (ρ:En) | ct (ρ:En) | xn (x:Xn) (ρ:En) | no
noncomputable abbrev CF:=Nat → List Arg → FR
noncomputable def Qcy (i j:Int):Bool:=decide (i.natAbs < 2 ^ 64) || (decide (j.natAbs < 2 ^ 64) || ((decide (i.natAbs < 2 ^ 250) && decide (j.natAbs < 2 ^ 250)) || (decide (i.natAbs.log2 < 9000) && decide (j.natAbs.log2 < 9000))))
noncomputable def asI:T → Option Int
 | .int i=>some i
 | _=>none
noncomputable def opN:BOp → Int → Int → Option PV
 | .add,i,j=>some (.fz (.int (i + j)))
 | .sub,i,j=>some (.fz (.int (i - j)))
 | .mul,i,j=>if Qcy i j = true then some (.fz (.int (i * j))) else none
 | .fdv,i,j=>if 0 < j ∧ j.natAbs < 2 ^ 64 then some (.fz (.int (i / j))) else if j ≠ 0 ∧ j.natAbs < 2 ^ 250 then some (.fz (.int (i.fdiv j))) else none
 | .mod,i,j=>if 0 < j then some (.fz (.int (i % j))) else if j < 0 then some (.fz (.int (i.fmod j))) else none
 | .pow,i,j=>if 0 ≤ j ∧ j.natAbs ≤ 1000000 ∧ i.natAbs < 2 ^ 64 then some (.fz (.int (i ^ j.toNat))) else none
 | .shl,i,j=>if 0 ≤ j ∧ j.natAbs ≤ 64 ∧ i.natAbs < 2 ^ 64 then some (.fz (.int (i * 2 ^ j.toNat))) else none
 | .shr,i,j=>if 0 ≤ j ∧ j.natAbs ≤ 64 then some (.fz (.int (i / 2 ^ j.toNat))) else none
 | .band,i,j=>if j = 1 then some (.fz (.int (i % 2))) else none
noncomputable def Q9a:T → T → Option PV
 | .tup a,.tup b=>if a.length + b.length ≤ 100000 then some (.fz (.tup (a ++ b))) else none
 | .lst a,.lst b=>if a.length + b.length ≤ 100000 then some (.ow (.lst (a ++ b))) else none
 | _,_=>none
noncomputable def Q9b:T → Option Int → Option PV
 | .tup a,some k=>if a.length * k.toNat ≤ 100000 ∧ 1 ≤ k ∧ k.natAbs ≤ 100000 ∧ a ≠ [] then some (.fz (.tup (List.replicate k.toNat a).flatten)) else none
 | .lst a,some k=>if a.length * k.toNat ≤ 100000 ∧ 1 ≤ k ∧ k.natAbs ≤ 100000 then some (.ow (.lst (List.replicate k.toNat a).flatten)) else none
 | _,_=>none
noncomputable def opX:BOp → T → T → Option PV
 | .add,t,u=>Q9a t u
 | .mul,t,u=>Q9b t (asI u)
 | _,_,_=>none
noncomputable def opB (o:BOp) (t u:T):Option PV:=match asI t,asI u with
 | some i,some j=>opN o i j
 | _,_=>opX o t u
noncomputable def Qle:T → Bool
 | .non=>true | .bl _=>true | .int _=>true | .str _=>true | _=>false
noncomputable def eqO:T → T → Option Bool
 | .int i,.int j=>some (decide (i = j))
 | .bl i,.bl j=>some (decide (i = j))
 | .str i,.str j=>some (decide (i = j))
 | .non,.non=>some true
 | .non,.int _=>some false | .int _,.non=>some false | .non,.bl _=>some false | .bl _,.non=>some false | .non,.str _=>some false | .str _,.non=>some false
 | .int _,.str _=>some false | .str _,.int _=>some false | .bl _,.str _=>some false | .str _,.bl _=>some false
 | .tup a,.tup b=>if Qm 50 (.tup a) = true ∧ Qm 50 (.tup b) = true then some (eqT (.tup a) (.tup b)) else none
 | .lst a,.lst b=>if Qm 50 (.lst a) = true ∧ Qm 50 (.lst b) = true then some (eqT (.lst a) (.lst b)) else none
 | _,_=>none
noncomputable def Qeq:T → Bool
 | .non=>true
 | _=>false
noncomputable def Qxc (f:Int → Int → Bool) (t u:T):Option Bool:=match asI t,asI u with
 | some i,some j=>some (f i j)
 | _,_=>none
noncomputable def Qgi:T → Option (List T)
 | .lst a=>some a
 | .tup a=>some a
 | _=>none
noncomputable def inO (x t:T):Option Bool:=match Qgi t with
 | some ts=>if Qm 49 x = true ∧ ts.all (Qm 49) = true then some (ts.any fun u=>eqT u x) else none
 | none=>none
noncomputable def opC:COp → T → T → Option Bool
 | .eq,a,b=>eqO a b
 | .ne,a,b=>(eqO a b).map (!·)
 | .lt,a,b=>Qxc (fun i j=>decide (i < j)) a b
 | .le,a,b=>Qxc (fun i j=>decide (i ≤ j)) a b
 | .gt,a,b=>Qxc (fun i j=>decide (j < i)) a b
 | .ge,a,b=>Qxc (fun i j=>decide (j ≤ i)) a b
 | .isn,a,b=>if Qeq b then some (Qeq a) else none
 | .isnn,a,b=>if Qeq b then some (!Qeq a) else none
 | .inn,a,b=>inO a b
 | .nin,a,b=>(inO a b).map (!·)
noncomputable def truT:T → Option Bool
 | .bl b=>some b
 | .int i=>some (decide (i ≠ 0))
 | _=>none
noncomputable def Qe1:List T → Option (List Bool)
 | []=>some []
 | t :: ts=>match truT t,Qe1 ts with
  | some b,some bs=>some (b :: bs)
  | _,_=>none
noncomputable def Qdc:List T → Option (List Int)
 | []=>some []
 | .int i :: ts=>match Qdc ts with
  | some is=>some (i :: is)
  | none=>none
 | _ :: _=>none
noncomputable def Qe2:List (List Int) → List T → List Int → Option T
 | j :: ks,t :: ts,k=>if j = k then some t else Qe2 ks ts k
 | _,_,_=>none
noncomputable def Qzm:List (List Int) → List T → List Int → T → List T
 | j :: ks,t :: ts,k,u=>(if j = k then u else t) :: Qzm ks ts k u
 | _,_,_,_=>[]
noncomputable def Qkf (ks:List (List Int)) (ts:List T) (k:List Int) (u:T):T:=match Qe2 ks ts k with
 | some _=>.dtt ks (Qzm ks ts k u)
 | none=>.dtt (ks ++ [k]) (ts ++ [u])
noncomputable def Qlf:Option T → Bool
 | some (.dtt _ _)=>true
 | _=>false
noncomputable def Qfb:PV → Option (List Int)
 | .fz (.tup us)=>Qdc us
 | _=>none
noncomputable def Qzn:List T → Option (List (List Int))
 | []=>some []
 | .tup us :: ts=>match Qdc us,Qzn ts with
  | some k,some ks=>some (k :: ks)
  | _,_=>none
 | _=>none
noncomputable def Qkg:Int → List Int → Int
 | m,[]=>m
 | m,x :: xs=>Qkg (if m < x then x else m) xs
noncomputable def minI:Int → List Int → Int
 | m,[]=>m
 | m,x :: xs=>minI (if x < m then x else m) xs
noncomputable def Qjv:Bi → List T → Option PV
 | .len,[.lst a]=>some (.fz (.int a.length))
 | .len,[.tup a]=>some (.fz (.int a.length))
 | .abs,[.int i]=>some (.fz (.int (if i < 0 then -i else i)))
 | .all,[.lst a]=>(Qe1 a).map fun bs=>.fz (.bl (bs.all id))
 | .any,[.lst a]=>(Qe1 a).map fun bs=>.fz (.bl (bs.any id))
 | .sum,[.lst a]=>(Qdc a).map fun is=>.fz (.int is.sum)
 | .max,[.int i,.int j]=>some (.fz (.int (if j > i then j else i)))
 | .min,[.int i,.int j]=>some (.fz (.int (if j < i then j else i)))
 | .srt,[.lst a]=>match Qzn a with
  | some ks=>if ks.length < 64 ∧ Q57 ks = true then some (.ow (.lst ((Qzj ks).map fun k=>T.tup (k.map T.int)))) else none
  | none=>none
 | .srt,[.dtt ks _]=>if ks.length < 64 ∧ Q57 ks = true ∧ ks.all (fun k=>decide (k.length ≤ 100000)) = true then some (.ow (.lst ((Qzj ks).map fun k=>T.tup (k.map T.int)))) else none
 | .srtS,[.lst a]=>match Qzn a with
  | some ks=>match srtS ks with
   | some r=>some (.ow (.lst (r.map fun k=>T.tup (k.map T.int))))
   | none=>none
  | none=>none
 | .maxT,[.tup a]=>match Qdc a with
  | some (x :: xs)=>some (.fz (.int (Qkg x xs)))
  | _=>none
 | .max,[.lst a]=>match Qdc a with
  | some (x :: xs)=>some (.fz (.int (Qkg x xs)))
  | _=>none
 | .min,[.lst a]=>match Qdc a with
  | some (x :: xs)=>some (.fz (.int (minI x xs)))
  | _=>none
 | .dvm,[.int i,.int j]=>if 0 < j ∧ j.natAbs < 2 ^ 64 then some (.fz (.tup [.int (i / j),.int (i % j)])) else none
 | .int,[.int i]=>some (.fz (.int i))
 | .int,[.bl b]=>some (.fz (.int (if b then 1 else 0)))
 | .list,[.lst a]=>some (.ow (.lst a))
 | .list,[.tup a]=>some (.ow (.lst a))
 | .tup,[.lst a]=>some (.fz (.tup a))
 | .tup,[.tup a]=>some (.fz (.tup a))
 | .lstD,[.dtt ks _]=>if ks.length ≤ 100000 ∧ ks.all (fun k=>decide (k.length ≤ 100000)) = true then some (.ow (.lst (ks.map fun k=>T.tup (k.map T.int)))) else none
 | .dct,[.dtt [k] [t]]=>some (.ow (.dtt [k] [t]))
 | .dcl,[.lst [.tup [.tup us,t]]]=>match Qdc us with
  | some is=>some (.ow (.dtt [is] [t]))
  | none=>none
 | .repr,[t]=>if shOk t = true then some (.fz (.str (pyD t).shown)) else none
 | _,_=>none
noncomputable def Qzo:T → T → Option T
 | .lst a,.int i=>atI a i
 | .tup a,.int i=>atI a i
 | _,_=>none
noncomputable def Qxd:T → Option Int → Option Int → Option PV
 | .lst a,lo,hi=>some (.ow (.lst (Qdz a lo hi)))
 | .tup a,lo,hi=>some (.fz (.tup (Qdz a lo hi)))
 | _,_,_=>none
noncomputable def Qlg:List PV → Option (Option Int)
 | []=>some none
 | [.fz (.int i)]=>some (some i)
 | _=>none
noncomputable def Qaa (ρ:En):List PV → Option (List T)
 | []=>some []
 | r :: rs=>match cont ρ r,Qaa ρ rs with
  | some t,some ts=>some (t :: ts)
  | _,_=>none
noncomputable def Qlh (n:String):Bool:=n == "int" || n == "bool" || n == "tuple" || n == "list" || n == "dict" || n == "str"
noncomputable def Qas (ρ:En):PV → Option Arg
 | .fz t=>some (.fz t)
 | .ow t=>some (.fz t)
 | .sl i=>match Qa ρ i with
  | .ow t=>some (.ml t)
  | .ml t=>some (.ml t)
  | .ro t=>some (.ro t)
  | _=>none
noncomputable def Qy (ρ:En):List PV → Option (List Arg)
 | []=>some []
 | r :: rs=>match Qas ρ r,Qy ρ rs with
  | some t,some ts=>some (t :: ts)
  | _,_=>none
noncomputable def Qv:List PV → Bool
 | []=>true
 | .sl i :: rs=>(rs.all fun r=>match r with | .sl j=>i != j | _=>true) && Qv rs
 | _ :: rs=>Qv rs
noncomputable def Qj:List PV → Nat → Option Nat
 | [],_=>none
 | .sl j :: rs,i=>if j = i then some 0 else (Qj rs i).map (· + 1)
 | .fz _ :: rs,i=>(Qj rs i).map (· + 1)
 | .ow _ :: rs,i=>(Qj rs i).map (· + 1)
noncomputable def Q0 (rs:List PV) (fin:List T) (i:Nat) (s:Slot):Slot:=match Qj rs i with
 | some k=>match fin[k]? with
  | some t=>s.put t
  | none=>s
 | none=>s
noncomputable def Qn (rs:List PV) (fin:List T):Nat → En → En
 | _,[]=>[]
 | i,s :: ρ=>Q0 rs fin i s :: Qn rs fin (i + 1) ρ
noncomputable def Qa4 (ρ:En) (rs:List PV) (fin:List T):En:=Qn rs fin 0 ρ
noncomputable def Qgs (cf:CF) (f:Nat) (rs:List PV) (ρ:En):Out PV :=
 if Qv rs = true then
  match Qy ρ rs with
  | some as=>match cf f as with
   | .ok r fin=>.ok r (Qa4 ρ rs fin)
   | .xn x fin=>.xn x (Qa4 ρ rs fin)
   | .no=>.no
  | none=>.no
 else .no
noncomputable def fzL:List PV → Option (List T)
 | []=>some []
 | .fz t :: rs=>match fzL rs with
  | some ts=>some (t :: ts)
  | none=>none
 | _ :: _=>none
noncomputable def Q9c (cf:CF) (f:Nat) (rs:List PV) (ρ:En):Out PV:=match rs with
 | .ow t :: rs'=>match fzL rs' with
  | some ts=>match cf f (.ml t :: ts.map Arg.fz) with
   | .ok r _=>.ok r ρ
   | .xn x _=>.xn x ρ
   | .no=>.no
  | none=>.no
 | _=>.no
noncomputable def Qbs (i:Nat) (s:Slot) (ρ:En):Option En:=if i < ρ.length then (match Qa ρ i with
 | .ml _=>none
 | .ro _=>none
 | .pin _=>none
 | _=>some (ρ.set i s)) else none
noncomputable def Qcz:List Nat → List T → En → Option En
 | [],[],ρ=>some ρ
 | i :: is,t :: ts,ρ=>match Qbs i (.fz t) ρ with
  | some ρ'=>Qcz is ts ρ'
  | none=>none
 | _,_,_=>none
noncomputable def Qfc:Tg → T → En → Option En
 | .nm i,t,ρ=>Qbs i (.fz t) ρ
 | .tp is,.tup ts,ρ=>Qcz is ts ρ
 | .tp _,_,_=>none
noncomputable def Qde (js:List (Option Nat)) (ρ:En):En:=js.map fun o=>match o with
 | none=>.un
 | some j=>(Qa ρ j).lend
noncomputable def Qh0 (js:List (Option Nat)) (ρi:En) (j:Nat) (s:Slot):Slot:=match js.idxOf? (some j) with
 | some k=>match Qa ρi k with
  | .ml t=>s.put t
  | _=>s
 | none=>s
noncomputable def Qdm (js:List (Option Nat)) (ρi:En):Nat → En → En
 | _,[]=>[]
 | j,s :: ρ=>Qh0 js ρi j s :: Qdm js ρi (j + 1) ρ
noncomputable def Qkh (js:List (Option Nat)) (ρi ρ:En):En:=Qdm js ρi 0 ρ
noncomputable def Qdx (tg:Tg) (c:En → Out Bool) (e:En → Out PV):List T → List T → En → Out (List T)
 | [],acc,ρ=>.ok acc ρ
 | x :: xs,acc,ρ=>match Qfc tg x ρ with
  | none=>.no
  | some ρ1=>(c ρ1).bind fun b ρ2=>if b then (e ρ2).bind fun r ρ3=>match frz r with
    | some t=>if acc.length < 100000 then Qdx tg c e xs (acc ++ [t]) ρ3 else .no
    | none=>.no
   else Qdx tg c e xs acc ρ2
noncomputable def Qer:En → En → Bool
 | .ml _ :: ρ0,s :: ρ=>(match s with | .ml _=>true | _=>false) && Qer ρ0 ρ
 | _ :: ρ0,_ :: ρ=>Qer ρ0 ρ
 | [],[]=>true
 | _,_=>false
noncomputable def Qb5:List (Option Nat) → Bool
 | []=>true
 | some i :: rs=>(rs.all fun r=>match r with | some j=>i != j | none=>true) && Qb5 rs
 | none :: rs=>Qb5 rs
noncomputable def Qak (o:Out PV):Out Bool:=o.bind fun r ρ=>match r with
 | .fz (.bl b)=>.ok b ρ
 | _=>.no
noncomputable def Q5 (lo:Int) (n:Nat):List T:=(List.range n).map fun i=>T.int (lo + (i:Nat))
noncomputable def Q9d:Nat → List T → List T
 | _,[]=>[]
 | n,t :: ts=>.tup [.int n,t] :: Q9d (n + 1) ts
noncomputable def Qzp:List T → List T → List T
 | x :: xs,y :: ys=>.tup [x,y] :: Qzp xs ys
 | _,_=>[]
noncomputable def Qpb:List Nat → En → Option (List T)
 | [],_=>some []
 | j :: js,ρ=>match Qa ρ j,Qpb js ρ with
  | .fz t,some ts=>some (t :: ts)
  | _,_=>none
noncomputable def Qu8 (o:Out PV):Out PV:=match o with
 | .ok r ρ=>.ok r ρ
 | _=>.no
noncomputable def Qtf:Slot → Bool
 | .fz (.clo _ _)=>true
 | _=>false
noncomputable def Qzq (cf:CF) (i:Nat) (rs:List PV) (ρ:En):Out PV:=match Qa ρ i with
 | .fz (.clo k ts)=>Qu8 (Qgs cf k (rs ++ ts.map PV.fz) ρ)
 | _=>.no
noncomputable def Qjw:PV → Option Nat
 | .sl i=>some i
 | _=>none
noncomputable def ixI (n:Int):List Int → Option Nat
 | []=>none
 | m :: ms=>if m = n then some 0 else (ixI n ms).map (· + 1)
noncomputable def ixOf (n:Int):Option T → Option Int
 | some (.lst ts)=>match Qdc ts with
  | some is=>if is.length ≤ 1000 then (ixI n is).map fun j=>(j:Int) else none
  | none=>none
 | _=>none
noncomputable def insT (ts:List T) (n:Nat) (t:T):List T:=ts.take n ++ t :: ts.drop n
mutual
noncomputable def evE (cf:CF):E → En → Out PV
 | .var i,ρ=>match Qa ρ i with
  | .fz t=>.ok (.fz t) ρ
  | .un=>.no
  | .pin _=>.no
  | _=>.ok (.sl i) ρ
 | .int i,ρ=>.ok (.fz (.int i)) ρ
 | .bl b,ρ=>.ok (.fz (.bl b)) ρ
 | .non,ρ=>.ok (.fz .non) ρ
 | .str x,ρ=>.ok (.fz (.str x)) ρ
 | .tup es,ρ=>(evA cf es ρ).bind fun rs ρ1=>match Qdv rs with
  | some ts=>if ts.length ≤ 100000 then .ok (.fz (.tup ts)) ρ1 else .no
  | none=>.no
 | .lst es,ρ=>(evA cf es ρ).bind fun rs ρ1=>match Qdv rs with
  | some ts=>if ts.length ≤ 100000 then .ok (.ow (.lst ts)) ρ1 else .no
  | none=>.no
 | .bin o a b,ρ=>(evE cf a ρ).bind fun ra ρ1=>(evE cf b ρ1).bind fun rb ρ2=>match cont ρ2 ra,cont ρ2 rb with
  | some x,some y=>.opt (opB o x y) ρ2
  | _,_=>.no
 | .neg a,ρ=>(evE cf a ρ).bind fun ra ρ1=>match ra with
  | .fz (.int i)=>.ok (.fz (.int (-i))) ρ1
  | _=>.no
 | .not a,ρ=>(Qak (evE cf a ρ)).bind fun b ρ1=>.ok (.fz (.bl (!b))) ρ1
 | .and a b,ρ=>(Qak (evE cf a ρ)).bind fun c ρ1=>if c then (Qak (evE cf b ρ1)).bind fun d ρ2=>.ok (.fz (.bl d)) ρ2 else .ok (.fz (.bl false)) ρ1
 | .or a b,ρ=>(Qak (evE cf a ρ)).bind fun c ρ1=>if c then .ok (.fz (.bl true)) ρ1 else (Qak (evE cf b ρ1)).bind fun d ρ2=>.ok (.fz (.bl d)) ρ2
 | .ite c a b,ρ=>(Qak (evE cf c ρ)).bind fun k ρ1=>if k then evE cf a ρ1 else evE cf b ρ1
 | .cmp o a b,ρ=>(evE cf a ρ).bind fun ra ρ1=>(evE cf b ρ1).bind fun rb ρ2=>match cont ρ2 ra,cont ρ2 rb with
  | some x,some y=>match opC o x y with
   | some k=>.ok (.fz (.bl k)) ρ2
   | none=>.no
  | _,_=>.no
 | .isI a n,ρ=>(evE cf a ρ).bind fun ra ρ1=>match cont ρ1 ra with
  | some t=>if Qlh n && !Qhz t then .ok (.fz (.bl (Qk5 (tyT t) n))) ρ1 else .no
  | none=>.no
 | .inR ng a lo hi,ρ=>(evE cf a ρ).bind fun ra ρ1=>(evE cf lo ρ1).bind fun rl ρ2=>(evE cf hi ρ2).bind fun rh ρ3=>match ra,rl,rh with
  | .fz (.int i),.fz (.int l),.fz (.int h)=>.ok (.fz (.bl (if ng then !decide (l ≤ i ∧ i < h) else decide (l ≤ i ∧ i < h)))) ρ3
  | _,_,_=>.no
 | .call f es,ρ=>(evA cf es ρ).bind fun rs ρ1=>Qgs cf f rs ρ1
 | .bi b es,ρ=>(evA cf es ρ).bind fun rs ρ1=>match Qaa ρ1 rs with
  | some ts=>.opt (Qjv b ts) ρ1
  | none=>.no
 | .cnt a b,ρ=>(evE cf a ρ).bind fun ra ρ1=>match ra with
  | .fz (.tup ts)=>(evE cf b ρ1).bind fun rb ρ2=>match rb,Qdc ts with
   | .fz (.int j),some is=>.ok (.fz (.int (is.count j:Nat))) ρ2
   | _,_=>.no
  | _=>.no
 | .ix a i,ρ=>(evE cf a ρ).bind fun ra ρ1=>(evE cf i ρ1).bind fun rb ρ2=>match cont ρ2 ra,cont ρ2 rb with
  | some x,some y=>match Qzo x y with
   | some t=>.ok (.fz t) ρ2
   | none=>.no
  | _,_=>.no
 | .slc a lo hi,ρ=>(evE cf a ρ).bind fun ra ρ1=>(evA cf lo ρ1).bind fun rl ρ2=>match Qlg rl with
  | none=>.no
  | some l=>(evA cf hi ρ2).bind fun rh ρ3=>match Qlg rh with
   | none=>.no
   | some h=>match cont ρ3 ra with
    | some x=>.opt (Qxd x l h) ρ3
    | none=>.no
 | .rev a,ρ=>(evE cf a ρ).bind fun ra ρ1=>match ra with
  | .fz (.tup ts)=>.ok (.fz (.tup ts.reverse)) ρ1
  | _=>.no
 | .comp w js tg cs e,ρ=>(evW cf w ρ).bind fun its ρ1=>match its.2 with
  | some _=>.no
  | none=>match Qdx tg (evC cf cs) (evE cf e) its.1 [] (Qde js ρ1) with
   | .ok ts ρi=>if Qer (Qde js ρ1) ρi = true ∧ Qb5 js = true then .ok (.ow (.lst ts)) (Qkh js ρi ρ1) else .no
   | _=>.no
 | .compS i js tg cs e,ρ=>match (Qa ρ i).prv with
  | some (.lst ts)=>if js.all (fun j=>decide (j ≠ some i)) = true then match Qdx tg (evC cf cs) (evE cf e) ts [] (Qde js ρ) with
   | .ok us ρi=>if Qer (Qde js ρ) ρi = true ∧ Qb5 js = true then .ok (.ow (.lst us)) (Qkh js ρi ρ) else .no
   | _=>.no
   else .no
  | _=>.no
 | .orv a b,ρ=>(evE cf a ρ).bind fun ra ρ1=>match ra with
  | .fz .non=>evE cf b ρ1
  | .fz (.tup [])=>evE cf b ρ1
  | .fz (.tup (x :: xs))=>.ok (.fz (.tup (x :: xs))) ρ1
  | _=>.no
 | .chl a b c,ρ=>(evE cf a ρ).bind fun ra ρ1=>(evE cf b ρ1).bind fun rb ρ2=>match ra,rb with
  | .fz (.int i),.fz (.int j)=>if i ≤ j then (evE cf c ρ2).bind fun rc ρ3=>match rc with
   | .fz (.int k)=>.ok (.fz (.bl (decide (j ≤ k)))) ρ3
   | _=>.no
   else .ok (.fz (.bl false)) ρ2
  | _,_=>.no
 | .compZ i j js tg cs e,ρ=>match (Qa ρ i).prv,Qa ρ j with
  | some (.lst ts),.fz (.lst us)=>if js.all (fun j=>decide (j ≠ some i)) = true then match Qdx tg (evC cf cs) (evE cf e) (Qzp ts us) [] (Qde js ρ) with
   | .ok us ρi=>if Qer (Qde js ρ) ρi = true ∧ Qb5 js = true then .ok (.ow (.lst us)) (Qkh js ρi ρ) else .no
   | _=>.no
   else .no
  | _,_=>.no
 | .lix i a,ρ=>if (Qa ρ i).mut = true then (evE cf a ρ).bind fun r ρ1=>match r with
  | .fz (.int n)=>(match ixOf n ((Qa ρ1 i).prv) with
   | some j=>.ok (.fz (.int j)) ρ1
   | none=>.no)
  | _=>.no
  else .no
 | .tupR l a,ρ=>(evE cf a ρ).bind fun r ρ1=>match r with
  | .fz (.int j)=>if j.natAbs ≤ 100000 then .ok (if l then .ow (.lst (Q5 0 j.toNat)) else .fz (.tup (Q5 0 j.toNat))) ρ1 else .no
  | _=>.no
 | .lstR2 a b,ρ=>(evE cf a ρ).bind fun r ρ1=>(evE cf b ρ1).bind fun r2 ρ2=>match r,r2 with
  | .fz (.int i),.fz (.int j)=>if i.natAbs ≤ 100000 ∧ j.natAbs ≤ 100000 ∧ (j - i).natAbs ≤ 100000 then .ok (.ow (.lst (Q5 i (j - i).toNat))) ρ2 else .no
  | _,_=>.no
 | .lit t,ρ=>.ok (.fz t) ρ
 | .dg1 d k,ρ=>(evE cf d ρ).bind fun rd ρ1=>if Qlf (cont ρ1 rd) = true then (evE cf k ρ1).bind fun rk ρ2=>match Qfb rk,cont ρ2 rd with
   | some is,some (.dtt ks ts)=>.ok (.fz ((Qe2 ks ts is).getD .non)) ρ2
   | _,_=>.no
  else .no
 | .dg2 d k x,ρ=>(evE cf d ρ).bind fun rd ρ1=>if Qlf (cont ρ1 rd) = true then (evE cf k ρ1).bind fun rk ρ2=>(evE cf x ρ2).bind fun rx ρ3=>match Qfb rk,cont ρ3 rd,rx with
   | some is,some (.dtt ks ts),.fz u=>.ok (.fz ((Qe2 ks ts is).getD u)) ρ3
   | _,_,_=>.no
  else .no
 | .dnew,ρ=>.ok (.ow (.dtt [] [])) ρ
 | .d1 k x,ρ=>(evE cf k ρ).bind fun rk ρ1=>(evE cf x ρ1).bind fun rx ρ2=>match Qfb rk,rx with
  | some is,.fz t=>.ok (.ow (.dtt [is] [t])) ρ2
  | _,_=>.no
 | .tcall f es,ρ=>(evA cf es ρ).bind fun rs ρ1=>Q9c cf f rs ρ1
 | .din ng k d,ρ=>(evE cf k ρ).bind fun rk ρ1=>(evE cf d ρ1).bind fun rd ρ2=>match Qfb rk,cont ρ2 rd with
  | some is,some (.dtt ks ts)=>.ok (.fz (.bl (if ng then !(Qe2 ks ts is).isSome else (Qe2 ks ts is).isSome))) ρ2
  | _,_=>.no
 | .dix d k,ρ=>(evE cf d ρ).bind fun rd ρ1=>(evE cf k ρ1).bind fun rk ρ2=>match Qfb rk,cont ρ2 rd with
  | some is,some (.dtt ks ts)=>match Qe2 ks ts is with
   | some t=>.ok (.fz t) ρ2
   | none=>.no
  | _,_=>.no
 | .app i es,ρ=>if Qtf (Qa ρ i) = true then (evA cf es ρ).bind fun rs ρ1=>Qzq cf i rs ρ1 else .no
 | .lam k js,ρ=>match Qpb js ρ with
  | some ts=>.ok (.fz (.clo k ts)) ρ
  | none=>.no
 | .fzE e,ρ=>(evE cf e ρ).bind fun r ρ1=>match frz r with
  | some t=>.ok (.fz t) ρ1
  | none=>.no
 | .bad,_=>.no
noncomputable def evA (cf:CF):Es → En → Out (List PV)
 | .nil,ρ=>.ok [] ρ
 | .cons e es,ρ=>(evE cf e ρ).bind fun r ρ1=>(evA cf es ρ1).bind fun rs ρ2=>.ok (r :: rs) ρ2
noncomputable def evC (cf:CF):Es → En → Out Bool
 | .nil,ρ=>.ok true ρ
 | .cons e .nil,ρ=>Qak (evE cf e ρ)
 | .cons _ _,_=>.no
noncomputable def evW (cf:CF):W → En → Out (List T × Option Nat)
 | .seq e,ρ=>(evE cf e ρ).bind fun r ρ1=>match cont ρ1 r with
  | some t=>match Qgi t with
   | some ts=>.ok (ts,Qjw r) ρ1
   | none=>.no
  | none=>.no
 | .rng1 a,ρ=>(evE cf a ρ).bind fun r ρ1=>match r with
  | .fz (.int j)=>if j.natAbs ≤ 100000 then .ok (Q5 0 j.toNat,none) ρ1 else .no
  | _=>.no
 | .rng2 a b,ρ=>(evE cf a ρ).bind fun r ρ1=>(evE cf b ρ1).bind fun r2 ρ2=>match r,r2 with
  | .fz (.int i),.fz (.int j)=>if i.natAbs ≤ 100000 ∧ j.natAbs ≤ 100000 then .ok (Q5 i (j - i).toNat,none) ρ2 else .no
  | _,_=>.no
 | .enm e,ρ=>(evE cf e ρ).bind fun r ρ1=>match cont ρ1 r with
  | some (.lst ts)=>.ok (Q9d 0 ts,Qjw r) ρ1
  | _=>.no
 | .zip a b,ρ=>(evE cf a ρ).bind fun r ρ1=>(evE cf b ρ1).bind fun r2 ρ2=>match r,r2 with
  | .fz (.tup xs),.fz (.tup ys)=>.ok (Qzp xs ys,none) ρ2
  | .fz (.lst xs),.fz (.tup ys)=>.ok (Qzp xs ys,none) ρ2
  | .fz (.lst xs),.fz (.lst ys)=>.ok (Qzp xs ys,none) ρ2
  | _,_=>.no
 | .dks e,ρ=>(evE cf e ρ).bind fun r ρ1=>match r with
  | .fz (.dtt ks _)=>if ks.all (fun k=>decide (k.length ≤ 100000)) = true then .ok (ks.map fun k=>T.tup (k.map T.int),none) ρ1 else .no
  | _=>.no
end
noncomputable def SO.seq (o:SO) (k:En → SO):SO:=match o with
 | .nx ρ=>k ρ
 | o=>o
noncomputable def ofO {α:Type} (o:Out α) (k:α → En → SO):SO:=match o with
 | .ok a ρ=>k a ρ
 | .xn x ρ=>.xn x ρ
 | .no=>.no
noncomputable def Qau {α:Type} (o:Option α) (k:α → SO):SO:=match o with
 | some a=>k a
 | none=>.no
noncomputable def Qgm (c:En → Out Bool) (b:En → SO):Nat → En → SO
 | 0,_=>.no
 | n + 1,ρ=>ofO (c ρ) fun k ρ1=>if k then (match b ρ1 with
   | .nx ρ2=>Qgm c b n ρ2
   | .ct ρ2=>Qgm c b n ρ2
   | .bk ρ2=>.nx ρ2
   | o=>o) else .nx ρ1
noncomputable def Qdf (tg:Tg) (b:En → SO):List T → En → SO
 | [],ρ=>.nx ρ
 | x :: xs,ρ=>match Qfc tg x ρ with
  | none=>.no
  | some ρ1=>match b ρ1 with
   | .nx ρ2=>Qdf tg b xs ρ2
   | .ct ρ2=>Qdf tg b xs ρ2
   | .bk ρ2=>.nx ρ2
   | o=>o
noncomputable def Q9e (i:Nat) (tg:Tg) (b:En → SO):Nat → Nat → En → SO
 | 0,_,_=>.no
 | m + 1,n,ρ=>match Qa ρ i with
  | .ro (.lst us)=>match us[n]? with
   | none=>.nx ρ
   | some x=>match Qfc tg x ρ with
    | none=>.no
    | some ρ1=>match b ρ1 with
     | .nx ρ2=>Q9e i tg b m (n + 1) ρ2
     | .ct ρ2=>Q9e i tg b m (n + 1) ρ2
     | .bk ρ2=>.nx ρ2
     | o=>o
  | _=>.no
noncomputable def unE (i:Nat) (ρ:En):Option En:=match Qa ρ i with
 | .ro t=>some (ρ.set i (.ow t))
 | _=>none
noncomputable def unl (i:Nat):SO → SO
 | .nx ρ=>Qau (unE i ρ) .nx
 | .rt (.fz t) ρ=>Qau (unE i ρ) (.rt (.fz t))
 | _=>.no
noncomputable def Qra (o:SO):SO:=match o with
 | .xn _ _=>.no
 | o=>o
noncomputable def Qtg (i:Nat) (r:PV) (ρ:En):SO:=match r with
 | .fz t=>Qau (Qbs i (.fz t) ρ) .nx
 | .ow t=>Qau (Qbs i (.ow t) ρ) .nx
 | .sl _=>.no
noncomputable def Qadl:Slot → Bool
 | .un=>true
 | .fz _=>true
 | _=>false
noncomputable abbrev Qn7 (is:List Int):T:=.lst (is.map T.int)
noncomputable abbrev Qdy (M:List (List Int)):T:=.lst (M.map Qn7)
noncomputable def nRow (fA:En → SO) (iF iR iH:Nat) (Ms:List (List (List Int))) (R:List (List Int)) (ρ:En):Option (List (List Int) × En) :=
 match fA ((ρ.set iF (.ro (.lst (Ms.map Qdy)))).set iR (.ro (.lst (R.map Qn7)))) with
 | .nx ρ1=>match Qa ρ1 iF,Qa ρ1 iR,Qa ρ1 iH with
  | .ro _,.ro _,.ow (.lst us)=>match Qdc us with
   | some is=>if is.length ≤ 1000 ∧ R.length < 1000 then some (R ++ [is],((((ρ1.set iR (.ow (.lst (R.map Qn7)))).set iF (.ow (.lst (Ms.map Qdy)))).set iH (.fz (Qn7 is))).set iR (.ow (.lst ((R ++ [is]).map Qn7))))) else none
   | none=>none
  | _,_,_=>none
 | _=>none
noncomputable def Q59 (fA:En → SO) (iF iR iH iW:Nat) (Ms:List (List (List Int))) (R0:List (List Int)) (ρ0:En):Nat → Option (List (List Int) × En)
 | 0=>some (R0,ρ0)
 | n + 1=>match Q59 fA iF iR iH iW Ms R0 ρ0 n with
  | some q=>if iW < q.2.length then nRow fA iF iR iH Ms q.1 (q.2.set iW (.fz (.int n))) else none
  | none=>none
noncomputable def nTab (f0 fA:En → SO) (iF iR iH iW iS:Nat) (Ms:List (List (List Int))) (ρ:En):Option (List (List (List Int)) × En) :=
 match f0 (ρ.set iF (.ro (.lst (Ms.map Qdy)))) with
 | .nx ρ1=>match Qa ρ1 iF,Qa ρ1 iR,Qa (ρ1.set iF (.ow (.lst (Ms.map Qdy)))) iS with
  | .ro _,.ow (.lst []),.fz (.int j)=>if j.natAbs ≤ 1000 then (match Q59 fA iF iR iH iW Ms [] (ρ1.set iF (.ow (.lst (Ms.map Qdy)))) j.toNat with
   | some q=>if q.1.length ≤ 1000 ∧ Ms.length < 1000 then some (Ms ++ [q.1],(q.2.set iR (.fz (Qdy q.1))).set iF (.ow (.lst ((Ms ++ [q.1]).map Qdy)))) else none
   | none=>none) else none
  | _,_,_=>none
 | _=>none
noncomputable def Q6a (f0 fA:En → SO) (iF iR iH iW iS iT:Nat) (ρ0:En):Nat → Option (List (List (List Int)) × En)
 | 0=>some ([],ρ0)
 | n + 1=>match Q6a f0 fA iF iR iH iW iS iT ρ0 n with
  | some q=>if iT < q.2.length then nTab f0 fA iF iR iH iW iS q.1 (q.2.set iT (.fz (.int n))) else none
  | none=>none
noncomputable def Q9f:Slot → Slot
 | .ml (.lst ts)=>if (Qdc ts).isSome = true then .ml (.lst ts) else .un
 | _=>.un
noncomputable def nPut (fV f1 f2:En → Out PV) (iF:Nat):List (List (List Int)) → En → Option En
 | [],_=>none
 | M :: Ms,ρ=>if (M :: Ms).length ≤ 1000 then (match fV (ρ.set iF (.ro (.lst ((M :: Ms).map Qdy)))) with
  | .ok (.fz (.int v)) ρ1=>(match Qa ρ1 iF,f1 (ρ1.set iF (.ro (.lst ((M :: Ms).map Qdy)))) with
   | .ro _,.ok (.fz (.int j)) ρ2=>(match Qa ρ2 iF,f2 (ρ2.set iF (.ro (.lst ((M :: Ms).map Qdy)))) with
    | .ro _,.ok (.fz (.int k)) ρ3=>(match Qa ρ3 iF,ixN M.length j with
     | .ro _,some x=>(match M[x]? with
      | some is=>(match ixN is.length k with
       | some y=>some ((ρ3.map Q9f).set iF (.ow (.lst ((M.set x (is.set y v) :: Ms).map Qdy))))
       | none=>none)
      | none=>none)
     | _,_=>none)
    | _,_=>none)
   | _,_=>none)
  | _=>none) else none
noncomputable def Qadm (f0 fA:En → SO) (fc:En → Out Bool) (fV f1 f2:En → Out PV) (iF iR iH iW iS iT iN:Nat) (ρ:En):SO :=
 match Qa ρ iF,Qa ρ iN with
 | .ow (.lst []),.fz (.int n)=>if n.natAbs ≤ 1000 then (match Q6a f0 fA iF iR iH iW iS iT ρ n.toNat with
  | some q=>if q.1.length ≤ 1000 then (match fc (q.2.set iF (.ro (.lst (q.1.map Qdy)))) with
   | .ok b ρ2=>(match Qa ρ2 iF with
    | .ro _=>if b = true then (match nPut fV f1 f2 iF q.1 (ρ2.set iF (.ow (.lst (q.1.map Qdy)))) with
     | some ρ3=>.nx ρ3
     | none=>.no) else .nx (ρ2.set iF (.ow (.lst (q.1.map Qdy))))
    | _=>.no)
   | _=>.no) else .no
  | none=>.no) else .no
 | _,_=>.no
noncomputable def exS (cf:CF):S → En → SO
 | .nil,ρ=>.nx ρ
 | .seq a b,ρ=>(exS cf a ρ).seq (exS cf b)
 | .expr e,ρ=>ofO (evE cf e ρ) fun _ ρ1=>.nx ρ1
 | .set i e,ρ=>ofO (evE cf e ρ) fun r ρ1=>Qtg i r ρ1
 | .setF i e,ρ=>ofO (evE cf e ρ) fun r ρ1=>match frz r with
  | some t=>Qau (Qbs i (.fz t) ρ1) .nx
  | none=>.no
 | .unp is e,ρ=>ofO (evE cf e ρ) fun r ρ1=>match r with
  | .fz (.tup ts)=>Qau (Qcz is ts ρ1) .nx
  | _=>.no
 | .par i j a b,ρ=>ofO (evE cf a ρ) fun ra ρ1=>ofO (evE cf b ρ1) fun rb ρ2=>match ra,rb with
  | .fz x,.fz y=>Qau (Qcz [i,j] [x,y] ρ2) .nx
  | _,_=>.no
 | .app i e,ρ=>if (Qa ρ i).mut = true then ofO (evE cf e ρ) fun r ρ1=>match frz r with
   | none=>.no
   | some t=>match Qa ρ1 i with
    | .ow (.lst ts)=>if ts.length < 100000 then .nx (ρ1.set i (.ow (.lst (ts ++ [t])))) else .no
    | .ml (.lst ts)=>if ts.length < 100000 then .nx (ρ1.set i (.ml (.lst (ts ++ [t])))) else .no
    | _=>.no
  else .no
 | .ext i e,ρ=>if (Qa ρ i).mut = true then ofO (evE cf e ρ) fun r ρ1=>match r with
   | .fz (.tup us)=>match Qa ρ1 i with
    | .ow (.lst ts)=>if ts.length + us.length ≤ 100000 then .nx (ρ1.set i (.ow (.lst (ts ++ us)))) else .no
    | .ml (.lst ts)=>if ts.length + us.length ≤ 100000 then .nx (ρ1.set i (.ml (.lst (ts ++ us)))) else .no
    | _=>.no
   | _=>.no
  else .no
 | .put i k e,ρ=>ofO (evE cf e ρ) fun r ρ1=>match frz r with
  | none=>.no
  | some t=>if (Qa ρ1 i).mut = true then ofO (evE cf k ρ1) fun rk ρ2=>match rk with
    | .fz (.int j)=>match Qa ρ2 i with
     | .ow (.lst ts)=>Qau (ixN ts.length j) fun n=>.nx (ρ2.set i (.ow (.lst (ts.set n t))))
     | .ml (.lst ts)=>Qau (ixN ts.length j) fun n=>.nx (ρ2.set i (.ml (.lst (ts.set n t))))
     | _=>.no
    | _=>.no
   else .no
 | .dput i k e,ρ=>ofO (evE cf e ρ) fun r ρ1=>match frz r with
  | none=>.no
  | some t=>if (Qa ρ1 i).mutD = true then ofO (evE cf k ρ1) fun rk ρ2=>match Qfb rk with
    | some is=>match Qa ρ2 i with
     | .ow (.dtt ks ts)=>if ks.length < 100000 then .nx (ρ2.set i (.ow (Qkf ks ts is t))) else .no
     | .ml (.dtt ks ts)=>if ks.length < 100000 then .nx (ρ2.set i (.ml (Qkf ks ts is t))) else .no
     | _=>.no
    | none=>.no
   else .no
 | .ret e,ρ=>ofO (evE cf e ρ) fun r ρ1=>.rt r ρ1
 | .retN,ρ=>.rt (.fz .non) ρ
 | .ite c a b,ρ=>ofO (Qak (evE cf c ρ)) fun k ρ1=>if k then exS cf a ρ1 else exS cf b ρ1
 | .whl c b,ρ=>Qra (Qgm (fun ρ=>Qak (evE cf c ρ)) (exS cf b) 1000000 ρ)
 | .for_ w tg b,ρ=>Qra (ofO (evW cf w ρ) fun its ρ1=>match its.2 with
  | some _=>.no
  | none=>Qdf tg (exS cf b) its.1 ρ1)
 | .extL i e,ρ=>if (Qa ρ i).mut = true then ofO (evE cf e ρ) fun r ρ1=>match r with
   | .ow (.lst us)=>match Qa ρ1 i with
    | .ow (.lst ts)=>if ts.length + us.length ≤ 100000 then .nx (ρ1.set i (.ow (.lst (ts ++ us)))) else .no
    | _=>.no
   | _=>.no
  else .no
 | .forS i tg b,ρ=>match Qa ρ i with
  | .ow (.lst ts)=>unl i (Q9e i tg (exS cf b) 100001 0 (ρ.set i (.ro (.lst ts))))
  | _=>.no
 | .brk,ρ=>.bk ρ
 | .cnt,ρ=>.ct ρ
 | .frz i,ρ=>match Qa ρ i with
  | .ow t=>.nx (ρ.set i (.fz t))
  | .ml _=>.no
  | .ro _=>.no
  | _=>.nx ρ
 | .raise c es,ρ=>ofO (evA cf es ρ) fun rs ρ1=>match rs with
  | [.fz (.int i)]=>if 6 ≤ c ∧ c < 9 then .xn ⟨c,[i]⟩ ρ1 else .no
  | [.fz (.str _)]=>if c < 6 then .xn ⟨c,[]⟩ ρ1 else .no
  | [.fz (.int i),.fz (.int j)]=>if c = 9 then .xn ⟨c,[i,j]⟩ ρ1 else .no
  | _=>.no
 | .ins i k e,ρ=>if (Qa ρ i).mut = true then ofO (evE cf k ρ) fun rk ρ1=>match rk with
   | .fz (.int j)=>ofO (evE cf e ρ1) fun r ρ2=>match r with
    | .fz t=>match Qa ρ2 i with
     | .ow (.lst ts)=>if ts.length < 100000 ∧ 0 ≤ j ∧ j ≤ ts.length then .nx (ρ2.set i (.ow (.lst (insT ts j.toNat t)))) else .no
     | _=>.no
    | _=>.no
   | _=>.no
  else .no
 | .rem i e,ρ=>if (Qa ρ i).mut = true then ofO (evE cf e ρ) fun r ρ1=>match r with
   | .fz (.int n)=>match Qa ρ1 i with
    | .ow (.lst ts)=>match Qdc ts with
     | some is=>match ixI n is with
      | some j=>.nx (ρ1.set i (.ow (.lst (ts.eraseIdx j))))
      | none=>.no
     | none=>.no
    | _=>.no
   | _=>.no
  else .no
 | .scr i a b f c1 c2,ρ=>if ρ.all Qadl = true then (match Qa ρ a,Qa ρ b with
  | .fz (.int x),.fz (.int y)=>match cf f [.fz (.int x),.fz (.int y)] with
   | .ok (.fz (.tup [u,.lst ts])) _=>match Qbs i (.fz (.tup [u,.lst ts])) ρ with
    | some ρ1=>match Qak (evE cf c1 ρ1) with
     | .ok false _=>match Qak (evE cf c2 ρ1) with
      | .ok false _=>if ts.length < 100000 then .nx (ρ.set i .un) else .no
      | _=>.no
     | _=>.no
    | none=>.no
   | _=>.no
  | _,_=>.no) else .no
 | .nest iF iR iH iW iS iT iN a0 a c v e1 e2,ρ=>Qadm (exS cf a0) (exS cf a) (fun ρ=>Qak (evE cf c ρ)) (evE cf v) (evE cf e1) (evE cf e2) iF iR iH iW iS iT iN ρ
 | .tryR i b h,ρ=>match exS cf b ρ with
  | .xn x ρ1=>(match h x.c x.arg with
   | some t=>.rt (.fz t) ρ1
   | none=>.no)
  | o=>o
 | .parO i j a b,ρ=>ofO (evE cf a ρ) fun ra ρ1=>ofO (evE cf b ρ1) fun rb ρ2=>match ra,rb with
  | .ow x,.ow y=>Qau (Qbs i (.ow x) ρ2) fun ρ3=>Qau (Qbs j (.ow y) ρ3) .nx
  | _,_=>.no
 | .bad,_=>.no
structure Fn where
 ps:Nat
 sz:Nat
 body:S
noncomputable def Qe3 (fn:Fn) (as:List Arg):En:=(as.map fun a=>match a with
 | .fz t=>Slot.fz t
 | .ml t=>.ml t
 | .ro t=>.ro t) ++ List.replicate (fn.sz - fn.ps) .un
noncomputable def Qw:List Arg → En → Option (List T)
 | [],_=>some []
 | .ml _ :: as,.ml t :: ρ=>(Qw as ρ).map (t :: ·)
 | .ml _ :: _,_=>none
 | .fz _ :: as,_ :: ρ=>(Qw as ρ).map (.non :: ·)
 | .ro _ :: as,_ :: ρ=>(Qw as ρ).map (.non :: ·)
 | _,[]=>none
noncomputable def Qat (ρ:En):PV → Option PV
 | .fz t=>some (.fz t)
 | .ow t=>some (.ow t)
 | .sl i=>match Qa ρ i with
  | .ow t=>some (.ow t)
  | _=>none
noncomputable def Qa7 (cf:CF) (fn:Fn) (as:List Arg):FR :=
 if as.length = fn.ps then match exS cf fn.body (Qe3 fn as) with
  | .nx ρ=>match Qw as ρ with
   | some fin=>.ok (.fz .non) fin
   | none=>.no
  | .rt r ρ=>match Qat ρ r,Qw as ρ with
   | some r,some fin=>.ok r fin
   | _,_=>.no
  | .xn x ρ=>match Qw as ρ with
   | some fin=>.xn x fin
   | none=>.no
  | _=>.no
 else .no
noncomputable def evF (tab:Nat → Option Fn):Nat → CF
 | 0,_,_=>.no
 | n + 1,f,as=>match tab f with
  | some fn=>Qa7 (evF tab n) fn as
  | none=>.no
structure Bs where
 H:Hp
 G:Addr → Prop
 O:Addr → Prop
 M:Addr → Prop
 P:Nat → Addr → Prop
noncomputable def OwnO (D:Hp):T → HO → Prop
 | .lst ts,.lst vs=>ts.length ≤ 100000 ∧ IsL D vs ts
 | .dtt ks ts,.dT kvs=>ks.length ≤ 100000 ∧ ∃ vs,kvs = (ks.map kIs).zip vs ∧ ks.length = vs.length ∧ IsL D vs ts
 | _,_=>False
theorem OwnO.mono {D D':Hp} {t:T} {o:HO} (h:OwnO D t o) (s:Same D D'):OwnO D' t o:=by
 cases t with
 | lst ts=>cases o <;> first | exact ⟨h.1,h.2.mono s⟩ | exact h.elim
 | dtt ks ts =>
  cases o with
  | dT kvs=>obtain ⟨z,vs,e,l,q⟩:=h; exact ⟨z,vs,e,l,q.mono s⟩
  | _=>exact h.elim
 | _=>cases o <;> exact h.elim
theorem OwnO.pen {D:Hp} {t:T} {o:HO} (h:OwnO D t o):Q3t o = true:=by
 cases t with
 | lst ts=>cases o <;> first | rfl | exact h.elim
 | dtt ks ts=>cases o <;> first | rfl | exact h.elim
 | _=>cases o <;> exact h.elim
theorem OwnO.is {D D':Hp} {t:T} {o:HO} {a:Addr} (h:OwnO D t o) (e:D' a = some o) (s:Same D D'):Is D' (.ref a) t:=by
 cases t with
 | lst ts =>
  cases o with
  | lst vs=>exact .lst e (h.2.mono s) h.1
  | _=>exact h.elim
 | dtt ks ts =>
  cases o with
  | dT kvs =>
   obtain ⟨z,vs,rfl,l,q⟩:=h
   unfold Is
   exact ⟨z,a,vs,rfl,e,l,q.mono s⟩
  | _=>exact h.elim
 | _=>cases o <;> exact h.elim
noncomputable def OwnAt (H:Hp) (G:Addr → Prop) (a:Addr) (t:T):Prop:=∃ o,H a = some o ∧ OwnO (dls H G) t o
theorem OwnAt.lst_inv {H:Hp} {G:Addr → Prop} {a:Addr} {ts:List T} (h:OwnAt H G a (.lst ts)):∃ vs,ts.length ≤ 100000 ∧ H a = some (.lst vs) ∧ IsL (dls H G) vs ts:=by
 obtain ⟨o,e,q⟩:=h
 cases o with
 | lst vs=>exact ⟨vs,q.1,e,q.2⟩
 | _=>exact q.elim
theorem OwnAt.no_tup {H:Hp} {G:Addr → Prop} {a:Addr} {ts:List T} (h:OwnAt H G a (.tup ts)):False:=by
 obtain ⟨o,e,q⟩:=h
 cases o <;> exact q
noncomputable def Qrb (H:Hp) (G:Addr → Prop) (σ:St) (i:Nat):Slot → Prop
 | .un=>True
 | .fz t=>∃ v,σ[i]? = some (some v) ∧ Is (dls H G) v t
 | .ow t=>∃ a,σ[i]? = some (some (.ref a)) ∧ G a ∧ OwnAt H G a t
 | .ml t=>∃ a,σ[i]? = some (some (.ref a)) ∧ G a ∧ OwnAt H G a t
 | .ro t=>∃ a,σ[i]? = some (some (.ref a)) ∧ G a ∧ OwnAt H G a t
 | .pin a=>σ[i]? = some (some (.ref a))
noncomputable def PrvAt (σ:St) (ρ:En) (i:Nat) (a:Addr):Prop:=(∃ t,(Qa ρ i).prv = some t) ∧ σ[i]? = some (some (.ref a))
noncomputable def OwA (σ:St) (ρ:En) (a:Addr):Prop:=∃ i t,Qa ρ i = .ow t ∧ σ[i]? = some (some (.ref a))
noncomputable def MlA (σ:St) (ρ:En) (a:Addr):Prop:=∃ i t,Qa ρ i = .ml t ∧ σ[i]? = some (some (.ref a))
noncomputable def PnA (σ:St) (ρ:En) (i:Nat) (a:Addr):Prop:=(∃ t,Qa ρ i = .ml t ∨ Qa ρ i = .ro t) ∧ σ[i]? = some (some (.ref a))
structure FI (B:Bs) (H:Hp) (G:Addr → Prop) (σ:St) (ρ:En):Prop where
 len:σ.length = ρ.length
 slot:∀ i,Qrb H G σ i (Qa ρ i)
 apart:∀ i j a,PrvAt σ ρ i a → PrvAt σ ρ j a → i = j
 prv:Pen H G
 chg:∀ b o,¬ B.O b → ¬ B.M b → B.H b = some o → H b = some o
 keep:∀ b o,B.H b = some o → ∃ o',H b = some o'
 newO:∀ a,OwA σ ρ a → B.H a = none ∨ B.O a
 newM:∀ a,MlA σ ρ a → B.M a
 fix:∀ i a,PnA σ ρ i a → B.P i a
 gg:∀ b,B.G b → G b
 gn:∀ b,G b → B.G b ∨ B.H b = none
 bp:∀ b,B.G b → ∃ o,B.H b = some o
noncomputable abbrev Qaw (H:Hp) (G:Addr → Prop) (σ:St) (ρ:En):Bs:=⟨H,G,OwA σ ρ,MlA σ ρ,PnA σ ρ⟩
section
variable {B:Bs} {H H1 H2:Hp} {G G1:Addr → Prop} {σ σ1:St} {ρ ρ1 ρ2:En}
theorem FI.self (F:FI B H G σ ρ):FI (Qaw H G σ ρ) H G σ ρ :=
 ⟨F.len,F.slot,F.apart,F.prv,fun _ _ _ _ e=>e,fun _ o e=>⟨o,e⟩,fun _ h=>.inr h,fun _ h=>h,fun _ _ h=>h,fun _ h=>h,fun _ h=>.inl h,fun b h=>let ⟨xs,e,_⟩:=F.prv b h; ⟨_,e⟩⟩
theorem FI.ownG (F:FI B H G σ ρ) {a:Addr} (h:OwA σ ρ a):G a:=by
 obtain ⟨i,t,e,s⟩:=h
 have q:=F.slot i
 rw [e] at q
 obtain ⟨b,hb,g,_⟩:=q
 rw [s] at hb
 cases hb
 exact g
theorem FI.mlG (F:FI B H G σ ρ) {a:Addr} (h:MlA σ ρ a):G a:=by
 obtain ⟨i,t,e,s⟩:=h
 have q:=F.slot i
 rw [e] at q
 obtain ⟨b,hb,g,_⟩:=q
 rw [s] at hb
 cases hb
 exact g
theorem FI.same (F0:FI B H G σ ρ) (F:FI (Qaw H G σ ρ) H1 G1 σ1 ρ1):Same (dls H G) (dls H1 G1):=fun b o e=>by
 obtain ⟨n,e⟩:=Qah e
 have e1:=F.chg b o (fun z=>n (F0.ownG z)) (fun z=>n (F0.mlG z)) e
 rw [Qcb fun z=>?_]
 ·exact e1
 ·rcases F.gn b z with z | z
  ·exact n z
  ·rw [show H b = none from z] at e; cases e
theorem FI.trans (F0:FI B H G σ ρ) (F:FI (Qaw H G σ ρ) H1 G1 σ1 ρ1):FI B H1 G1 σ1 ρ1 where
 len:=F.len
 slot:=F.slot
 apart:=F.apart
 prv:=F.prv
 chg:=fun b o h1 h2 e=>F.chg b o (fun z=>by
  rcases F0.newO b z with z | z
  ·rw [e] at z; cases z
  ·exact h1 z) (fun z=>h2 (F0.newM b z)) (F0.chg b o h1 h2 e)
 keep:=fun b o e=>by
  obtain ⟨o1,e1⟩:=F0.keep b o e
  exact F.keep b o1 e1
 newO:=fun a h=>by
  rcases F.newO a h with z | z
  ·refine .inl ?_
   cases e:B.H a with
   | none=>rfl
   | some o =>
    obtain ⟨o1,e1⟩:=F0.keep a o e
    rw [show H a = none from z] at e1
    cases e1
  ·exact F0.newO a z
 newM:=fun a h=>F0.newM a (F.newM a h)
 fix:=fun i a h=>F0.fix i a (F.fix i a h)
 gg:=fun b h=>F.gg b (F0.gg b h)
 gn:=fun b h=>by
  rcases F.gn b h with z | z
  ·exact F0.gn b z
  ·refine .inr ?_
   cases e:B.H b with
   | none=>rfl
   | some o =>
    obtain ⟨o1,e1⟩:=F0.keep b o e
    rw [show H b = none from z] at e1
    cases e1
 bp:=F0.bp
theorem FI.free (F:FI B H G σ ρ) {b:Addr} (h:H b = none):B.H b = none:=by
 cases e:B.H b with
 | none=>rfl
 | some o =>
  obtain ⟨o1,e1⟩:=F.keep b o e
  rw [h] at e1
  cases e1
theorem FI.grow (F:FI B H G σ ρ) (s:Same H H1):FI B H1 G σ ρ where
 len:=F.len
 slot:=fun i=>by
  have q:=F.slot i
  cases hs:Qa ρ i with
  | un=>trivial
  | fz t=>rw [hs] at q; obtain ⟨v,a,b⟩:=q; exact ⟨v,a,b.mono (Qbn s)⟩
  | ow t=>rw [hs] at q; obtain ⟨a,h1,h2,o,h5,h6⟩:=q; exact ⟨a,h1,h2,o,s _ _ h5,h6.mono (Qbn s)⟩
  | ml t=>rw [hs] at q; obtain ⟨a,h1,h2,o,h5,h6⟩:=q; exact ⟨a,h1,h2,o,s _ _ h5,h6.mono (Qbn s)⟩
  | ro t=>rw [hs] at q; obtain ⟨a,h1,h2,o,h5,h6⟩:=q; exact ⟨a,h1,h2,o,s _ _ h5,h6.mono (Qbn s)⟩
  | pin a=>rw [hs] at q; exact q
 apart:=F.apart
 prv:=F.prv.mono s
 chg:=fun b o h1 h2 e=>s b o (F.chg b o h1 h2 e)
 keep:=fun b o e=>by
  obtain ⟨o1,e1⟩:=F.keep b o e
  exact ⟨o1,s _ _ e1⟩
 newO:=F.newO
 newM:=F.newM
 fix:=F.fix
 gg:=F.gg
 gn:=F.gn
 bp:=F.bp
end
section
variable {B:Bs} {H H1 H2:Hp} {G G1:Addr → Prop} {σ σ1:St} {ρ ρ1 ρ2:En} {t:T}
theorem FI.prvAt (F:FI B H G σ ρ) {i:Nat} (e:(Qa ρ i).prv = some t):∃ a,σ[i]? = some (some (.ref a)) ∧ G a ∧ OwnAt H G a t:=by
 have q:=F.slot i
 cases hs:Qa ρ i with
 | un=>rw [hs] at e; cases e
 | fz t=>rw [hs] at e; cases e
 | ow t=>rw [hs] at e q; cases e; exact q
 | ml t=>rw [hs] at e q; cases e; exact q
 | ro t=>rw [hs] at e q; cases e; exact q
 | pin a=>rw [hs] at e; cases e
theorem Qfk {i:Nat} {s:Slot} (h:Qrb H G σ i s) (sm:Same (dls H G) (dls H1 G1)) (hk:∀ a o,(∃ t,s.prv = some t) → σ[i]? = some (some (.ref a)) → H a = some o → H1 a = some o ∧ G1 a):Qrb H1 G1 σ i s:=by
 cases s with
 | un=>trivial
 | fz t=>obtain ⟨v,a,b⟩:=h; exact ⟨v,a,b.mono sm⟩
 | ow t=>obtain ⟨a,h1,h2,o,h5,h6⟩:=h; exact ⟨a,h1,(hk a _ ⟨_,rfl⟩ h1 h5).2,o,(hk a _ ⟨_,rfl⟩ h1 h5).1,h6.mono sm⟩
 | ml t=>obtain ⟨a,h1,h2,o,h5,h6⟩:=h; exact ⟨a,h1,(hk a _ ⟨_,rfl⟩ h1 h5).2,o,(hk a _ ⟨_,rfl⟩ h1 h5).1,h6.mono sm⟩
 | ro t=>obtain ⟨a,h1,h2,o,h5,h6⟩:=h; exact ⟨a,h1,(hk a _ ⟨_,rfl⟩ h1 h5).2,o,(hk a _ ⟨_,rfl⟩ h1 h5).1,h6.mono sm⟩
 | pin a=>exact h
theorem PrvAt.at (F:FI B H G σ ρ) {i:Nat} {a:Addr} (h:PrvAt σ ρ i a):G a ∧ ∃ t,OwnAt H G a t:=by
 obtain ⟨⟨t,e⟩,s⟩:=h
 obtain ⟨b,sb,g,o⟩:=F.prvAt e
 rw [s] at sb
 cases sb
 exact ⟨g,t,o⟩
theorem OwA.prv {a:Addr} (h:OwA σ ρ a):∃ i,PrvAt σ ρ i a:=by
 obtain ⟨i,t,e,s⟩:=h
 exact ⟨i,⟨t,by rw [e]; rfl⟩,s⟩
theorem MlA.prv {a:Addr} (h:MlA σ ρ a):∃ i,PrvAt σ ρ i a:=by
 obtain ⟨i,t,e,s⟩:=h
 exact ⟨i,⟨t,by rw [e]; rfl⟩,s⟩
theorem Qxe {i:Nat} {a:Addr} (h:PrvAt σ ρ i a):OwA σ ρ a ∨ MlA σ ρ a ∨ PnA σ ρ i a:=by
 obtain ⟨⟨t,e⟩,s⟩:=h
 cases hs:Qa ρ i with
 | un=>rw [hs] at e; cases e
 | fz t=>rw [hs] at e; cases e
 | ow t=>exact .inl ⟨i,t,hs,s⟩
 | ml t=>exact .inr (.inl ⟨i,t,hs,s⟩)
 | ro t=>exact .inr (.inr ⟨⟨t,.inr hs⟩,s⟩)
 | pin a=>rw [hs] at e; cases e
theorem FI.reG (F:FI B H G σ ρ) (sm:Same (dls H G) (dls H1 G1)) (s:Same H H1) (hk:∀ i a,PrvAt σ ρ i a → G1 a) (hp:Pen H1 G1) (gg:∀ b,B.G b → G1 b) (gn:∀ b,G1 b → B.G b ∨ B.H b = none):FI B H1 G1 σ ρ where
 len:=F.len
 slot:=fun i=>Qfk (F.slot i) sm fun a o h1 h2 e=>⟨s _ _ e,hk i a ⟨h1,h2⟩⟩
 apart:=F.apart
 prv:=hp
 chg:=fun b o h1 h2 e=>s b o (F.chg b o h1 h2 e)
 keep:=fun b o e=>by
  obtain ⟨o1,e1⟩:=F.keep b o e
  exact ⟨o1,s _ _ e1⟩
 newO:=F.newO
 newM:=F.newM
 fix:=F.fix
 gg:=gg
 gn:=gn
 bp:=F.bp
theorem FI.lessG (F:FI B H G σ ρ) (Z:Addr → Prop) (hz:∀ b,Z b → B.H b = none ∧ ∀ i,¬ PrvAt σ ρ i b):FI B H (fun b=>G b ∧ ¬ Z b) σ ρ:=by
 refine F.reG (Qdl fun b h=>h.1) (Same.refl H) (fun i a h=>⟨(PrvAt.at F h).1,fun z=>(hz a z).2 i h⟩) (fun b h=>F.prv b h.1) (fun b h=>⟨F.gg b h,fun z=>?_⟩) fun b h=>F.gn b h.1
 obtain ⟨o,e⟩:=F.bp b h
 rw [(hz b z).1] at e
 cases e
theorem FI.addG (F:FI B H G σ ρ) {l:Addr} {vs:HO} (hl:H l = none) (s:Same H H1) (e:H1 l = some vs) (hpn:Q3t vs = true):FI B H1 (fun b=>G b ∨ b = l) σ ρ:=by
 refine F.reG (fun b o eb=>?_) s (fun i a h=>.inl (PrvAt.at F h).1) (fun b hb=>?_) (fun b h=>.inl (F.gg b h)) (fun b h=>?_)
 ·obtain ⟨nb,eb⟩:=Qah eb
  rw [Qcb fun z=>?_]
  ·exact s b o eb
  ·rcases z with z | z
   ·exact nb z
   ·rw [z,hl] at eb; cases eb
 ·rcases hb with hb | hb
  ·exact F.prv.mono s b hb
  ·exact ⟨vs,hb ▸ e,hpn⟩
 ·rcases h with h | h
  ·exact F.gn b h
  ·exact .inr (h ▸ F.free hl)
end
noncomputable def TmpR (H0:Hp) (H:Hp) (G:Addr → Prop) (σ:St) (ρ:En) (v:V) (t:T):Prop:=∃ a,v = .ref a ∧ H0 a = none ∧ G a ∧ (∀ i,¬ PrvAt σ ρ i a) ∧ OwnAt H G a t
noncomputable def PVR (H0:Hp) (H:Hp) (G:Addr → Prop) (σ:St) (ρ:En) (v:V):PV → Prop
 | .fz t=>Is (dls H G) v t
 | .ow t=>TmpR H0 H G σ ρ v t
 | .sl i=>σ[i]? = some (some v)
section
variable {H0 H:Hp} {G:Addr → Prop} {σ:St} {ρ:En}
theorem PVR.is {v:V} {t:T} (h:PVR H0 H G σ ρ v (.fz t)):Is (dls H G) v t:=h
theorem pvI {i:Int}:PVR H0 H G σ ρ (.int i) (.fz (.int i)):=show Is (dls H G) (.int i) (.int i) from Is.int
theorem pvB {i:Bool}:PVR H0 H G σ ρ (.bl i) (.fz (.bl i)):=show Is (dls H G) (.bl i) (.bl i) from Is.bl
theorem pvN:PVR H0 H G σ ρ .non (.fz .non):=show Is (dls H G) .non .non from Is.non
end
noncomputable def Rdb (H:Hp) (G:Addr → Prop) (v:V) (t:T):Prop:=Is (dls H G) v t ∨ ∃ a,v = .ref a ∧ OwnAt H G a t
theorem Rdb.is {H:Hp} {G:Addr → Prop} {v:V} {t:T} (h:Rdb H G v t):Is H v t:=by
 rcases h with h | ⟨a,rfl,o,e,q⟩
 ·exact h.mono (Qy8 _ _)
 ·exact q.is e (Qy8 _ _)
theorem Rdb.lst {H:Hp} {G:Addr → Prop} {v:V} {ts:List T} (h:Rdb H G v (.lst ts)):∃ a vs,v = .ref a ∧ ts.length ≤ 100000 ∧ H a = some (.lst vs) ∧ IsL (dls H G) vs ts:=by
 rcases h with h | ⟨a,rfl,q⟩
 ·obtain ⟨a,vs,rfl,e,r⟩:=h.lst_inv
  exact ⟨a,vs,rfl,h.lst_len,(Qah e).2,r⟩
 ·obtain ⟨vs,z,h,r⟩:=q.lst_inv
  exact ⟨a,vs,rfl,z,h,r⟩
theorem Rdb.tup {H:Hp} {G:Addr → Prop} {v:V} {ts:List T} (h:Rdb H G v (.tup ts)):Is (dls H G) v (.tup ts):=by
 rcases h with h | ⟨a,_,q⟩
 ·exact h
 ·exact q.no_tup.elim
theorem Rdb.int {H:Hp} {G:Addr → Prop} {v:V} {i:Int} (h:Rdb H G v (.int i)):v = .int i:=h.is.int_inv
theorem Rdb.bl {H:Hp} {G:Addr → Prop} {v:V} {b:Bool} (h:Rdb H G v (.bl b)):v = .bl b:=by
 have q:=h.is
 unfold Is at q
 exact q
theorem Rdb.str {H:Hp} {G:Addr → Prop} {v:V} {b:Str} (h:Rdb H G v (.str b)):v = .str b:=by
 have q:=h.is
 unfold Is at q
 exact q
theorem Rdb.non {H:Hp} {G:Addr → Prop} {v:V} (h:Rdb H G v .non):v = .non:=by
 have q:=h.is
 unfold Is at q
 exact q
section
variable {B:Bs} {H H0 H1 H2:Hp} {G G1 G2:Addr → Prop} {σ σ1:St} {ρ ρ1 ρ2:En} {v:V} {r:PV} {t:T}
theorem PVR.rdb (h:PVR H0 H G σ ρ1 v r) (F:FI B H G σ ρ) (e:cont ρ r = some t):Rdb H G v t:=by
 cases r with
 | fz t=>cases e; exact .inl h
 | ow t =>
  cases e
  obtain ⟨a,rfl,_,_,_,q⟩:=h
  exact .inr ⟨a,rfl,q⟩
 | sl i =>
  obtain ⟨a,s,g,q⟩:=F.prvAt e
  have h:σ[i]? = some (some v):=h
  rw [s] at h
  cases h
  exact .inr ⟨a,rfl,q⟩
theorem OwnAt.mono {a:Addr} (h:OwnAt H G a t) (s:Same (dls H G) (dls H1 G1)) (e:∀ o,H a = some o → H1 a = some o):OwnAt H1 G1 a t:=by
 obtain ⟨o,h3,h4⟩:=h
 exact ⟨o,e _ h3,h4.mono s⟩
theorem FI.nobody (F0:FI B H G σ ρ) (F:FI (Qaw H G σ ρ) H1 G1 σ ρ1) {a:Addr} {o:HO} (e:H a = some o) (n:∀ i,¬ PrvAt σ ρ i a):∀ i,¬ PrvAt σ ρ1 i a:=fun i h=>by
 rcases Qxe h with h | h | h
 ·rcases F.newO a h with z | z
  ·rw [show H a = none from z] at e; cases e
  ·obtain ⟨j,z⟩:=OwA.prv z; exact n j z
 ·obtain ⟨j,z⟩:=MlA.prv (F.newM a h); exact n j z
 ·obtain ⟨⟨t,z⟩,s⟩:=F.fix i a h
  refine n i ⟨⟨t,?_⟩,s⟩
  rcases z with z | z <;> rw [z] <;> rfl
theorem PVR.step (h:PVR H0 H G σ ρ v r) (F0:FI B H G σ ρ) (F:FI (Qaw H G σ ρ) H1 G1 σ ρ1):PVR H0 H1 G1 σ ρ1 v r:=by
 cases r with
 | fz t=>exact Is.mono (F0.same F) h
 | sl i=>exact h
 | ow t =>
  obtain ⟨a,rfl,n,g,np,q⟩:=h
  have q':=q
  obtain ⟨ob,ea,_⟩:=q
  refine ⟨a,rfl,n,F.gg a g,F0.nobody F ea np,q'.mono (F0.same F) fun o e=>F.chg a o (fun z=>?_) (fun z=>?_) e⟩
  ·obtain ⟨j,z⟩:=OwA.prv z; exact np j z
  ·obtain ⟨j,z⟩:=MlA.prv z; exact np j z
theorem PVR.early (h:PVR H1 H2 G2 σ ρ2 v r) (F:FI (Qaw H G σ ρ) H1 G1 σ ρ1):PVR H H2 G2 σ ρ2 v r:=by
 cases r with
 | fz t=>exact h
 | sl i=>exact h
 | ow t =>
  obtain ⟨a,rfl,n,g⟩:=h
  exact ⟨a,rfl,F.free n,g⟩
end
noncomputable def argR (H:Hp) (dx:Option Addr):List Int → Prop
 | []=>dx = none
 | [i]=>∃ d,dx = some d ∧ H d = some (.xd [("at",.int i)])
 | [i,j]=>∃ d,dx = some d ∧ H d = some (.xd [("many",.int i),("most",.int j)])
 | _=>False
noncomputable def Q9g (mg:Str → Option Value) (H:Hp) (x:Xn) (cls:Value) (dx:Option Addr):Prop:=∃ nm,Qtc[x.c]? = some nm ∧ cls = .ref (cad mg nm) ∧ argR H dx x.arg
structure Pr where
 cf:CF
 R:XR
 mg:Str → Option Value
noncomputable def Fin (p:Pr) (B:Bs) (σ:St) {α:Type} (o:Out α) (K:α → En → Prop):Prop:=match o with
 | .ok a ρ1=>K a ρ1
 | .xn x ρ1=>∀ cls dx H1 G1,FI B H1 G1 σ ρ1 → Q9g p.mg H1 x cls dx → p.R cls dx σ H1
 | .no=>False
noncomputable def tE (p:Pr) (e:E):TE:=fun σ H Q=>∃ G ρ,FI (Qaw H G σ ρ) H G σ ρ ∧ Fin p (Qaw H G σ ρ) σ (evE p.cf e ρ) fun r ρ1=>∀ v H1 G1,FI (Qaw H G σ ρ) H1 G1 σ ρ1 → PVR H H1 G1 σ ρ1 v r → Q v H1
inductive PVRs (H0:Hp) (H:Hp) (G:Addr → Prop) (σ:St) (ρ:En):List V → List PV → Prop where
 | nil:PVRs H0 H G σ ρ [] []
 | cons {v r vs rs}:PVR H0 H G σ ρ v r → PVRs H0 H G σ ρ vs rs → PVRs H0 H G σ ρ (v :: vs) (r :: rs)
noncomputable def tA (p:Pr) (es:Es):TA:=fun σ H Q=>∃ G ρ,FI (Qaw H G σ ρ) H G σ ρ ∧ Fin p (Qaw H G σ ρ) σ (evA p.cf es ρ) fun rs ρ1=>∀ vs H1 G1,FI (Qaw H G σ ρ) H1 G1 σ ρ1 → PVRs H H1 G1 σ ρ1 vs rs → Q vs H1
noncomputable def tT (p:Pr) (e:E):TT:=fun σ H Q=>∃ G ρ,FI (Qaw H G σ ρ) H G σ ρ ∧ Fin p (Qaw H G σ ρ) σ (Qak (evE p.cf e ρ)) fun b ρ1=>∀ H1 G1,FI (Qaw H G σ ρ) H1 G1 σ ρ1 → Q b H1
section
variable {p:Pr} {B:Bs} {H H0 H1 H2:Hp} {G G1:Addr → Prop} {σ:St} {ρ ρ1 ρ2:En} {α β:Type}
theorem Fin.bind {o:Out α} {k:α → En → Out β} {K:β → En → Prop} (h:Fin p B σ (o.bind k) K):Fin p B σ o fun a ρ1=>Fin p B σ (k a ρ1) K:=by
 cases o with
 | ok a ρ1=>exact h
 | xn x ρ1=>exact h
 | no=>exact h
theorem Fin.imp {o:Out α} {K K':α → En → Prop} (h:Fin p B σ o K) (q:∀ a ρ1,K a ρ1 → K' a ρ1):Fin p B σ o K':=by
 cases o with
 | ok a ρ1=>exact q _ _ h
 | xn x ρ1=>exact h
 | no=>exact h
theorem Fin.rebase {o:Out α} {K K':α → En → Prop} (F:FI B H1 G σ ρ1) (h:Fin p B σ o K) (q:∀ a ρ2,K a ρ2 → K' a ρ2):Fin p (Qaw H1 G σ ρ1) σ o K':=by
 cases o with
 | ok a ρ1=>exact q _ _ h
 | xn x ρ1=>exact fun cls dx H2 G2 F2=>h cls dx H2 G2 (F.trans F2)
 | no=>exact h
theorem Qi0 {e:E} {Q:VK} {K:PV → En → Prop} (F:FI B H1 G σ ρ1) (h:Fin p B σ (evE p.cf e ρ1) K) (q:∀ r ρ2 v H2 G2,K r ρ2 → FI B H2 G2 σ ρ2 → FI (Qaw H1 G σ ρ1) H2 G2 σ ρ2 → PVR H1 H2 G2 σ ρ2 v r → Q v H2):tE p e σ H1 Q :=
 ⟨G,ρ1,F.self,h.rebase F fun r ρ2 k v H2 G2 F2 pv=>q r ρ2 v H2 G2 k (F.trans F2) F2 pv⟩
theorem Qado {es:Es} {Q:List V → Hp → Prop} {K:List PV → En → Prop} (F:FI B H1 G σ ρ1) (h:Fin p B σ (evA p.cf es ρ1) K) (q:∀ r ρ2 v H2 G2,K r ρ2 → FI B H2 G2 σ ρ2 → FI (Qaw H1 G σ ρ1) H2 G2 σ ρ2 → PVRs H1 H2 G2 σ ρ2 v r → Q v H2):tA p es σ H1 Q :=
 ⟨G,ρ1,F.self,h.rebase F fun r ρ2 k v H2 G2 F2 pv=>q r ρ2 v H2 G2 k (F.trans F2) F2 pv⟩
theorem Qzr {e:E} {Q:Bool → Hp → Prop} {K:Bool → En → Prop} (F:FI B H1 G σ ρ1) (h:Fin p B σ (Qak (evE p.cf e ρ1)) K) (q:∀ b ρ2 H2 G2,K b ρ2 → FI B H2 G2 σ ρ2 → FI (Qaw H1 G σ ρ1) H2 G2 σ ρ2 → Q b H2):tT p e σ H1 Q :=
 ⟨G,ρ1,F.self,h.rebase F fun r ρ2 k H2 G2 F2=>q r ρ2 H2 G2 k (F.trans F2) F2⟩
theorem tE2 {a b:E} {f:PV → PV → En → Out β} {K:β → En → Prop} {Z:V → V → Hp → Prop} (F:FI (Qaw H G σ ρ) H G σ ρ) (h:Fin p (Qaw H G σ ρ) σ ((evE p.cf a ρ).bind fun ra ρ1=>(evE p.cf b ρ1).bind fun rb ρ2=>f ra rb ρ2) K)
  (q:∀ ra rb ρ2 x y H2 G2,FI (Qaw H G σ ρ) H2 G2 σ ρ2 → PVR H H2 G2 σ ρ2 x ra → PVR H H2 G2 σ ρ2 y rb → Fin p (Qaw H G σ ρ) σ (f ra rb ρ2) K → Z x y H2):tE p a σ H fun x H1=>tE p b σ H1 fun y H2=>Z x y H2:=by
 refine ⟨G,ρ,F,h.bind.imp fun ra ρ1 h1 x H1 G1 F1 r1=>?_⟩
 refine Qi0 F1 h1.bind fun rb ρ2 y H2 G2 h2 F2 F2' r2=>?_
 exact q ra rb ρ2 x y H2 G2 F2 (r1.step F1 F2') (r2.early F1) h2
theorem Qrc {o:Out PV} {K:Bool → En → Prop} (h:Fin p B σ (Qak o) K):Fin p B σ o fun r ρ1=>∃ b,r = .fz (.bl b) ∧ K b ρ1:=by
 cases o with
 | ok r ρ1 =>
  cases r with
  | fz t=>cases t <;> first | exact ⟨_,rfl,h⟩ | exact False.elim h
  | ow t=>exact False.elim h
  | sl i=>exact False.elim h
 | xn x ρ1=>exact h
 | no=>exact h
end
theorem QE.weak {X:Cx} {e:Expr} {t t':TE} (h:QE X e t) (q:∀ σ H Q,t' σ H Q → t σ H Q):QE X e t':=⟨h.h.weak q⟩
theorem QA.weak {X:Cx} {e:List Expr} {t t':TA} (h:QA X e t) (q:∀ σ H Q,t' σ H Q → t σ H Q):QA X e t':=⟨h.h.weak q⟩
theorem QT.weak {X:Cx} {e:Expr} {t t':TT} (h:QT X e t) (q:∀ σ H Q,t' σ H Q → t σ H Q):QT X e t':=⟨fun pins s σ H Q I z=>h.h pins s σ H Q I (q _ _ _ z)⟩
theorem QW.weak {X:Cx} {e:Expr} {t t':TT} (h:QW X e t) (q:∀ σ H Q,t' σ H Q → t σ H Q):QW X e t':=⟨fun wh pins s σ H Q I z=>h.h wh pins s σ H Q I (q _ _ _ z)⟩
section
variable {X:Cx} {p:Pr} {e a b:Expr} {es:List Expr} {e' a' b' c':E} {es':Es} {pos p1 p2 p3:Pos} {x:Str}
theorem Qadp {i:Nat} (hN:X.N[i]? = some x) (hv:Vis X.env.scope x) (hd:(x == ("__debug__" : Str)) = false) (hcd:(x == ("__classdict__" : Str)) = false):QE X (.Name x pos) (tE p (.var i)) :=
 (Qiv i hN hv hd hcd).weak fun σ H Q ⟨G,ρ,F,h⟩=>by
  have q:=F.slot i
  unfold evE at h
  cases hs:Qa ρ i with
  | un=>rw [hs] at h; exact False.elim h
  | pin _=>rw [hs] at h; exact False.elim h
  | fz t=>rw [hs] at h q; obtain ⟨v,e,r⟩:=q; exact ⟨v,e,h v H G F r⟩
  | ow t=>rw [hs] at h q; obtain ⟨a,e,_⟩:=q; exact ⟨_,e,h _ H G F e⟩
  | ml t=>rw [hs] at h q; obtain ⟨a,e,_⟩:=q; exact ⟨_,e,h _ H G F e⟩
  | ro t=>rw [hs] at h q; obtain ⟨a,e,_⟩:=q; exact ⟨_,e,h _ H G F e⟩
theorem Q3 {i j}:QE X (.Constant (.int i) j pos) (tE p (.int i)):=Qq6.weak fun σ H Q ⟨G,ρ,F,h⟩=>by unfold evE at h; exact h _ H G F pvI
theorem Qli {i j}:QE X (.Constant (.bool i) j pos) (tE p (.bl i)):=q_bl.weak fun σ H Q ⟨G,ρ,F,h⟩=>by unfold evE at h; exact h _ H G F pvB
theorem Qn8 {j}:QE X (.Constant .none j pos) (tE p .non):=Qaci.weak fun σ H Q ⟨G,ρ,F,h⟩=>by unfold evE at h; exact h _ H G F pvN
theorem Q9h {i:Int} (h:∃ u,X.mg x = some u ∧ RelV (.int i) u) (hg:Gl X x) (hd:(x == ("__debug__" : Str)) = false):QE X (.Name x pos) (tE p (.int i)) :=
 (Q8q h hg hd).weak fun σ H Q ⟨G,ρ,F,h⟩=>by unfold evE at h; exact h _ H G F pvI
theorem Qf:QA X [] (tA p .nil):=Qfa.weak fun σ H Q ⟨G,ρ,F,h⟩=>by unfold evA at h; exact h [] H G F .nil
theorem PVRs.early {H H1 H2:Hp} {G G1 G2:Addr → Prop} {σ:St} {ρ ρ1 ρ2:En} {vs:List V} {rs:List PV} (h:PVRs H1 H2 G2 σ ρ2 vs rs) (F:FI (Qaw H G σ ρ) H1 G1 σ ρ1):PVRs H H2 G2 σ ρ2 vs rs:=by
 induction h with
 | nil=>exact .nil
 | cons a _ ih=>exact .cons (a.early F) ih
theorem Q9i (ha:QE X e (tE p e')) (hr:QA X es (tA p es')) (hs:Q1 e = true):QA X (e :: es) (tA p (.cons e' es')) :=
 (Qcm ha hr hs).weak fun σ H Q ⟨G,ρ,F,h⟩=>by
  unfold evA at h
  refine ⟨G,ρ,F,h.bind.imp fun r ρ1 h1 v H1 G1 F1 r1=>?_⟩
  refine Qado F1 h1.bind fun rs ρ2 vs H2 G2 h2 F2 F2' r2=>?_
  exact h2 (v :: vs) H2 G2 F2 (.cons (r1.step F1 F2') (r2.early F1))
noncomputable def Qlj:List V → List PV → Addr → Prop
 | v :: vs,.ow _ :: rs,b=>v = .ref b ∨ Qlj vs rs b
 | _ :: vs,_ :: rs,b=>Qlj vs rs b
 | _,_,_=>False
theorem PVRs.tmp {H0 H:Hp} {G:Addr → Prop} {σ:St} {ρ:En} {vs:List V} {rs:List PV} (h:PVRs H0 H G σ ρ vs rs) {b:Addr} (z:Qlj vs rs b):H0 b = none ∧ ∀ i,¬ PrvAt σ ρ i b:=by
 induction h with
 | nil=>exact False.elim z
 | cons a _ ih =>
  rename_i v r vs rs _
  cases r with
  | fz t=>exact ih z
  | sl i=>exact ih z
  | ow t =>
   rcases z with z | z
   ·obtain ⟨c,e,n,_,np,_⟩:=a
    rw [z] at e
    cases e
    exact ⟨n,np⟩
   ·exact ih z
theorem PVRs.frz {H0 H:Hp} {G G':Addr → Prop} {σ:St} {ρ:En} {vs:List V} {rs:List PV} (h:PVRs H0 H G σ ρ vs rs) (s:∀ b,G' b → G b) (n:∀ b,Qlj vs rs b → ¬ G' b):∀ {ts:List T},Qdv rs = some ts → IsL (dls H G') vs ts:=by
 induction h with
 | nil=>intro ts e; cases e; exact .nil
 | cons a _ ih =>
  intro ts e
  rename_i v r vs rs _
  unfold Qdv at e
  cases h1:L2.frz r with
  | none=>rw [h1] at e; cases e
  | some t =>
   cases h2:Qdv rs with
   | none=>rw [h1,h2] at e; cases e
   | some us =>
    rw [h1,h2] at e
    cases e
    cases r with
    | sl i=>cases h1
    | fz t' =>
     cases h1
     exact .cons (Is.mono (Qdl s) a) (ih (fun b z=>n b z) h2)
    | ow t' =>
     cases h1
     obtain ⟨c,rfl,_,_,_,ob,ec,q⟩:=a
     exact .cons (q.is (by rw [Qcb (n c (.inl rfl))]; exact ec) (Qdl s)) (ih (fun b z=>n b (.inr z)) h2)
theorem PVRs.lay {B:Bs} {H:Hp} {G:Addr → Prop} {σ:St} {ρ:En} {vs:List V} {rs:List PV} {ts:List T} (h:PVRs B.H H G σ ρ vs rs) (F:FI B H G σ ρ) (e:Qdv rs = some ts):∃ G',FI B H G' σ ρ ∧ IsL (dls H G') vs ts ∧ ∀ b,G' b → G b :=
 ⟨_,F.lessG (Qlj vs rs) fun b z=>h.tmp z,h.frz (fun b z=>z.1) (fun b z y=>y.2 z) e,fun b z=>z.1⟩
theorem PVR.lay {B:Bs} {H:Hp} {G:Addr → Prop} {σ:St} {ρ:En} {v:V} {r:PV} {t:T} (h:PVR B.H H G σ ρ v r) (F:FI B H G σ ρ) (e:L2.frz r = some t):∃ G',FI B H G' σ ρ ∧ Is (dls H G') v t ∧ ∀ b,G' b → G b:=by
 obtain ⟨G',F',i,s⟩:=PVRs.lay (.cons h .nil) F (ts:=[t]) (by unfold Qdv; rw [e]; rfl)
 obtain ⟨v',w,e,a,_⟩:=i.cons_inv
 cases e
 exact ⟨G',F',a,s⟩
theorem Qrd {x1} (h:QA X es (tA p es')):QE X (.Tuple es x1 pos) (tE p (.tup es')) :=
 (Qacp h).weak fun σ H Q ⟨G,ρ,F,h⟩=>by
  unfold evE at h
  refine ⟨G,ρ,F,h.bind.imp fun rs ρ1 h1 vs H1 G1 F1 r1=>?_⟩
  cases e:Qdv rs with
  | none=>rw [e] at h1; exact False.elim h1
  | some ts =>
   rw [e] at h1
   by_cases z:ts.length ≤ 100000
   ·simp only [if_pos z] at h1
    obtain ⟨G',F',r,_⟩:=PVRs.lay (B:=Qaw H G σ ρ) r1 F1 e
    refine Q85 F'.prv r z fun y H2 s2 i2=>h1 y H2 G' (F'.grow s2) i2
   ·simp only [if_neg z] at h1
    exact False.elim h1
theorem Qlk {B:Bs} {H H1:Hp} {G:Addr → Prop} {σ:St} {ρ:En} {l:Addr} {ob:HO} {t:T} (F:FI B H G σ ρ) (hl:H l = none) (s:Same H H1) (e:H1 l = some ob) (r:OwnO (dls H G) t ob) :
  FI B H1 (fun b=>G b ∨ b = l) σ ρ ∧ PVR B.H H1 (fun b=>G b ∨ b = l) σ ρ (.ref l) (.ow t):=by
 refine ⟨F.addG hl s e r.pen,l,rfl,F.free hl,.inr rfl,fun i h=>?_,ob,e,r.mono fun b o eb=>?_⟩
 ·obtain ⟨_,t,o,ea,_⟩:=PrvAt.at F h
  rw [hl] at ea
  cases ea
 ·obtain ⟨nb,eb⟩:=Qah eb
  rw [Qcb fun z=>?_]
  ·exact s b o eb
  ·rcases z with z | z
   ·exact nb z
   ·rw [z,hl] at eb; cases eb
theorem Qi1 {B:Bs} {H H1:Hp} {G:Addr → Prop} {σ:St} {ρ:En} {l:Addr} {vs:List V} {ts:List T} (F:FI B H G σ ρ) (hl:H l = none) (s:Same H H1) (e:H1 l = some (.lst vs)) (r:IsL (dls H G) vs ts) (z:ts.length ≤ 100000) :
  FI B H1 (fun b=>G b ∨ b = l) σ ρ ∧ PVR B.H H1 (fun b=>G b ∨ b = l) σ ρ (.ref l) (.ow (.lst ts)):=Qlk F hl s e ⟨z,r⟩
theorem Qh1 (h:QA X es (tA p es')):QE X (.List es pos) (tE p (.lst es')) :=
 (Q5x h).weak fun σ H Q ⟨G,ρ,F,h⟩=>by
  unfold evE at h
  refine ⟨G,ρ,F,h.bind.imp fun rs ρ1 h1 vs H1 G1 F1 r1=>?_⟩
  cases e:Qdv rs with
  | none=>rw [e] at h1; exact False.elim h1
  | some ts =>
   rw [e] at h1
   by_cases z:ts.length ≤ 100000
   ·simp only [if_pos z] at h1
    obtain ⟨G',F',r,_⟩:=PVRs.lay (B:=Qaw H G σ ρ) r1 F1 e
    refine Q86 F'.prv r z fun l H2 s2 n2 e2 i2=>?_
    obtain ⟨F2,r2⟩:=Qi1 F' n2 s2 e2 r z
    exact h1 _ H2 _ F2 r2
   ·simp only [if_neg z] at h1
    exact False.elim h1
theorem Qpc {B:Bs} {σ:St} {ρ:En} {α:Type} {o:Option α} {K:α → En → Prop} (h:Fin p B σ (.opt o ρ) K):∃ a,o = some a ∧ K a ρ:=by
 cases o with
 | none=>exact False.elim h
 | some a=>exact ⟨a,rfl,h⟩
theorem Qzs {B:Bs} {σ:St} {ρ:En} {α:Type} {ra rb:PV} {f:T → T → Out α} {K:α → En → Prop} (h:Fin p B σ (match cont ρ ra,cont ρ rb with | some x,some y=>f x y | _,_=>.no) K):∃ x y,cont ρ ra = some x ∧ cont ρ rb = some y ∧ Fin p B σ (f x y) K:=by
 cases h1:cont ρ ra with
 | none=>rw [h1] at h; exact False.elim h
 | some x =>
  cases h2:cont ρ rb with
  | none=>rw [h1,h2] at h; exact False.elim h
  | some y=>rw [h1,h2] at h; exact ⟨x,y,rfl,rfl,h⟩
noncomputable def Op2 (r:R2) (f:T → T → Option PV):Prop:=∀ (B:Bs) (H:Hp) (G:Addr → Prop) (σ:St) (ρ:En) (x y:V) (t u:T) (w:PV) (Q:VK),FI B H G σ ρ → Rdb H G x t → Rdb H G y u → f t u = some w → (∀ v H1 G1,FI B H1 G1 σ ρ → PVR B.H H1 G1 σ ρ v w → Q v H1) → r x y H Q
theorem Qn9 {op:Operator} {r:R2} {o:BOp} (ho:QOp X (binaryOp op) r) (hs:Op2 r (opB o)) (ha:QE X a (tE p a')) (hb:QE X b (tE p b')):QE X (.BinOp a op b pos) (tE p (.bin o a' b')) :=
 (q_op ho ha hb).weak fun σ H Q ⟨G,ρ,F,h⟩=>by
  unfold evE at h
  refine tE2 F h fun ra rb ρ2 x y H2 G2 F2 r1 r2 h2=>?_
  obtain ⟨t,u,c1,c2,h3⟩:=Qzs h2
  obtain ⟨w,e,k⟩:=Qpc h3
  exact hs _ H2 G2 σ ρ2 x y t u w Q F2 (r1.rdb F2 c1) (r2.rdb F2 c2) e fun v H3 G3 F3 pv=>k v H3 G3 F3 pv
theorem Qes {t:T} {i:Int} (e:asI t = some i):t = .int i:=by
 cases t <;> first | (cases e; done) | skip
 cases e
 rfl
theorem Qkp {o:BOp} {t u:T} {w:PV} (e:opB o t u = some w) (hx:∀ t u,opX o t u = none):∃ i j,t = .int i ∧ u = .int j ∧ opN o i j = some w:=by
 unfold opB at e
 cases h1:asI t with
 | none=>rw [h1] at e; exact absurd e (by simp [hx])
 | some i =>
  cases h2:asI u with
  | none=>rw [h1,h2] at e; exact absurd e (by simp [hx])
  | some j=>rw [h1,h2] at e; exact ⟨i,j,Qes h1,Qes h2,e⟩
theorem Qu9 {o:BOp} {t u:T} {w:PV} (e:opB o t u = some w):(∃ i j,t = .int i ∧ u = .int j ∧ opN o i j = some w) ∨ opX o t u = some w:=by
 unfold opB at e
 cases h1:asI t with
 | none=>rw [h1] at e; exact .inr e
 | some i =>
  cases h2:asI u with
  | none=>rw [h1,h2] at e; exact .inr e
  | some j=>rw [h1,h2] at e; exact .inl ⟨i,j,Qes h1,Qes h2,e⟩
theorem Q3z (K:PySem.W.Frag):Op2 (Qn2 K) (opB .add):=by
 intro B H G σ ρ x y t u w Q F hx hy e q
 rcases Qu9 e with ⟨i,j,rfl,rfl,e⟩ | e1
 ·obtain rfl:=hx.int
  obtain rfl:=hy.int
  cases e
  exact .inl ⟨_,_,rfl,rfl,q _ H G F pvI⟩
 replace e:Q9a t u = some w:=e1
 clear e1
 unfold Q9a at e
 split at e
 ·rename_i ts us
  by_cases z:ts.length + us.length ≤ 100000
  ·rw [if_pos z] at e; cases e
   exact Q84 F.prv hx.tup hy.tup z fun v H1 s1 i1=>q v H1 G (F.grow s1) i1
  ·rw [if_neg z] at e; cases e
 ·rename_i ts us
  by_cases z:ts.length + us.length ≤ 100000
  ·rw [if_pos z] at e; cases e
   obtain ⟨a,vs,rfl,z1,ea,r1⟩:=hx.lst
   obtain ⟨b,ws,rfl,z2,eb,r2⟩:=hy.lst
   refine .inr (.inl ⟨a,b,vs,ws,rfl,rfl,ea,eb,Qbj (by rw [r1.length,r2.length]; exact z),fun l hl=>?_⟩)
   obtain ⟨F2,r3⟩:=Qi1 F hl (Same.upd hl) Qp (r1.append r2) (by rw [List.length_append]; exact z)
   exact q _ _ _ F2 r3
  ·rw [if_neg z] at e; cases e
 ·cases e
theorem Q30:Op2 (rI0 fun i j=>.int (i - j)) (opB .sub):=by
 intro B H G σ ρ x y t u w Q F hx hy e q
 obtain ⟨i,j,rfl,rfl,e⟩:=Qkp e fun _ _=>rfl
 obtain rfl:=hx.int
 obtain rfl:=hy.int
 cases e
 exact ⟨_,_,rfl,rfl,q _ H G F pvI⟩
theorem Qre {i:Int} (h:i.natAbs < 2 ^ 250):Builtin.Int.intBits i ≤ 2 ^ 20:=by
 have h1:Builtin.Int.intBits i ≤ 250:=by
  unfold Builtin.Int.intBits
  split
  ·exact Nat.zero_le _
  ·rename_i hn
   have h0:i.natAbs ≠ 0:=by
    intro z
    exact hn (by simpa using z)
   have h2:i.natAbs.log2 < 250:=(Nat.log2_lt h0).mpr h
   omega
 exact Nat.le_trans h1 (by decide)
theorem Qrf {i:Int} (h:i.natAbs.log2 < 9000):Builtin.Int.intBits i ≤ 2 ^ 20:=by
 have h1:Builtin.Int.intBits i ≤ 9000:=by
  unfold Builtin.Int.intBits
  split
  ·exact Nat.zero_le _
  ·omega
 exact Nat.le_trans h1 (by decide)
theorem Q31 {i j:Int} (h:Qcy i j = true):IntMulOk i j:=by
 unfold Qcy at h
 simp only [Bool.or_eq_true,Bool.and_eq_true,decide_eq_true_eq] at h
 rcases h with h | h | ⟨h1,h2⟩ | ⟨h1,h2⟩
 ·exact CMul.ok (.inl ⟨by omega,by omega⟩)
 ·exact CMul.ok (.inr ⟨by omega,by omega⟩)
 ·exact .of_bits (Qre h1) (Qre h2)
 ·exact .of_bits (Qrf h1) (Qrf h2)
noncomputable def Q6b:R2:=fun x y H Q=>(rI (fun i j=>IntMulOk i j) fun i j=>.int (i * j)) x y H Q ∨ Q5u x y H Q
theorem Q9j:QOp X (binaryOp .Mult) Q6b:=⟨(opI fun _ _ _ _ _ _ _ hc q=>mul_int q hc).or uMul⟩
theorem Q32:Op2 Q6b (opB .mul):=by
 intro B H G σ ρ x y t u w Q F hx hy e q
 rcases Qu9 e with ⟨i,j,rfl,rfl,e⟩ | e1
 ·obtain rfl:=hx.int
  obtain rfl:=hy.int
  have e':(if Qcy i j = true then some (PV.fz (.int (i * j))) else none) = some w:=e
  by_cases z:Qcy i j = true
  ·rw [if_pos z] at e'; cases e'
   exact .inl ⟨_,_,rfl,rfl,Q31 z,q _ H G F pvI⟩
  ·rw [if_neg z] at e'; cases e'
 replace e:Q9b t (asI u) = some w:=e1
 clear e1
 unfold Q9b at e
 split at e
 ·rename_i ts k hk
  obtain rfl:=Qes hk
  obtain rfl:=hy.int
  by_cases z:ts.length * k.toNat ≤ 100000 ∧ 1 ≤ k ∧ k.natAbs ≤ 100000 ∧ ts ≠ []
  ·rw [if_pos z] at e; cases e
   obtain ⟨a,vs,rfl,ha,r⟩:=hx.tup.tup_inv
   obtain ⟨z1,z2,z3,z4⟩:=z
   have hl:=r.length
   refine .inr (.inr (.inr ⟨a,k,vs,rfl,rfl,(Qah ha).2,fun e=>?_,z2,by omega,Qbj (by rw [hl]; exact z1),fun l H1 s1 e1 _=>q _ H1 G (F.grow s1) (Qfi (F.prv.mono s1) e1 ((r.flat k.toNat).mono (Qbn s1)) ?_)⟩))
   ·rw [e] at hl
    exact z4 (List.length_eq_zero_iff.mp hl.symm)
   ·rw [Qip,Nat.mul_comm]; exact z1
  ·rw [if_neg z] at e; cases e
 ·rename_i ts k hk
  obtain rfl:=Qes hk
  obtain rfl:=hy.int
  by_cases z:ts.length * k.toNat ≤ 100000 ∧ 1 ≤ k ∧ k.natAbs ≤ 100000
  ·rw [if_pos z] at e; cases e
   obtain ⟨a,vs,rfl,z1,ea,r1⟩:=hx.lst
   obtain ⟨z2,z3,z4⟩:=z
   refine .inr (.inr (.inl ⟨a,k,vs,rfl,rfl,ea,by omega,by omega,Qbj (by rw [r1.length]; exact z2),fun l hl=>?_⟩))
   obtain ⟨F2,r3⟩:=Qi1 F hl (Same.upd hl) Qp (r1.flat k.toNat) (by rw [Qip,Nat.mul_comm]; exact z2)
   exact q _ _ _ F2 r3
  ·rw [if_neg z] at e; cases e
 ·cases e
noncomputable def CDvF (i j:Int):Prop:=j ≠ 0 ∧ j.natAbs < 2 ^ 250
theorem Q9k:QOp X (binaryOp .FloorDiv) (rI CDvF fun i j=>.int (i.fdiv j)):=⟨opI fun i j _ _ _ _ _ hc q=>floordiv_int hc.1 q (.inl (PyProof.noPylong_of_log2 (by
 have h1:j.natAbs ≠ 0:=by have:=hc.1; omega
 have h2:j.natAbs.log2 < 250:=(Nat.log2_lt h1).mpr hc.2
 omega)))⟩
theorem Q9l:QOp X (binaryOp .Mod) (rI (fun _ j=>j ≠ 0) fun i j=>.int (i.fmod j)):=⟨Q20⟩
theorem Q33:Op2 (rI CDvF fun i j=>.int (i.fdiv j)) (opB .fdv):=by
 intro B H G σ ρ x y t u w Q F hx hy e q
 obtain ⟨i,j,rfl,rfl,e⟩:=Qkp e fun _ _=>rfl
 obtain rfl:=hx.int
 obtain rfl:=hy.int
 have e':(if 0 < j ∧ j.natAbs < 2 ^ 64 then some (PV.fz (.int (i / j))) else if j ≠ 0 ∧ j.natAbs < 2 ^ 250 then some (.fz (.int (i.fdiv j))) else none) = some w:=e
 by_cases z:0 < j ∧ j.natAbs < 2 ^ 64
 ·rw [if_pos z] at e'; cases e'
  refine ⟨_,_,rfl,rfl,⟨by omega,Nat.lt_trans z.2 (by decide)⟩,?_⟩
  show Q (.int (i.fdiv j)) H
  rw [Int.fdiv_eq_ediv_of_nonneg i (by omega)]
  exact q _ H G F pvI
 ·rw [if_neg z] at e'
  by_cases z2:j ≠ 0 ∧ j.natAbs < 2 ^ 250
  ·rw [if_pos z2] at e'; cases e'
   exact ⟨_,_,rfl,rfl,z2,q _ H G F pvI⟩
  ·rw [if_neg z2] at e'; cases e'
theorem Q34:Op2 (rI (fun _ j=>j ≠ 0) fun i j=>.int (i.fmod j)) (opB .mod):=by
 intro B H G σ ρ x y t u w Q F hx hy e q
 obtain ⟨i,j,rfl,rfl,e⟩:=Qkp e fun _ _=>rfl
 obtain rfl:=hx.int
 obtain rfl:=hy.int
 have e':(if 0 < j then some (PV.fz (.int (i % j))) else if j < 0 then some (.fz (.int (i.fmod j))) else none) = some w:=e
 by_cases z:0 < j
 ·rw [if_pos z] at e'; cases e'
  refine ⟨_,_,rfl,rfl,by omega,?_⟩
  show Q (.int (i.fmod j)) H
  rw [Int.fmod_eq_emod_of_nonneg i (by omega)]
  exact q _ H G F pvI
 ·rw [if_neg z] at e'
  by_cases z2:j < 0
  ·rw [if_pos z2] at e'; cases e'
   exact ⟨_,_,rfl,rfl,by omega,q _ H G F pvI⟩
  ·rw [if_neg z2] at e'; cases e'
theorem Q35:Op2 (rI Q7r fun i j=>.int (i ^ j.toNat)) (opB .pow):=by
 intro B H G σ ρ x y t u w Q F hx hy e q
 obtain ⟨i,j,rfl,rfl,e⟩:=Qkp e fun _ _=>rfl
 obtain rfl:=hx.int
 obtain rfl:=hy.int
 have e':(if 0 ≤ j ∧ j.natAbs ≤ 1000000 ∧ i.natAbs < 2 ^ 64 then some (PV.fz (.int (i ^ j.toNat))) else none) = some w:=e
 by_cases z:0 ≤ j ∧ j.natAbs ≤ 1000000 ∧ i.natAbs < 2 ^ 64
 ·rw [if_pos z] at e'; cases e'
  exact ⟨_,_,rfl,rfl,⟨z.1,by omega,z.2.2⟩,q _ H G F pvI⟩
 ·rw [if_neg z] at e'; cases e'
theorem Qadr (ha:QE X a (tE p a')):QE X (.UnaryOp .USub a pos) (tE p (.neg a')) :=
 (q_un Qacu ha).weak fun σ H Q ⟨G,ρ,F,h⟩=>by
  unfold evE at h
  refine ⟨G,ρ,F,h.bind.imp fun r ρ1 h1 v H1 G1 F1 r1=>?_⟩
  cases r with
  | fz t =>
   cases t <;> first | exact False.elim h1 | skip
   obtain rfl:=r1.is.int_inv
   exact ⟨_,rfl,h1 _ H1 G1 F1 pvI⟩
  | ow t=>exact False.elim h1
  | sl i=>exact False.elim h1
theorem PVR.bl {H0 H:Hp} {G:Addr → Prop} {σ:St} {ρ:En} {v:V} {b:Bool} (h:PVR H0 H G σ ρ v (.fz (.bl b))):v = .bl b:=by
 have q:=h.is
 unfold Is at q
 exact q
theorem Qoa {Q:Bool → Hp → Prop} {σ:St} {H:Hp} (h:tT p e' σ H Q):tE p e' σ H fun x H1=>∃ c,x = .bl c ∧ Q c H1:=by
 obtain ⟨G,ρ,F,h⟩:=h
 refine ⟨G,ρ,F,(Qrc h).imp ?_⟩
 rintro r ρ1 ⟨b,rfl,k⟩ v H1 G1 F1 r1
 exact ⟨b,r1.bl,k H1 G1 F1⟩
theorem Q6c (ha:QE X a (tE p a')):QE X (.UnaryOp .Not a pos) (tE p (.not a')) :=
 (Qack ha).weak fun σ H Q ⟨G,ρ,F,h⟩=>by
  unfold evE at h
  exact Qoa (Q:=fun c H1=>Q (.bl (!c)) H1) ⟨G,ρ,F,h.bind.imp fun b ρ1 k H1 G1 F1=>k _ H1 G1 F1 pvB⟩
theorem Qll {rest:List Expr} (ha:QE X a (tE p a')) (hb:QE X (.BoolOp .And (b :: rest) pos) (tE p b')):QE X (.BoolOp .And (a :: b :: rest) pos) (tE p (.and a' b')) :=
 (Qacm ha hb).weak fun σ H Q ⟨G,ρ,F,h⟩=>by
  unfold evE at h
  refine Qoa (Q:=fun c H1=>if c = true then tE p b' σ H1 Q else Q (.bl false) H1) ⟨G,ρ,F,h.bind.imp fun c ρ1 k H1 G1 F1=>?_⟩
  cases c with
  | false=>exact k _ H1 G1 F1 pvB
  | true =>
   show tE p b' σ H1 Q
   refine Qi0 F1 (Qrc k.bind) ?_
   rintro r ρ2 v H2 G2 ⟨d,rfl,k2⟩ F2 F2' r2
   exact k2 v H2 G2 F2 r2
theorem Qrg {op} (ha:QE X a (tE p a')):QE X (.BoolOp op [a] pos) (tE p a'):=Qacl ha
theorem Qads {c:Expr} (hc:QT X c (tT p c')) (ha:QE X a (tE p a')) (hb:QE X b (tE p b')):QE X (.IfExp c a b pos) (tE p (.ite c' a' b')) :=
 (q_if hc ha hb).weak fun σ H Q ⟨G,ρ,F,h⟩=>by
  unfold evE at h
  refine ⟨G,ρ,F,h.bind.imp fun k ρ1 h1 H1 G1 F1=>?_⟩
  cases k with
  | true=>exact Qi0 F1 h1 fun r ρ2 v H2 G2 k2 F2 F2' r2=>k2 v H2 G2 F2 (r2.early F1)
  | false=>exact Qi0 F1 h1 fun r ρ2 v H2 G2 k2 F2 F2' r2=>k2 v H2 G2 F2 (r2.early F1)
theorem Qadt (ha:QE X e (tE p e')) (he:∀ whole,isTrue e X.env whole = (do let v ← whole; standAt e.pos; holding [v] (truthy v))):QT X e (tT p e'):=(Q8r ha he).weak fun σ H Q h=>Qoa h
theorem Qgt (ha:QT X a (tT p a')):QT X (.UnaryOp .Not a pos) (tT p (.not a')) :=
 (Q8s ha).weak fun σ H Q ⟨G,ρ,F,h⟩=>by
  unfold evE at h
  refine ⟨G,ρ,F,?_⟩
  cases e:Qak (evE p.cf a' ρ) with
  | ok b ρ1=>rw [e] at h; exact h
  | xn x ρ1=>rw [e] at h; exact h
  | no=>rw [e] at h; exact h
theorem Q6d {rest:List Expr} (ha:QT X a (tT p a')) (hb:QW X (.BoolOp .And (b :: rest) pos) (tT p b')):QW X (.BoolOp .And (a :: b :: rest) pos) (tT p (.and a' b')) :=
 (Q8u ha hb).weak fun σ H Q ⟨G,ρ,F,h⟩=>by
  unfold evE at h
  have h2:Fin p (Qaw H G σ ρ) σ (Qak (evE p.cf a' ρ)) fun c ρ1=>Fin p (Qaw H G σ ρ) σ (if c then Qak (evE p.cf b' ρ1) else .ok false ρ1) fun b ρ1=>∀ H1 G1,FI (Qaw H G σ ρ) H1 G1 σ ρ1 → Q b H1:=by
   cases e:Qak (evE p.cf a' ρ) with
   | ok b ρ1 =>
    rw [e] at h
    cases b with
    | false=>exact h
    | true =>
     show Fin _ _ _ (Qak (evE p.cf b' ρ1)) _
     cases e2:Qak (evE p.cf b' ρ1) with
     | ok b ρ2=>simp only [Out.bind,if_true,e2] at h; exact h
     | xn x ρ2=>simp only [Out.bind,if_true,e2] at h; exact h
     | no=>simp only [Out.bind,if_true,e2] at h; exact h
   | xn x ρ1=>rw [e] at h; exact h
   | no=>rw [e] at h; exact h
  refine ⟨G,ρ,F,h2.imp fun c ρ1 k H1 G1 F1=>?_⟩
  cases c with
  | false=>exact k H1 G1 F1
  | true=>exact Qzr F1 k fun b ρ2 H2 G2 k2 F2 _=>k2 H2 G2 F2
theorem Qpd {rest:List Expr} (ha:QT X a (tT p a')) (hb:QW X (.BoolOp .Or (b :: rest) pos) (tT p b')):QW X (.BoolOp .Or (a :: b :: rest) pos) (tT p (.or a' b')) :=
 (Qaco ha hb).weak fun σ H Q ⟨G,ρ,F,h⟩=>by
  unfold evE at h
  have h2:Fin p (Qaw H G σ ρ) σ (Qak (evE p.cf a' ρ)) fun c ρ1=>Fin p (Qaw H G σ ρ) σ (if c then .ok true ρ1 else Qak (evE p.cf b' ρ1)) fun b ρ1=>∀ H1 G1,FI (Qaw H G σ ρ) H1 G1 σ ρ1 → Q b H1:=by
   cases e:Qak (evE p.cf a' ρ) with
   | ok b ρ1 =>
    rw [e] at h
    cases b with
    | true=>exact h
    | false =>
     show Fin _ _ _ (Qak (evE p.cf b' ρ1)) _
     cases e2:Qak (evE p.cf b' ρ1) with
     | ok b ρ2=>simp only [Out.bind,e2] at h; exact h
     | xn x ρ2=>simp only [Out.bind,e2] at h; exact h
     | no=>simp only [Out.bind,e2] at h; exact h
   | xn x ρ1=>rw [e] at h; exact h
   | no=>rw [e] at h; exact h
  refine ⟨G,ρ,F,h2.imp fun c ρ1 k H1 G1 F1=>?_⟩
  cases c with
  | true=>exact k H1 G1 F1
  | false=>exact Qzr F1 k fun b ρ2 H2 G2 k2 F2 _=>k2 H2 G2 F2
theorem Qi2 {op} (ha:QT X a (tT p a')):QW X (.BoolOp op [a] pos) (tT p a'):=by
 cases op with
 | And=>exact Q3q ha
 | Or=>exact Q8t ha
theorem t_w (h:QW X e (tT p e')):QT X e (tT p e'):=q_wt h
end
section
variable {X:Cx} {p:Pr} {e a b:Expr} {es:List Expr} {e' a' b' c':E} {es':Es} {pos p1 p2 p3:Pos} {x:Str}
noncomputable def Oc2 (r:R2) (f:T → T → Option Bool):Prop:=∀ (H:Hp) (G:Addr → Prop) (x y:V) (t u:T) (k:Bool) (Q:VK),Rdb H G x t → Rdb H G y u → f t u = some k → Q (.bl k) H → r x y H Q
theorem Qzt {r:R2} {o:COp} (hs:Oc2 r (opC o)) {σ:St} {H:Hp} {Q:VK} (h:tE p (.cmp o a' b') σ H Q):tOp r (tE p a') (tE p b') σ H Q:=by
 obtain ⟨G,ρ,F,h⟩:=h
 unfold evE at h
 refine tE2 F h fun ra rb ρ2 x y H2 G2 F2 r1 r2 h2=>?_
 obtain ⟨t,u,c1,c2,h3⟩:=Qzs h2
 cases e:opC o t u with
 | none=>rw [e] at h3; exact False.elim h3
 | some k =>
  rw [e] at h3
  exact hs H2 G2 x y t u k Q (r1.rdb F2 c1) (r2.rdb F2 c2) e (h3 _ H2 G2 F2 pvB)
theorem Qob {op:CmpOp} {r:R2} {o:COp} (ho:QOp X (compareOp op) r) (hs:Oc2 r (opC o)) (ha:QE X a (tE p a')) (hb:QE X b (tE p b')) (hm:behindInMarks op b = false):QE X (.Compare a [op] [b] pos) (tE p (.cmp o a' b')) :=
 (Qacn ho ha hb hm).weak fun σ H Q h=>Qzt hs h
theorem Qoc {op:CmpOp} {r:R2} {o:COp} (ho:QOp X (compareOp op) r) (hs:Oc2 r (opC o)) (ha:QE X a (tE p a')) (hb:QE X b (tE p b')) (hm:behindInMarks op b = false):QT X (.Compare a [op] [b] pos) (tT p (.cmp o a' b')) :=
 (Qy1 ho ha hb hm).weak fun σ H Q h=>Qzt hs (Qoa h)
noncomputable def vOf:T → V
 | .non=>.non | .bl b=>.bl b | .int i=>.int i | .str x=>.str x | _=>.non
theorem Rdb.vOf {H:Hp} {G:Addr → Prop} {v:V} {t:T} (h:Rdb H G v t) (e:Qle t = true):v = vOf t:=by
 cases t with
 | non=>exact h.non
 | bl b=>exact h.bl
 | int i=>exact h.int
 | str x=>exact h.str
 | tup ts=>cases e
 | lst ts=>cases e
 | dct ks ts=>cases e
 | clo ks ts=>cases e
 | dtt ks ts=>cases e
theorem Qrh {t u:T} {k:Bool} (e:eqO t u = some k) (h1:Qle t = true) (h2:Qle u = true):Q7x (vOf t) (vOf u) = true ∧ decide (vOf t = vOf u) = k:=by
 cases t <;> first | (cases h1; done) | skip
 all_goals (cases u <;> first | (cases h2; done) | skip)
 all_goals (first | (cases e; done) | skip)
 all_goals (have e':=Option.some.inj e; subst e'; refine ⟨rfl,?_⟩; simp [vOf])
theorem Qri {t u:T} {k:Bool} (e:eqO t u = some k):(Qle t = true ∧ Qle u = true) ∨ (Qm 50 t = true ∧ Qm 50 u = true ∧ ((∃ ts us,t = .tup ts ∧ u = .tup us) ∨ ∃ ts us,t = .lst ts ∧ u = .lst us) ∧ k = eqT t u):=by
 cases t <;> cases u <;> first | (cases e; done) | exact .inl ⟨rfl,rfl⟩ | skip
 ·rename_i ts us
  have e:(if Qm 50 (.tup ts) = true ∧ Qm 50 (.tup us) = true then some (eqT (.tup ts) (.tup us)) else none) = some k:=e
  by_cases z:Qm 50 (.tup ts) = true ∧ Qm 50 (.tup us) = true
  ·rw [if_pos z] at e
   exact .inr ⟨z.1,z.2,.inl ⟨_,_,rfl,rfl⟩,(Option.some.inj e).symm⟩
  ·rw [if_neg z] at e; cases e
 ·rename_i ts us
  have e:(if Qm 50 (.lst ts) = true ∧ Qm 50 (.lst us) = true then some (eqT (.lst ts) (.lst us)) else none) = some k:=e
  by_cases z:Qm 50 (.lst ts) = true ∧ Qm 50 (.lst us) = true
  ·rw [if_pos z] at e
   exact .inr ⟨z.1,z.2,.inr ⟨_,_,rfl,rfl⟩,(Option.some.inj e).symm⟩
  ·rw [if_neg z] at e; cases e
noncomputable def rEqU:R2:=fun x y H Q=>rEq x y H Q ∨ Q3w false x y H Q
noncomputable def rNeU:R2:=fun x y H Q=>rNe x y H Q ∨ Q3w true x y H Q
theorem Q6e (hu:X.A.units + 64 < cLine):QOp X (compareOp .Eq) rEqU:=⟨o_eq.h.or (Qac7 hu).h⟩
theorem Q6f (hu:X.A.units + 64 < cLine):QOp X (compareOp .NotEq) rNeU:=⟨o_ne.h.or (Qac8 hu).h⟩
theorem Qzu:Oc2 rEqU (opC .eq):=by
 intro H G x y t u k Q hx hy e q
 have e:eqO t u = some k:=e
 rcases Qri e with ⟨h1,h2⟩ | ⟨h1,h2,h3,rfl⟩
 ·obtain ⟨z1,z2⟩:=Qrh e h1 h2
  rw [hx.vOf h1,hy.vOf h2]
  exact .inl ⟨z1,by rw [z2]; exact q⟩
 ·exact .inr ⟨t,u,hx.is,hy.is,h1,h2,h3,q⟩
theorem Qzv:Oc2 rNeU (opC .ne):=by
 intro H G x y t u k Q hx hy e q
 have e:(eqO t u).map (!·) = some k:=e
 cases e0:eqO t u with
 | none=>rw [e0] at e; cases e
 | some k0 =>
  rw [e0] at e
  cases e
  rcases Qri e0 with ⟨h1,h2⟩ | ⟨h1,h2,h3,rfl⟩
  ·obtain ⟨z1,z2⟩:=Qrh e0 h1 h2
   rw [hx.vOf h1,hy.vOf h2]
   exact .inl ⟨z1,by rw [z2]; exact q⟩
  ·exact .inr ⟨t,u,hx.is,hy.is,h1,h2,h3,q⟩
theorem Qi3 {f:Int → Int → Bool} {t u:T} {k:Bool} (e:Qxc f t u = some k):∃ i j,t = .int i ∧ u = .int j ∧ f i j = k:=by
 unfold Qxc at e
 cases h1:asI t with
 | none=>rw [h1] at e; cases e
 | some i =>
  cases h2:asI u with
  | none=>rw [h1,h2] at e; cases e
  | some j=>rw [h1,h2] at e; exact ⟨i,j,Qes h1,Qes h2,Option.some.inj e⟩
theorem Qzw:Oc2 (rI0 fun i j=>.bl (decide (i < j))) (opC .lt):=by
 intro H G x y t u k Q hx hy e q
 obtain ⟨i,j,rfl,rfl,rfl⟩:=Qi3 e
 obtain rfl:=hx.int
 obtain rfl:=hy.int
 exact ⟨_,_,rfl,rfl,q⟩
theorem Q9m:Oc2 (rI0 fun i j=>.bl (decide (i ≤ j))) (opC .le):=by
 intro H G x y t u k Q hx hy e q
 obtain ⟨i,j,rfl,rfl,rfl⟩:=Qi3 e
 obtain rfl:=hx.int
 obtain rfl:=hy.int
 exact ⟨_,_,rfl,rfl,q⟩
theorem Q9n:Oc2 (rI0 fun i j=>.bl (decide (j < i))) (opC .gt):=by
 intro H G x y t u k Q hx hy e q
 obtain ⟨i,j,rfl,rfl,rfl⟩:=Qi3 e
 obtain rfl:=hx.int
 obtain rfl:=hy.int
 exact ⟨_,_,rfl,rfl,q⟩
theorem Q9o:Oc2 (rI0 fun i j=>.bl (decide (j ≤ i))) (opC .ge):=by
 intro H G x y t u k Q hx hy e q
 obtain ⟨i,j,rfl,rfl,rfl⟩:=Qi3 e
 obtain rfl:=hx.int
 obtain rfl:=hy.int
 exact ⟨_,_,rfl,rfl,q⟩
theorem Qva {H:Hp} {v:V} {t:T} (h:Is H v t):decide (v = .non) = Qeq t:=by
 cases t with
 | non=>unfold Is at h; subst h; rfl
 | bl b=>unfold Is at h; subst h; rfl
 | int i=>unfold Is at h; subst h; rfl
 | str x=>unfold Is at h; subst h; rfl
 | tup ts=>obtain ⟨a,vs,rfl,_⟩:=h.tup_inv; rfl
 | lst ts=>obtain ⟨a,vs,rfl,_⟩:=h.lst_inv; rfl
 | dct ks ts=>unfold Is at h; obtain ⟨a,vs,rfl,_⟩:=h; rfl
 | clo ks ts=>unfold Is at h; obtain ⟨a,vs,l,rfl,_⟩:=h; rfl
 | dtt ks ts=>unfold Is at h; obtain ⟨_,a,vs,rfl,_⟩:=h; rfl
theorem Q36:Oc2 rIsN (opC .isn):=by
 intro H G x y t u k Q hx hy e q
 cases u <;> first | (cases e; done) | skip
 have e:some (Qeq t) = some k:=e
 cases e
 exact ⟨hy.non,by rw [Qva hx.is]; exact q⟩
theorem Qrj:Oc2 Q52 (opC .isnn):=by
 intro H G x y t u k Q hx hy e q
 cases u <;> first | (cases e; done) | skip
 have e:some (!Qeq t) = some k:=e
 cases e
 exact ⟨hy.non,by rw [Qva hx.is]; exact q⟩
theorem Qzx {n:String} (h:Qlh n = true):n ∈ ["int","bool","tuple","list","dict","str"]:=by
 unfold Qlh at h
 simp only [Bool.or_eq_true,beq_iff_eq] at h
 simp only [List.mem_cons,List.not_mem_nil,or_false]
 rcases h with ((((h | h) | h) | h) | h) | h <;> subst h <;> simp
theorem Qadw {n:String} {tn:Expr} (hm:X.mg "isinstance" = none) (hv:bootBuiltins "isinstance" = some (.builtin "isinstance")) (ha:QE X a (tE p a')) (ht:QE X tn (tC (.ty n))) (hg:Gl X "isinstance") (h1:Q1 a = true) (h2:Q1 tn = true):QE X (.Call (.Name "isinstance" p1) [a,tn] [] pos) (tE p (.isI a' n)) :=
 (Q8v Q81 hm hv (Qcm ha (Qcm ht Qfa h2) h1) hg (by decide) (by decide) h1 (by rw [Qbm h2]; rfl)).weak fun σ H Q ⟨G,ρ,F,h⟩=>by
  unfold evE at h
  refine ⟨G,ρ,F,h.bind.imp fun r ρ1 h1 v H1 G1 F1 r1=>?_⟩
  cases e:cont ρ1 r with
  | none=>rw [e] at h1; exact False.elim h1
  | some t =>
   rw [e] at h1
   by_cases z:(Qlh n && !Qhz t) = true
   ·simp only [if_pos z] at h1
    rw [Bool.and_eq_true,Bool.not_eq_true'] at z
    exact ⟨v,n,t,rfl,(r1.rdb F1 e).is,z.2,Qzx z.1,h1 _ H1 G1 F1 pvB⟩
   ·simp only [if_neg z] at h1
    exact False.elim h1
inductive Rdbs (H:Hp) (G:Addr → Prop):List V → List T → Prop where
 | nil:Rdbs H G [] []
 | cons {v t vs ts}:Rdb H G v t → Rdbs H G vs ts → Rdbs H G (v :: vs) (t :: ts)
theorem PVRs.rdbs {B:Bs} {H0 H:Hp} {G:Addr → Prop} {σ:St} {ρ:En} {vs:List V} {rs:List PV} (h:PVRs H0 H G σ ρ vs rs) (F:FI B H G σ ρ):∀ {ts:List T},Qaa ρ rs = some ts → Rdbs H G vs ts:=by
 induction h with
 | nil=>intro ts e; cases e; exact .nil
 | cons a _ ih =>
  intro ts e
  rename_i v r vs rs _
  unfold Qaa at e
  cases h1:cont ρ r with
  | none=>rw [h1] at e; cases e
  | some t =>
   cases h2:Qaa ρ rs with
   | none=>rw [h1,h2] at e; cases e
   | some us =>
    rw [h1,h2] at e
    cases e
    exact .cons (a.rdb F h1) (ih h2)
noncomputable def Ob (r:List V → Hp → VK → Prop) (b:Bi):Prop:=∀ (B:Bs) (H:Hp) (G:Addr → Prop) (σ:St) (ρ:En) (vs:List V) (ts:List T) (w:PV) (Q:VK),FI B H G σ ρ → Rdbs H G vs ts → Qjv b ts = some w → (∀ v H1 G1,FI B H1 G1 σ ρ → PVR B.H H1 G1 σ ρ v w → Q v H1) → r vs H Q
theorem Q6g {r:List V → Hp → VK → Prop} {b:Bi} (hs:Ob r b) {σ:St} {H:Hp} {Q:VK} (h:tE p (.bi b es') σ H Q):tCB r (tA p es') σ H Q:=by
 obtain ⟨G,ρ,F,h⟩:=h
 unfold evE at h
 refine ⟨G,ρ,F,h.bind.imp fun rs ρ1 h1 vs H1 G1 F1 r1=>?_⟩
 cases e:Qaa ρ1 rs with
 | none=>rw [e] at h1; exact False.elim h1
 | some ts =>
  rw [e] at h1
  obtain ⟨w,ew,k⟩:=Qpc h1
  exact hs _ H1 G1 σ ρ1 vs ts w Q F1 (r1.rdbs F1 e) ew fun v H2 G2 F2 r2=>k v H2 G2 F2 r2
theorem Rdbs.one {H:Hp} {G:Addr → Prop} {vs:List V} {t:T} (h:Rdbs H G vs [t]):∃ v,vs = [v] ∧ Rdb H G v t:=by
 cases h with
 | cons a b=>cases b; exact ⟨_,rfl,a⟩
theorem Rdbs.two {H:Hp} {G:Addr → Prop} {vs:List V} {t u:T} (h:Rdbs H G vs [t,u]):∃ v w,vs = [v,w] ∧ Rdb H G v t ∧ Rdb H G w u:=by
 cases h with
 | cons a b =>
  cases b with
  | cons c d=>cases d; exact ⟨_,_,rfl,a,c⟩
theorem Qgu:∀ {ts:List T} {is:List Int},Qdc ts = some is → ts = is.map T.int
 | [],is,e=>by cases e; rfl
 | .int i :: ts,is,e=>by
  unfold Qdc at e
  cases h:Qdc ts with
  | none=>rw [h] at e; cases e
  | some js=>rw [h] at e; cases e; rw [Qgu h]; rfl
 | .non :: _,_,e=>by cases e
 | .bl _ :: _,_,e=>by cases e
 | .str _ :: _,_,e=>by cases e
 | .tup _ :: _,_,e=>by cases e
 | .lst _ :: _,_,e=>by cases e
 | .dct _ _ :: _,_,e=>by cases e
 | .clo _ _ :: _,_,e=>by cases e
 | .dtt _ _ :: _,_,e=>by cases e
theorem Qlm {D:Hp}:∀ {ts:List T} {bs:List Bool} {vs:List V},Qe1 ts = some bs → IsL D vs ts → vs.all Qk3 = true ∧ vs.all Qke = bs.all id ∧ vs.any Qke = bs.any id
 | [],bs,vs,e,r=>by cases e; rw [r.nil_inv]; exact ⟨rfl,rfl,rfl⟩
 | t :: ts,bs,vs,e,r=>by
  obtain ⟨v,w,rfl,a,q⟩:=r.cons_inv
  unfold Qe1 at e
  cases h1:truT t with
  | none=>rw [h1] at e; cases e
  | some b =>
   cases h2:Qe1 ts with
   | none=>rw [h1,h2] at e; cases e
   | some cs =>
    rw [h1,h2] at e
    cases e
    obtain ⟨q1,q2,q3⟩:=Qlm h2 q
    have hv:Qk3 v = true ∧ Qke v = b:=by
     cases t <;> first | (cases h1; done) | skip
     ·unfold Is at a; subst a; cases h1; exact ⟨rfl,rfl⟩
     ·obtain rfl:=a.int_inv; cases h1
      refine ⟨rfl,?_⟩
      rename_i i
      show (i != 0) = decide (i ≠ 0)
      by_cases z:i = 0 <;> simp [z]
    rw [List.all_cons,List.all_cons,List.any_cons,List.all_cons,List.any_cons,q1,q2,q3,hv.1,hv.2]
    exact ⟨rfl,rfl,rfl⟩
theorem Qag (K:PySem.W.Frag):Ob (Q8m K) .len:=by
 intro B H G σ ρ vs ts w Q F r e q
 match ts,e,r with
 | [.lst a],e,r =>
  cases e
  obtain ⟨v,rfl,h⟩:=r.one
  obtain ⟨l,ws,rfl,z,el,rl⟩:=h.lst
  exact ⟨l,ws,rfl,.inl (SqL.of el),by rw [rl.length]; exact q _ H G F pvI⟩
 | [.tup a],e,r =>
  cases e
  obtain ⟨v,rfl,h⟩:=r.one
  obtain ⟨l,ws,rfl,el,rl⟩:=h.tup.tup_inv
  exact ⟨l,ws,rfl,.inr (SqT.of (Qah el).2),by rw [rl.length]; exact q _ H G F pvI⟩
theorem Q9p:Ob rAbs .abs:=by
 intro B H G σ ρ vs ts w Q F r e q
 match ts,e,r with
 | [.int i],e,r =>
  cases e
  obtain ⟨v,rfl,h⟩:=r.one
  obtain rfl:=h.int
  exact ⟨i,rfl,q _ H G F pvI⟩
theorem Qpe (K:PySem.W.Frag):Ob (Q8n K) .all:=by
 intro B H G σ ρ vs ts w Q F r e q
 match ts,e,r with
 | [.lst a],e,r =>
  obtain ⟨v,rfl,h⟩:=r.one
  obtain ⟨l,ws,rfl,z,el,rl⟩:=h.lst
  have e:(Qe1 a).map (fun bs=>PV.fz (.bl (bs.all id))) = some w:=e
  cases h1:Qe1 a with
  | none=>rw [h1] at e; cases e
  | some bs =>
   rw [h1] at e
   cases e
   obtain ⟨q1,q2,q3⟩:=Qlm h1 rl
   exact ⟨l,ws,rfl,SqL.of el,q1,by rw [q2]; exact q _ H G F pvB⟩
theorem Qth (K:PySem.W.Frag):Ob (Q8o K) .any:=by
 intro B H G σ ρ vs ts w Q F r e q
 match ts,e,r with
 | [.lst a],e,r =>
  obtain ⟨v,rfl,h⟩:=r.one
  obtain ⟨l,ws,rfl,z,el,rl⟩:=h.lst
  have e:(Qe1 a).map (fun bs=>PV.fz (.bl (bs.any id))) = some w:=e
  cases h1:Qe1 a with
  | none=>rw [h1] at e; cases e
  | some bs =>
   rw [h1] at e
   cases e
   obtain ⟨q1,q2,q3⟩:=Qlm h1 rl
   exact ⟨l,ws,rfl,SqL.of el,q1,by rw [q3]; exact q _ H G F pvB⟩
theorem Q9q (K:PySem.W.Frag):Ob (Qyz K) .sum:=by
 intro B H G σ ρ vs ts w Q F r e q
 match ts,e,r with
 | [.lst a],e,r =>
  obtain ⟨v,rfl,h⟩:=r.one
  obtain ⟨l,ws,rfl,z,el,rl⟩:=h.lst
  have e:(Qdc a).map (fun is=>PV.fz (.int is.sum)) = some w:=e
  cases h1:Qdc a with
  | none=>rw [h1] at e; cases e
  | some is =>
   rw [h1] at e
   cases e
   rw [Qgu h1] at rl
   rw [rl.ints_inv] at el
   exact ⟨l,is,rfl,SqL.of el,q _ H G F pvI⟩
theorem Qvb:∀ (xs:List Int) (m:Int),m ≤ Qkg m xs ∧ (∀ a ∈ xs,a ≤ Qkg m xs) ∧ (Qkg m xs = m ∨ Qkg m xs ∈ xs)
 | [],m=>⟨Int.le_refl _,fun _ h=>(nomatch h),.inl rfl⟩
 | x :: xs,m=>by
  unfold Qkg
  obtain ⟨h1,h2,h3⟩:=Qvb xs (if m < x then x else m)
  have k1:m ≤ (if m < x then x else m):=by split <;> omega
  have k2:x ≤ (if m < x then x else m):=by split <;> omega
  refine ⟨by omega,fun a ha=>?_,?_⟩
  ·rcases List.mem_cons.mp ha with rfl | ha
   ·omega
   ·exact h2 a ha
  ·rcases h3 with h3 | h3
   ·rw [h3]
    split
    ·exact .inr List.mem_cons_self
    ·exact .inl rfl
   ·exact .inr (List.mem_cons_of_mem _ h3)
noncomputable def Q6h (K:PySem.W.Frag):List V → Hp → VK → Prop:=fun xs H Q=>Q53 xs H Q ∨ Qyy K xs H Q
theorem Q9r (K:PySem.W.Frag) (hK:X.K = K) (hc:X.calm = true):QCl X (.builtin "max") (Q6h K):=⟨(Q83 hc).h.or (Q82 K hK hc).h⟩
theorem Q9s (K:PySem.W.Frag):Ob (Q6h K) .max:=by
 intro B H G σ ρ vs ts w Q F r e q
 match ts,e,r with
 | [.int i,.int j],e,r =>
  cases e
  obtain ⟨v,u,rfl,h1,h2⟩:=r.two
  obtain rfl:=h1.int
  obtain rfl:=h2.int
  exact .inl ⟨i,j,rfl,q _ H G F pvI⟩
 | [.lst a],e,r =>
  obtain ⟨v,rfl,h⟩:=r.one
  obtain ⟨l,ws,rfl,z,el,rl⟩:=h.lst
  have e:(match Qdc a with | some (x :: xs)=>some (PV.fz (.int (Qkg x xs))) | _=>none) = some w:=e
  cases h1:Qdc a with
  | none=>rw [h1] at e; cases e
  | some is =>
   rw [h1] at e
   cases is with
   | nil=>cases e
   | cons i is =>
    cases e
    rw [Qgu h1] at rl
    rw [rl.ints_inv] at el
    obtain ⟨k1,k2,k3⟩:=Qvb is i
    refine .inr ⟨l,i :: is,rfl,SqL.of el,by simp,fun M hM hle=>?_⟩
    have e:M = Qkg i is:=by
     have a1:=hle (Qkg i is) (k3.elim (fun k3=>by rw [k3]; exact List.mem_cons_self) fun k3=>List.mem_cons_of_mem _ k3)
     have a2:M ≤ Qkg i is:=by
      rcases List.mem_cons.mp hM with rfl | hM
      ·exact k1
      ·exact k2 M hM
     omega
    rw [e]
    exact q _ H G F pvI
theorem Q9t:Ob rDvm .dvm:=by
 intro B H G σ ρ vs ts w Q F r e q
 match ts,e,r with
 | [.int i,.int j],e,r =>
  have e:(if 0 < j ∧ j.natAbs < 2 ^ 64 then some (PV.fz (.tup [.int (i / j),.int (i % j)])) else none) = some w:=e
  by_cases z:0 < j ∧ j.natAbs < 2 ^ 64
  ·rw [if_pos z] at e; cases e
   obtain ⟨v,u,rfl,h1,h2⟩:=r.two
   obtain rfl:=h1.int
   obtain rfl:=h2.int
   refine ⟨i,j,rfl,⟨z.1,by omega⟩,fun l hl=>q _ _ G (F.grow (Same.upd hl)) ?_⟩
   exact Qfi (F.prv.mono (Same.upd hl)) Qp (.cons Is.int (.one Is.int)) (by show 2 ≤ 100000; decide)
  ·rw [if_neg z] at e; cases e
theorem Qti:Ob Q54 .int:=by
 intro B H G σ ρ vs ts w Q F r e q
 match ts,e,r with
 | [.int i],e,r =>
  cases e
  obtain ⟨v,rfl,h⟩:=r.one
  obtain rfl:=h.int
  exact .inl ⟨i,rfl,q _ H G F pvI⟩
 | [.bl b],e,r =>
  cases e
  obtain ⟨v,rfl,h⟩:=r.one
  obtain rfl:=h.bl
  exact .inr ⟨b,rfl,q _ H G F pvI⟩
theorem Qc0 (K:PySem.W.Frag):Ob (Qs8 K) .tup:=by
 intro B H G σ ρ vs ts w Q F r e q
 match ts,e,r with
 | [.lst a],e,r =>
  cases e
  obtain ⟨v,rfl,h⟩:=r.one
  obtain ⟨l,ws,rfl,z,el,rl⟩:=h.lst
  exact ⟨l,ws,rfl,.inl ⟨SqL.of el,fun l2 hl=>q _ _ G (F.grow (Same.upd hl)) (Qfi (F.prv.mono (Same.upd hl)) Qp (rl.mono (Qbn (Same.upd hl))) z)⟩⟩
 | [.tup a],e,r =>
  cases e
  obtain ⟨v,rfl,h⟩:=r.one
  have h0:=h.tup
  obtain ⟨l,ws,rfl,el,rl⟩:=h.tup.tup_inv
  exact ⟨l,ws,rfl,.inr ⟨SqT.of (Qah el).2,q _ H G F h0⟩⟩
theorem Qgv:∀ {es:List Expr} {env:Env} {pos:Pos},es.all Q1 = true → (backTo pos (starEach es env)).any (·.1) = false
 | [],_,_,_=>rfl
 | e :: es,env,pos,h=>by
  rw [List.all_cons,Bool.and_eq_true] at h
  rw [Qbm h.1]
  have q:=Qgv (env:=env) (pos:=pos) h.2
  unfold backTo at q ⊢
  rw [List.map_cons,List.any_cons,q]
  rfl
theorem s_bi {id:String} {r:List V → Hp → VK → Prop} {b:Bi} (hc:QCl X (.builtin id) r) (hs:Ob r b) (hm:X.mg x = none) (hv:bootBuiltins x = some (.builtin id)) (ha:QA X (e :: es) (tA p es')) (hg:Gl X x) (hn:x ≠ "__name__") (hdb:(x == ("__debug__" : Str)) = false) (h1:Q1 e = true) (h2:es.all Q1 = true) :
  QE X (.Call (.Name x p1) (e :: es) [] pos) (tE p (.bi b es')):=(Q8v hc hm hv ha hg hn hdb h1 (Qgv h2)).weak fun σ H Q h=>Q6g hs h
theorem Qadx {T:String} {r:List V → Hp → VK → Prop} {b:Bi} (hc:QCl X (.type T) r) (hs:Ob r b) (hm:X.mg x = none) (hv:bootBuiltins x = some (.type T)) (ha:QA X (e :: es) (tA p es')) (hg:Gl X x) (hn:x ≠ "__name__") (hdb:(x == ("__debug__" : Str)) = false) (h1:Q1 e = true) (h2:es.all Q1 = true) :
  QE X (.Call (.Name x p1) (e :: es) [] pos) (tE p (.bi b es')):=(Qy2 hc hm hv ha hg hn hdb h1 (Qgv h2)).weak fun σ H Q h=>Q6g hs h
theorem IsL.atI {D:Hp} {vs:List V} {ts:List T} {i:Int} {t:T} (r:IsL D vs ts) (h:atI ts i = some t):∃ v,L2.atI vs i = some v ∧ Is D v t:=by
 unfold L2.atI at h ⊢
 rw [r.length]
 cases e:ixN ts.length i with
 | none=>rw [e] at h; cases h
 | some j =>
  rw [e] at h
  exact r.getT h
theorem s_ix (K:PySem.W.Frag) (hK:X.K = K) (ha:QE X a (tE p a')) (hb:QE X b (tE p b')) (hs:Qkn b):QE X (.Subscript a b pos) (tE p (.ix a' b')) :=
 (q_ix (o_ix K hK) ha hb hs).weak fun σ H Q ⟨G,ρ,F,h⟩=>by
  unfold evE at h
  refine tE2 F h fun ra rb ρ2 x y H2 G2 F2 r1 r2 h2=>?_
  obtain ⟨t,u,c1,c2,h3⟩:=Qzs h2
  have hx:=r1.rdb F2 c1
  have hy:=r2.rdb F2 c2
  cases e:Qzo t u with
  | none=>rw [e] at h3; exact False.elim h3
  | some w =>
   rw [e] at h3
   cases t <;> first | (cases e; done) | skip
   all_goals (cases u <;> first | (cases e; done) | skip)
   ·obtain rfl:=hy.int
    obtain ⟨l,ws,rfl,el,rl⟩:=hx.tup.tup_inv
    obtain ⟨v,ev,iv⟩:=rl.atI e
    exact .inr (.inl ⟨l,ws,_,v,rfl,rfl,SqT.of (Qah el).2,ev,h3 v H2 G2 F2 iv⟩)
   ·obtain rfl:=hy.int
    obtain ⟨l,ws,rfl,z,el,rl⟩:=hx.lst
    obtain ⟨v,ev,iv⟩:=rl.atI e
    exact .inl ⟨l,ws,_,v,rfl,rfl,SqL.of el,ev,h3 v H2 G2 F2 iv⟩
noncomputable def tO (p:Pr) (es:Es):TO:=fun σ H Q=>∃ G ρ,FI (Qaw H G σ ρ) H G σ ρ ∧ Fin p (Qaw H G σ ρ) σ (evA p.cf es ρ) fun rs ρ1=>∃ i,Qlg rs = some i ∧ ∀ H1 G1,FI (Qaw H G σ ρ) H1 G1 σ ρ1 → Q i H1
theorem QO.weak {X:Cx} {e:Option Expr} {t t':TO} (h:QO X e t) (q:∀ σ H Q,t' σ H Q → t σ H Q):QO X e t':=⟨fun pins s σ H Q I z=>h.h pins s σ H Q I (q _ _ _ z)⟩
theorem Qi4:QO X none (tO p .nil):=q_no.weak fun σ H Q ⟨G,ρ,F,h⟩=>by
 unfold evA at h
 obtain ⟨i,e,k⟩:=h
 cases e
 exact k H G F
theorem Q37 {r:PV} {i:Option Int} (h:Qlg [r] = some i):∃ j,r = .fz (.int j) ∧ i = some j:=by
 cases r with
 | fz t=>cases t <;> first | (cases h; done) | exact ⟨_,rfl,(Option.some.inj h).symm⟩
 | ow t=>cases h
 | sl i=>cases h
theorem Qi5 (ha:QE X a (tE p a')):QO X (some a) (tO p (.cons a' .nil)):=(Qs9 ha).weak fun σ H Q ⟨G,ρ,F,h⟩=>by
 unfold evA at h
 refine ⟨G,ρ,F,h.bind.imp fun r ρ1 h1 v H1 G1 F1 r1=>?_⟩
 have h1:=h1.bind
 unfold evA at h1
 obtain ⟨i,e,k⟩:=h1
 obtain ⟨j,rfl,rfl⟩:=Q37 e
 obtain rfl:=r1.is.int_inv
 exact ⟨j,rfl,k H1 G1 F1⟩
theorem Qady (K:PySem.W.Frag) (hK:X.K = K) {lo hi:Option Expr} {lo' hi':Es} (ha:QE X a (tE p a')) (hl:QO X lo (tO p lo')) (hh:QO X hi (tO p hi')):QE X (.Subscript a (.Slice lo hi none p2) pos) (tE p (.slc a' lo' hi')) :=
 (q_sl (o_sl K hK) ha hl hh).weak fun σ H Q ⟨G,ρ,F,h⟩=>by
  unfold evE at h
  refine ⟨G,ρ,F,h.bind.imp fun ra ρ1 h1 v H1 G1 F1 r1=>?_⟩
  refine ⟨G1,ρ1,F1.self,h1.bind.rebase F1 fun rl ρ2 h2=>?_⟩
  cases el:Qlg rl with
  | none=>rw [el] at h2; exact False.elim h2
  | some l =>
   rw [el] at h2
   refine ⟨l,rfl,fun H2 G2 F2=>⟨G2,ρ2,F2.self,h2.bind.rebase (F1.trans F2) fun rh ρ3 h3=>?_⟩⟩
   cases eh:Qlg rh with
   | none=>rw [eh] at h3; exact False.elim h3
   | some u =>
    rw [eh] at h3
    refine ⟨u,rfl,fun H3 G3 F3=>?_⟩
    have F12:=F1.trans F2
    have F4:=F12.trans F3
    cases ec:cont ρ3 ra with
    | none=>rw [ec] at h3; exact False.elim h3
    | some t =>
     rw [ec] at h3
     obtain ⟨w,ew,k⟩:=Qpc h3
     have hx:=((r1.step F1 F2).step F12 F3).rdb F4 ec
     cases t <;> first | (cases ew; done) | skip
     ·cases ew
      exact Qza F4.prv hx.tup fun y H5 s5 i5=>k y H5 G3 (F4.grow s5) i5
     ·cases ew
      rename_i ts
      obtain ⟨c,ws,rfl,z,ec,rl⟩:=hx.lst
      refine .inl ⟨c,ws,rfl,SqL.of ec,fun q hq=>?_⟩
      obtain ⟨F5,r5⟩:=Qi1 F4 hq (Same.upd hq) Qp (rl.cut l u) (by have:=Qiw ts l u; omega)
      exact k _ _ _ F5 r5
end
theorem Qfl (i:Nat):Qa [] i = .un:=rfl
theorem Qd (s:Slot) (ρ:En):Qa (s :: ρ) 0 = s:=rfl
theorem Qe (s:Slot) (ρ:En) (i:Nat):Qa (s :: ρ) (i + 1) = Qa ρ i:=by unfold Qa; rw [List.getElem?_cons_succ]
theorem Qh7 {ρ:En} {i j:Nat} {s:Slot}:Qa (ρ.set j s) i = if i = j ∧ j < ρ.length then s else Qa ρ i:=by
 unfold Qa
 by_cases h:i = j ∧ j < ρ.length
 ·rw [if_pos h]
  obtain ⟨rfl,hj⟩:=h
  rw [List.getElem?_set_self hj]
 ·rw [if_neg h]
  by_cases e:i = j
  ·subst e
   have hl:ρ.length ≤ i:=by
    rcases Nat.lt_or_ge i ρ.length with z | z
    ·exact absurd ⟨rfl,z⟩ h
    ·exact z
   rw [List.set_eq_of_length_le hl]
  ·rw [List.getElem?_set_ne (fun z=>e z.symm)]
theorem Qxf {ρ:En} {i:Nat} (h:Qa ρ i ≠ .un):i < ρ.length:=by
 rcases Nat.lt_or_ge i ρ.length with z | z
 ·exact z
 ·exact absurd (by unfold Qa; rw [List.getElem?_eq_none_iff.mpr z]) h
theorem Qcf (rs:List PV) (fin:List T) (i:Nat) (s:Slot):Q0 rs fin i s = s ∨ ∃ k t,Qj rs i = some k ∧ fin[k]? = some t ∧ Q0 rs fin i s = s.put t:=by
 unfold Q0
 cases h1:Qj rs i with
 | none=>exact .inl rfl
 | some k =>
  cases h2:fin[k]? with
  | none=>exact .inl (by simp only [h2])
  | some t=>exact .inr ⟨k,t,rfl,h2,by simp only [h2]⟩
theorem Qgj (rs:List PV) (fin:List T):∀ (ρ:En) (n i:Nat),Qa (Qn rs fin n ρ) i = Q0 rs fin (n + i) (Qa ρ i)
 | [],n,i=>by
  unfold Qn
  rw [Qfl]
  rcases Qcf rs fin (n + i) .un with h | ⟨k,t,_,_,h⟩
  ·exact h.symm
  ·rw [h]; rfl
 | s :: ρ,n,0=>by unfold Qn; rfl
 | s :: ρ,n,i + 1=>by
  unfold Qn
  rw [Qe,Qe,Qgj rs fin ρ (n + 1) i,show n + 1 + i = n + (i + 1) by omega]
theorem Qdq (ρ:En) (rs:List PV) (fin:List T) (i:Nat):Qa (Qa4 ρ rs fin) i = Q0 rs fin i (Qa ρ i):=by
 unfold Qa4
 rw [Qgj,Nat.zero_add]
theorem Qi6 (rs:List PV) (fin:List T):∀ (ρ:En) (n:Nat),(Qn rs fin n ρ).length = ρ.length
 | [],_=>rfl
 | s :: ρ,n=>by unfold Qn; rw [List.length_cons,List.length_cons,Qi6 rs fin ρ (n + 1)]
theorem Qi7 (ρ:En) (i:Nat):Qas ρ (.sl i) = match Qa ρ i with
 | .ow t=>some (.ml t)
 | .ml t=>some (.ml t)
 | .ro t=>some (.ro t)
 | _=>none:=rfl
theorem PVRs.len {H0 H:Hp} {G:Addr → Prop} {σ:St} {ρ:En} {vs:List V} {rs:List PV} (h:PVRs H0 H G σ ρ vs rs):vs.length = rs.length:=by
 induction h with
 | nil=>rfl
 | cons _ _ ih=>rw [List.length_cons,List.length_cons,ih]
theorem PVRs.get {H0 H:Hp} {G:Addr → Prop} {σ:St} {ρ:En} {vs:List V} {rs:List PV} (h:PVRs H0 H G σ ρ vs rs):∀ {i:Nat} {v:V} {r:PV},vs[i]? = some v → rs[i]? = some r → PVR H0 H G σ ρ v r:=by
 induction h with
 | nil=>intro i v r e; simp at e
 | cons a _ ih =>
  intro i v r e1 e2
  cases i with
  | zero=>simp at e1 e2; subst e1; subst e2; exact a
  | succ i=>rw [List.getElem?_cons_succ] at e1 e2; exact ih e1 e2
theorem Qfm {ρ:En}:∀ {rs:List PV} {as:List Arg},Qy ρ rs = some as → as.length = rs.length ∧ ∀ (i:Nat) (a:Arg),as[i]? = some a → ∃ r,rs[i]? = some r ∧ Qas ρ r = some a
 | [],as,e=>by cases e; exact ⟨rfl,fun i a h=>by simp at h⟩
 | r :: rs,as,e=>by
  unfold Qy at e
  cases h1:Qas ρ r with
  | none=>rw [h1] at e; cases e
  | some a0 =>
   cases h2:Qy ρ rs with
   | none=>rw [h1,h2] at e; cases e
   | some as0 =>
    rw [h1,h2] at e
    cases e
    obtain ⟨q1,q2⟩:=Qfm h2
    refine ⟨by rw [List.length_cons,List.length_cons,q1],fun i a h=>?_⟩
    cases i with
    | zero=>simp at h; subst h; exact ⟨r,rfl,h1⟩
    | succ i=>rw [List.getElem?_cons_succ] at h ⊢; exact q2 i a h
theorem Qln:∀ {rs:List PV},Qv rs = true → ∀ (i j k:Nat),rs[i]? = some (.sl k) → rs[j]? = some (.sl k) → i = j
 | [],_,i,j,k,e,_=>by simp at e
 | r :: rs,h,i,j,k,e1,e2=>by
  have tl:Qv rs = true:=by
   cases r with
   | sl p=>unfold Qv at h; rw [Bool.and_eq_true] at h; exact h.2
   | fz t=>exact h
   | ow t=>exact h
  have hd:∀ (m:Nat),r = PV.sl k → rs[m]? = some (PV.sl k) → False:=fun m er em=>by
   subst er
   unfold Qv at h
   rw [Bool.and_eq_true] at h
   have q:=List.all_eq_true.mp h.1 _ (List.mem_of_getElem? em)
   simp at q
  cases i with
  | zero =>
   cases j with
   | zero=>rfl
   | succ j=>simp at e1; rw [List.getElem?_cons_succ] at e2; exact (hd j e1 e2).elim
  | succ i =>
   cases j with
   | zero=>simp at e2; rw [List.getElem?_cons_succ] at e1; exact (hd i e2 e1).elim
   | succ j =>
    rw [List.getElem?_cons_succ] at e1 e2
    rw [Qln tl i j k e1 e2]
theorem Qd0:∀ {rs:List PV} {i k:Nat},Qj rs i = some k → rs[k]? = some (.sl i)
 | [],i,k,e=>by cases e
 | .sl j :: rs,i,k,e=>by
  unfold Qj at e
  by_cases h:j = i
  ·rw [if_pos h] at e; cases e; rw [h]; rfl
  ·rw [if_neg h] at e
   cases h2:Qj rs i with
   | none=>rw [h2] at e; cases e
   | some m=>rw [h2] at e; cases e; rw [List.getElem?_cons_succ]; exact Qd0 h2
 | .fz t :: rs,i,k,e=>by
  unfold Qj at e
  cases h2:Qj rs i with
  | none=>rw [h2] at e; cases e
  | some m=>rw [h2] at e; cases e; rw [List.getElem?_cons_succ]; exact Qd0 h2
 | .ow t :: rs,i,k,e=>by
  unfold Qj at e
  cases h2:Qj rs i with
  | none=>rw [h2] at e; cases e
  | some m=>rw [h2] at e; cases e; rw [List.getElem?_cons_succ]; exact Qd0 h2
theorem Qi8:∀ {rs:List PV} {i k:Nat},Qj rs i = none → rs[k]? ≠ some (.sl i)
 | [],i,k,_,e=>by simp at e
 | r :: rs,i,k,h,e=>by
  have tl:Qj rs i = none:=by
   cases r with
   | sl j =>
    unfold Qj at h
    by_cases z:j = i
    ·rw [if_pos z] at h; cases h
    ·rw [if_neg z] at h; simpa using h
   | fz t=>unfold Qj at h; simpa using h
   | ow t=>unfold Qj at h; simpa using h
  cases k with
  | zero =>
   simp at e
   subst e
   unfold Qj at h
   rw [if_pos rfl] at h
   cases h
  | succ k=>rw [List.getElem?_cons_succ] at e; exact Qi8 tl e
theorem Qod:∀ {vs:List V} {rs:List PV} {i:Nat} {t:T} {b:Addr},vs[i]? = some (.ref b) → rs[i]? = some (.ow t) → Qlj vs rs b
 | [],_,_,_,_,e,_=>by simp at e
 | _ :: _,[],_,_,_,_,e=>by simp at e
 | v :: vs,r :: rs,0,t,b,e1,e2=>by
  simp at e1 e2
  subst e1; subst e2
  exact .inl rfl
 | v :: vs,r :: rs,i + 1,t,b,e1,e2=>by
  rw [List.getElem?_cons_succ] at e1 e2
  have q:=Qod e1 e2
  cases r with
  | fz t=>exact q
  | sl j=>exact q
  | ow t=>exact .inr q
noncomputable def ArgR (H:Hp) (G:Addr → Prop) (v:V):Arg → Prop
 | .fz t=>Is (dls H G) v t
 | .ml t=>∃ a,v = .ref a ∧ G a ∧ OwnAt H G a t
 | .ro t=>∃ a,v = .ref a ∧ G a ∧ OwnAt H G a t
noncomputable def Arg.prv:Arg → Bool
 | .fz _=>false
 | _=>true
structure ArgsR (H:Hp) (G:Addr → Prop) (vs:List V) (as:List Arg):Prop where
 len:vs.length = as.length
 get:∀ (i:Nat) (v:V) (a:Arg),vs[i]? = some v → as[i]? = some a → ArgR H G v a
 apart:∀ (i j:Nat) (b:Addr) (x y:Arg),as[i]? = some x → as[j]? = some y → x.prv = true → y.prv = true → vs[i]? = some (.ref b) → vs[j]? = some (.ref b) → i = j
noncomputable def Qvc (vs:List V) (as:List Arg) (b:Addr):Prop:=∃ (i:Nat) (t:T),as[i]? = some (.ml t) ∧ vs[i]? = some (.ref b)
structure CallP (H:Hp) (G:Addr → Prop) (vs:List V) (as:List Arg) (H':Hp) (G':Addr → Prop) (fin:List T):Prop where
 prv:Pen H' G'
 chg:∀ b o,¬ Qvc vs as b → H b = some o → H' b = some o
 keep:∀ b o,H b = some o → ∃ o',H' b = some o'
 gg:∀ b,G b → G' b
 gn:∀ b,G' b → G b ∨ H b = none
 fin:∀ (i:Nat) (t:T) (a:Addr),as[i]? = some (.ml t) → vs[i]? = some (.ref a) → ∃ t',fin[i]? = some t' ∧ OwnAt H' G' a t'
noncomputable def RetR (H H':Hp) (G':Addr → Prop) (v:V):PV → Prop
 | .fz t=>Is (dls H' G') v t
 | .ow t=>∃ a,v = .ref a ∧ H a = none ∧ G' a ∧ OwnAt H' G' a t
 | .sl _=>False
noncomputable def FROk (mg:Str → Option Value) (H:Hp) (G:Addr → Prop) (vs:List V) (as:List Arg) (o:FR) (Q:VK) (E:XK):Prop:=match o with
 | .ok r fin=>∀ v H' G',CallP H G vs as H' G' fin → RetR H H' G' v r → Q v H'
 | .xn x fin=>∀ cls dx H' G',CallP H G vs as H' G' fin → Q9g mg H' x cls dx → E cls dx H'
 | .no=>False
noncomputable def spF (cf:CF) (mg:Str → Option Value) (f:Nat):Sp:=fun vs H Q E=>∃ G as,ArgsR H G vs as ∧ Pen H G ∧ FROk mg H G vs as (cf f as) Q E
section
variable {p:Pr} {B:Bs} {H H1 H2:Hp} {G G1 G2:Addr → Prop} {σ:St} {ρ:En} {vs:List V} {rs:List PV} {as:List Arg} {fin:List T}
theorem Qoe {r:PV} {a:Arg} (e:Qas ρ r = some a) (h:a.prv = true):∃ i t,r = .sl i ∧ (Qa ρ i).prv = some t:=by
 cases r with
 | fz t=>cases e; cases h
 | ow t=>cases e; cases h
 | sl i =>
  rw [Qi7] at e
  cases hs:Qa ρ i with
  | un=>rw [hs] at e; cases e
  | pin _=>rw [hs] at e; cases e
  | fz t=>rw [hs] at e; cases e
  | ow t=>exact ⟨i,t,rfl,by rw [hs]; rfl⟩
  | ml t=>exact ⟨i,t,rfl,by rw [hs]; rfl⟩
  | ro t=>exact ⟨i,t,rfl,by rw [hs]; rfl⟩
theorem Qzy {r:PV} {t:T} (e:Qas ρ r = some (.ml t)):∃ i,r = .sl i ∧ (Qa ρ i = .ow t ∨ Qa ρ i = .ml t):=by
 cases r with
 | fz t=>cases e
 | ow t=>cases e
 | sl i =>
  rw [Qi7] at e
  cases hs:Qa ρ i with
  | un=>rw [hs] at e; cases e
  | pin _=>rw [hs] at e; cases e
  | fz t=>rw [hs] at e; cases e
  | ow t=>rw [hs] at e; cases e; exact ⟨i,rfl,.inl hs⟩
  | ml t=>rw [hs] at e; cases e; exact ⟨i,rfl,.inr hs⟩
  | ro t=>rw [hs] at e; cases e
theorem Qvd (F:FI B H G σ ρ) (r:PVRs B.H H G σ ρ vs rs) (ea:Qy ρ rs = some as) (hb:Qv rs = true):∃ G',FI B H G' σ ρ ∧ ArgsR H G' vs as:=by
 have F':=F.lessG (Qlj vs rs) fun b z=>r.tmp z
 obtain ⟨l1,g1⟩:=Qfm ea
 refine ⟨_,F',by rw [l1]; exact r.len,fun i v a ev e=>?_,fun i j b x y ex ey px py vx vy=>?_⟩
 ·obtain ⟨q,eq,ar⟩:=g1 i a e
  have pv:=r.get ev eq
  cases q with
  | fz t=>cases ar; exact Is.mono (Qdl fun b h=>h.1) pv.is
  | ow t =>
   cases ar
   obtain ⟨c,rfl,_,_,_,ob,ec,ql⟩:=pv
   exact ql.is (by rw [Qcb fun z=>z.2 (Qod ev eq)]; exact ec) (Qdl fun b h=>h.1)
  | sl k =>
   have pv:σ[k]? = some (some v):=pv
   rw [Qi7] at ar
   have sk:=F'.slot k
   cases hs:Qa ρ k with
   | un=>rw [hs] at ar; cases ar
   | pin _=>rw [hs] at ar; cases ar
   | fz t=>rw [hs] at ar; cases ar
   | ow t=>rw [hs] at ar sk; cases ar; obtain ⟨c,h1,h2,h3⟩:=sk; rw [pv] at h1; cases h1; exact ⟨c,rfl,h2,h3⟩
   | ml t=>rw [hs] at ar sk; cases ar; obtain ⟨c,h1,h2,h3⟩:=sk; rw [pv] at h1; cases h1; exact ⟨c,rfl,h2,h3⟩
   | ro t=>rw [hs] at ar sk; cases ar; obtain ⟨c,h1,h2,h3⟩:=sk; rw [pv] at h1; cases h1; exact ⟨c,rfl,h2,h3⟩
 ·obtain ⟨q1,e1,a1⟩:=g1 i x ex
  obtain ⟨q2,e2,a2⟩:=g1 j y ey
  obtain ⟨k1,t1,rfl,s1⟩:=Qoe a1 px
  obtain ⟨k2,t2,rfl,s2⟩:=Qoe a2 py
  have p1:σ[k1]? = some (some (.ref b)):=r.get vx e1
  have p2:σ[k2]? = some (some (.ref b)):=r.get vy e2
  have ek:=F.apart k1 k2 b ⟨⟨t1,s1⟩,p1⟩ ⟨⟨t2,s2⟩,p2⟩
  subst ek
  exact Qln hb i j k1 e1 e2
theorem Qpf {s:Slot} {t u:T} (h:(s.put t).prv = some u):∃ w,s.prv = some w:=by
 cases s <;> first | exact ⟨_,rfl⟩ | cases h
theorem Qi9 {i:Nat} {u:T} (h:(Qa (Qa4 ρ rs fin) i).prv = some u):∃ w,(Qa ρ i).prv = some w:=by
 rw [Qdq] at h
 rcases Qcf rs fin i (Qa ρ i) with e | ⟨k,t,_,_,e⟩
 ·rw [e] at h; exact ⟨u,h⟩
 ·rw [e] at h; exact Qpf h
theorem Q38 {i:Nat} {u:T} (h:Qa (Qa4 ρ rs fin) i = .ow u):∃ w,Qa ρ i = .ow w:=by
 rw [Qdq] at h
 rcases Qcf rs fin i (Qa ρ i) with e | ⟨k,t,_,_,e⟩
 ·rw [e] at h; exact ⟨u,h⟩
 ·rw [e] at h
  cases hs:Qa ρ i <;> rw [hs] at h <;> first | exact ⟨_,rfl⟩ | cases h
theorem Qve {i:Nat} {u:T} (h:Qa (Qa4 ρ rs fin) i = .ml u):∃ w,Qa ρ i = .ml w:=by
 rw [Qdq] at h
 rcases Qcf rs fin i (Qa ρ i) with e | ⟨k,t,_,_,e⟩
 ·rw [e] at h; exact ⟨u,h⟩
 ·rw [e] at h
  cases hs:Qa ρ i <;> rw [hs] at h <;> first | exact ⟨_,rfl⟩ | cases h
theorem Q39 {i:Nat} {u:T} (h:Qa (Qa4 ρ rs fin) i = .ro u):∃ w,Qa ρ i = .ro w:=by
 rw [Qdq] at h
 rcases Qcf rs fin i (Qa ρ i) with e | ⟨k,t,_,_,e⟩
 ·rw [e] at h; exact ⟨u,h⟩
 ·rw [e] at h
  cases hs:Qa ρ i <;> rw [hs] at h <;> first | exact ⟨_,rfl⟩ | cases h
theorem FI.called (F:FI B H G σ ρ) (A:ArgsR H G vs as) (hv:∀ (k i:Nat) (v:V),rs[k]? = some (.sl i) → vs[k]? = some v → σ[i]? = some (some v)) (hl:vs.length = rs.length) (ea:Qy ρ rs = some as) (hb:Qv rs = true) (C:CallP H G vs as H1 G1 fin):FI B H1 G1 σ (Qa4 ρ rs fin):=by
 have ml:∀ b,Qvc vs as b → ∃ (k i:Nat) (t:T),rs[k]? = some (.sl i) ∧ as[k]? = some (.ml t) ∧ vs[k]? = some (.ref b) ∧ (Qa ρ i = .ow t ∨ Qa ρ i = .ml t) ∧ σ[i]? = some (some (.ref b)):=fun b h=>by
  obtain ⟨k,t,e1,e2⟩:=h
  obtain ⟨q,eq,ar⟩:=(Qfm ea).2 k _ e1
  obtain ⟨i,rfl,hs⟩:=Qzy ar
  exact ⟨k,i,t,eq,e1,e2,hs,hv k i _ eq e2⟩
 have mp:∀ b,Qvc vs as b → OwA σ ρ b ∨ MlA σ ρ b:=fun b h=>by
  obtain ⟨k,i,t,_,_,_,hs | hs,e⟩:=ml b h
  ·exact .inl ⟨i,t,hs,e⟩
  ·exact .inr ⟨i,t,hs,e⟩
 have sm:Same (dls H G) (dls H1 G1):=fun b o e=>by
  obtain ⟨n,e⟩:=Qah e
  have e1:=C.chg b o (fun z=>n ((mp b z).elim F.ownG F.mlG)) e
  rw [Qcb fun z=>?_]
  ·exact e1
  ·rcases C.gn b z with z | z
   ·exact n z
   ·rw [z] at e; cases e
 -- a slot's list that is not lent
 have stay:∀ i a t,(Qa ρ i).prv = some t → σ[i]? = some (some (.ref a)) → OwnAt H G a t → ((∀ t,Qa ρ i ≠ .ow t) ∧ (∀ t,Qa ρ i ≠ .ml t) ∨ Qj rs i = none) → OwnAt H1 G1 a t:=fun i a t e s o h=>by
  refine o.mono sm fun u eu=>C.chg a u (fun z=>?_) eu
  obtain ⟨k,j,t',e1,_,_,hs,e2⟩:=ml a z
  have ej:j = i:=F.apart j i a ⟨⟨t',by rcases hs with hs | hs <;> rw [hs] <;> rfl⟩,e2⟩ ⟨⟨t,e⟩,s⟩
  subst ej
  rcases h with ⟨h1,h2⟩ | h
  ·rcases hs with hs | hs
   ·exact h1 _ hs
   ·exact h2 _ hs
  ·exact Qi8 h e1
 -- one that is lent
 have lent:∀ i a t k,(Qa ρ i = .ow t ∨ Qa ρ i = .ml t) → σ[i]? = some (some (.ref a)) → Qj rs i = some k → ∃ t',fin[k]? = some t' ∧ OwnAt H1 G1 a t':=fun i a t k hs s hk=>by
  have e1:=Qd0 hk
  have hk':k < vs.length:=by rw [hl]; exact (List.getElem?_eq_some_iff.mp e1).1
  have e2:=hv k i _ e1 (List.getElem?_eq_getElem hk')
  rw [s] at e2
  have e3:vs[k]? = some (.ref a):=by rw [List.getElem?_eq_getElem hk']; rw [← Option.some.inj (Option.some.inj e2)]
  have hk2:k < as.length:=by rw [← A.len]; exact hk'
  obtain ⟨q,eq,ar⟩:=(Qfm ea).2 k _ (List.getElem?_eq_getElem hk2)
  rw [e1] at eq
  cases eq
  have e4:as[k]? = some (.ml t):=by
   rw [List.getElem?_eq_getElem hk2,← ar]
   rw [Qi7]
   rcases hs with hs | hs <;> rw [hs]
  exact C.fin k t a e4 e3
 exact {
  len:=by unfold Qa4; rw [Qi6]; exact F.len
  slot:=fun i=>by
   have q:=F.slot i
   have bc:=Qcf rs fin i (Qa ρ i)
   rw [Qdq]
   cases hs:Qa ρ i with
   | un =>
    rw [hs] at bc
    rcases bc with e | ⟨k,t,_,_,e⟩ <;> rw [e] <;> trivial
   | pin a =>
    rw [hs] at q bc
    rcases bc with e | ⟨k,t,_,_,e⟩ <;> rw [e] <;> exact q
   | fz t =>
    rw [hs] at q bc
    obtain ⟨v,e1,e2⟩:=q
    rcases bc with e | ⟨k,t,_,_,e⟩ <;> rw [e] <;> exact ⟨v,e1,e2.mono sm⟩
   | ro t =>
    rw [hs] at q bc
    obtain ⟨a,e1,g,o⟩:=q
    have o':=stay i a t (by rw [hs]; rfl) e1 o (.inl ⟨fun t z=>(by rw [hs] at z; cases z),fun t z=>(by rw [hs] at z; cases z)⟩)
    rcases bc with e | ⟨k,t,_,_,e⟩ <;> rw [e] <;> exact ⟨a,e1,C.gg a g,o'⟩
   | ow t =>
    rw [hs] at q bc
    obtain ⟨a,e1,g,o⟩:=q
    cases hp:Qj rs i with
    | none =>
     have o':=stay i a t (by rw [hs]; rfl) e1 o (.inr hp)
     rcases bc with e | ⟨k,t',h,_,e⟩
     ·rw [e]; exact ⟨a,e1,C.gg a g,o'⟩
     ·rw [hp] at h; cases h
    | some k =>
     obtain ⟨t',ef,o'⟩:=lent i a t k (.inl hs) e1 hp
     have e:Q0 rs fin i (.ow t) = .ow t':=by unfold Q0; rw [hp]; simp only [ef]; rfl
     rw [e]
     exact ⟨a,e1,C.gg a g,o'⟩
   | ml t =>
    rw [hs] at q bc
    obtain ⟨a,e1,g,o⟩:=q
    cases hp:Qj rs i with
    | none =>
     have o':=stay i a t (by rw [hs]; rfl) e1 o (.inr hp)
     rcases bc with e | ⟨k,t',h,_,e⟩
     ·rw [e]; exact ⟨a,e1,C.gg a g,o'⟩
     ·rw [hp] at h; cases h
    | some k =>
     obtain ⟨t',ef,o'⟩:=lent i a t k (.inr hs) e1 hp
     have e:Q0 rs fin i (.ml t) = .ml t':=by unfold Q0; rw [hp]; simp only [ef]; rfl
     rw [e]
     exact ⟨a,e1,C.gg a g,o'⟩
  apart:=fun i j a h1 h2=>F.apart i j a ⟨let ⟨u,e⟩:=h1.1; Qi9 e,h1.2⟩ ⟨let ⟨u,e⟩:=h2.1; Qi9 e,h2.2⟩
  prv:=C.prv
  chg:=fun b o h1 h2 e=>C.chg b o (fun z=>by
   rcases mp b z with z | z
   ·rcases F.newO b z with z | z
    ·rw [e] at z; cases z
    ·exact h1 z
   ·exact h2 (F.newM b z)) (F.chg b o h1 h2 e)
  keep:=fun b o e=>by
   obtain ⟨o1,e1⟩:=F.keep b o e
   exact C.keep b o1 e1
  newO:=fun a h=>by
   obtain ⟨i,t,e,s⟩:=h
   obtain ⟨w,e⟩:=Q38 e
   exact F.newO a ⟨i,w,e,s⟩
  newM:=fun a h=>by
   obtain ⟨i,t,e,s⟩:=h
   obtain ⟨w,e⟩:=Qve e
   exact F.newM a ⟨i,w,e,s⟩
  fix:=fun i a h=>by
   obtain ⟨⟨t,e⟩,s⟩:=h
   refine F.fix i a ⟨?_,s⟩
   rcases e with e | e
   ·obtain ⟨w,e⟩:=Qve e; exact ⟨w,.inl e⟩
   ·obtain ⟨w,e⟩:=Q39 e; exact ⟨w,.inr e⟩
  gg:=fun b h=>C.gg b (F.gg b h)
  gn:=fun b h=>by
   rcases C.gn b h with z | z
   ·exact F.gn b z
   ·exact .inr (F.free z)
  bp:=F.bp }
end
section
variable {X:Cx} {p:Pr} {x:Str} {e:Expr} {es:List Expr} {es':Es} {f k:Nat} {ps:List Str} {pos p1:Pos}
theorem Q4a {σ:St} {H:Hp} {Q:VK} (h:tE p (.call f es') σ H Q):Qzd (spF p.cf p.mg f) p.R (tA p es') σ H Q:=by
 obtain ⟨G,ρ,F,h⟩:=h
 unfold evE at h
 refine ⟨G,ρ,F,h.bind.imp fun rs ρ1 h1 vs H1 G1 F1 r1=>?_⟩
 unfold Qgs at h1
 by_cases hb:Qv rs = true
 ·rw [if_pos hb] at h1
  cases ea:Qy ρ1 rs with
  | none=>rw [ea] at h1; exact False.elim h1
  | some as =>
   rw [ea] at h1
   replace h1:Fin p (Qaw H G σ ρ) σ (match p.cf f as with | .ok r fin=>.ok r (Qa4 ρ1 rs fin) | .xn x fin=>.xn x (Qa4 ρ1 rs fin) | .no=>.no) _:=h1
   obtain ⟨G',F',A⟩:=Qvd (B:=Qaw H G σ ρ) F1 r1 ea hb
   have hv:∀ (k i:Nat) (v:V),rs[k]? = some (.sl i) → vs[k]? = some v → σ[i]? = some (some v):=fun k i v e1 e2=>r1.get e2 e1
   refine ⟨G',as,A,F'.prv,?_⟩
   cases ec:p.cf f as with
   | no=>rw [ec] at h1; exact False.elim h1
   | xn z fin =>
    rw [ec] at h1
    exact fun cls dx H' G2 C xr=>h1 cls dx H' G2 (F'.called A hv r1.len ea hb C) xr
   | ok r fin =>
    rw [ec] at h1
    refine fun v H' G2 C rr=>h1 v H' G2 (F'.called A hv r1.len ea hb C) ?_
    cases r with
    | sl i=>exact False.elim rr
    | fz t=>exact rr
    | ow t =>
     obtain ⟨a,rfl,n,g,o⟩:=rr
     refine ⟨a,rfl,F'.free n,g,fun i hp=>?_,o⟩
     obtain ⟨w,e⟩:=Qi9 hp.1.choose_spec
     obtain ⟨_,t,ob,ea,_⟩:=PrvAt.at F' ⟨⟨w,e⟩,hp.2⟩
     rw [n] at ea
     cases ea
 ·rw [if_neg hb] at h1
  exact False.elim h1
theorem Q9u (h:Q3u X.prog X.w X.K X.mg X.base x ps k (spF p.cf p.mg f)) (pz:Qj6 X p.R) (hr:Room k X.A) (ha:QA X (e :: es) (tA p es')) (hg:Gl X x) (hdb:(x == ("__debug__" : Str)) = false) (h1:Q1 e = true) (h2:es.all Q1 = true) :
  QE X (.Call (.Name x p1) (e :: es) [] pos) (tE p (.call f es')):=(Qac5 h pz hr ha hg hdb (Qbm h1) (Qgv h2)).weak fun σ H Q h=>Q4a h
end
section
variable {B:Bs} {H H1:Hp} {G G1:Addr → Prop} {σ:St} {ρ ρ':En} {i:Nat} {v:V} {t:T}
theorem Qpg {w:Option V} (h:i < σ.length):(σ.set i w)[i]? = some w:=by rw [List.getElem?_set_self h]
theorem Qh2 {j:Nat} {w:Option V} (h:j ≠ i):(σ.set i w)[j]? = σ[j]?:=by rw [List.getElem?_set_ne (fun z=>h z.symm)]
theorem FI.lay (F:FI B H G σ ρ) (hi:i < ρ.length) {s:Slot} {w:Option V} (hs:Qrb H G (σ.set i w) i s) (hp:∀ a,(∃ t,s.prv = some t) → w = some (.ref a) → ∀ j,j ≠ i → ¬ PrvAt σ ρ j a)
  (ho:∀ t a,s = .ow t → w = some (.ref a) → B.H a = none ∨ B.O a) (hm:∀ t,s ≠ .ml t) (hr:∀ t,s ≠ .ro t):FI B H G (σ.set i w) (ρ.set i s):=by
 have hl:i < σ.length:=by rw [F.len]; exact hi
 have sa:∀ j,Qa (ρ.set i s) j = if j = i then s else Qa ρ j:=fun j=>by
  rw [Qh7]
  by_cases e:j = i
  ·rw [if_pos ⟨e,hi⟩,if_pos e]
  ·rw [if_neg (fun z=>e z.1),if_neg e]
 have old:∀ j a,PrvAt (σ.set i w) (ρ.set i s) j a → j ≠ i → PrvAt σ ρ j a:=fun j a h n=>by
  obtain ⟨⟨u,e⟩,q⟩:=h
  rw [sa,if_neg n] at e
  rw [Qh2 n] at q
  exact ⟨⟨u,e⟩,q⟩
 have here:∀ a,PrvAt (σ.set i w) (ρ.set i s) i a → (∃ t,s.prv = some t) ∧ w = some (.ref a):=fun a h=>by
  obtain ⟨⟨u,e⟩,q⟩:=h
  rw [sa,if_pos rfl] at e
  rw [Qpg hl] at q
  exact ⟨⟨u,e⟩,Option.some.inj q⟩
 exact {
  len:=by rw [List.length_set,List.length_set]; exact F.len
  slot:=fun j=>by
   rw [sa]
   by_cases e:j = i
   ·rw [if_pos e,e]; exact hs
   ·rw [if_neg e]
    have q:=F.slot j
    cases hh:Qa ρ j with
    | un=>trivial
    | pin a=>rw [hh] at q; show (σ.set i _)[j]? = _; rw [Qh2 e]; exact q
    | fz t=>rw [hh] at q; obtain ⟨v,a,b⟩:=q; exact ⟨v,by rw [Qh2 e]; exact a,b⟩
    | ow t=>rw [hh] at q; obtain ⟨v,a,b⟩:=q; exact ⟨v,by rw [Qh2 e]; exact a,b⟩
    | ml t=>rw [hh] at q; obtain ⟨v,a,b⟩:=q; exact ⟨v,by rw [Qh2 e]; exact a,b⟩
    | ro t=>rw [hh] at q; obtain ⟨v,a,b⟩:=q; exact ⟨v,by rw [Qh2 e]; exact a,b⟩
  apart:=fun j k a h1 h2=>by
   by_cases e1:j = i
   ·by_cases e2:k = i
    ·rw [e1,e2]
    ·rw [e1] at h1
     exact (hp a (here a h1).1 (here a h1).2 k e2 (old k a h2 e2)).elim
   ·by_cases e2:k = i
    ·rw [e2] at h2
     exact (hp a (here a h2).1 (here a h2).2 j e1 (old j a h1 e1)).elim
    ·exact F.apart j k a (old j a h1 e1) (old k a h2 e2)
  prv:=F.prv
  chg:=F.chg
  keep:=F.keep
  newO:=fun a h=>by
   obtain ⟨j,u,e,q⟩:=h
   rw [sa] at e
   by_cases z:j = i
   ·rw [if_pos z] at e
    rw [z,Qpg hl] at q
    exact ho u a e (Option.some.inj q)
   ·rw [if_neg z] at e
    rw [Qh2 z] at q
    exact F.newO a ⟨j,u,e,q⟩
  newM:=fun a h=>by
   obtain ⟨j,u,e,q⟩:=h
   rw [sa] at e
   by_cases z:j = i
   ·rw [if_pos z] at e; exact (hm u e).elim
   ·rw [if_neg z] at e
    rw [Qh2 z] at q
    exact F.newM a ⟨j,u,e,q⟩
  fix:=fun j a h=>by
   obtain ⟨⟨u,e⟩,q⟩:=h
   rw [sa] at e
   by_cases z:j = i
   ·rw [if_pos z] at e
    rcases e with e | e
    ·exact (hm u e).elim
    ·exact (hr u e).elim
   ·rw [if_neg z] at e
    rw [Qh2 z] at q
    exact F.fix j a ⟨⟨u,e⟩,q⟩
  gg:=F.gg
  gn:=F.gn
  bp:=F.bp }
theorem FI.setFz (F:FI B H G σ ρ) (hi:i < ρ.length) (hv:Is (dls H G) v t):FI B H G (σ.set i (some v)) (ρ.set i (.fz t)) :=
 F.lay hi ⟨v,Qpg (by rw [F.len]; exact hi),hv⟩ (fun a h=>by obtain ⟨u,e⟩:=h; cases e) (fun _ _ e=>by cases e) (fun _ e=>by cases e) (fun _ e=>by cases e)
theorem Qjx {s:Slot} (h:Qbs i s ρ = some ρ'):i < ρ.length ∧ ρ' = ρ.set i s:=by
 unfold Qbs at h
 by_cases z:i < ρ.length
 ·rw [if_pos z] at h
  cases hs:Qa ρ i <;> rw [hs] at h <;> first | (cases h; done) | exact ⟨z,(Option.some.inj h).symm⟩
 ·rw [if_neg z] at h; cases h
theorem FI.setS (F:FI B H G σ ρ) (h:L2.Qbs i (.fz t) ρ = some ρ') (hv:Is (dls H G) v t):FI B H G (σ.set i (some v)) ρ':=by
 obtain ⟨h1,rfl⟩:=Qjx h
 exact F.setFz h1 hv
theorem FI.setOw {H0:Hp} (F:FI B H G σ ρ) (hb:B.H = H0) (h:L2.Qbs i (.ow t) ρ = some ρ') (hv:TmpR H0 H G σ ρ v t):FI B H G (σ.set i (some v)) ρ':=by
 obtain ⟨h1,rfl⟩:=Qjx h
 obtain ⟨a,rfl,n,g,np,o⟩:=hv
 refine F.lay h1 ⟨a,Qpg (by rw [F.len]; exact h1),g,o⟩ (fun b _ e j _=>?_) (fun _ b _ e=>?_) (fun _ e=>by cases e) (fun _ e=>by cases e)
 ·cases e; exact np j
 ·cases e; exact .inl (by rw [hb]; exact n)
theorem FI.changeO (F:FI B H G σ ρ) {t0 u0:T} {ob:HO} {s':Slot} (hs:(Qa ρ i = .ow t0 ∧ s' = .ow u0) ∨ (Qa ρ i = .ml t0 ∧ s' = .ml u0)) {a:Addr} (e:σ[i]? = some (some (.ref a))) (il:OwnO (dls H G) u0 ob) :
  FI B (upd H a ob) G σ (ρ.set i s') ∧ Same (dls H G) (dls (upd H a ob) G):=by
 have hpv:(Qa ρ i).prv = some t0:=by rcases hs with ⟨h,_⟩ | ⟨h,_⟩ <;> rw [h] <;> rfl
 have hi:i < ρ.length:=Qxf (by rcases hs with ⟨h,_⟩ | ⟨h,_⟩ <;> rw [h] <;> intro z <;> cases z)
 obtain ⟨a',e',g,o',ea,_⟩:=F.prvAt hpv
 rw [e] at e'
 cases e'
 have sa:∀ j,Qa (ρ.set i s') j = if j = i then s' else Qa ρ j:=fun j=>by
  rw [Qh7]
  by_cases e:j = i
  ·rw [if_pos ⟨e,hi⟩,if_pos e]
  ·rw [if_neg (fun z=>e z.1),if_neg e]
 have sm:Same (dls H G) (dls (upd H a ob) G):=fun b o eb=>by
  obtain ⟨n,eb⟩:=Qah eb
  rw [Qcb n,Q4 (fun (z:b = a)=>n (by rw [z]; exact g))]
  exact eb
 have pv':∀ j b,PrvAt σ (ρ.set i s') j b → PrvAt σ ρ j b:=fun j b h=>by
  obtain ⟨⟨u,e1⟩,q⟩:=h
  rw [sa] at e1
  by_cases hj:j = i
  ·rw [hj] at q ⊢; exact ⟨⟨_,hpv⟩,q⟩
  ·rw [if_neg hj] at e1; exact ⟨⟨u,e1⟩,q⟩
 have own:OwnAt (upd H a ob) G a u0:=⟨ob,Qp,il.mono sm⟩
 refine ⟨{
  len:=by rw [List.length_set]; exact F.len
  slot:=fun j=>by
   rw [sa]
   by_cases hj:j = i
   ·rw [if_pos hj,hj]
    rcases hs with ⟨_,h⟩ | ⟨_,h⟩ <;> rw [h] <;> exact ⟨a,e,g,own⟩
   ·rw [if_neg hj]
    refine Qfk (F.slot j) sm fun b o hb1 hb2 eb=>?_
    have nb:b ≠ a:=fun z=>hj (F.apart j i a ⟨hb1,z ▸ hb2⟩ ⟨⟨_,hpv⟩,e⟩)
    exact ⟨by rw [Q4 nb]; exact eb,(PrvAt.at F ⟨hb1,hb2⟩).1⟩
  apart:=fun j k b h1 h2=>F.apart j k b (pv' j b h1) (pv' k b h2)
  prv:=fun b hb=>by
   by_cases h:b = a
   ·exact ⟨ob,by rw [h,Qp],il.pen⟩
   ·rw [Q4 h]; exact F.prv b hb
  chg:=fun b o h1 h2 eb=>by
   have nb:b ≠ a:=fun z=>by
    rcases hs with ⟨h,_⟩ | ⟨h,_⟩
    ·rcases F.newO a ⟨i,_,h,e⟩ with y | y
     ·rw [z,y] at eb; cases eb
     ·exact h1 (z ▸ y)
    ·exact h2 (z ▸ F.newM a ⟨i,_,h,e⟩)
   rw [Q4 nb]
   exact F.chg b o h1 h2 eb
  keep:=fun b o eb=>by
   by_cases h:b = a
   ·exact ⟨_,by rw [h,Qp]⟩
   ·rw [Q4 h]; exact F.keep b o eb
  newO:=fun b h=>by
   obtain ⟨j,u,e1,q⟩:=h
   rw [sa] at e1
   by_cases hj:j = i
   ·rw [if_pos hj] at e1
    rcases hs with ⟨h,h2⟩ | ⟨h,h2⟩
    ·exact F.newO b ⟨i,_,h,hj ▸ q⟩
    ·rw [h2] at e1; cases e1
   ·rw [if_neg hj] at e1; exact F.newO b ⟨j,u,e1,q⟩
  newM:=fun b h=>by
   obtain ⟨j,u,e1,q⟩:=h
   rw [sa] at e1
   by_cases hj:j = i
   ·rw [if_pos hj] at e1
    rcases hs with ⟨h,h2⟩ | ⟨h,h2⟩
    ·rw [h2] at e1; cases e1
    ·exact F.newM b ⟨i,_,h,hj ▸ q⟩
   ·rw [if_neg hj] at e1; exact F.newM b ⟨j,u,e1,q⟩
  fix:=fun j b h=>by
   obtain ⟨⟨u,e1⟩,q⟩:=h
   rw [sa] at e1
   by_cases hj:j = i
   ·rw [if_pos hj] at e1
    rcases hs with ⟨h,h2⟩ | ⟨h,h2⟩
    ·rw [h2] at e1; rcases e1 with e1 | e1 <;> cases e1
    ·exact F.fix j b ⟨⟨_,.inl (by rw [hj]; exact h)⟩,q⟩
   ·rw [if_neg hj] at e1; exact F.fix j b ⟨⟨u,e1⟩,q⟩
  gg:=F.gg
  gn:=F.gn
  bp:=F.bp },sm⟩
theorem FI.change (F:FI B H G σ ρ) {ts us:List T} {ws:List V} {s':Slot} (hs:(Qa ρ i = .ow (.lst ts) ∧ s' = .ow (.lst us)) ∨ (Qa ρ i = .ml (.lst ts) ∧ s' = .ml (.lst us))) {a:Addr} (e:σ[i]? = some (some (.ref a))) (il:IsL (dls H G) ws us) (z:us.length ≤ 100000) :
  FI B (upd H a (.lst ws)) G σ (ρ.set i s') ∧ Same (dls H G) (dls (upd H a (.lst ws)) G):=F.changeO hs e ⟨z,il⟩
end
theorem QG.weak {X:Cx} {e:Expr} {t t':TG} (h:QG X e t) (q:∀ v σ H Q,t' v σ H Q → t v σ H Q):QG X e t':=⟨fun pins s σ H v u Q I r z=>h.h pins s σ H v u Q I r (q _ _ _ _ z)⟩
theorem QI.weak {X:Cx} {tg e:Expr} {t t':TI} (h:QI X tg e t) (q:∀ σ H R,t' σ H R → t σ H R):QI X tg e t':=⟨fun pins s σ H R I z=>h.h pins s σ H R I (q _ _ _ z)⟩
theorem QC.weak {X:Cx} {e:List Expr} {t t':TT} (h:QC X e t) (q:∀ σ H Q,t' σ H Q → t σ H Q):QC X e t':=⟨fun pins s σ H Q I z=>h.h pins s σ H Q I (q _ _ _ z)⟩
noncomputable def tG (tg:Tg):TG:=fun v σ H Q=>∃ B G ρ t ρ',FI B H G σ ρ ∧ Is (dls H G) v t ∧ Qfc tg t ρ = some ρ' ∧ ∀ σ',FI B H G σ' ρ' → (∀ k a,PrvAt σ' ρ' k a → PrvAt σ ρ k a) → Q σ' H
theorem Qrk {i:Nat} {t:T} {σ:St} {ρ ρ':En} {v:V} (h:Qbs i (.fz t) ρ = some ρ'):∀ k a,PrvAt (σ.set i (some v)) ρ' k a → PrvAt σ ρ k a:=fun k a hk=>by
 obtain ⟨h1,rfl⟩:=Qjx h
 obtain ⟨⟨u,e⟩,q⟩:=hk
 rw [Qh7] at e
 by_cases z:k = i ∧ i < ρ.length
 ·rw [if_pos z] at e; cases e
 ·rw [if_neg z] at e
  have hk:k ≠ i:=fun y=>z ⟨y,h1⟩
  rw [Qh2 hk] at q
  exact ⟨⟨u,e⟩,q⟩
noncomputable def Qzz:List Nat → TGs
 | []=>Q7j
 | i :: is=>Qx8 (Qhy i) (Qzz is)
section
variable {X:Cx} {e:Expr} {es:List Expr} {pos:Pos}
theorem Q9 {i:Nat} (h:QG X e (Qhy i)):QG X e (tG (.nm i)):=h.weak fun v σ H Q ⟨B,G,ρ,t,ρ',F,hv,hs,q⟩=>q _ (F.setS hs hv) (Qrk hs)
theorem Qvf {B:Bs} {H:Hp} {G:Addr → Prop} {Q:St → Hp → Prop}:∀ {is:List Nat} {ts:List T} {xs:List V} {σ:St} {ρ ρ':En},FI B H G σ ρ → IsL (dls H G) xs ts → Qcz is ts ρ = some ρ' → (∀ σ',FI B H G σ' ρ' → (∀ k a,PrvAt σ' ρ' k a → PrvAt σ ρ k a) → Q σ' H) → Qzz is xs σ H Q
 | [],[],xs,σ,ρ,ρ',F,r,e,q=>by
  cases e
  exact ⟨r.nil_inv,q σ F fun _ _ h=>h⟩
 | i :: is,t :: ts,xs,σ,ρ,ρ',F,r,e,q=>by
  obtain ⟨v,w,rfl,a,r⟩:=r.cons_inv
  unfold Qcz at e
  cases h:Qbs i (.fz t) ρ with
  | none=>rw [h] at e; cases e
  | some ρ1 =>
   rw [h] at e
   exact ⟨v,w,rfl,Qvf (F.setS h a) r e fun σ' F' o=>q σ' F' fun k b hk=>Qrk h k b (o k b hk)⟩
 | [],_ :: _,_,_,_,_,_,_,e,_=>by cases e
 | _ :: _,[],_,_,_,_,_,_,e,_=>by cases e
theorem Qj7:∀ {is:List Nat} {ts:List T} {ρ ρ':En},Qcz is ts ρ = some ρ' → ts.length = is.length
 | [],[],_,_,_=>rfl
 | i :: is,t :: ts,ρ,ρ',e=>by
  unfold Qcz at e
  cases h:Qbs i (.fz t) ρ with
  | none=>rw [h] at e; cases e
  | some ρ1=>rw [h] at e; rw [List.length_cons,List.length_cons,Qj7 e]
 | [],_ :: _,_,_,e=>by cases e
 | _ :: _,[],_,_,e=>by cases e
theorem Q9v {K:PySem.W.Frag} {n:Nat} {is:List Nat} (h:QG X e (Q2x K n (Qzz is))) (hn:is.length = n):QG X e (tG (.tp is)):=h.weak fun v σ H Q ⟨B,G,ρ,t,ρ',F,hv,hs,q⟩=>by
 cases t <;> first | (cases hs; done) | skip
 have hs:Qcz is _ ρ = some ρ':=hs
 obtain ⟨a,vs,rfl,ea,r⟩:=hv.tup_inv
 exact ⟨a,vs,rfl,SqT.of (Qah ea).2,by rw [r.length,Qj7 hs,hn],Qvf F r hs q⟩
end
structure WkR (J:It) (H0:Hp) (G0:Addr → Prop) (Ok:Hp → Prop) (ts:List T):Prop where
 go:∀ i H,i < ts.length → Ok H → J.go i H
 stop:∀ i H,ts.length ≤ i → Ok H → J.stop i H
 yld:∀ i H x H',i < ts.length → Ok H → J.yld i H x H' → Same H H' ∧ ∃ t,ts[i]? = some t ∧ ∀ G,Pen H G → Same (dls H0 G0) (dls H G) → Is (dls H' G) x t
noncomputable def tW (p:Pr) (w:W):TI:=fun σ H R=>∃ G ρ,FI (Qaw H G σ ρ) H G σ ρ ∧ Fin p (Qaw H G σ ρ) σ (evW p.cf w ρ) fun its ρ1=>its.2 = none ∧ ∀ J H1 G1 Ok,FI (Qaw H G σ ρ) H1 G1 σ ρ1 → WkR J H1 G1 Ok its.1 → (∀ H' G',Same (dls H1 G1) (dls H' G') → Ok H') → R J H1
section
variable {X:Cx} {p:Pr} {e a b tg:Expr} {a' b' e':E} {pos p1:Pos} {K:PySem.W.Frag}
theorem wk_l {H:Hp} {G:Addr → Prop} {l:Addr} {vs:List V} {ts:List T} (r:IsL (dls H G) vs ts):WkR (Itl K l) H G (fun H'=>SqL K H' l vs) ts where
 go:=fun i H' hi ok=>⟨vs,_,ok,List.getElem?_eq_getElem (by rw [r.length]; exact hi)⟩
 stop:=fun i H' hi ok=>⟨vs,ok,by rw [r.length]; exact hi⟩
 yld:=fun i H' x H2 hi ok y=>by
  obtain ⟨rfl,hx⟩:=y
  obtain ⟨t,et,it⟩:=r.get (hx vs ok)
  exact ⟨Same.refl _,t,et,fun G' _ s=>it.mono s⟩
theorem wk_t {H:Hp} {G:Addr → Prop} {l:Addr} {vs:List V} {ts:List T} (r:IsL (dls H G) vs ts):WkR (Itt K l) H G (fun H'=>SqT K H' l vs) ts where
 go:=fun i H' hi ok=>⟨vs,_,ok,List.getElem?_eq_getElem (by rw [r.length]; exact hi)⟩
 stop:=fun i H' hi ok=>⟨vs,ok,by rw [r.length]; exact hi⟩
 yld:=fun i H' x H2 hi ok y=>by
  obtain ⟨rfl,hx⟩:=y
  obtain ⟨t,et,it⟩:=r.get (hx vs ok)
  exact ⟨Same.refl _,t,et,fun G' _ s=>it.mono s⟩
theorem Q8 (lo:Int) (n:Nat):(Q5 lo n).length = n:=by unfold Q5; rw [List.length_map,List.length_range]
theorem Qfd {lo:Int} {n i:Nat} (hi:i < n):(Q5 lo n)[i]? = some (.int (lo + i)):=by
 unfold Q5
 rw [List.getElem?_map,List.getElem?_range hi]
 rfl
theorem wk_r {H:Hp} {G:Addr → Prop} {lo:Int} {n:Nat}:WkR (Itr lo n) H G (fun _=>True) (Q5 lo n) where
 go:=fun i H' hi _=>by rw [Q8] at hi; exact hi
 stop:=fun i H' hi _=>by rw [Q8] at hi; exact hi
 yld:=fun i H' x H2 hi _ y=>by
  rw [Q8] at hi
  obtain ⟨rfl,rfl⟩:=y
  exact ⟨Same.refl _,_,Qfd hi,fun _ _ _=>Is.int⟩
theorem Qz0 {r:PV} {ρ:En} {t:T} (h:Qjw r = none) (e:cont ρ r = some t):frz r = some t:=by
 cases r with
 | fz t=>exact e
 | ow t=>exact e
 | sl i=>cases h
theorem Qb6 (hK:X.K = K) (ha:QE X e (tE p e')):QI X tg e (tW p (.seq e')):=(Q5y K hK ha).weak fun σ H R ⟨G,ρ,F,h⟩=>by
 unfold evW at h
 refine ⟨G,ρ,F,h.bind.imp fun r ρ1 h1 v H1 G1 F1 r1=>?_⟩
 cases ec:cont ρ1 r with
 | none=>rw [ec] at h1; exact False.elim h1
 | some t =>
  rw [ec] at h1
  cases es:Qgi t with
  | none =>
   replace h1:Fin p (Qaw H G σ ρ) σ (match Qgi t with | some ts=>.ok (ts,Qjw r) ρ1 | none=>.no) _:=h1
   rw [es] at h1
   exact False.elim h1
  | some ts =>
   replace h1:Fin p (Qaw H G σ ρ) σ (match Qgi t with | some ts=>.ok (ts,Qjw r) ρ1 | none=>.no) _:=h1
   rw [es] at h1
   obtain ⟨hn,k⟩:=h1
   obtain ⟨G',F',hv,_⟩:=PVR.lay (B:=Qaw H G σ ρ) r1 F1 (Qz0 hn ec)
   cases t <;> first | (cases es; done) | skip
   ·cases es
    obtain ⟨l,vs,rfl,el,rl⟩:=hv.tup_inv
    exact ⟨l,rfl,.inr ⟨⟨vs,SqT.of (Qah el).2⟩,k _ H1 G' _ F' (wk_t rl) fun H' G2 s=>SqT.of (Qah (s _ _ el)).2⟩⟩
   ·cases es
    obtain ⟨l,vs,rfl,el,rl⟩:=hv.lst_inv
    exact ⟨l,rfl,.inl ⟨⟨vs,SqL.of (Qah el).2⟩,k _ H1 G' _ F' (wk_l rl) fun H' G2 s=>SqL.of (Qah (s _ _ el)).2⟩⟩
theorem Q4b (hm:X.mg "range" = none) (ha:QE X a (tE p a')) (hg:Gl X "range") (hs:Q1 a = true):QI X tg (.Call (.Name "range" p1) [a] [] pos) (tW p (.rng1 a')):=(Q8w hm (Qcm ha Qfa hs) hg hs).weak fun σ H R ⟨G,ρ,F,h⟩=>by
 unfold evW at h
 refine ⟨G,ρ,F,h.bind.imp fun r ρ1 h1 v H1 G1 F1 r1=>?_⟩
 cases r with
 | ow t=>exact False.elim h1
 | sl i=>exact False.elim h1
 | fz t =>
  cases t <;> first | exact False.elim h1 | skip
  rename_i j
  replace h1:Fin p (Qaw H G σ ρ) σ (if j.natAbs ≤ 100000 then .ok (Q5 0 j.toNat,none) ρ1 else .no) _:=h1
  by_cases z:j.natAbs ≤ 100000
  ·rw [if_pos z] at h1
   obtain rfl:=r1.is.int_inv
   exact ⟨j,rfl,by omega,by omega,h1.2 _ H1 G1 _ F1 wk_r fun _ _ _=>trivial⟩
  ·rw [if_neg z] at h1; exact False.elim h1
end
theorem Qdr (js:List (Option Nat)) (ρ:En) (k:Nat):Qa (Qde js ρ) k = match js[k]? with
  | some (some j)=>(Qa ρ j).lend
  | _=>.un:=by
 show (match (js.map fun o=>match o with | none=>Slot.un | some j=>(Qa ρ j).lend)[k]? with | some s=>s | none=>Slot.un) = _
 rw [List.getElem?_map]
 cases js[k]? with
 | none=>rfl
 | some o=>cases o <;> rfl
theorem Qja (js:List (Option Nat)) (σ:St) (k:Nat):(Qfg js σ)[k]? = match js[k]? with
  | some (some j)=>some ((σ[j]?).join)
  | some none=>some none
  | none=>none:=by
 unfold Qfg
 rw [List.getElem?_map]
 cases js[k]? with
 | none=>rfl
 | some o=>cases o <;> rfl
theorem Qgw (js:List (Option Nat)) (ρi:En):∀ (ρ:En) (n j:Nat),Qa (Qdm js ρi n ρ) j = if j < ρ.length then Qh0 js ρi (n + j) (Qa ρ j) else .un
 | [],n,j=>by
  unfold Qdm
  rw [if_neg (by simp),Qfl]
 | s :: ρ,n,0=>by unfold Qdm; rw [if_pos (by simp)]; rfl
 | s :: ρ,n,j + 1=>by
  unfold Qdm
  rw [Qe,Qe,Qgw js ρi ρ (n + 1) j,show n + 1 + j = n + (j + 1) by omega]
  by_cases h:j < ρ.length
  ·rw [if_pos h,if_pos (by rw [List.length_cons]; omega)]
  ·rw [if_neg h,if_neg (by rw [List.length_cons]; omega)]
theorem Qj8 (js:List (Option Nat)) (ρi:En):∀ (ρ:En) (n:Nat),(Qdm js ρi n ρ).length = ρ.length
 | [],_=>rfl
 | s :: ρ,n=>by unfold Qdm; rw [List.length_cons,List.length_cons,Qj8 js ρi ρ (n + 1)]
theorem Qds (js:List (Option Nat)) (ρi:En) (j:Nat) (s:Slot):Qh0 js ρi j s = s ∨ ∃ k t,js.idxOf? (some j) = some k ∧ Qa ρi k = .ml t ∧ Qh0 js ρi j s = s.put t:=by
 unfold Qh0
 cases h1:js.idxOf? (some j) with
 | none=>exact .inl rfl
 | some k =>
  cases h2:Qa ρi k with
  | ml t=>exact .inr ⟨k,t,rfl,h2,by simp only [h2]⟩
  | un=>exact .inl (by simp only [h2])
  | pin _=>exact .inl (by simp only [h2])
  | fz t=>exact .inl (by simp only [h2])
  | ow t=>exact .inl (by simp only [h2])
  | ro t=>exact .inl (by simp only [h2])
theorem Qgx (js:List (Option Nat)) (ρi ρ:En) (j:Nat):Qa (Qkh js ρi ρ) j = Qh0 js ρi j (Qa ρ j):=by
 unfold Qkh
 rw [Qgw,Nat.zero_add]
 by_cases h:j < ρ.length
 ·rw [if_pos h]
 ·rw [if_neg h]
  have e:Qa ρ j = .un:=by
   unfold Qa
   rw [List.getElem?_eq_none_iff.mpr (by omega)]
  rw [e]
  rcases Qds js ρi j .un with z | ⟨k,t,_,_,z⟩ <;> rw [z] <;> rfl
theorem Q4c:∀ {js:List (Option Nat)} {j k:Nat},js.idxOf? (some j) = some k → js[k]? = some (some j):=by
 intro js j k h
 have:=List.idxOf?_eq_some_iff.mp h
 obtain ⟨h1,h2,_⟩:=this
 rw [List.getElem?_eq_getElem h1,h2]
theorem Qz1 {js:List (Option Nat)} {j k:Nat} (h:js.idxOf? (some j) = none):js[k]? ≠ some (some j):=fun e=>by
 have:=List.idxOf?_eq_none_iff.mp h
 exact this (List.mem_of_getElem? e)
theorem Qlo:∀ {js:List (Option Nat)},Qb5 js = true → ∀ (i k j:Nat),js[i]? = some (some j) → js[k]? = some (some j) → i = k
 | [],_,i,k,j,e,_=>by simp at e
 | r :: js,h,i,k,j,e1,e2=>by
  have tl:Qb5 js = true:=by
   cases r with
   | some q=>unfold Qb5 at h; rw [Bool.and_eq_true] at h; exact h.2
   | none=>exact h
  have hd:∀ (m:Nat),r = some j → js[m]? = some (some j) → False:=fun m er em=>by
   subst er
   unfold Qb5 at h
   rw [Bool.and_eq_true] at h
   have q:=List.all_eq_true.mp h.1 _ (List.mem_of_getElem? em)
   simp at q
  cases i with
  | zero =>
   cases k with
   | zero=>rfl
   | succ k=>simp at e1; rw [List.getElem?_cons_succ] at e2; exact (hd k e1 e2).elim
  | succ i =>
   cases k with
   | zero=>simp at e2; rw [List.getElem?_cons_succ] at e1; exact (hd i e2 e1).elim
   | succ k =>
    rw [List.getElem?_cons_succ] at e1 e2
    rw [Qlo tl i k j e1 e2]
theorem Qof:∀ {ρ0 ρ:En},Qer ρ0 ρ = true → ∀ (i:Nat) (t:T),Qa ρ0 i = .ml t → ∃ t',Qa ρ i = .ml t'
 | [],[],_,i,t,e=>by rw [Qfl] at e; cases e
 | [],_ :: _,h,_,_,_=>by cases h
 | s0 :: ρ0,[],h,_,_,_=>by cases s0 <;> cases h
 | s0 :: ρ0,s :: ρ,h,i,t,e=>by
  have tl:Qer ρ0 ρ = true:=by
   cases s0 <;> first | exact h | skip
   unfold Qer at h
   rw [Bool.and_eq_true] at h
   exact h.2
  cases i with
  | zero =>
   rw [Qd] at e
   subst e
   unfold Qer at h
   rw [Bool.and_eq_true] at h
   cases s <;> first | (simp at h; done) | exact ⟨_,rfl⟩
  | succ i =>
   rw [Qe] at e ⊢
   exact Qof tl i t e
section
variable {B:Bs} {H H1 H2:Hp} {G G1 G2:Addr → Prop} {σ σ2:St} {ρ ρi:En} {js:List (Option Nat)}
theorem Qz2 {s:Slot} {t:T} (h:s.lend.prv = some t):s.prv = some t:=by cases s <;> exact h
theorem FI.cap (F:FI B H G σ ρ) (hj:Qb5 js = true):FI (Qaw H G (Qfg js σ) (Qde js ρ)) H G (Qfg js σ) (Qde js ρ):=by
 have pv:∀ k a,PrvAt (Qfg js σ) (Qde js ρ) k a → ∃ j,js[k]? = some (some j) ∧ PrvAt σ ρ j a:=fun k a h=>by
  obtain ⟨⟨t,e⟩,q⟩:=h
  rw [Qdr] at e
  rw [Qja] at q
  cases hk:js[k]? with
  | none=>rw [hk] at e; cases e
  | some o =>
   cases o with
   | none=>rw [hk] at e; cases e
   | some j =>
    rw [hk] at e q
    refine ⟨j,rfl,⟨t,Qz2 e⟩,?_⟩
    replace q:some (σ[j]?.join) = some (some (.ref a)):=q
    cases hs:σ[j]? with
    | none=>rw [hs] at q; cases q
    | some w=>rw [hs] at q; exact q
 refine ⟨by unfold Qfg Qde; rw [List.length_map,List.length_map],fun k=>?_,fun i k a h1 h2=>?_,F.prv,fun _ _ _ _ e=>e,fun _ o e=>⟨o,e⟩,fun _ h=>.inr h,fun _ h=>h,fun _ _ h=>h,fun _ h=>h,fun _ h=>.inl h,fun b h=>let ⟨xs,e,_⟩:=F.prv b h; ⟨_,e⟩⟩
 ·rw [Qdr]
  cases hk:js[k]? with
  | none=>trivial
  | some o =>
   cases o with
   | none=>trivial
   | some j =>
    have q:=F.slot j
    have gt:∀ v,σ[j]? = some (some v) → (Qfg js σ)[k]? = some (some v):=fun v e=>by
     rw [Qja,hk]
     show some (σ[j]?.join) = _
     rw [e]
     rfl
    show Qrb H G (Qfg js σ) k (Qa ρ j).lend
    cases hs:Qa ρ j with
    | un=>trivial
    | pin a=>trivial
    | fz t=>rw [hs] at q; obtain ⟨v,e,i⟩:=q; exact ⟨v,gt _ e,i⟩
    | ow t=>rw [hs] at q; obtain ⟨v,e,i⟩:=q; exact ⟨v,gt _ e,i⟩
    | ml t=>rw [hs] at q; obtain ⟨v,e,i⟩:=q; exact ⟨v,gt _ e,i⟩
    | ro t=>rw [hs] at q; obtain ⟨v,e,i⟩:=q; exact ⟨v,gt _ e,i⟩
 ·obtain ⟨j1,e1,p1⟩:=pv i a h1
  obtain ⟨j2,e2,p2⟩:=pv k a h2
  have ej:=F.apart j1 j2 a p1 p2
  subst ej
  exact Qlo hj i k j1 e1 e2
theorem FI.uncap (F:FI B H G σ ρ) (hj:Qb5 js = true) (I:FI (Qaw H G (Qfg js σ) (Qde js ρ)) H2 G2 σ2 ρi) (hk:Qer (Qde js ρ) ρi = true):FI B H2 G2 σ (Qkh js ρi ρ):=by
 have Fc:=F.cap hj
 have sm:=Fc.same I
 have noO:∀ a,¬ OwA (Qfg js σ) (Qde js ρ) a:=fun a h=>by
  obtain ⟨k,t,e,_⟩:=h
  rw [Qdr] at e
  cases hk:js[k]? with
  | none=>rw [hk] at e; cases e
  | some o =>
   cases o with
   | none=>rw [hk] at e; cases e
   | some j =>
    rw [hk] at e
    have e:(Qa ρ j).lend = .ow t:=e
    cases hs:Qa ρ j <;> rw [hs] at e <;> cases e
 have isM:∀ a,MlA (Qfg js σ) (Qde js ρ) a → ∃ (k j:Nat) (t:T),js[k]? = some (some j) ∧ (Qa ρ j = .ow t ∨ Qa ρ j = .ml t) ∧ σ[j]? = some (some (.ref a)):=fun a h=>by
  obtain ⟨k,t,e,q⟩:=h
  rw [Qdr] at e
  rw [Qja] at q
  cases hk:js[k]? with
  | none=>rw [hk] at e; cases e
  | some o =>
   cases o with
   | none=>rw [hk] at e; cases e
   | some j =>
    rw [hk] at e q
    have e:(Qa ρ j).lend = .ml t:=e
    refine ⟨k,j,t,hk,?_,?_⟩
    ·cases hs:Qa ρ j <;> rw [hs] at e <;> cases e
     ·exact .inl rfl
     ·exact .inr rfl
    ·replace q:some (σ[j]?.join) = some (some (.ref a)):=q
     cases hs:σ[j]? with
     | none=>rw [hs] at q; cases q
     | some w=>rw [hs] at q; exact q
 -- a list of the frame that the block can't change
 have stay:∀ j a t,(Qa ρ j).prv = some t → σ[j]? = some (some (.ref a)) → OwnAt H G a t → ((∀ t,Qa ρ j ≠ .ow t) ∧ (∀ t,Qa ρ j ≠ .ml t) ∨ js.idxOf? (some j) = none) → OwnAt H2 G2 a t:=fun j a t e s o h=>by
  refine o.mono sm fun u eu=>I.chg a u (noO a) (fun z=>?_) eu
  obtain ⟨k,j',t',e1,hs,e2⟩:=isM a z
  have ej:j' = j:=F.apart j' j a ⟨⟨t',by rcases hs with hs | hs <;> rw [hs] <;> rfl⟩,e2⟩ ⟨⟨t,e⟩,s⟩
  subst ej
  rcases h with ⟨h1,h2⟩ | h
  ·rcases hs with hs | hs
   ·exact h1 _ hs
   ·exact h2 _ hs
  ·exact Qz1 h e1
 -- one that it may
 have lent:∀ j a t k,(Qa ρ j = .ow t ∨ Qa ρ j = .ml t) → σ[j]? = some (some (.ref a)) → js.idxOf? (some j) = some k → ∃ t',Qa ρi k = .ml t' ∧ OwnAt H2 G2 a t':=fun j a t k hs s hx=>by
  have e1:=Q4c hx
  have e0:Qa (Qde js ρ) k = .ml t:=by
   rw [Qdr,e1]
   show (Qa ρ j).lend = _
   rcases hs with hs | hs <;> rw [hs] <;> rfl
  obtain ⟨t',e2⟩:=Qof hk k t e0
  have q:=I.slot k
  rw [e2] at q
  obtain ⟨a',q1,_,q3⟩:=q
  obtain ⟨_,q4⟩:=I.fix k a' ⟨⟨t',.inl e2⟩,q1⟩
  rw [Qja,e1] at q4
  replace q4:some (σ[j]?.join) = some (some (.ref a')):=q4
  rw [s] at q4
  have q5:a = a':=by
   have:=Option.some.inj q4
   have:=Option.some.inj (show some (V.ref a) = some (V.ref a') from this)
   cases this
   rfl
  subst q5
  exact ⟨t',e2,q3⟩
 have kd:∀ j s',Qa (Qkh js ρi ρ) j = s' → (s' = Qa ρ j ∨ ∃ t,s' = (Qa ρ j).put t):=fun j s' h=>by
  rw [Qgx] at h
  rcases Qds js ρi j (Qa ρ j) with z | ⟨k,t,_,_,z⟩
  ·rw [z] at h; exact .inl h.symm
  ·rw [z] at h; exact .inr ⟨t,h.symm⟩
 have pv:∀ j a,PrvAt σ (Qkh js ρi ρ) j a → PrvAt σ ρ j a:=fun j a h=>by
  obtain ⟨⟨u,e⟩,q⟩:=h
  refine ⟨?_,q⟩
  rcases kd j _ rfl with z | ⟨t,z⟩
  ·rw [z] at e; exact ⟨u,e⟩
  ·rw [z] at e; exact Qpf e
 exact {
  len:=by unfold Qkh; rw [Qj8]; exact F.len
  slot:=fun j=>by
   have q:=F.slot j
   have bc:=Qds js ρi j (Qa ρ j)
   rw [Qgx]
   cases hs:Qa ρ j with
   | un =>
    rw [hs] at bc
    rcases bc with e | ⟨k,t,_,_,e⟩ <;> rw [e] <;> trivial
   | pin a =>
    rw [hs] at q bc
    rcases bc with e | ⟨k,t,_,_,e⟩ <;> rw [e] <;> exact q
   | fz t =>
    rw [hs] at q bc
    obtain ⟨v,e1,e2⟩:=q
    rcases bc with e | ⟨k,t,_,_,e⟩ <;> rw [e] <;> exact ⟨v,e1,e2.mono sm⟩
   | ro t =>
    rw [hs] at q bc
    obtain ⟨a,e1,g,o⟩:=q
    have o':=stay j a t (by rw [hs]; rfl) e1 o (.inl ⟨fun t z=>(by rw [hs] at z; cases z),fun t z=>(by rw [hs] at z; cases z)⟩)
    rcases bc with e | ⟨k,t,_,_,e⟩ <;> rw [e] <;> exact ⟨a,e1,I.gg a g,o'⟩
   | ow t =>
    rw [hs] at q bc
    obtain ⟨a,e1,g,o⟩:=q
    cases hp:js.idxOf? (some j) with
    | none =>
     have o':=stay j a t (by rw [hs]; rfl) e1 o (.inr hp)
     rcases bc with e | ⟨k,t',h,_,e⟩
     ·rw [e]; exact ⟨a,e1,I.gg a g,o'⟩
     ·rw [hp] at h; cases h
    | some k =>
     obtain ⟨t',ef,o'⟩:=lent j a t k (.inl hs) e1 hp
     have e:Qh0 js ρi j (.ow t) = .ow t':=by unfold Qh0; rw [hp]; simp only [ef]; rfl
     rw [e]
     exact ⟨a,e1,I.gg a g,o'⟩
   | ml t =>
    rw [hs] at q bc
    obtain ⟨a,e1,g,o⟩:=q
    cases hp:js.idxOf? (some j) with
    | none =>
     have o':=stay j a t (by rw [hs]; rfl) e1 o (.inr hp)
     rcases bc with e | ⟨k,t',h,_,e⟩
     ·rw [e]; exact ⟨a,e1,I.gg a g,o'⟩
     ·rw [hp] at h; cases h
    | some k =>
     obtain ⟨t',ef,o'⟩:=lent j a t k (.inr hs) e1 hp
     have e:Qh0 js ρi j (.ml t) = .ml t':=by unfold Qh0; rw [hp]; simp only [ef]; rfl
     rw [e]
     exact ⟨a,e1,I.gg a g,o'⟩
  apart:=fun i j a h1 h2=>F.apart i j a (pv i a h1) (pv j a h2)
  prv:=I.prv
  chg:=fun b o h1 h2 e=>I.chg b o (noO b) (fun z=>by
   obtain ⟨k,j,t,_,hs,q⟩:=isM b z
   rcases hs with hs | hs
   ·rcases F.newO b ⟨j,t,hs,q⟩ with y | y
    ·rw [e] at y; cases y
    ·exact h1 y
   ·exact h2 (F.newM b ⟨j,t,hs,q⟩)) (F.chg b o h1 h2 e)
  keep:=fun b o e=>by
   obtain ⟨o1,e1⟩:=F.keep b o e
   exact I.keep b o1 e1
  newO:=fun a h=>by
   obtain ⟨j,t,e,s⟩:=h
   rcases kd j _ e with z | ⟨u,z⟩
   ·exact F.newO a ⟨j,t,z.symm,s⟩
   ·cases hs:Qa ρ j <;> rw [hs] at z <;> cases z
    exact F.newO a ⟨j,_,hs,s⟩
  newM:=fun a h=>by
   obtain ⟨j,t,e,s⟩:=h
   rcases kd j _ e with z | ⟨u,z⟩
   ·exact F.newM a ⟨j,t,z.symm,s⟩
   ·cases hs:Qa ρ j <;> rw [hs] at z <;> cases z
    exact F.newM a ⟨j,_,hs,s⟩
  fix:=fun j a h=>by
   obtain ⟨⟨t,e⟩,s⟩:=h
   refine F.fix j a ⟨?_,s⟩
   rcases e with e | e
   ·rcases kd j _ e with z | ⟨u,z⟩
    ·exact ⟨t,.inl z.symm⟩
    ·cases hs:Qa ρ j <;> rw [hs] at z <;> cases z
     exact ⟨_,.inl rfl⟩
   ·rcases kd j _ e with z | ⟨u,z⟩
    ·exact ⟨t,.inr z.symm⟩
    ·cases hs:Qa ρ j <;> rw [hs] at z <;> cases z
     exact ⟨_,.inr rfl⟩
  gg:=fun b h=>I.gg b (F.gg b h)
  gn:=fun b h=>by
   rcases I.gn b h with z | z
   ·exact F.gn b z
   ·exact .inr (F.free z)
  bp:=F.bp }
end
noncomputable def tCs (p:Pr) (cs:Es):TT:=fun σ H Q=>∃ G ρ,FI (Qaw H G σ ρ) H G σ ρ ∧ Fin p (Qaw H G σ ρ) σ (evC p.cf cs ρ) fun b ρ1=>∀ H1 G1,FI (Qaw H G σ ρ) H1 G1 σ ρ1 → Q b H1
section
variable {X:Cx} {p:Pr} {a:Expr} {a':E}
theorem Qbu:QC X [] (tCs p .nil):=q_c0.weak fun σ H Q ⟨G,ρ,F,h⟩=>by unfold evC at h; exact h H G F
theorem Q9w (ha:QT X a (tT p a')):QC X [a] (tCs p (.cons a' .nil)):=(q_c1 ha).weak fun σ H Q ⟨G,ρ,F,h⟩=>by unfold evC at h; exact ⟨G,ρ,F,h⟩
end
noncomputable abbrev Pr.calm (p:Pr):Pr:={ p with R:=fun _ _ _ _=>False }
theorem Qvg {α β:Type} {o:Out α} {k:α → En → Out β} {b:β} {ρ:En} (h:o.bind k = .ok b ρ):∃ a ρ1,o = .ok a ρ1 ∧ k a ρ1 = .ok b ρ:=by
 cases o with
 | ok a ρ1=>exact ⟨a,ρ1,rfl,h⟩
 | xn x ρ1=>cases h
 | no=>cases h
theorem FI.under {B:Bs} {H:Hp} {G:Addr → Prop} {σ:St} {ρ:En} (F:FI B H G σ ρ) {l:Addr} {ys:List V} (g:G l) (np:∀ k,¬ PrvAt σ ρ k l) (hb:B.H l = none):FI B (upd H l (.lst ys)) G σ ρ ∧ Same (dls H G) (dls (upd H l (.lst ys)) G):=by
 have sm:Same (dls H G) (dls (upd H l (.lst ys)) G):=fun b o eb=>by
  obtain ⟨n,eb⟩:=Qah eb
  rw [Qcb n,Q4 (fun (z:b = l)=>n (by rw [z]; exact g))]
  exact eb
 refine ⟨{ F with
  slot:=fun j=>Qfk (F.slot j) sm fun b o hb1 hb2 eb=>?_
  prv:=fun b hb=>?_
  chg:=fun b o h1 h2 eb=>?_
  keep:=fun b o eb=>?_ },sm⟩
 ·have nb:b ≠ l:=fun z=>np j ⟨hb1,z ▸ hb2⟩
  exact ⟨by rw [Q4 nb]; exact eb,(PrvAt.at F ⟨hb1,hb2⟩).1⟩
 ·by_cases h:b = l
  ·exact ⟨.lst ys,by rw [h,Qp],rfl⟩
  ·rw [Q4 h]; exact F.prv b hb
 ·have nb:b ≠ l:=fun z=>by rw [z,hb] at eb; cases eb
  rw [Q4 nb]
  exact F.chg b o h1 h2 eb
 ·by_cases h:b = l
  ·exact ⟨_,by rw [h,Qp]⟩
  ·rw [Q4 h]; exact F.keep b o eb
theorem Q4d {p:Pr} {js:List (Option Nat)} {w:W} {tg:Tg} {cs:Es} {e':E} {σ:St} {H:Hp} {Q:VK} (h:tE p (.comp w js tg cs e') σ H Q):Qyq (tW p w) js (tG tg) (tCs p.calm cs) (tE p.calm e') σ H Q:=by
  obtain ⟨G,ρ,F,h⟩:=h
  unfold evE at h
  refine ⟨G,ρ,F,h.bind.imp fun its ρ1 h1=>?_⟩
  obtain ⟨ts,lk⟩:=its
  cases lk with
  | some _=>exact False.elim h1
  | none =>
   refine ⟨rfl,fun J H1 G1 Ok F1 wk stab l hl=>?_⟩
   replace wk:WkR J H1 G1 Ok ts:=wk
   replace h1:Fin p (Qaw H G σ ρ) σ (match Qdx tg (evC p.cf cs) (evE p.cf e') ts [] (Qde js ρ1) with
    | .ok us ρi=>if Qer (Qde js ρ1) ρi = true ∧ Qb5 js = true then Out.ok (PV.ow (.lst us)) (Qkh js ρi ρ1) else .no
    | _=>.no) _:=h1
   cases ec:Qdx tg (evC p.cf cs) (evE p.cf e') ts [] (Qde js ρ1) with
   | no=>rw [ec] at h1; exact False.elim h1
   | xn x ρx=>rw [ec] at h1; exact False.elim h1
   | ok tsF ρF =>
    rw [ec] at h1
    by_cases hz:Qer (Qde js ρ1) ρF = true ∧ Qb5 js = true
    ·simp only [if_pos hz] at h1
     obtain ⟨hkept,hap⟩:=hz
     have Fc:=F1.cap hap
     refine ⟨fun i m ys σ2 H2=>i + m = ts.length ∧ ∃ G2 ρi acc,FI (Qaw H1 G1 (Qfg js σ) (Qde js ρ1)) H2 G2 σ2 ρi ∧ G2 l ∧ (∀ k,¬ PrvAt σ2 ρi k l) ∧ H2 l = some (.lst ys) ∧ IsL (dls H2 G2) ys acc ∧ acc.length ≤ 100000 ∧
      Qdx tg (evC p.cf cs) (evE p.cf e') (ts.drop i) acc ρi = .ok tsF ρF,⟨ts.length,Nat.zero_add _,_,_,[],Fc.addG hl (Same.upd hl) Qp rfl,.inr rfl,fun k hk=>?_,Qp,.nil,Nat.zero_le _,ec⟩,?_⟩
     ·obtain ⟨_,t,ob,ea,_⟩:=PrvAt.at Fc hk
      rw [hl] at ea
      cases ea
     rintro i m ys σ2 H2 ⟨him,G2,ρi,acc,I2,gl,np,el,il,zl,cl⟩
     have ok2:Ok H2:=stab H2 G2 (Fc.same I2)
     by_cases hlt:i < ts.length
     ·refine .inr ⟨wk.go i H2 hlt ok2,fun x H3 y=>?_⟩
      obtain ⟨s3,t,et,ix⟩:=wk.yld i H2 x H3 hlt ok2 y
      have I3:=I2.grow s3
      have ix3:=ix G2 I2.prv (Fc.same I2)
      rw [List.drop_eq_getElem_cons hlt] at cl
      have et':ts[i] = t:=by rw [List.getElem?_eq_getElem hlt] at et; exact Option.some.inj et
      rw [et'] at cl
      unfold Qdx at cl
      cases est:Qfc tg t ρi with
      | none=>rw [est] at cl; cases cl
      | some ρ4 =>
       rw [est] at cl
       replace cl:(evC p.cf cs ρ4).bind _ = .ok tsF ρF:=cl
       obtain ⟨b,ρ5,eb,cl⟩:=Qvg cl
       refine ⟨_,G2,ρi,t,ρ4,I3,ix3,est,fun σ4 I4 old=>?_⟩
       have np4:∀ k,¬ PrvAt σ4 ρ4 k l:=fun k hk=>np k (old k l hk)
       refine ⟨G2,ρ4,I4.self,?_⟩
       rw [show p.calm.cf = p.cf from rfl,eb]
       intro H5 G5 I5
       have np5:=I4.nobody I5 (s3 _ _ el) np4
       have I5':=I4.trans I5
       have el5:H5 l = some (.lst ys):=I5.chg l _ (fun z=>by obtain ⟨j,z⟩:=OwA.prv z; exact np4 j z) (fun z=>by obtain ⟨j,z⟩:=MlA.prv z; exact np4 j z) (s3 _ _ el)
       have il5:IsL (dls H5 G5) ys acc:=(il.mono (Qbn s3)).mono (I4.same I5)
       cases b with
       | false =>
        simp only [Bool.false_eq_true,if_false] at cl ⊢
        exact ⟨m - 1,by omega,by omega,G5,ρ5,acc,I5',I5.gg l gl,np5,el5,il5,zl,cl⟩
       | true =>
        simp only [if_true] at cl ⊢
        obtain ⟨r,ρ6,er,cl⟩:=Qvg cl
        refine ⟨G5,ρ5,I5'.self,?_⟩
        rw [show p.calm.cf = p.cf from rfl,er]
        intro v H6 G6 I6 r6
        cases ef:frz r with
        | none=>rw [ef] at cl; cases cl
        | some t6 =>
         rw [ef] at cl
         replace cl:(if acc.length < 100000 then Qdx tg (evC p.cf cs) (evE p.cf e') (ts.drop (i + 1)) (acc ++ [t6]) ρ6 else .no) = .ok tsF ρF:=cl
         by_cases za:acc.length < 100000
         ·rw [if_pos za] at cl
          have np6:=I5'.nobody I6 el5 np5
          have el6:H6 l = some (.lst ys):=I6.chg l _ (fun z=>by obtain ⟨j,z⟩:=OwA.prv z; exact np5 j z) (fun z=>by obtain ⟨j,z⟩:=MlA.prv z; exact np5 j z) el5
          have il6:IsL (dls H6 G6) ys acc:=il5.mono (I5'.same I6)
          obtain ⟨G7,I7,i7,s7⟩:=PVR.lay (B:=Qaw H5 G5 σ4 ρ5) r6 I6 ef
          have g7:G7 l:=I7.gg l (I5.gg l gl)
          have I7':=I5'.trans I7
          have hb:(Qaw H1 G1 (Qfg js σ) (Qde js ρ1)).H l = none:=hl
          obtain ⟨I8,s8⟩:=I7'.under (ys:=ys ++ [v]) g7 np6 hb
          have zy:=il6.length
          refine ⟨el6,by rw [zy,sizeLine_eq]; omega,m - 1,by omega,by omega,G7,ρ6,acc ++ [t6],I8,g7,np6,Qp,((il6.mono (Qdl s7)).append (.one i7)).mono s8,by rw [List.length_append,List.length_singleton]; omega,cl⟩
         ·rw [if_neg za] at cl; cases cl
     ·have e0:ts.drop i = []:=List.drop_of_length_le (by omega)
      rw [e0] at cl
      cases cl
      refine .inl ⟨wk.stop i H2 (by omega) ok2,h1 _ H2 G2 (F1.uncap hap I2 hkept) ?_⟩
      refine ⟨l,rfl,F1.free hl,gl,fun k hk=>?_,.lst ys,el,zl,il⟩
      obtain ⟨⟨u,eu⟩,q⟩:=hk
      rw [Qgx] at eu
      have:∃ u,(Qa ρ1 k).prv = some u:=by
       rcases Qds js ρF k (Qa ρ1 k) with z | ⟨_,t,_,_,z⟩
       ·rw [z] at eu; exact ⟨u,eu⟩
       ·rw [z] at eu; exact Qpf eu
      obtain ⟨_,t,ob,ea,_⟩:=PrvAt.at F1 ⟨this,q⟩
      rw [hl] at ea
      cases ea
    ·simp only [if_neg hz] at h1
     exact False.elim h1
theorem Q9x {X:Cx} {p:Pr} {tgE elt iter:Expr} {ifs:List Expr} {scope:Scope} {pos:Pos} {N:List Str} {js:List (Option Nat)} {w:W} {tg:Tg} {cs:Es} {e':E} (hcalm:X.calm = true)
  (hi:QI X tgE iter (tW p w)) (hg:∀ s H fp,QG (Qbc X scope N s H fp) tgE (tG tg)) (hc:∀ s H fp,QC (Qbc X scope N s H fp) ifs (tCs p.calm cs)) (he:∀ s H fp,QE (Qbc X scope N s H fp) elt (tE p.calm e'))
  (hk:scope.kind = .function) (h1:scOk X scope = true) (h2:Qn1 X scope N js = true) (hs:∀ x,foldedSetIterable iter X.env x = pure x):QE X (.ListComp elt [⟨tgE,iter,ifs,0⟩] scope pos) (tE p (.comp w js tg cs e')) :=
 (Q8z N js hcalm hi hg hc he hk h1 h2 hs).weak fun σ H Q h=>Q4d h
theorem QS.weak {X:Cx} {e:Stmt} {t t':TS} (h:QS X e t) (q:∀ D σ H,t' D σ H → t D σ H):QS X e t':=⟨fun pins s σ H D I z=>h.h pins s σ H D I (q _ _ _ z)⟩
theorem QB.weak {X:Cx} {e:List Stmt} {t t':TS} (h:QB X e t) (q:∀ D σ H,t' D σ H → t D σ H):QB X e t':=⟨fun pins s σ H D I z=>h.h pins s σ H D I (q _ _ _ z)⟩
noncomputable def SFin (p:Pr) (B:Bs) (H:Hp) (G:Addr → Prop) (D:Ends):SO → Prop
 | .nx ρ1=>∀ σ1 H1 G1,FI B H1 G1 σ1 ρ1 → Same (dls H G) (dls H1 G1) → D.nx σ1 H1
 | .bk ρ1=>∀ σ1 H1 G1,FI B H1 G1 σ1 ρ1 → Same (dls H G) (dls H1 G1) → D.bk σ1 H1
 | .ct ρ1=>∀ σ1 H1 G1,FI B H1 G1 σ1 ρ1 → Same (dls H G) (dls H1 G1) → D.ct σ1 H1
 | .rt r ρ1=>∀ v σ1 H1 G1,FI B H1 G1 σ1 ρ1 → PVR B.H H1 G1 σ1 ρ1 v r → D.rt v H1
 | .xn x ρ1=>∀ cls dx σ1 H1 G1,FI B H1 G1 σ1 ρ1 → Q9g p.mg H1 x cls dx → p.R cls dx σ1 H1
 | .no=>False
noncomputable def tS (p:Pr) (s:S):TS:=fun D σ H=>∃ B G ρ,FI B H G σ ρ ∧ (∀ a,¬ B.O a) ∧ SFin p B H G D (exS p.cf s ρ)
section
variable {p:Pr} {B:Bs} {H H1:Hp} {G G1:Addr → Prop} {D:Ends} {σ:St} {ρ ρ1:En} {α:Type}
theorem SFin.late {o:SO} (h:SFin p B H G D o) (s:Same (dls H G) (dls H1 G1)):SFin p B H1 G1 D o:=by
 cases o with
 | nx ρ1=>exact fun σ1 H2 G2 F q=>h σ1 H2 G2 F (s.trans q)
 | bk ρ1=>exact fun σ1 H2 G2 F q=>h σ1 H2 G2 F (s.trans q)
 | ct ρ1=>exact fun σ1 H2 G2 F q=>h σ1 H2 G2 F (s.trans q)
 | rt r ρ1=>exact h
 | xn x ρ1=>exact h
 | no=>exact h
theorem Qlp {o:Out α} {k:α → En → SO} (h:SFin p B H G D (ofO o k)):Fin p B σ o fun a ρ1=>SFin p B H G D (k a ρ1):=by
 cases o with
 | ok a ρ1=>exact h
 | xn x ρ1=>exact fun cls dx H1 G1 F xr=>h cls dx σ H1 G1 F xr
 | no=>exact h
theorem Qgy {o:Option α} {k:α → SO} (h:SFin p B H G D (Qau o k)):∃ a,o = some a ∧ SFin p B H G D (k a):=by
 cases o with
 | none=>exact False.elim h
 | some a=>exact ⟨a,rfl,h⟩
theorem PVR.base {H2:Hp} {G2:Addr → Prop} {ρ2:En} {v:V} {r:PV} (h:PVR H1 H2 G2 σ ρ2 v r) (F:FI B H1 G1 σ ρ1):PVR B.H H2 G2 σ ρ2 v r:=by
 cases r with
 | fz t=>exact h
 | sl i=>exact h
 | ow t =>
  obtain ⟨a,rfl,n,g⟩:=h
  exact ⟨a,rfl,F.free n,g⟩
theorem Qgk {e:E} {Q:VK} {K:PV → En → SO} (F:FI B H G σ ρ) (h:SFin p B H G D (ofO (evE p.cf e ρ) K)) (q:∀ r ρ2 v H2 G2,SFin p B H2 G2 D (K r ρ2) → FI B H2 G2 σ ρ2 → FI (Qaw H G σ ρ) H2 G2 σ ρ2 → PVR B.H H2 G2 σ ρ2 v r → Same (dls H G) (dls H2 G2) → Q v H2):tE p e σ H Q :=
 Qi0 F (Qlp h) fun r ρ2 v H2 G2 k F2 F2' r2=>q r ρ2 v H2 G2 (k.late (F.same F2')) F2 F2' (r2.base F) (F.same F2')
theorem Qz3 {e:E} {Q:Bool → Hp → Prop} {K:Bool → En → SO} (F:FI B H G σ ρ) (h:SFin p B H G D (ofO (Qak (evE p.cf e ρ)) K)) (q:∀ b ρ2 H2 G2,SFin p B H2 G2 D (K b ρ2) → FI B H2 G2 σ ρ2 → Same (dls H G) (dls H2 G2) → Q b H2):tT p e σ H Q :=
 Qzr F (Qlp h) fun b ρ2 H2 G2 k F2 F2'=>q b ρ2 H2 G2 (k.late (F.same F2')) F2 (F.same F2')
end
section
variable {X:Cx} {p:Pr} {e a b:Expr} {e' a' b' c':E} {st:Stmt} {sts:List Stmt} {s s1 s2:S} {pos p1 p2:Pos} {x:Str}
theorem Qci:QB X [] (tS p .nil):=Qy4.weak fun D σ H ⟨B,G,ρ,F,hO,h⟩=>h σ H G F (Same.refl _)
theorem Q9y {D:Ends} {σ:St} {H:Hp} (h:tS p (.seq s1 s2) D σ H):Q2r (tS p s1) (tS p s2) D σ H:=by
 obtain ⟨B,G,ρ,F,hO,h⟩:=h
 refine ⟨B,G,ρ,F,hO,?_⟩
 unfold exS at h
 cases e:exS p.cf s1 ρ with
 | nx ρ1=>rw [e] at h; exact fun σ1 H1 G1 F1 q=>⟨B,G1,ρ1,F1,hO,SFin.late (p:=p) (D:=D) h q⟩
 | bk ρ1=>rw [e] at h; exact h
 | ct ρ1=>rw [e] at h; exact h
 | rt r ρ1=>rw [e] at h; exact h
 | xn x ρ1=>rw [e] at h; exact h
 | no=>rw [e] at h; exact h
theorem Qk (h1:QS X st (tS p s1)) (h2:QB X sts (tS p s2)):QB X (st :: sts) (tS p (.seq s1 s2)):=(Qo8 h1 h2).weak fun D σ H h=>Q9y h
theorem Qs (h1:QS X st (tS p s1)):QB X [st] (tS p s1):=Qo9 h1
theorem Q9z (he:QE X e (tE p e')) (hs:swapsWith e none pos.line X.env = pure false):QS X (.Expr e pos) (tS p (.expr e')):=(Qk7 he hs).weak fun D σ H ⟨B,G,ρ,F,hO,h⟩=>by
 unfold exS at h
 exact Qgk F h fun r ρ2 v H2 G2 k F2 _ _ sm=>k σ H2 G2 F2 (Same.refl _)
theorem Qal (he:QE X e (tE p e')):QS X (.Return (some e) pos) (tS p (.ret e')):=(Qu3 he).weak fun D σ H ⟨B,G,ρ,F,hO,h⟩=>by
 unfold exS at h
 exact Qgk F h fun r ρ2 v H2 G2 k F2 _ pv _=>k v σ H2 G2 F2 pv
theorem Qe4 {c:Expr} {bs cs:List Stmt} (hc:QT X c (tT p c')) (ha:QB X bs (tS p s1)) (hb:QB X cs (tS p s2)):QS X (.If c bs cs pos) (tS p (.ite c' s1 s2)):=(Q5z hc ha hb).weak fun D σ H ⟨B,G,ρ,F,hO,h⟩=>by
 unfold exS at h
 refine Qz3 F h fun k ρ2 H2 G2 h2 F2 sm=>?_
 cases k with
 | true=>exact ⟨B,G2,ρ2,F2,hO,h2⟩
 | false=>exact ⟨B,G2,ρ2,F2,hO,h2⟩
theorem Q4e {B:Bs} {H:Hp} {G:Addr → Prop} {D:Ends} {σ:St} {ρ:En} {i:Nat} {r:PV} {v:V} (F:FI B H G σ ρ) (pv:PVR B.H H G σ ρ v r) (h:SFin p B H G D (Qtg i r ρ)):D.nx (σ.set i (some v)) H:=by
 cases r with
 | sl j=>exact False.elim h
 | fz t =>
  obtain ⟨ρ',e,k⟩:=Qgy h
  exact k _ H G (F.setS e pv.is) (Same.refl _)
 | ow t =>
  obtain ⟨ρ',e,k⟩:=Qgy h
  exact k _ H G (F.setOw rfl e pv) (Same.refl _)
theorem Qog {i:Nat} (h:QS X st (Qqz (tE p e') (Qhy i))):QS X st (tS p (.set i e')):=h.weak fun D σ H ⟨B,G,ρ,F,hO,h⟩=>by
 unfold exS at h
 exact Qgk F h fun r ρ2 v H2 G2 k F2 _ pv _=>Q4e F2 pv k
theorem Qao {i:Nat} (h:QS X st (Qqz (tE p e') (Qhy i))):QS X st (tS p (.setF i e')):=h.weak fun D σ H ⟨B,G,ρ,F,hO,h⟩=>by
 unfold exS at h
 refine Qgk F h fun r ρ2 v H2 G2 k F2 _ pv _=>?_
 cases ef:frz r with
 | none=>rw [ef] at k; exact False.elim k
 | some t =>
  rw [ef] at k
  obtain ⟨ρ',e,k⟩:=Qgy k
  obtain ⟨G3,F3,i3,s3⟩:=PVR.lay pv F2 ef
  exact k _ H2 G3 (F3.setS e i3) (Qdl s3)
theorem Qad1 {is:List Nat} (h:QS X st (Qqz (tE p e') (tG (.tp is)))):QS X st (tS p (.unp is e')):=h.weak fun D σ H ⟨B,G,ρ,F,hO,h⟩=>by
 unfold exS at h
 refine Qgk F h fun r ρ2 v H2 G2 k F2 _ pv _=>?_
 cases r with
 | ow t=>exact False.elim k
 | sl i=>exact False.elim k
 | fz t =>
  cases t <;> first | exact False.elim k | skip
  obtain ⟨ρ',e,k⟩:=Qgy k
  exact ⟨B,G2,ρ2,_,ρ',F2,pv.is,e,fun σ' F' _=>k σ' H2 G2 F' (Same.refl _)⟩
end
section
variable {X:Cx} {p:Pr} {e a b:Expr} {e' a' b' c':E} {st:Stmt} {sts:List Stmt} {s s1 s2:S} {pos p1 p2:Pos} {x:Str} {K:PySem.W.Frag}
theorem FI.mutAt {B:Bs} {H:Hp} {G:Addr → Prop} {σ:St} {ρ:En} {i:Nat} (F:FI B H G σ ρ) (h:(Qa ρ i).mut = true):∃ a vs,σ[i]? = some (some (.ref a)) ∧ H a = some (.lst vs):=by
 have:∃ t,(Qa ρ i).prv = some (.lst t):=by
  cases hs:Qa ρ i <;> rw [hs] at h <;> first | (cases h; done) | skip
  all_goals (rename_i t; cases t <;> first | exact ⟨_,rfl⟩ | cases h)
 obtain ⟨t,e⟩:=this
 obtain ⟨a,s,_,o⟩:=F.prvAt e
 obtain ⟨vs,_,ea,_⟩:=o.lst_inv
 exact ⟨a,vs,s,ea⟩
theorem IsL.set {D:Hp} {v:V} {t:T} (hv:Is D v t):∀ {vs:List V} {ts:List T} (n:Nat),IsL D vs ts → IsL D (vs.set n v) (ts.set n t)
 | vs,[],n,r=>by rw [r.nil_inv]; exact .nil
 | vs,u :: us,0,r=>by
  obtain ⟨w,ws,rfl,a,q⟩:=r.cons_inv
  exact .cons hv q
 | vs,u :: us,n + 1,r=>by
  obtain ⟨w,ws,rfl,a,q⟩:=r.cons_inv
  exact .cons a (IsL.set hv n q)
theorem Qz4 {i:Nat} (h:QS X st (Qur (tBM K "list" Qko (Qox i) (Qj5 (tE p e') Qwx)))):QS X st (tS p (.app i e')):=h.weak fun D σ H ⟨B,G,ρ,F,hO,h⟩=>by
 unfold exS at h
 by_cases hm:(Qa ρ i).mut = true
 ·simp only [if_pos hm] at h
  obtain ⟨a,vs0,sa,ea⟩:=F.mutAt hm
  refine ⟨_,sa,.inl ⟨rfl,_,SqL.of ea⟩,?_⟩
  refine Qgk F h fun r ρ2 v H2 G2 k F2 _ pv _=>?_
  cases ef:frz r with
  | none=>rw [ef] at k; exact False.elim k
  | some t =>
   rw [ef] at k
   obtain ⟨G3,F3,i3,s3⟩:=PVR.lay pv F2 ef
   have sl:=F3.slot i
   replace k:SFin p B H2 G2 D (match Qa ρ2 i with
    | .ow (.lst ts)=>if ts.length < 100000 then .nx (ρ2.set i (.ow (.lst (ts ++ [t])))) else .no
    | .ml (.lst ts)=>if ts.length < 100000 then .nx (ρ2.set i (.ml (.lst (ts ++ [t])))) else .no
    | _=>.no):=k
   have fin:∀ ts s',(Qa ρ2 i = .ow (.lst ts) ∧ s' = Slot.ow (.lst (ts ++ [t]))) ∨ (Qa ρ2 i = .ml (.lst ts) ∧ s' = Slot.ml (.lst (ts ++ [t]))) → SFin p B H2 G2 D (if ts.length < 100000 then .nx (ρ2.set i s') else .no) → Qko (.ref a) [v] H2 fun _ H1=>D.nx σ H1:=fun ts s' hs k=>by
    have hp:(Qa ρ2 i).prv = some (.lst ts):=by rcases hs with ⟨h,_⟩ | ⟨h,_⟩ <;> rw [h] <;> rfl
    obtain ⟨a',sa',g,o1⟩:=F3.prvAt hp
    obtain ⟨vs,z,el,il⟩:=o1.lst_inv
    rw [sa] at sa'
    cases sa'
    by_cases zt:ts.length < 100000
    ·rw [if_pos zt] at k
     have lz:=il.length
     obtain ⟨F4,s4⟩:=F3.change hs sa (il.append (.one i3)) (by rw [List.length_append,List.length_singleton]; omega)
     exact ⟨a,vs,v,rfl,rfl,el,by rw [lz,sizeLine_eq]; omega,k σ _ G3 F4 ((Qdl s3).trans s4)⟩
    ·rw [if_neg zt] at k; exact False.elim k
   cases hs:Qa ρ2 i with
   | un=>rw [hs] at k; exact False.elim k
   | pin _=>rw [hs] at k; exact False.elim k
   | fz t=>rw [hs] at k; exact False.elim k
   | ro t=>rw [hs] at k; exact False.elim k
   | ow u =>
    rw [hs] at k sl
    cases u <;> first | exact False.elim k | skip
    exact fin _ _ (.inl ⟨hs,rfl⟩) k
   | ml u =>
    rw [hs] at k sl
    cases u <;> first | exact False.elim k | skip
    exact fin _ _ (.inr ⟨hs,rfl⟩) k
 ·simp only [if_neg hm] at h
  exact False.elim h
theorem Qad2 {i:Nat} (h:QS X st (Qur (tBM K "list" (Qgq K) (Qox i) (Qj5 (tE p e') Qwx)))):QS X st (tS p (.ext i e')):=h.weak fun D σ H ⟨B,G,ρ,F,hO,h⟩=>by
 unfold exS at h
 by_cases hm:(Qa ρ i).mut = true
 ·simp only [if_pos hm] at h
  obtain ⟨a,vs0,sa,ea⟩:=F.mutAt hm
  refine ⟨_,sa,.inl ⟨rfl,_,SqL.of ea⟩,?_⟩
  refine Qgk F h fun r ρ2 v H2 G2 k F2 _ pv _=>?_
  cases r with
  | ow t=>exact False.elim k
  | sl j=>exact False.elim k
  | fz t =>
   cases t <;> first | exact False.elim k | skip
   rename_i us
   have iv:=pv.is
   obtain ⟨b,ws,rfl,eb,rb⟩:=iv.tup_inv
   replace k:SFin p B H2 G2 D (match Qa ρ2 i with
    | .ow (.lst ts)=>if ts.length + us.length ≤ 100000 then .nx (ρ2.set i (.ow (.lst (ts ++ us)))) else .no
    | .ml (.lst ts)=>if ts.length + us.length ≤ 100000 then .nx (ρ2.set i (.ml (.lst (ts ++ us)))) else .no
    | _=>.no):=k
   have fin:∀ ts s',(Qa ρ2 i = .ow (.lst ts) ∧ s' = Slot.ow (.lst (ts ++ us))) ∨ (Qa ρ2 i = .ml (.lst ts) ∧ s' = Slot.ml (.lst (ts ++ us))) → SFin p B H2 G2 D (if ts.length + us.length ≤ 100000 then .nx (ρ2.set i s') else .no) → Qgq K (.ref a) [.ref b] H2 fun _ H1=>D.nx σ H1:=fun ts s' hs k=>by
    have hp:(Qa ρ2 i).prv = some (.lst ts):=by rcases hs with ⟨h,_⟩ | ⟨h,_⟩ <;> rw [h] <;> rfl
    obtain ⟨a',sa',g,o1⟩:=F2.prvAt hp
    obtain ⟨vs,z,el,il⟩:=o1.lst_inv
    rw [sa] at sa'
    cases sa'
    by_cases zt:ts.length + us.length ≤ 100000
    ·rw [if_pos zt] at k
     have lz:=il.length
     have lb:=rb.length
     obtain ⟨F4,s4⟩:=F2.change hs sa (il.append rb) (by rw [List.length_append]; exact zt)
     exact ⟨a,b,vs,ws,rfl,rfl,el,SqT.of (Qah eb).2,Qbj (by rw [lz,lb]; exact zt),k σ _ G2 F4 s4⟩
    ·rw [if_neg zt] at k; exact False.elim k
   cases hs:Qa ρ2 i with
   | un=>rw [hs] at k; exact False.elim k
   | pin _=>rw [hs] at k; exact False.elim k
   | fz t=>rw [hs] at k; exact False.elim k
   | ro t=>rw [hs] at k; exact False.elim k
   | ow u =>
    rw [hs] at k
    cases u <;> first | exact False.elim k | skip
    exact fin _ _ (.inl ⟨hs,rfl⟩) k
   | ml u =>
    rw [hs] at k
    cases u <;> first | exact False.elim k | skip
    exact fin _ _ (.inr ⟨hs,rfl⟩) k
 ·simp only [if_neg hm] at h
  exact False.elim h
theorem Q6i {i:Nat} (h:QS X st (Qqz (tE p e') (Q7l (Qox i) (tE p a') Quz))):QS X st (tS p (.put i a' e')):=h.weak fun D σ H ⟨B,G,ρ,F,hO,h⟩=>by
 unfold exS at h
 refine Qgk F h fun r ρ2 v H2 G2 k F2 _ pv _=>?_
 cases ef:frz r with
 | none=>rw [ef] at k; exact False.elim k
 | some t =>
  rw [ef] at k
  obtain ⟨G3,F3,i3,s3⟩:=PVR.lay pv F2 ef
  by_cases hm:(Qa ρ2 i).mut = true
  ·simp only [if_pos hm] at k
   obtain ⟨a,vs0,sa,ea⟩:=F3.mutAt hm
   refine ⟨_,sa,?_⟩
   refine Qgk F3 (SFin.late k (Qdl s3)) fun rk ρ4 w H4 G4 k4 F4 F4' pk sm=>?_
   have i4:=i3.mono sm
   cases rk with
   | ow t=>exact False.elim k4
   | sl j=>exact False.elim k4
   | fz u =>
    cases u <;> first | exact False.elim k4 | skip
    rename_i j
    obtain rfl:=pk.is.int_inv
    replace k4:SFin p B H4 G4 D (match Qa ρ4 i with
     | .ow (.lst ts)=>Qau (ixN ts.length j) fun n=>.nx (ρ4.set i (.ow (.lst (ts.set n t))))
     | .ml (.lst ts)=>Qau (ixN ts.length j) fun n=>.nx (ρ4.set i (.ml (.lst (ts.set n t))))
     | _=>.no):=k4
    have fin:∀ ts (s':Nat → Slot),(∀ n,(Qa ρ4 i = .ow (.lst ts) ∧ s' n = Slot.ow (.lst (ts.set n t))) ∨ (Qa ρ4 i = .ml (.lst ts) ∧ s' n = Slot.ml (.lst (ts.set n t)))) → SFin p B H4 G4 D (Qau (ixN ts.length j) fun n=>.nx (ρ4.set i (s' n))) → Quz (.ref a) (.int j) v H4 fun H1=>D.nx σ H1:=fun ts s' hs k=>by
     have hp:(Qa ρ4 i).prv = some (.lst ts):=by rcases hs 0 with ⟨h,_⟩ | ⟨h,_⟩ <;> rw [h] <;> rfl
     obtain ⟨a',sa',g,o1⟩:=F4.prvAt hp
     obtain ⟨vs,z,el,il⟩:=o1.lst_inv
     rw [sa] at sa'
     cases sa'
     obtain ⟨n,en,k⟩:=Qgy k
     have lz:=il.length
     obtain ⟨F5,s5⟩:=F4.change (hs n) sa (il.set i4 n) (by rw [List.length_set]; exact z)
     exact ⟨a,vs,j,n,rfl,rfl,el,by rw [lz]; exact en,k σ _ G4 F5 s5⟩
    cases hs:Qa ρ4 i with
    | un=>rw [hs] at k4; exact False.elim k4
    | pin _=>rw [hs] at k4; exact False.elim k4
    | fz t=>rw [hs] at k4; exact False.elim k4
    | ro t=>rw [hs] at k4; exact False.elim k4
    | ow u =>
     rw [hs] at k4
     cases u <;> first | exact False.elim k4 | skip
     exact fin _ _ (fun n=>.inl ⟨hs,rfl⟩) k4
    | ml u =>
     rw [hs] at k4
     cases u <;> first | exact False.elim k4 | skip
     exact fin _ _ (fun n=>.inr ⟨hs,rfl⟩) k4
  ·simp only [if_neg hm] at k
   exact False.elim k
theorem Qoh {p:Pr} {B:Bs} {H:Hp} {G:Addr → Prop} {D:Ends} {o:SO} (h:SFin p B H G D (Qra o)):SFin p.calm B H G D o:=by
 cases o with
 | xn x ρ1=>exact False.elim h
 | nx ρ1=>exact h
 | bk ρ1=>exact h
 | ct ρ1=>exact h
 | rt r ρ1=>exact h
 | no=>exact h
theorem Qad3 {c:Expr} {body:List Stmt} (hc:QT X.nox c (tT p.calm c')) (hb:QB X.nox body (tS p.calm s)):QS X (.While c body [] pos) (tS p (.whl c' s)) :=
 (q_sx (Q3s PassesOwn.never hc hb)).weak fun D σ H ⟨B,G,ρ,F,hO,h⟩=>by
  unfold exS at h
  have h:=Qoh h
  refine ⟨fun m σ2 H2=>∃ G2 ρ2,FI B H2 G2 σ2 ρ2 ∧ SFin p.calm B H2 G2 D (Qgm (fun ρ=>Qak (evE p.cf c' ρ)) (exS p.cf s) m ρ2),⟨1000000,G,ρ,F,h⟩,?_⟩
  rintro m σ2 H2 ⟨G2,ρ2,F2,h2⟩
  cases m with
  | zero=>exact False.elim h2
  | succ m =>
   unfold Qgm at h2
   refine Qz3 (p:=p.calm) F2 h2 fun k ρ3 H3 G3 h3 F3 sm=>?_
   cases k with
   | false=>exact h3 σ2 H3 G3 F3 (Same.refl _)
   | true =>
    refine ⟨fun σ' H'=>∃ G' ρ',FI B H' G' σ' ρ' ∧ SFin p.calm B H' G' D (Qgm (fun ρ=>Qak (evE p.cf c' ρ)) (exS p.cf s) m ρ'),fun σ' H' q=>⟨m,Nat.lt_succ_self m,q⟩,B,G3,ρ3,F3,hO,?_⟩
    replace h3:SFin p.calm B H3 G3 D (match exS p.cf s ρ3 with
     | .nx ρ2=>Qgm (fun ρ=>Qak (evE p.cf c' ρ)) (exS p.cf s) m ρ2
     | .ct ρ2=>Qgm (fun ρ=>Qak (evE p.cf c' ρ)) (exS p.cf s) m ρ2
     | .bk ρ2=>.nx ρ2
     | o=>o):=h3
    show SFin p.calm B H3 G3 _ (exS p.cf s ρ3)
    cases eb:exS p.cf s ρ3 with
    | nx ρ4=>rw [eb] at h3; exact fun σ4 H4 G4 F4 s4=>⟨G4,ρ4,F4,SFin.late h3 s4⟩
    | ct ρ4=>rw [eb] at h3; exact fun σ4 H4 G4 F4 s4=>⟨G4,ρ4,F4,SFin.late h3 s4⟩
    | bk ρ4=>rw [eb] at h3; exact h3
    | rt r ρ4=>rw [eb] at h3; exact h3
    | xn x ρ4=>rw [eb] at h3; exact h3
    | no=>rw [eb] at h3; exact h3
theorem Qad4 {iter tgE:Expr} {body:List Stmt} {w:W} {tg:Tg} (hc:X.calm = true) (hi:QI X.nox tgE iter (tW p.calm w)) (hg:QG X.nox tgE (tG tg)) (hb:QB X.nox body (tS p.calm s)) (hs:∀ x,foldedSetIterable iter X.env x = pure x):QS X (.For tgE iter body [] pos) (tS p (.for_ w tg s)) :=
 (q_sx (Q50 PassesOwn.never hc hi hg hb hs)).weak fun D σ H ⟨B,G,ρ,F,hO,h⟩=>by
  unfold exS at h
  have h:=Qoh h
  refine ⟨G,ρ,F.self,(Qlp (σ:=σ) h).rebase F fun its ρ1 h1=>?_⟩
  obtain ⟨ts,lk⟩:=its
  cases lk with
  | some _=>exact False.elim h1
  | none =>
   refine ⟨rfl,fun J H1 G1 Ok F1 wk stab=>?_⟩
   replace wk:WkR J H1 G1 Ok ts:=wk
   have F1':=F.trans F1
   have s1:=F.same F1
   refine ⟨fun i m σ2 H2=>i + m = ts.length ∧ ∃ G2 ρ2,FI B H2 G2 σ2 ρ2 ∧ Same (dls H1 G1) (dls H2 G2) ∧ SFin p.calm B H2 G2 D (Qdf tg (exS p.cf s) (ts.drop i) ρ2),⟨ts.length,Nat.zero_add _,G1,ρ1,F1',Same.refl _,SFin.late h1 s1⟩,?_⟩
   rintro i m σ2 H2 ⟨him,G2,ρ2,F2,s2,h2⟩
   have ok2:=stab H2 G2 s2
   by_cases hlt:i < ts.length
   ·refine .inr ⟨wk.go i H2 hlt ok2,fun σ' H'=>∃ G' ρ',FI B H' G' σ' ρ' ∧ Same (dls H1 G1) (dls H' G') ∧ SFin p.calm B H' G' D (Qdf tg (exS p.cf s) (ts.drop (i + 1)) ρ'),fun σ' H' q=>⟨m - 1,by omega,by omega,q⟩,fun x H3 y=>?_⟩
    obtain ⟨s3,t,et,ix⟩:=wk.yld i H2 x H3 hlt ok2 y
    have F3:=F2.grow s3
    have ix3:=ix G2 F2.prv s2
    rw [List.drop_eq_getElem_cons hlt] at h2
    have et':ts[i] = t:=by rw [List.getElem?_eq_getElem hlt] at et; exact Option.some.inj et
    rw [et'] at h2
    unfold Qdf at h2
    cases est:Qfc tg t ρ2 with
    | none=>rw [est] at h2; exact False.elim h2
    | some ρ4 =>
     rw [est] at h2
     refine ⟨B,G2,ρ2,t,ρ4,F3,ix3,est,fun σ4 F4 _=>⟨B,G2,ρ4,F4,hO,?_⟩⟩
     replace h2:SFin p.calm B H2 G2 D (match exS p.cf s ρ4 with
      | .nx ρ2=>Qdf tg (exS p.cf s) (ts.drop (i + 1)) ρ2
      | .ct ρ2=>Qdf tg (exS p.cf s) (ts.drop (i + 1)) ρ2
      | .bk ρ2=>.nx ρ2
      | o=>o):=h2
     have s23:Same (dls H2 G2) (dls H3 G2):=Qbn s3
     have h2:=SFin.late h2 s23
     have s13:=s2.trans s23
     show SFin p.calm B H3 G2 _ (exS p.cf s ρ4)
     cases eb:exS p.cf s ρ4 with
     | nx ρ5=>rw [eb] at h2; exact fun σ5 H5 G5 F5 s5=>⟨G5,ρ5,F5,s13.trans s5,SFin.late h2 s5⟩
     | ct ρ5=>rw [eb] at h2; exact fun σ5 H5 G5 F5 s5=>⟨G5,ρ5,F5,s13.trans s5,SFin.late h2 s5⟩
     | bk ρ5=>rw [eb] at h2; exact h2
     | rt r ρ5=>rw [eb] at h2; exact h2
     | xn x ρ5=>rw [eb] at h2; exact h2
     | no=>rw [eb] at h2; exact h2
   ·have e0:ts.drop i = []:=List.drop_of_length_le (by omega)
    rw [e0] at h2
    exact .inl ⟨wk.stop i H2 (by omega) ok2,h2 σ2 H2 G2 F2 (Same.refl _)⟩
end
section
variable {X:Cx} {p:Pr} {s:S} {pos:Pos} {K:PySem.W.Frag}
end
noncomputable def Qtj:Arg → Slot
 | .fz t=>.fz t
 | .ml t=>.ml t
 | .ro t=>.ro t
theorem Qoi (fn:Fn) (as:List Arg):Qe3 fn as = as.map Qtj ++ List.replicate (fn.sz - fn.ps) .un:=by
 unfold Qe3
 congr 1
theorem Qd1 (fn:Fn) (as:List Arg) (i:Nat):Qa (Qe3 fn as) i = match as[i]? with
  | some a=>Qtj a
  | none=>.un:=by
 rw [Qoi]
 unfold Qa
 rcases Nat.lt_or_ge i as.length with h | h
 ·rw [List.getElem?_append_left (by rw [List.length_map]; exact h),List.getElem?_map,List.getElem?_eq_getElem h]
  rfl
 ·rw [List.getElem?_append_right (by rw [List.length_map]; exact h),List.getElem?_eq_none_iff.mpr h,List.getElem?_replicate]
  split <;> rename_i e
  ·split at e
   ·cases e; rfl
   ·cases e
  ·rfl
theorem Qoj {N:List Str} {vs:List V} {i:Nat} {v:V} (h:vs[i]? = some v):(Qbk N vs)[i]? = some (some v):=by
 unfold Qbk
 have hi:i < vs.length:=(List.getElem?_eq_some_iff.mp h).1
 rw [List.getElem?_append_left (by rw [List.length_map]; exact hi),List.getElem?_map,h]
 rfl
theorem Qjy {N:List Str} {vs:List V} {i:Nat} {v:V} (h:(Qbk N vs)[i]? = some (some v)):vs[i]? = some v:=by
 unfold Qbk at h
 rcases Nat.lt_or_ge i vs.length with hi | hi
 ·rw [List.getElem?_append_left (by rw [List.length_map]; exact hi),List.getElem?_map] at h
  cases e:vs[i]? with
  | none=>rw [e] at h; cases h
  | some w=>rw [e] at h; cases h; rfl
 ·rw [List.getElem?_append_right (by rw [List.length_map]; exact hi),List.getElem?_replicate] at h
  split at h <;> cases h
noncomputable abbrev Qz5 (H:Hp) (G:Addr → Prop) (vs:List V) (as:List Arg):Bs:=⟨H,G,fun _=>False,Qvc vs as,fun i a=>(∃ x,as[i]? = some x ∧ x.prv = true) ∧ vs[i]? = some (.ref a)⟩
section
variable {H H1:Hp} {G G1:Addr → Prop} {vs:List V} {as:List Arg} {fn:Fn} {N:List Str} {σ1:St} {ρ1:En} {fin:List T} {mg:Str → Option Value}
theorem Qtk {x:Arg} {t:T} (h:(Qtj x).prv = some t):x.prv = true:=by
 cases x <;> first | rfl | cases h
theorem Qz6 (A:ArgsR H G vs as) (pn:Pen H G) (h1:vs.length ≤ N.length) (h2:fn.ps = as.length) (h3:fn.sz = N.length):FI (Qz5 H G vs as) H G (Qbk N vs) (Qe3 fn as):=by
 have pv:∀ i a,PrvAt (Qbk N vs) (Qe3 fn as) i a → (∃ x,as[i]? = some x ∧ x.prv = true) ∧ vs[i]? = some (.ref a):=fun i a h=>by
  obtain ⟨⟨t,e⟩,q⟩:=h
  rw [Qd1] at e
  cases hx:as[i]? with
  | none=>rw [hx] at e; cases e
  | some x=>rw [hx] at e; exact ⟨⟨x,rfl,Qtk e⟩,Qjy q⟩
 refine ⟨?_,fun i=>?_,fun i j a h1 h2=>?_,pn,fun _ _ _ _ e=>e,fun _ o e=>⟨o,e⟩,fun a h=>?_,fun a h=>?_,fun i a h=>?_,fun _ h=>h,fun _ h=>.inl h,fun b h=>let ⟨xs,e,_⟩:=pn b h; ⟨_,e⟩⟩
 ·rw [Qoi]
  unfold Qbk
  have:=A.len
  simp only [List.length_append,List.length_map,List.length_replicate]
  omega
 ·rw [Qd1]
  cases hx:as[i]? with
  | none=>trivial
  | some x =>
   have hi:i < vs.length:=by rw [A.len]; exact (List.getElem?_eq_some_iff.mp hx).1
   have ev:vs[i]? = some vs[i]:=List.getElem?_eq_getElem hi
   have q:=A.get i _ x ev hx
   have s:=Qoj (N:=N) ev
   cases x with
   | fz t=>exact ⟨_,s,q⟩
   | ml t=>obtain ⟨a,e,g,o⟩:=q; rw [e] at s; exact ⟨a,s,g,o⟩
   | ro t=>obtain ⟨a,e,g,o⟩:=q; rw [e] at s; exact ⟨a,s,g,o⟩
 ·obtain ⟨⟨x,ex,px⟩,vx⟩:=pv i a h1
  obtain ⟨⟨y,ey,py⟩,vy⟩:=pv j a h2
  exact A.apart i j a x y ex ey px py vx vy
 ·obtain ⟨i,t,e,q⟩:=h
  rw [Qd1] at e
  cases hx:as[i]? with
  | none=>rw [hx] at e; cases e
  | some x=>rw [hx] at e; cases x <;> cases e
 ·obtain ⟨i,t,e,q⟩:=h
  rw [Qd1] at e
  cases hx:as[i]? with
  | none=>rw [hx] at e; cases e
  | some x =>
   rw [hx] at e
   cases x <;> cases e
   exact ⟨i,_,hx,Qjy q⟩
 ·obtain ⟨⟨t,e⟩,q⟩:=h
  refine pv i a ⟨⟨t,?_⟩,q⟩
  rcases e with e | e <;> rw [e] <;> rfl
theorem Qhh:∀ {as:List Arg} {ρ:En} {fin:List T},Qw as ρ = some fin → ∀ (i:Nat) (t:T),as[i]? = some (.ml t) → ∃ t',Qa ρ i = .ml t' ∧ fin[i]? = some t'
 | [],_,_,_,i,t,h=>by simp at h
 | .ml u :: as,[],fin,e,_,_,_=>by cases e
 | .fz u :: as,[],fin,e,_,_,_=>by cases e
 | .ro u :: as,[],fin,e,_,_,_=>by cases e
 | .ml u :: as,s :: ρ,fin,e,i,t,h=>by
  cases s <;> first | (cases e; done) | skip
  rename_i w
  replace e:(Qw as ρ).map (w :: ·) = some fin:=e
  cases e2:Qw as ρ with
  | none=>rw [e2] at e; cases e
  | some f2 =>
   rw [e2] at e
   cases e
   cases i with
   | zero=>exact ⟨w,rfl,rfl⟩
   | succ i=>rw [List.getElem?_cons_succ] at h ⊢; rw [Qe]; exact Qhh e2 i t h
 | .fz u :: as,s :: ρ,fin,e,i,t,h=>by
  replace e:(Qw as ρ).map (T.non :: ·) = some fin:=e
  cases e2:Qw as ρ with
  | none=>rw [e2] at e; cases e
  | some f2 =>
   rw [e2] at e
   cases e
   cases i with
   | zero=>simp at h
   | succ i=>rw [List.getElem?_cons_succ] at h ⊢; rw [Qe]; exact Qhh e2 i t h
 | .ro u :: as,s :: ρ,fin,e,i,t,h=>by
  replace e:(Qw as ρ).map (T.non :: ·) = some fin:=e
  cases e2:Qw as ρ with
  | none=>rw [e2] at e; cases e
  | some f2 =>
   rw [e2] at e
   cases e
   cases i with
   | zero=>simp at h
   | succ i=>rw [List.getElem?_cons_succ] at h ⊢; rw [Qe]; exact Qhh e2 i t h
theorem Qlq (F:FI (Qz5 H G vs as) H1 G1 σ1 ρ1) (e:Qw as ρ1 = some fin):CallP H G vs as H1 G1 fin where
 prv:=F.prv
 chg:=fun b o h e=>F.chg b o (fun z=>z) h e
 keep:=F.keep
 gg:=F.gg
 gn:=F.gn
 fin:=fun i t a h1 h2=>by
  obtain ⟨t',e1,e2⟩:=Qhh e i t h1
  have q:=F.slot i
  rw [e1] at q
  obtain ⟨a',q1,_,q3⟩:=q
  have q4:=(F.fix i a' ⟨⟨t',.inl e1⟩,q1⟩).2
  rw [h2] at q4
  cases q4
  exact ⟨t',e2,q3⟩
theorem Q4f {v:V} {r r':PV} (F:FI (Qz5 H G vs as) H1 G1 σ1 ρ1) (pv:PVR H H1 G1 σ1 ρ1 v r) (e:Qat ρ1 r = some r'):RetR H H1 G1 v r':=by
 cases r with
 | fz t=>cases e; exact pv
 | ow t =>
  cases e
  obtain ⟨a,rfl,n,g,_,o⟩:=pv
  exact ⟨a,rfl,n,g,o⟩
 | sl i =>
  have e:(match Qa ρ1 i with | .ow t=>some (PV.ow t) | _=>none) = some r':=e
  have q:=F.slot i
  cases hs:Qa ρ1 i with
  | un=>rw [hs] at e; cases e
  | pin _=>rw [hs] at e; cases e
  | fz t=>rw [hs] at e; cases e
  | ml t=>rw [hs] at e; cases e
  | ro t=>rw [hs] at e; cases e
  | ow t =>
   rw [hs] at e q
   cases e
   obtain ⟨a,q1,g,o⟩:=q
   have pv:σ1[i]? = some (some v):=pv
   rw [q1] at pv
   cases pv
   refine ⟨a,rfl,?_,g,o⟩
   rcases F.newO a ⟨i,t,hs,q1⟩ with z | z
   ·exact z
   ·exact z.elim
theorem Qz7 {cf:CF} {Q:VK} {E:XK} (A:ArgsR H G vs as) (pn:Pen H G) (h1:vs.length ≤ N.length) (h3:fn.sz = N.length) (h:FROk mg H G vs as (Qa7 cf fn as) Q E):tS ⟨cf,fun cls dx _ H=>E cls dx H,mg⟩ fn.body { nx:=fun _ H'=>Q .non H',rt:=Q } (Qbk N vs) H:=by
 unfold Qa7 at h
 by_cases h2:as.length = fn.ps
 ·rw [if_pos h2] at h
  refine ⟨_,G,_,Qz6 A pn h1 h2.symm h3,fun _ z=>z,?_⟩
  show SFin _ _ _ _ _ (exS cf fn.body (Qe3 fn as))
  cases e:exS cf fn.body (Qe3 fn as) with
  | no=>rw [e] at h; exact False.elim h
  | bk ρ=>rw [e] at h; exact False.elim h
  | ct ρ=>rw [e] at h; exact False.elim h
  | nx ρ =>
   rw [e] at h
   intro σ1 H1 G1 F _
   cases ef:Qw as ρ with
   | none=>simp only [ef] at h; exact False.elim h
   | some fin=>simp only [ef] at h; exact h .non H1 G1 (Qlq F ef) (show Is (dls H1 G1) .non .non from Is.non)
  | rt r ρ =>
   rw [e] at h
   intro v σ1 H1 G1 F pv
   cases er:Qat ρ r with
   | none=>simp only [er] at h; exact False.elim h
   | some r' =>
    cases ef:Qw as ρ with
    | none=>simp only [er,ef] at h; exact False.elim h
    | some fin=>simp only [er,ef] at h; exact h v H1 G1 (Qlq F ef) (Q4f F pv er)
  | xn x ρ =>
   rw [e] at h
   intro cls dx σ1 H1 G1 F xr
   cases ef:Qw as ρ with
   | none=>simp only [ef] at h; exact False.elim h
   | some fin=>simp only [ef] at h; exact h cls dx H1 G1 (Qlq F ef) xr
 ·rw [if_neg h2] at h
  exact False.elim h
end
theorem Qx {X:Cx}:Qj6 X (fun _ _ _ _=>False):=fun pins σ H s e s' I h=>by
 obtain ⟨a,cls,dx,H',_,_,_,_,_,_,z⟩:=h
 exact z.elim
structure Df where
 x:Str
 st:Stmt
 N:List Str
 ps:List Str
 fn:Fn
 fc:Str → Bool:=fun _=>true
 f1:Str → Bool:=fc
structure DfOk (K:PySem.W.Frag) (mg:Str → Option Value) (d:Df):Prop where
 dfn:Dfn K mg d.x d.st
 sc:FnScope d.N d.ps (Qg d.st)
 bd:Qz d.x d.st d.ps
 ps:d.fn.ps = d.ps.length
 sz:d.fn.sz = d.N.length
noncomputable def Qlr (P:Program) (w:World) (K:PySem.W.Frag) (mg:Str → Option Value) (base:Heap) (ds:List Df) (cf:CF) (n:Nat):Prop:=∀ (f:Nat) (d:Df),ds[f]? = some d → Q3u P w K mg base d.x d.ps n (spF cf mg f)
section
variable {P:Program} {w:World} {K:PySem.W.Frag} {mg:Str → Option Value} {base:Heap} {ds:List Df}
end
section
variable {X:Cx} {p:Pr} {e a b c:Expr} {es rest:List Expr} {e' a' b' c':E} {es':Es} {pos p1 p2 p3:Pos} {x:Str} {st:Stmt} {s:S} {K:PySem.W.Frag}
theorem Qls:QS X st (tS p .bad):=Q3v.weak fun D σ H ⟨B,G,ρ,F,hO,h⟩=>False.elim h
theorem Qc (i:Nat) (hN:X.N[i]? = some x:=by rfl) (hv:Vis X.env.scope x:=by first | exact Or.inl rfl | exact Or.inr (Or.inl rfl) | exact Or.inr (Or.inr rfl)) (hd:(x == ("__debug__" : Str)) = false:=by decide)
  (hcd:(x == ("__classdict__" : Str)) = false:=by decide):QE X (.Name x pos) (tE p (.var i)):=Qadp hN hv hd hcd
theorem Qph {i:Int} (h:∃ u,X.mg x = some u ∧ RelV (.int i) u) (hg:Gl X x:=by rfl) (hd:(x == ("__debug__" : Str)) = false:=by decide):QE X (.Name x pos) (tE p (.int i)):=Q9h h hg hd
theorem Qb (ha:QE X e (tE p e')) (hr:QA X es (tA p es')) (hs:Q1 e = true:=by rfl):QA X (e :: es) (tA p (.cons e' es')):=Q9i ha hr hs
theorem Qdt (hK:X.K = K) (ha:QE X a (tE p a')) (hb:QE X b (tE p b')):QE X (.BinOp a .Add b pos) (tE p (.bin .add a' b')):=Qn9 (Q51 K hK) (Q3z K) ha hb
theorem Q6j (ha:QE X a (tE p a')) (hb:QE X b (tE p b')):QE X (.BinOp a .Sub b pos) (tE p (.bin .sub a' b')):=Qn9 Qacs Q30 ha hb
theorem Qlt (ha:QE X a (tE p a')) (hb:QE X b (tE p b')):QE X (.BinOp a .Mult b pos) (tE p (.bin .mul a' b')):=Qn9 Q9j Q32 ha hb
theorem Qad5 (ha:QE X a (tE p a')) (hb:QE X b (tE p b')):QE X (.BinOp a .FloorDiv b pos) (tE p (.bin .fdv a' b')):=Qn9 Q9k Q33 ha hb
theorem Qj9 (ha:QE X a (tE p a')) (hb:QE X b (tE p b')):QE X (.BinOp a .Mod b pos) (tE p (.bin .mod a' b')):=Qn9 Q9l Q34 ha hb
theorem Qz8 (ha:QE X a (tE p a')) (hb:QE X b (tE p b')):QE X (.BinOp a .Pow b pos) (tE p (.bin .pow a' b')):=Qn9 Qact Q35 ha hb
theorem Qki {op:CmpOp} (h1:op ≠ .In) (h2:op ≠ .NotIn):behindInMarks op b = false:=by
 unfold behindInMarks
 cases b <;> try rfl
 cases op <;> simp_all
theorem g_eq (hu:X.A.units + 64 < cLine) (ha:QE X a (tE p a')) (hb:QE X b (tE p b')):QE X (.Compare a [.Eq] [b] pos) (tE p (.cmp .eq a' b')):=Qob (Q6e hu) Qzu ha hb (Qki (by decide) (by decide))
theorem g_ne (hu:X.A.units + 64 < cLine) (ha:QE X a (tE p a')) (hb:QE X b (tE p b')):QE X (.Compare a [.NotEq] [b] pos) (tE p (.cmp .ne a' b')):=Qob (Q6f hu) Qzv ha hb (Qki (by decide) (by decide))
theorem Q4g (ha:QE X a (tE p a')) (hb:QE X b (tE p b')):QE X (.Compare a [.Lt] [b] pos) (tE p (.cmp .lt a' b')):=Qob Q80 Qzw ha hb (Qki (by decide) (by decide))
theorem g_le (ha:QE X a (tE p a')) (hb:QE X b (tE p b')):QE X (.Compare a [.LtE] [b] pos) (tE p (.cmp .le a' b')):=Qob o_le Q9m ha hb (Qki (by decide) (by decide))
theorem Q90 (ha:QE X a (tE p a')) (hb:QE X b (tE p b')):QE X (.Compare a [.GtE] [b] pos) (tE p (.cmp .ge a' b')):=Qob o_ge Q9o ha hb (Qki (by decide) (by decide))
theorem Q91 (ha:QE X a (tE p a')) (hb:QE X b (tE p b')):QE X (.Compare a [.IsNot] [b] pos) (tE p (.cmp .isnn a' b')):=Qob Qy6 Qrj ha hb (Qki (by decide) (by decide))
theorem t_eq (hu:X.A.units + 64 < cLine) (ha:QE X a (tE p a')) (hb:QE X b (tE p b')):QT X (.Compare a [.Eq] [b] pos) (tT p (.cmp .eq a' b')):=Qoc (Q6e hu) Qzu ha hb (Qki (by decide) (by decide))
theorem Qrl (hu:X.A.units + 64 < cLine) (ha:QE X a (tE p a')) (hb:QE X b (tE p b')):QT X (.Compare a [.NotEq] [b] pos) (tT p (.cmp .ne a' b')):=Qoc (Q6f hu) Qzv ha hb (Qki (by decide) (by decide))
theorem t_lt (ha:QE X a (tE p a')) (hb:QE X b (tE p b')):QT X (.Compare a [.Lt] [b] pos) (tT p (.cmp .lt a' b')):=Qoc Q80 Qzw ha hb (Qki (by decide) (by decide))
theorem Q4h (ha:QE X a (tE p a')) (hb:QE X b (tE p b')):QT X (.Compare a [.Gt] [b] pos) (tT p (.cmp .gt a' b')):=Qoc o_gt Q9n ha hb (Qki (by decide) (by decide))
theorem Q6k (ha:QE X a (tE p a')) (hb:QE X b (tE p b')):QT X (.Compare a [.Is] [b] pos) (tT p (.cmp .isn a' b')):=Qoc Qacw Q36 ha hb (Qki (by decide) (by decide))
theorem Qz9 (ha:QE X a (tE p a')) (hb:QE X b (tE p b')):QT X (.Compare a [.IsNot] [b] pos) (tT p (.cmp .isnn a' b')):=Qoc Qy6 Qrj ha hb (Qki (by decide) (by decide))
theorem Qc1 (ha:QE X e (tE p e')) (he:∀ whole,isTrue e X.env whole = (do let v ← whole; standAt e.pos; holding [v] (truthy v)):=by intro _; rfl):QT X e (tT p e'):=Qadt ha he
theorem Qok {n:String} {tn:Expr} (hm:X.mg "isinstance" = none) (hv:bootBuiltins "isinstance" = some (.builtin "isinstance")) (ha:QE X a (tE p a')) (ht:QE X tn (tC (.ty n))) (hg:Gl X "isinstance" := by rfl) (h1:Q1 a = true:=by rfl) (h2:Q1 tn = true:=by rfl):QE X (.Call (.Name "isinstance" p1) [a,tn] [] pos) (tE p (.isI a' n)):=Qadw hm hv ha ht hg h1 h2
theorem Qbb {id:String} {r:List V → Hp → VK → Prop} {b:Bi} (hc:QCl X (.builtin id) r) (hs:Ob r b) (hm:X.mg x = none) (hv:bootBuiltins x = some (.builtin id)) (ha:QA X (e :: es) (tA p es')) (hg:Gl X x:=by rfl) (hn:x ≠ "__name__" := by decide) (hdb:(x == ("__debug__" : Str)) = false:=by decide) (h1:Q1 e = true:=by rfl) (h2:es.all Q1 = true:=by rfl) :
  QE X (.Call (.Name x p1) (e :: es) [] pos) (tE p (.bi b es')):=s_bi hc hs hm hv ha hg hn hdb h1 h2
theorem Qc2 {T:String} {r:List V → Hp → VK → Prop} {b:Bi} (hc:QCl X (.type T) r) (hs:Ob r b) (hm:X.mg x = none) (hv:bootBuiltins x = some (.type T)) (ha:QA X (e :: es) (tA p es')) (hg:Gl X x:=by rfl) (hn:x ≠ "__name__" := by decide) (hdb:(x == ("__debug__" : Str)) = false:=by decide) (h1:Q1 e = true:=by rfl) (h2:es.all Q1 = true:=by rfl) :
  QE X (.Call (.Name x p1) (e :: es) [] pos) (tE p (.bi b es')):=Qadx hc hs hm hv ha hg hn hdb h1 h2
theorem Qd2 (hK:X.K = K) (ha:QE X a (tE p a')) (hb:QE X b (tE p b')) (hs:Qkn b:=by exact fun _ _=>rfl):QE X (.Subscript a b pos) (tE p (.ix a' b')):=s_ix K hK ha hb hs
theorem Qrm (hK:X.K = K) {lo hi:Option Expr} {lo' hi':Es} (ha:QE X a (tE p a')) (hl:QO X lo (tO p lo')) (hh:QO X hi (tO p hi')):QE X (.Subscript a (.Slice lo hi none p2) pos) (tE p (.slc a' lo' hi')):=Qady K hK ha hl hh
theorem Ql {f k:Nat} {ps:List Str} (h:Q3u X.prog X.w X.K X.mg X.base x ps k (spF p.cf p.mg f)) (pz:Qj6 X p.R) (hr:Room k X.A) (ha:QA X (e :: es) (tA p es')) (hg:Gl X x:=by rfl) (hdb:(x == ("__debug__" : Str)) = false:=by decide) (h1:Q1 e = true:=by rfl) (h2:es.all Q1 = true:=by rfl) :
  QE X (.Call (.Name x p1) (e :: es) [] pos) (tE p (.call f es')):=Q9u h pz hr ha hg hdb h1 h2
theorem Qbo {tgE elt iter:Expr} {ifs:List Expr} {scope:Scope} (N:List Str) (js:List (Option Nat)) {w:W} {tg:Tg} {cs:Es} (hcalm:X.calm = true)
  (hi:QI X tgE iter (tW p w)) (hg:∀ s H fp,QG (Qbc X scope N s H fp) tgE (tG tg)) (hc:∀ s H fp,QC (Qbc X scope N s H fp) ifs (tCs p.calm cs)) (he:∀ s H fp,QE (Qbc X scope N s H fp) elt (tE p.calm e'))
  (hk:scope.kind = .function:=by rfl) (h1:scOk X scope = true:=by rfl) (h2:Qn1 X scope N js = true:=by rfl) (hs:∀ x,foldedSetIterable iter X.env x = pure x:=by intro _; rfl):QE X (.ListComp elt [⟨tgE,iter,ifs,0⟩] scope pos) (tE p (.comp w js tg cs e')):=Q9x hcalm hi hg hc he hk h1 h2 hs
variable {tg:Expr}
theorem Qdg (hm:X.mg "range" = none) (ha:QE X a (tE p a')) (hg:Gl X "range" := by rfl) (hs:Q1 a = true:=by rfl):QI X tg (.Call (.Name "range" p1) [a] [] pos) (tW p (.rng1 a')):=Q4b hm ha hg hs
theorem Qad9 {apos:Pos} (hK:X.K = K) (ha:QE X a (tE p a')) (hb:QE X b (tE p b')) (hbase:attributeBase a "count" X.env (eval a X.env) = eval a X.env:=by rfl)
  (hfew:((backTo pos (starEach [b] X.env)).all (fun x=>!x.1) && (backToKw pos (keywordEach [] X.env)).all (fun x=>x.1.isSome) && decide ([b].length + ([]:List Keyword).length + (if ([]:List Keyword).isEmpty then 0 else 1) < 30)) = true:=by rfl)
  (hline:(apos.endLine == pos.line) = true:=by rfl) (hs:Q1 b = true:=by rfl) (hplain:(backTo pos (starEach [] X.env)).any (·.1) = false:=by rfl):QE X (.Call (.Attribute a "count" apos) [b] [] pos) (tE p (.cnt a' b')) :=
 (Qadd PySem.F.plainAttrs_tuple PySem.F.slot_tuple_count PySem.F.type_tuple_count (Qzg K hK) ha (Qcm hb Qfa hs) hbase hfew hline hs hplain).weak fun σ H Q ⟨G,ρ,F,h⟩=>by
  unfold evE at h
  refine ⟨G,ρ,F,h.bind.imp fun ra ρ1 h1 v H1 G1 F1 r1=>?_⟩
  cases ra with
  | ow t=>exact False.elim h1
  | sl i=>exact False.elim h1
  | fz ta =>
   cases ta <;> first | exact False.elim h1 | skip
   rename_i ts
   obtain ⟨l,vs,rfl,el,rl⟩:=r1.is.tup_inv
   refine ⟨⟨l,vs,rfl,(Qah el).2⟩,Qi0 F1 h1.bind fun rb ρ2 vb H2 G2 h2 F2 F2' r2=>?_⟩
   cases rb with
   | ow t=>exact False.elim h2
   | sl i=>exact False.elim h2
   | fz tb =>
    cases tb <;> first | exact False.elim h2 | skip
    rename_i j
    cases e:Qdc ts with
    | none=>rw [e] at h2; exact False.elim h2
    | some ns =>
     rw [e] at h2
     obtain rfl:=r2.is.int_inv
     obtain ⟨l',vs',e1,el',rl'⟩:=(r1.step F1 F2').is.tup_inv
     cases e1
     rw [Qgu e] at rl'
     rw [rl'.ints_inv] at el'
     exact ⟨l,ns,j,rfl,rfl,(Qah el').2,h2 _ H2 G2 F2 pvI⟩
theorem Qdw (he:QE X e (tE p e')) (hs:swapsWith e none pos.line X.env = pure false:=by rfl):QS X (.Expr e pos) (tS p (.expr e')):=Q9z he hs
theorem Qgz {iter tgE:Expr} {body:List Stmt} {w:W} {tg:Tg} (hc:X.calm = true) (hi:QI X.nox tgE iter (tW p.calm w)) (hg:QG X.nox tgE (tG tg)) (hb:QB X.nox body (tS p.calm s)) (hs:∀ x,foldedSetIterable iter X.env x = pure x:=by intro _; rfl):QS X (.For tgE iter body [] pos) (tS p (.for_ w tg s)):=Qad4 hc hi hg hb hs
theorem Q4i {D:Hp} (lo:Int) (n:Nat):IsL D (Qm5 lo n) (Q5 lo n):=by
 unfold Qm5 Q5
 have:∀ l:List Nat,IsL D (l.map fun i=>V.int (lo + (i:Nat))) (l.map fun i=>T.int (lo + (i:Nat))):=fun l=>by
  induction l with
  | nil=>exact .nil
  | cons x xs ih=>exact .cons Is.int ih
 exact this _
theorem Q92 (hm:X.mg "tuple" = none) (hv:bootBuiltins "tuple" = some (.type "tuple")) (hm2:X.mg "range" = none) (hv2:bootBuiltins "range" = some (.type "range")) (hc:X.calm = true) (ha:QE X a (tE p a')) (hg:Gl X "tuple" := by rfl) (hg2:Gl X "range" := by rfl) (h1:Q1 a = true:=by rfl) :
  QE X (.Call (.Name "tuple" p1) [.Call (.Name "range" p2) [a] [] p3] [] pos) (tE p (.tupR false a')) :=
 (Qy2 (Q89 hc) hm hv (Qcm (Qy2 Qzi hm2 hv2 (Qcm ha Qfa h1) hg2 (by decide) (by decide) h1 rfl) Qfa rfl) hg (by decide) (by decide) rfl rfl).weak fun σ H Q ⟨G,ρ,F,h⟩=>by
  unfold evE at h
  refine ⟨G,ρ,F,h.bind.imp fun r ρ1 h1 v H1 G1 F1 r1=>?_⟩
  cases r with
  | ow t=>exact False.elim h1
  | sl i=>exact False.elim h1
  | fz t =>
   cases t <;> first | exact False.elim h1 | skip
   rename_i j
   obtain rfl:=r1.is.int_inv
   replace h1:Fin p (Qaw H G σ ρ) σ (if j.natAbs ≤ 100000 then .ok (if false = true then PV.ow (.lst (Q5 0 j.toNat)) else .fz (.tup (Q5 0 j.toNat))) ρ1 else .no) _:=h1
   by_cases z:j.natAbs ≤ 100000
   ·rw [if_pos z] at h1
    refine ⟨j,rfl,fun q hq=>⟨q,0,j,rfl,Qp,⟨by decide,by decide,by omega,by omega⟩,by omega,fun l hl=>?_⟩⟩
    have F2:=F1.grow (Same.upd (o:=.rng 0 j) hq)
    refine h1 _ _ G1 (F2.grow (Same.upd hl)) ?_
    rw [show (j - 0).toNat = j.toNat by omega]
    exact Qfi (F2.prv.mono (Same.upd hl)) Qp (Q4i 0 j.toNat) (by unfold Q5; rw [List.length_map,List.length_range]; omega)
   ·rw [if_neg z] at h1; exact False.elim h1
end
theorem Qpi:∀ {a b:List Int},kIs a = kIs b → a = b
 | [],[],_=>rfl
 | [],_ :: _,h=>by cases h
 | _ :: _,[],h=>by cases h
 | x :: a,y :: b,h=>by
  have h:(Sum.inl x :: kIs a:List Key) = Sum.inl y :: kIs b:=h
  injection h with h1 h2
  injection h1 with h1
  rw [h1,Qpi h2]
theorem Q0a (ns:List Int):(kIs ns).map kV = ns.map V.int:=by
 unfold kIs
 rw [List.map_map]
 rfl
theorem Qg0 {D:Hp} (k:List Int):∀ (ks:List (List Int)) {vs:List V} {ts:List T},ks.length = vs.length → IsL D vs ts → (∃ v t,Qhr ((ks.map kIs).zip vs) (kIs k) = some v ∧ Qe2 ks ts k = some t ∧ Is D v t) ∨ (Qhr ((ks.map kIs).zip vs) (kIs k) = none ∧ Qe2 ks ts k = none)
 | [],vs,ts,_,_=>.inr ⟨rfl,by unfold Qe2; rfl⟩
 | j :: ks,[],ts,h,_=>by cases h
 | j :: ks,v :: vs,[],_,r=>by cases r.nil_inv
 | j :: ks,v :: vs,t :: ts,h,r=>by
  obtain ⟨v',vs',e,a,q⟩:=r.cons_inv
  cases e
  rw [List.map_cons,List.zip_cons_cons]
  unfold Qe2
  by_cases hj:j = k
  ·exact .inl ⟨v,t,Qiq (by rw [hj]),by rw [if_pos hj],a⟩
  ·rw [Qir (fun z=>hj (Qpi z)),if_neg hj]
   exact Qg0 k ks (by simpa using h) q
noncomputable def Qm7:List (List Int) → List V → List Int → V → List V
 | j :: ks,v :: vs,k,u=>(if j = k then u else v) :: Qm7 ks vs k u
 | _,_,_,_=>[]
theorem Qrn (k:List Int) (u:V):∀ (ks:List (List Int)) (vs:List V),ks.length = vs.length → ks.length = (Qm7 ks vs k u).length
 | [],_,_=>by unfold Qm7; rfl
 | j :: ks,[],h=>by cases h
 | j :: ks,v :: vs,h=>by
  unfold Qm7
  rw [List.length_cons,List.length_cons,← Qrn k u ks vs (by simpa using h)]
theorem Qro (k:List Int) (u:V):∀ (ks:List (List Int)) (vs:List V),ks.length = vs.length → ((ks.map kIs).zip vs).map (fun kv=>if kv.1 = kIs k then (kv.1,u) else kv) = (ks.map kIs).zip (Qm7 ks vs k u)
 | [],_,_=>rfl
 | j :: ks,[],h=>by cases h
 | j :: ks,v :: vs,h=>by
  unfold Qm7
  rw [List.map_cons,List.zip_cons_cons,List.zip_cons_cons,List.map_cons,Qro k u ks vs (by simpa using h)]
  by_cases hj:j = k
  ·rw [if_pos hj,if_pos (by rw [hj])]
  ·rw [if_neg hj,if_neg (fun z=>hj (Qpi z))]
theorem Qvh {D:Hp} (k:List Int) {u:V} {x:T} (hu:Is D u x):∀ (ks:List (List Int)) {vs:List V} {ts:List T},ks.length = vs.length → IsL D vs ts → IsL D (Qm7 ks vs k u) (Qzm ks ts k x)
 | [],vs,ts,_,_=>by unfold Qm7 Qzm; exact .nil
 | j :: ks,[],ts,h,_=>by cases h
 | j :: ks,v :: vs,[],_,r=>by cases r.nil_inv
 | j :: ks,v :: vs,t :: ts,h,r=>by
  obtain ⟨v',vs',e,a,q⟩:=r.cons_inv
  cases e
  unfold Qm7 Qzm
  refine .cons ?_ (Qvh k hu ks (by simpa using h) q)
  by_cases hj:j = k
  ·rw [if_pos hj,if_pos hj]; exact hu
  ·rw [if_neg hj,if_neg hj]; exact a
theorem Q0b {D:Hp} {ks:List (List Int)} {vs:List V} {ts:List T} {k:List Int} {u:V} {x:T} (h:ks.length = vs.length) (r:IsL D vs ts) (hu:Is D u x) (z:ks.length < 100000):OwnO D (Qkf ks ts k x) (.dT (Qgl ((ks.map kIs).zip vs) (kIs k) u)):=by
 unfold Qkf
 rcases Qg0 k ks h r with ⟨v,t,e1,e2,_⟩ | ⟨e1,e2⟩
 ·rw [e2]
  refine ⟨by omega,Qm7 ks vs k u,?_,Qrn k u ks vs h,Qvh k hu ks h r⟩
  unfold Qgl
  rw [Qis,e1,if_pos (show (some v).isSome = true from rfl),Qro k u ks vs h]
 ·rw [e2]
  refine ⟨by rw [List.length_append,List.length_singleton]; omega,vs ++ [u],?_,by rw [List.length_append,List.length_append,h]; rfl,r.append (.one hu)⟩
  rw [Qyl u e1,List.map_append,List.zip_append (by rw [List.length_map,h])]
  rfl
theorem Rdb.dtt {H:Hp} {G:Addr → Prop} {v:V} {ks:List (List Int)} {ts:List T} (h:Rdb H G v (.dtt ks ts)):∃ a vs,v = .ref a ∧ H a = some (.dT ((ks.map kIs).zip vs)) ∧ ks.length = vs.length ∧ IsL (dls H G) vs ts:=by
 rcases h with h | ⟨a,rfl,o,e,q⟩
 ·unfold Is at h
  obtain ⟨_,a,vs,rfl,e,l,q⟩:=h
  exact ⟨a,vs,rfl,(Qah e).2,l,q⟩
 ·cases o with
  | dT kvs=>obtain ⟨_,vs,rfl,l,r⟩:=q; exact ⟨a,vs,rfl,e,l,r⟩
  | _=>exact q.elim
theorem Qfe {H0 H:Hp} {G:Addr → Prop} {σ:St} {ρ:En} {v:V} {r:PV} {ns:List Int} (h:PVR H0 H G σ ρ v r) (e:Qfb r = some ns):∃ b,v = .ref b ∧ H b = some (.tup ((kIs ns).map kV)):=by
 cases r with
 | ow t=>cases e
 | sl i=>cases e
 | fz t =>
  cases t <;> first | (cases e; done) | skip
  rename_i us
  have e:Qdc us = some ns:=e
  obtain ⟨b,vs,rfl,el,rl⟩:=h.is.tup_inv
  rw [Qgu e] at rl
  rw [rl.ints_inv] at el
  exact ⟨b,rfl,by rw [Q0a]; exact (Qah el).2⟩
section
variable {X:Cx} {p:Pr} {e a b:Expr} {e' a' b':E} {pos p1 p2 pos':Pos} {x:Str}
theorem Q0c {ng:Bool} {σ:St} {H:Hp} {Q:VK} (h:tE p (.din ng a' b') σ H Q):tE p a' σ H fun y H1=>tE p b' σ H1 fun x H2=>∃ l o,x = .ref l ∧ DGet H2 l y o ∧ Q (.bl (if ng then !o.isSome else o.isSome)) H2:=by
 obtain ⟨G,ρ,F,h⟩:=h
 unfold evE at h
 refine tE2 F h fun ra rb ρ2 x y H2 G2 F2 r1 r2 h2=>?_
 cases ek:Qfb ra with
 | none=>rw [ek] at h2; exact False.elim h2
 | some ns =>
  cases ec:cont ρ2 rb with
  | none=>rw [ek,ec] at h2; exact False.elim h2
  | some t =>
   rw [ek,ec] at h2
   cases t <;> first | exact False.elim h2 | skip
   rename_i ks ts
   obtain ⟨l,vs,rfl,el,hl,il⟩:=(r2.rdb F2 ec).dtt
   obtain ⟨b,rfl,eb⟩:=Qfe r1 ek
   refine ⟨l,_,rfl,DGet.t el eb,?_⟩
   have hs:(Qhr ((ks.map kIs).zip vs) (kIs ns)).isSome = (Qe2 ks ts ns).isSome:=by
    rcases Qg0 ns ks hl il with ⟨v,t,e1,e2,_⟩ | ⟨e1,e2⟩ <;> rw [e1,e2] <;> rfl
   rw [hs]
   exact h2 _ H2 G2 F2 pvB
theorem t_din (hu:X.A.units + 64 < cLine) (ha:QE X a (tE p a')) (hb:QE X b (tE p b')) (hm:behindInMarks .In b = false:=by rfl):QT X (.Compare a [.In] [b] pos) (tT p (.din false a' b')) :=
 (QT.mk (Qx5 (Q8g (by omega) ha.h hb.h) hm)).weak fun σ H Q h=>Q0c (Qoa h)
theorem Q93 (hu:X.A.units + 64 < cLine) (ha:QE X a (tE p a')) (hb:QE X b (tE p b')) (hm:behindInMarks .NotIn b = false:=by rfl):QT X (.Compare a [.NotIn] [b] pos) (tT p (.din true a' b')) :=
 (QT.mk (Qx5 (Qw1 (by omega) ha.h hb.h) hm)).weak fun σ H Q h=>Q0c (Qoa h)
theorem Qaea (hu:X.A.units + 64 < cLine) (ha:QE X a (tE p a')) (hb:QE X b (tE p b')) (hs:Q8f b:=by intro _ _; rfl):QE X (.Subscript a b pos) (tE p (.dix a' b')) :=
 (QE.mk (Q3g (by omega) ha.h hb.h hs)).weak fun σ H Q ⟨G,ρ,F,h⟩=>by
  unfold evE at h
  refine tE2 F h fun ra rb ρ2 x y H2 G2 F2 r1 r2 h2=>?_
  cases ek:Qfb rb with
  | none=>rw [ek] at h2; exact False.elim h2
  | some ns =>
   cases ec:cont ρ2 ra with
   | none=>rw [ek,ec] at h2; exact False.elim h2
   | some t =>
    rw [ek,ec] at h2
    cases t <;> first | exact False.elim h2 | skip
    rename_i ks ts
    obtain ⟨l,vs,rfl,el,hl,il⟩:=(r1.rdb F2 ec).dtt
    obtain ⟨b,rfl,eb⟩:=Qfe r2 ek
    rcases Qg0 ns ks hl il with ⟨v,t,e1,e2,iv⟩ | ⟨e1,e2⟩
    ·replace h2:Fin p (Qaw H G σ ρ) σ (match Qe2 ks ts ns with | some t=>.ok (PV.fz t) ρ2 | none=>.no) _:=h2
     rw [e2] at h2
     refine ⟨l,v,rfl,?_,h2 v H2 G2 F2 iv⟩
     rw [← e1]
     exact DGet.t el eb
    ·replace h2:Fin p (Qaw H G σ ρ) σ (match Qe2 ks ts ns with | some t=>.ok (PV.fz t) ρ2 | none=>.no) _:=h2
     rw [e2] at h2
     exact False.elim h2
theorem Q0d {t:Option T} (h:Qlf t = true):∃ ks ts,t = some (.dtt ks ts):=by
 unfold Qlf at h
 split at h
 ·exact ⟨_,_,rfl⟩
 ·cases h
theorem Q94 {D:Hp} {ks:List (List Int)} {vs:List V} {ts:List T} (k:List Int) (h:ks.length = vs.length) (r:IsL D vs ts) {v:V} {u:T} (hu:Is D v u):Is D ((Qhr ((ks.map kIs).zip vs) (kIs k)).getD v) ((Qe2 ks ts k).getD u):=by
 rcases Qg0 k ks h r with ⟨w,t,e1,e2,i⟩ | ⟨e1,e2⟩ <;> rw [e1,e2]
 ·exact i
 ·exact hu
theorem Qaeb {apos:Pos} (hu:X.A.units + 64 < cLine) (ha:QE X a (tE p a')) (hb:QE X b (tE p b')) (m:M1 X a "get" apos b pos:=by exact ⟨rfl,rfl,rfl,rfl⟩):QE X (.Call (.Attribute a "get" apos) [b] [] pos) (tE p (.dg1 a' b')) :=
 (QE.mk (Qyo (by omega) ha.h hb.h m)).weak fun σ H Q ⟨G,ρ,F,h⟩=>by
  unfold evE at h
  refine ⟨G,ρ,F,h.bind.imp fun rd ρ1 h1 v H1 G1 F1 r1=>?_⟩
  by_cases z:Qlf (cont ρ1 rd) = true
  ·rw [if_pos z] at h1
   obtain ⟨ks0,ts0,ec0⟩:=Q0d z
   obtain ⟨l,vs0,rfl,el0,_⟩:=(r1.rdb F1 ec0).dtt
   refine ⟨l,rfl,.inr ⟨_,.inl el0⟩,Qi0 F1 h1.bind fun rk ρ2 w H2 G2 h2 F2 F2' r2=>?_⟩
   cases ek:Qfb rk with
   | none=>rw [ek] at h2; exact False.elim h2
   | some ns =>
    cases ec:cont ρ2 rd with
    | none=>rw [ek,ec] at h2; exact False.elim h2
    | some t =>
     rw [ek,ec] at h2
     cases t <;> first | exact False.elim h2 | skip
     rename_i ks ts
     obtain ⟨l',vs,e',el,hl,il⟩:=((r1.step F1 F2').rdb F2 ec).dtt
     cases e'
     obtain ⟨b,rfl,eb⟩:=Qfe r2 ek
     exact ⟨_,DGet.t el eb,h2 _ H2 G2 F2 (Q94 ns hl il Is.non)⟩
  ·rw [if_neg z] at h1; exact False.elim h1
theorem FI.mutDAt {B:Bs} {H:Hp} {G:Addr → Prop} {σ:St} {ρ:En} {i:Nat} (F:FI B H G σ ρ) (h:(Qa ρ i).mutD = true):∃ a,σ[i]? = some (some (.ref a)):=by
 have:∃ t,(Qa ρ i).prv = some t:=by
  cases hs:Qa ρ i <;> rw [hs] at h <;> first | (cases h; done) | exact ⟨_,rfl⟩
 obtain ⟨t,e⟩:=this
 obtain ⟨a,s,_⟩:=F.prvAt e
 exact ⟨a,s⟩
theorem Q95 {i:Nat} {value:Expr} (hu:X.A.units + 64 < cLine) (ho:QE X a (Qox i)) (hb:QE X b (tE p b')) (hv:QE X value (tE p e')) (hs:swapsWith value (some (.Subscript a b pos')) pos.line X.env = pure false:=by rfl):QS X (.Assign [.Subscript a b pos'] value pos) (tS p (.dput i b' e')) :=
 (QS.mk (Q3h (by omega) ho.h hb.h hv.h hs)).weak fun D σ H ⟨B,G,ρ,F,hO,h⟩=>by
  unfold exS at h
  refine Qgk F h fun r ρ2 v H2 G2 k F2 _ pv _=>?_
  cases ef:frz r with
  | none=>rw [ef] at k; exact False.elim k
  | some t =>
   rw [ef] at k
   obtain ⟨G3,F3,i3,s3⟩:=PVR.lay pv F2 ef
   by_cases hm:(Qa ρ2 i).mutD = true
   ·simp only [if_pos hm] at k
    obtain ⟨l,sa⟩:=F3.mutDAt hm
    refine ⟨_,sa,?_⟩
    refine Qgk F3 (SFin.late k (Qdl s3)) fun rk ρ4 w H4 G4 k4 F4 F4' pk sm=>?_
    have i4:=i3.mono sm
    cases ek:Qfb rk with
    | none=>rw [ek] at k4; exact False.elim k4
    | some ns =>
     rw [ek] at k4
     obtain ⟨b,rfl,eb⟩:=Qfe pk ek
     replace k4:SFin p B H4 G4 D (match Qa ρ4 i with
      | .ow (.dtt ks ts)=>if ks.length < 100000 then .nx (ρ4.set i (.ow (Qkf ks ts ns t))) else .no
      | .ml (.dtt ks ts)=>if ks.length < 100000 then .nx (ρ4.set i (.ml (Qkf ks ts ns t))) else .no
      | _=>.no):=k4
     have fin:∀ ks ts s',(Qa ρ4 i = .ow (.dtt ks ts) ∧ s' = Slot.ow (Qkf ks ts ns t)) ∨ (Qa ρ4 i = .ml (.dtt ks ts) ∧ s' = Slot.ml (Qkf ks ts ns t)) → SFin p B H4 G4 D (if ks.length < 100000 then .nx (ρ4.set i s') else .no) → ∃ a H5,V.ref l = .ref a ∧ DPut H4 a (.ref b) v H5 ∧ D.nx σ H5:=fun ks ts s' hs k=>by
      have hp:(Qa ρ4 i).prv = some (.dtt ks ts):=by rcases hs with ⟨h,_⟩ | ⟨h,_⟩ <;> rw [h] <;> rfl
      obtain ⟨a',sa',g,o1⟩:=F4.prvAt hp
      rw [sa] at sa'
      cases sa'
      obtain ⟨ob,eo,q⟩:=o1
      cases ob with
      | dT kvs =>
       obtain ⟨_,vs,rfl,hl,il⟩:=q
       by_cases z:ks.length < 100000
       ·rw [if_pos z] at k
        obtain ⟨F5,s5⟩:=F4.changeO hs sa (Q0b hl il i4 z (k:=ns))
        refine ⟨l,_,rfl,DPut.t eo eb ?_,k σ _ G4 F5 s5⟩
        have:((ks.map kIs).zip vs).length = ks.length:=by rw [List.length_zip,List.length_map,← hl,Nat.min_self]
        rw [this]
        exact Nat.lt_of_lt_of_le z (Qbj (Nat.le_refl _))
       ·rw [if_neg z] at k; exact False.elim k
      | _=>exact q.elim
     cases hs:Qa ρ4 i with
     | un=>rw [hs] at k4; exact False.elim k4
     | pin _=>rw [hs] at k4; exact False.elim k4
     | fz t=>rw [hs] at k4; exact False.elim k4
     | ro t=>rw [hs] at k4; exact False.elim k4
     | ow u =>
      rw [hs] at k4
      cases u <;> first | exact False.elim k4 | skip
      exact fin _ _ _ (.inl ⟨hs,rfl⟩) k4
     | ml u =>
      rw [hs] at k4
      cases u <;> first | exact False.elim k4 | skip
      exact fin _ _ _ (.inr ⟨hs,rfl⟩) k4
   ·simp only [if_neg hm] at k
    exact False.elim k
end
section
variable {P:Program} {w:World} {H:Hp}
end
section
variable {X:Cx} {p:Pr} {a b:Expr} {a' b':E} {pos:Pos}
end
section
variable {X:Cx} {k v:Expr} {tk tv:TE} {pos:Pos}
noncomputable def Q96 (tk tv:TE):TE:=fun σ H Q=>∀ p,H p = none → tk σ (upd H p (.dT [])) fun x H1=>tv σ H1 fun y H2=>H2 p = some (.dT []) ∧ ∃ (ks:List Key) (b:Addr),x = .ref b ∧ H2 b = some (.tup (ks.map kV)) ∧ Q (.ref p) (upd H2 p (.dT (Qgl [] ks y)))
theorem Q0e (hu:X.A.units + 1 < cLine) (hk:PE X k tk) (hv:PE X v tv):PE X (.Dict [some k] [v] pos) (Q96 tk tv):=by
 intro pins s σ H Q I q
 have hn:=I.hok.fresh (Nat.le_refl s.heap.objs.size)
 have I1:=I.laid (a:=s.heap.objs.size) (o:=.dT []) (h':=s.heap.push { cls:=.type "dict",data:=.dict #[] }) (t':=s.toks) (fun _ _ q=>Heap.get?_push_of_some _ q) (Nat.le_refl _) (Qyn s.heap I.big)
 refine wpAny_Dict_any rfl rfl (by simp) (by simp) (pairTrees_cons_walk (thn (hk pins _ σ _ _ I1 (q _ hn)) fun u s1 ⟨x,H1,I1,rx,q1⟩=>thn (hv pins s1 σ H1 _ I1 q1) fun w2 s2 ⟨y,H2,I2,ry,q2⟩=>pairTrees_nil_walk ?_))
 obtain ⟨e,ks,b,rfl,eb,q2⟩:=q2
 cases (show u = Value.ref b from rx)
 obtain ⟨z,hd,xs,rel,dd⟩:=Qu0 I2.hok e
 cases rel
 unfold storeAll
 rw [List.forIn_cons]
 refine wpAny_bind (wpAny_bind (Qkw (knd:=tupleKind (Qap X.prog X.w)) (show X.A.units < cLine by omega) (Qh5 I2.hok eb) dd (Q5r I2.hok (.inl e)) (fun h' dd' hep hs=>wpAny_pure ?_) (Nat.zero_le _)))
 show wpAny _ _ (forIn ([]:List (Value × Value)) PUnit.unit _) _ _ _
 rw [List.forIn_nil]
 refine wpAny_pure ⟨.ref s.heap.objs.size,_,?_,rfl,q2⟩
 have hl:(Qgl ([]:List (List Key × V)) ks y).length ≤ sizeLine:=by have:=Qgp ([]:List (List Key × V)) ks y; rw [sizeLine_eq]; rw [List.length_nil] at this; omega
 obtain ⟨q,es,ep,hq,h2,h3,h4,_,h5⟩:=dd'
 refine Qo4 I2 (by rw [e]; exact True.intro) hs ⟨q,hq⟩ ⟨hl,hd,_,((show KT H2 [] [] from .nil).put ks eb ry).keeps fun c ys ec=>?_,q,es,ep,hq,h2,h3,h4,h5,Qu1 hep hq h3⟩
 rw [Q4 (Q5l ec e (fun z=>nomatch z))]
 exact ec
end
theorem FI.underO {B:Bs} {H:Hp} {G:Addr → Prop} {σ:St} {ρ:En} (F:FI B H G σ ρ) {l:Addr} {ob:HO} (hp:Q3t ob = true) (g:G l) (np:∀ k,¬ PrvAt σ ρ k l) (hb:B.H l = none):FI B (upd H l ob) G σ ρ ∧ Same (dls H G) (dls (upd H l ob) G):=by
 have sm:Same (dls H G) (dls (upd H l ob) G):=fun b o eb=>by
  obtain ⟨n,eb⟩:=Qah eb
  rw [Qcb n,Q4 (fun (z:b = l)=>n (by rw [z]; exact g))]
  exact eb
 refine ⟨{ F with
  slot:=fun j=>Qfk (F.slot j) sm fun b o hb1 hb2 eb=>?_
  prv:=fun b hb=>?_
  chg:=fun b o h1 h2 eb=>?_
  keep:=fun b o eb=>?_ },sm⟩
 ·have nb:b ≠ l:=fun z=>np j ⟨hb1,z ▸ hb2⟩
  exact ⟨by rw [Q4 nb]; exact eb,(PrvAt.at F ⟨hb1,hb2⟩).1⟩
 ·by_cases h:b = l
  ·exact ⟨ob,by rw [h,Qp],hp⟩
  ·rw [Q4 h]; exact F.prv b hb
 ·have nb:b ≠ l:=fun z=>by rw [z,hb] at eb; cases eb
  rw [Q4 nb]
  exact F.chg b o h1 h2 eb
 ·by_cases h:b = l
  ·exact ⟨_,by rw [h,Qp]⟩
  ·rw [Q4 h]; exact F.keep b o eb
section
variable {X:Cx} {p:Pr} {a b:Expr} {a' b':E} {pos:Pos}
theorem g_d1 (hu:X.A.units + 64 < cLine) (ha:QE X a (tE p a')) (hb:QE X b (tE p b')):QE X (.Dict [some a] [b] pos) (tE p (.d1 a' b')) :=
 (QE.mk (Q0e (by omega) ha.h hb.h)).weak fun σ H Q ⟨G,ρ,F,h⟩=>by
  unfold evE at h
  intro l hl
  obtain ⟨F0,r0⟩:=Qlk F hl (Same.upd (o:=.dT []) hl) Qp (t:=.dtt [] []) ⟨Nat.zero_le _,[],rfl,rfl,.nil⟩
  refine Qi0 F0 h.bind fun rk ρ1 x H1 G1 h1 F1 F1' r1=>?_
  refine Qi0 F1 h1.bind fun rv ρ2 y H2 G2 h2 F2 F2' r2=>?_
  have s0:=(r0.step F0 F1').step F1 F2'
  have s1:=r1.step F1' F2'
  cases ek:Qfb rk with
  | none=>rw [ek] at h2; exact False.elim h2
  | some ns =>
   rw [ek] at h2
   cases rv with
   | ow t=>exact False.elim h2
   | sl i=>exact False.elim h2
   | fz t =>
    obtain ⟨b,rfl,eb⟩:=Qfe s1 ek
    obtain ⟨l',e',n0,g0,np,ob,eo,qo⟩:=s0
    cases e'
    cases ob <;> first | exact qo.elim | skip
    obtain ⟨_,vs,ev,lv,_⟩:=qo
    have ev:_ = ([]:List (List Key × V)):=ev
    subst ev
    refine ⟨eo,kIs ns,b,rfl,eb,?_⟩
    have iy:Is (dls H2 G2) y t:=r2
    obtain ⟨F3,sm⟩:=F2.underO (ob:=.dT (Qgl [] (kIs ns) y)) rfl g0 np n0
    refine h2 _ _ _ F3 ⟨l,rfl,n0,g0,np,_,Qp,by show (1:Nat) ≤ 100000; omega,[y],rfl,rfl,?_⟩
    exact .cons (iy.mono sm) .nil
end
section
variable {prog:Program} {w:World} {A:Around} {E:Value → Shared → Prop} {s:Shared}
theorem Qrp {id:String} {d a:Addr} {o:Obj} {ep:Nat} {v:Value} {ks:List Key} {Q:Array DictEntry → Shared → Prop} (ho:s.heap.get? d = some o) (hd:o.data = .dict #[entryOfKey (tupleKind (Qap prog w)) (ks,a,v)] ep) (hT:s.TypeIs (.ref a) "tuple")
  (h:Q #[entryOfKey (tupleKind (Qap prog w)) (ks,a,v)] s):wpAny (model prog w) A (Builtin.Dict.entriesForEmpty id d) Q E s:=by
 unfold Builtin.Dict.entriesForEmpty
 refine wpAny_bind (wpAny_dictEntries ho hd ?_)
 refine wpAny_bind ?_
 rw [← Array.forIn_toList]
 show wpAny _ _ (forIn [entryOfKey (tupleKind (Qap prog w)) (ks,a,v)] PUnit.unit _) _ _ _
 rw [List.forIn_cons]
 refine wpAny_bind ?_
 show wpAny _ _ (Builtin.Dict.quietEq (.ref a) >>= _) _ _ _
 refine wpAny_bind ?_
 unfold Builtin.Dict.quietEq
 refine wpAny_bind (wpAny_specialOf hT PySem.F.slot_tuple_eq.lookup (wpAny_pure ?_))
 rw [if_pos (by decide)]
 rw [if_neg (by simp)]
 refine wpAny_pure ?_
 show wpAny _ _ (forIn ([]:List DictEntry) PUnit.unit _) _ _ _
 rw [List.forIn_nil]
 exact wpAny_pure (wpAny_pure h)
theorem Q0f {o a:Addr} {ks:List Key} {v:Value} {Q:Value → Shared → Prop} (hoS:(o == sysModules) = false) (ho:s.heap.DictOfH (tupleKind (Qap prog w)) o [(ks,a,v)])
  (h:∀ h',h'.DictOfH (tupleKind (Qap prog w)) s.heap.objs.size [(ks,a,v)] → Qsw h' s.heap.objs.size → Heap.SameBut s.heap.objs.size (s.heap.push { cls:=.type "dict",data:=.dict #[] }) h' → Q (.ref s.heap.objs.size) { s with heap:=h' }) :
  wpAny (model prog w) A (call (.type "dict") [.ref o]) Q E s:=by
 refine callType_codes (Q₁:=fun obj s₁=>obj = .ref s.heap.objs.size ∧ s₁ = { s with heap:=s.heap.push { cls:=.type "dict",data:=.dict #[] } }) F.kt_called_dict (F.kt_typeCall_dict_1 _) F.entry_dict_init (kt_code_dict_new _ ⟨rfl,rfl⟩) ?_
 rintro obj s₁ ⟨rfl,rfl⟩
 have hnew:(s.heap.push { cls:=.type "dict",data:=.dict #[] }).DictOf (Qap prog w) s.heap.objs.size []:=Heap.DictOf.new s.heap
 obtain ⟨oo,es,ep,h1,h2,h3,h4,h5,h6⟩:=ho
 have hes:es = #[entryOfKey (tupleKind (Qap prog w)) (ks,a,v)]:=by
  cases es with
  | mk l=>rw [show l = [entryOfKey (tupleKind (Qap prog w)) (ks,a,v)] from h4]
 subst hes
 have hg:(s.heap.push { cls:=.type "dict",data:=.dict #[] }).get? o = some oo:=Heap.get?_push_of_some _ h1
 have hdo:s.heap.objs.size ≠ o:=fun e=>absurd (Heap.lt_size h1) (by rw [e]; exact Nat.lt_irrefl _)
 have hty:Shared.TypeIs { s with heap:=s.heap.push { cls:=.type "dict",data:=.dict #[] } } (.ref o) "dict" := ⟨oo,hg,h2.1⟩
 obtain ⟨oa,its,n,a1,a2,a3,a4⟩:=h5 (ks,a,v) (.head _)
 have hta:Shared.TypeIs { s with heap:=s.heap.push { cls:=.type "dict",data:=.dict #[] } } (.ref a) "tuple" := ⟨oa,Heap.get?_push_of_some _ a1,a2⟩
 obtain ⟨od,esd,epd,hod,hcd,hdd,hkd,hpd,hnd⟩:=id hnew
 have hepd:epd = esd.size:=Qu1 ⟨_,#[],Heap.get?_push_size _ rfl,rfl⟩ hod hdd
 have hesd:esd = #[]:=by
  have:=hpd.length
  cases esd with
  | mk l=>cases l with
   | nil=>rfl
   | cons x r=>cases this
 subst hesd
 refine ⟨hnew.typeIs,F.args_dict_init_2 _ _,?_⟩
 unfold Builtin.«dict.__init__»
 refine wpAny_bind ?_
 unfold Builtin.Dict.selfAndRest
 refine wpAny_bind (wpAny_notOrdered_dict hnew.typeIs ?_)
 show wpAny _ _ (pure (s.heap.objs.size,[Value.ref o])) _ _ _
 refine wpAny_pure ?_
 show wpAny _ _ (Builtin.Dict.updateFrom "dict.__init__" s.heap.objs.size (.ref o) [] .none) _ _ _
 unfold Builtin.Dict.updateFrom
 refine wpAny_bind (wpAny_typeOf hty ?_)
 rw [if_neg (by decide)]
 refine wpAny_bind ?_
 unfold Builtin.Dict.merge
 refine wpAny_bind ?_
 unfold Builtin.Dict.readDirectly
 refine wpAny_bind (wpAny_isInstance hty isSubtype_dict_dict ?_)
 simp only [Bool.not_true,Bool.false_eq_true,if_false]
 refine wpAny_bind (wpAny_specialOf hty F.slot_dict_iter.lookup (wpAny_pure ?_))
 simp only [beq_self_eq_true,if_true]
 refine wpAny_bind (wpAny_pure ?_)
 unfold Builtin.Dict.mergeDict
 rw [if_neg (by simpa using hdo)]
 unfold Builtin.Dict.showsAll
 rw [if_neg (by rw [hoS]; exact Bool.false_ne_true)]
 refine wpAny_bind (wpAny_pure ?_)
 refine wpAny_bind (wpAny_dictEntries hg h3 ?_)
 rw [if_pos (by simp [entryOfKey,keyPart])]
 refine wpAny_bind (wpAny_dictEntries hod hdd ?_)
 rw [if_pos (by rfl)]
 refine wpAny_bind (Qrp hg h3 hta ?_)
 rw [if_pos (by rfl)]
 refine wpAny_bind (wpAny_updateDictKeysTo hod hdd (wpAny_pure ?_) (by simp))
 show wpAny _ _ (Builtin.Dict.addKeywords s.heap.objs.size [] >>= _) _ _ _
 refine wpAny_bind (wpAny_pure (wpAny_pure ⟨rfl,h _ ⟨_,_,epd + 1,Heap.get?_update_self _ hod (Obj.isFreed_of_dict (Obj.data_mapDictKeys hdd _)),hcd.mapDictKeys _,Obj.data_mapDictKeys hdd _,rfl,fun x hx=>?_,by simp⟩ ⟨_,_,Heap.get?_update_self _ hod (Obj.isFreed_of_dict (Obj.data_mapDictKeys hdd _)),by rw [Obj.data_mapDictKeys hdd,hepd]; rfl⟩ (Heap.SameBut.update ..)⟩))
 rcases List.mem_singleton.mp hx with rfl
 exact (tupleKind (Qap prog w)).keeps (⟨oa,its,n,Heap.get?_push_of_some _ a1,a2,a3,a4⟩:(tupleKind (Qap prog w)).is _ ks a) hod hdd (Heap.SameBut.update ..)
end
section
variable {X:Cx}
noncomputable def Qtl:List V → Hp → VK → Prop:=fun xs H Q=>∃ p k v,xs = [.ref p] ∧ H p = some (.dT [(k,v)]) ∧ ∀ l,H l = none → Q (.ref l) (upd H l (.dT [(k,v)]))
theorem Qtm:CallR X (.type "dict") Qtl:=by
 intro pins s σ H xs us Q I r h
 obtain ⟨p,k,v,rfl,e,q⟩:=h
 obtain ⟨u,rfl,rx⟩:=Qe9 r
 cases rx
 obtain ⟨z,hd,ys,rel,dd⟩:=Qu0 I.hok e
 cases rel with
 | @cons _ y _ ys' hy t =>
  cases t
  obtain ⟨k',a,u⟩:=y
  refine Q0f hd dd fun h' dd' hep hs=>⟨.ref s.heap.objs.size,_,?_,rfl,q _ (I.hok.fresh (Nat.le_refl _))⟩
  obtain ⟨o,es,ep,hq,h2,h3,h4,_,h5⟩:=dd'
  refine I.laid (t':=s.toks) (fun b w hb=>?_) (Nat.le_refl _) ⟨z,beq_eq_false_iff_ne.mpr (Nat.ne_of_gt I.big),_,KT.keeps (.cons hy .nil) fun b ys hb=>?_,o,es,ep,hq,h2,h3,h4,h5,Qu1 hep hq h3⟩
  ·exact (hs.2 b (Nat.ne_of_lt (Heap.lt_size hb))).trans (Heap.get?_push_of_some _ hb)
  ·rw [Q4 (Qbt hb (I.hok.fresh (Nat.le_refl _)))]
   exact hb
theorem Q4j:QCl X (.type "dict") Qtl:=⟨Qtm⟩
theorem Q0g:Ob Qtl .dct:=by
 intro B H G σ ρ vs ts w Q F r e q
 match ts,e,r with
 | [.dtt [k] [t]],e,r =>
  cases e
  obtain ⟨v,rfl,h⟩:=r.one
  obtain ⟨l,ws,rfl,el,hl,il⟩:=h.dtt
  match ws,hl,il,el with
  | [w],hl,il,el =>
   refine ⟨l,kIs k,w,rfl,el,fun l2 hl2=>?_⟩
   obtain ⟨F2,r2⟩:=Qlk F hl2 (Same.upd (o:=.dT [(kIs k,w)]) hl2) Qp (t:=.dtt [k] [t]) ⟨by show (1:Nat) ≤ 100000; omega,[w],rfl,rfl,il⟩
   exact q _ _ _ F2 r2
end
end L2
namespace L2
open PySem PySem.Spec PyProof.Rows PySem.W
noncomputable def DAt (h:Heap) (d:Addr) (es:Array DictEntry) (ep:Nat):Prop:=∃ o,h.get? d = some o ∧ o.ExactDict ∧ o.data = .dict es ep
theorem DAt.lt {h:Heap} {d:Addr} {es:Array DictEntry} {ep:Nat} (x:DAt h d es ep):d < h.objs.size:=let ⟨_,ho,_⟩:=x; Heap.lt_size ho
theorem DAt.at' {h h':Heap} {d:Addr} {es:Array DictEntry} {ep:Nat} (x:DAt h d es ep) (e:∀ o,h.get? d = some o → h'.get? d = some o):DAt h' d es ep:=let ⟨o,ho,r⟩:=x; ⟨o,e _ ho,r⟩
theorem DAt.typeIs {s:Shared} {d:Addr} {es:Array DictEntry} {ep:Nat} (x:DAt s.heap d es ep):s.TypeIs (.ref d) "dict" := let ⟨o,ho,hc,_⟩:=x; ⟨o,ho,hc.1⟩
section
variable {prog:Program} {w:World} {A:Around} {E:Value → Shared → Prop} {s:Shared} {it d:Addr} {i ep:Nat} {es:Array DictEntry}
theorem Q0h {Q:Value → Shared → Prop} (hd:(d == sysModules) = false) (hm:DAt s.heap d es ep)
  (hQ:Q (.ref s.heap.objs.size) { s with heap:=s.heap.push { cls:=.type "dict_keyiterator",data:=.fields #[.ref d,.int 0 0,.int es.size 0,.int ep 0] } }):wpAny (model prog w) A (pyIter (.ref d)) Q E s:=by
 obtain ⟨o,ho,hc,hdat⟩:=id hm
 have hT:=hm.typeIs
 refine wpAny_pyIter_slot hT PySem.F.slot_dict_iter (wpAny_call_entry PySem.F.slot_dict_iter hT PySem.F.entry_dict_iter ?_ (PySem.F.args_dict_iter_1 _))
 unfold Builtin.«dict.__iter__»
 refine wpAny_bind ?_
 unfold Builtin.Dict.dictSlotNone
 refine wpAny_bind (wpAny_notOrdered_dict hT ?_)
 show wpAny _ _ (pure (Value.ref d)) _ _ s
 refine wpAny_pure ?_
 show wpAny _ _ (Builtin.Dict.showsAll d >>= _) _ _ s
 unfold Builtin.Dict.showsAll
 rw [if_neg (by rw [hd]; exact Bool.false_ne_true)]
 refine wpAny_bind (wpAny_pure ?_)
 refine wpAny_bind (wpAny_dictEntries ho hdat ?_)
 refine wpAny_bind (wpAny_dictEpoch ho hdat ?_)
 refine wpAny_bind (wpAny_newObj_type (wpAny_pure ⟨_,rfl,"dict_keyiterator",_,⟨_,Heap.get?_push_size _ rfl,rfl⟩,PySem.F.slot_dict_keyiterator_next.lookup,?_⟩))
 simpa [rawInt] using hQ
theorem Q0i {Q:Option Value → Shared → Prop} (hit:s.heap.IsKeyIter it d i es.size ep) (hm:DAt s.heap d es ep) (hlt':i < es.size)
  (hQ:∀ h',h'.IsKeyIter it d (i + 1) es.size ep → Heap.SameBut it s.heap h' → Q (some es[i].key) { s with heap:=h' }):wpAny (model prog w) A (pyNext (.ref it)) Q E s:=by
 obtain ⟨o,ho,hc,hd⟩:=id hit
 obtain ⟨od,hod,hcd,hdd⟩:=id hm
 unfold pyNext
 refine wpAny_bind (wpAny_attempt (wpAny_callSpecial?_slot (name:=Str.ofString "__next__") hit.typeIs PySem.F.slot_dict_keyiterator_next
  (wpAny_call_entry PySem.F.slot_dict_keyiterator_next hit.typeIs PySem.F.entry_dict_keyiterator_next ?_ (PySem.F.args_dict_keyiterator_next_1 _))))
 refine wpAny_bind (wpAny_pure ?_)
 refine wpAny_bind ?_
 refine wpAny_bind ?_
 first | refine wpAny_bind (wpAny_typeNameOfWhole_keyiter hit.typeIs (wpAny_pure ?_)) | refine wpAny_bind (wpAny_typeNameOf_keyiter hit.typeIs (wpAny_pure ?_))
 refine wpAny_bind (wpAny_fieldsOf ho hd ?_)
 have hown:Builtin.Dict_items.ownsTuple "dict_keyiterator" = false:=by decide
 simp only [hown,Bool.false_eq_true,if_false]
 show wpAny _ _ (if (Value.ref d == Value.none) = true then _ else _) _ _ s
 rw [if_neg (show ¬ ((Value.ref d == Value.none) = true) from Bool.false_ne_true)]
 refine wpAny_bind (wpAny_pure ?_)
 refine wpAny_bind (wpAny_dictEntries hod hdd ?_)
 rw [if_neg (by simp)]
 refine wpAny_bind (wpAny_pure ?_)
 refine wpAny_bind (wpAny_dictEpoch hod hdd ?_)
 rw [if_neg (by simp)]
 refine wpAny_pure ?_
 simp only [show ¬ ((i:Int) < 0) from by omega,if_false,Int.toNat_natCast,Array.getElem?_eq_getElem hlt']
 refine wpAny_bind ?_
 first | refine wpAny_bind (wpAny_typeNameOfWhole_keyiter hit.typeIs (wpAny_pure ?_)) | refine wpAny_bind (wpAny_typeNameOf_keyiter hit.typeIs (wpAny_pure ?_))
 refine wpAny_bind (wpAny_isOneOf_keyiter hit.typeIs ?_)
 show wpAny _ _ (setField (.ref it) 1 (rawInt ((i:Int) + 1)) >>= _) _ _ s
 refine wpAny_bind (wpAny_setField ho hd (by simp) ?_)
 have hit':(s.heap.update it (Obj.mapFields (·.setIfInBounds 1 (rawInt ((i:Int) + 1))))).IsKeyIter it d (i + 1) es.size ep :=
  ⟨_,Heap.get?_update_self _ ho (Obj.isFreed_of_fields (Obj.data_mapFields hd _)),(Obj.cls_mapFields ..).trans hc,by rw [Obj.data_mapFields hd]; simp [rawInt]⟩
 refine wpAny_bind (wpAny_holding ?_)
 refine wpAny_bind (wpAny_isOneOf_keyiter (s:={ s with heap:=s.heap.update it (Obj.mapFields (·.setIfInBounds 1 (rawInt ((i:Int) + 1)))) }) hit'.typeIs ?_)
 show wpAny _ _ (pure es[i].key) _ _ _
 exact wpAny_pure (wpAny_pure ⟨_,rfl,wpAny_pure (hQ _ hit' (Heap.SameBut.update ..))⟩)
theorem Q4k {Q:Option Value → Shared → Prop} (hh:A.handled = none) (hit:s.heap.IsKeyIter it d i es.size ep) (hm:DAt s.heap d es ep) (hi:es.size ≤ i)
  (hQ:∀ h',Heap.ExtBut it s.heap h' → Q none { s with heap:=h' }):wpAny (model prog w) A (pyNext (.ref it)) Q E s:=by
 obtain ⟨o,ho,hc,hd⟩:=id hit
 obtain ⟨od,hod,hcd,hdd⟩:=id hm
 unfold pyNext
 refine wpAny_bind (wpAny_attempt (wpAny_callSpecial?_slot (name:=Str.ofString "__next__") hit.typeIs PySem.F.slot_dict_keyiterator_next
  (wpAny_call_entry PySem.F.slot_dict_keyiterator_next hit.typeIs PySem.F.entry_dict_keyiterator_next ?_ (PySem.F.args_dict_keyiterator_next_1 _))))
 refine wpAny_bind (wpAny_pure ?_)
 refine wpAny_bind ?_
 refine wpAny_bind ?_
 first | refine wpAny_bind (wpAny_typeNameOfWhole_keyiter hit.typeIs (wpAny_pure ?_)) | refine wpAny_bind (wpAny_typeNameOf_keyiter hit.typeIs (wpAny_pure ?_))
 refine wpAny_bind (wpAny_fieldsOf ho hd ?_)
 have hown:Builtin.Dict_items.ownsTuple "dict_keyiterator" = false:=by decide
 simp only [hown,Bool.false_eq_true,if_false]
 show wpAny _ _ (if (Value.ref d == Value.none) = true then _ else _) _ _ s
 rw [if_neg (show ¬ ((Value.ref d == Value.none) = true) from Bool.false_ne_true)]
 refine wpAny_bind (wpAny_pure ?_)
 refine wpAny_bind (wpAny_dictEntries hod hdd ?_)
 rw [if_neg (by simp)]
 refine wpAny_bind (wpAny_pure ?_)
 refine wpAny_bind (wpAny_dictEpoch hod hdd ?_)
 rw [if_neg (by simp)]
 refine wpAny_pure ?_
 simp only [show ¬ ((i:Int) < 0) from by omega,if_false,Int.toNat_natCast,Array.getElem?_eq_none hi]
 refine wpAny_bind ?_
 first | refine wpAny_bind (wpAny_typeNameOfWhole_keyiter hit.typeIs (wpAny_pure ?_)) | refine wpAny_bind (wpAny_typeNameOf_keyiter hit.typeIs (wpAny_pure ?_))
 show wpAny _ _ (setField (.ref it) 0 .none >>= _) _ _ s
 refine wpAny_bind (wpAny_setField ho hd (by simp) ?_)
 show wpAny _ _ (newExc (.type "StopIteration") [] >>= _) _ _ _
 refine wpAny_bind ?_
 simp only [newExc,newTuple]
 refine wpAny_bind (wpAny_newObj_type ?_ (by size_fits))
 refine wpAny_bind (m:=firstArgMember _ _) (wpAny_of_eq (a:=Value.none) (by first | rfl | (simp only [firstArgMember]; rfl)) ?_)
 refine wpAny_newObj_type ?_ (by size_fits)
 simp only [raiseNew]
 refine wpAny_bind (wpAny_handled ?_)
 rw [show A.in1.handled = none from hh]
 refine wpAny_bind (wpAny_pure (wpAny_throw ?_))
 refine wpAny_bind (wpAny_isInstance (T := "StopIteration") (b:=true) ⟨_,Heap.get?_push_size _ rfl,rfl⟩ isSubtype_stop ?_)
 exact wpAny_pure (hQ _ (((Heap.SameBut.update ..).extBut.push _).push _))
theorem Q97 (hh:A.handled = none) (I d:Addr) (hne:d ≠ I) (es:Array DictEntry) (ep:Nat) :
  Walks prog w A I [I,d] [I] es.size (fun i v=>∃ h:i < es.size,v = es[i].key) (fun i h=>h.IsKeyIter I d i es.size ep ∧ DAt h d es ep) where
 sub:=fun b hb=>by simp at hb; simp [hb]
 frame:=fun _ _ _ st hk=>⟨st.1.at fun o e=>hk I (by simp) o e,st.2.at' fun o e=>hk d (by simp) o e⟩
 item:=fun i s Q E hi st hQ=>by
  refine Q0i st.1 st.2 hi fun h' hit' hs'=>?_
  exact hQ _ h' s.toks ⟨hi,rfl⟩ ⟨hit',st.2.at' fun o e=>hs'.extBut d o hne e⟩ fun b o hb e=>hs'.extBut b o (fun h=>hb (by simp [h])) e
 done:=fun s Q E st hQ=>Q4k hh st.1 st.2 (Nat.le_refl _) fun h' he'=>hQ h' s.toks fun b o hb e=>he' b o (fun h=>hb (by simp [h])) e
 self:=fun _ _ _ _ st hQ=>wpAny_pyIter_keyiter st.1 hQ
theorem Qaec (lo:(d == sysModules) = false):KdlSrc prog w "dict" d d es.size (fun i v=>∃ h:i < es.size,v = es[i].key) (fun h=>DAt h d es ep) where
 type:=fun _ hm=>hm.typeIs
 there:=fun _ hm=>⟨hm.lt,hm.lt⟩
 keep:=fun _ _ hm hk=>hm.at' fun o e=>hk d (.inl rfl) o e
 notList:=by decide
 notTuple:=by decide
 hint:=fun _ _ _ _ hm hq=>kdl_hint_dict hm.typeIs hq
 iter:=fun _ _ hh hm=>⟨_,_,(fun _ _ hq=>Q0h lo hm hq),Q97 hh _ d (Nat.ne_of_lt hm.lt) es ep,⟨⟨_,Heap.get?_push_size _ rfl,rfl,rfl⟩,hm.at' fun o e=>Heap.get?_push_of_some _ e⟩⟩
end
section
variable {X:Cx}
noncomputable abbrev KeysAt (H:Hp):List (List Key × V) → List V → Prop:=Paired fun p y=>∃ b,y = .ref b ∧ H b = some (.tup (p.1.map kV))
noncomputable def Qtn:List V → Hp → VK → Prop:=fun xs H Q=>∃ p kvs,xs = [.ref p] ∧ H p = some (.dT kvs) ∧ ∀ l ys,H l = none → KeysAt H kvs ys → Q (.ref l) (upd H l (.lst ys))
theorem KT.places {H:Hp}:∀ {kvs:List (List Key × V)} {xs:List (List Key × Addr × Value)},KT H kvs xs → KeysAt H kvs (xs.map fun x=>.ref x.2.1)
 | [],_,r=>by cases r; exact .nil
 | _ :: _,_,r=>by
  cases r with
  | cons h t=>exact .cons ⟨_,rfl,h.2.1⟩ (KT.places t)
theorem Qol:∀ (xs:List (List Key × Addr × Value)),Vals (xs.map fun x=>V.ref x.2.1) (xs.map fun x=>Value.ref x.2.1)
 | []=>.nil
 | x :: xs=>.cons rfl (Qol xs)
theorem Qto (hc:X.calm = true):CallR X (.type "list") Qtn:=by
 intro pins s σ H xs us Q I r h
 have hh:=I.ok.hd hc
 obtain ⟨p,kvs,rfl,e,q⟩:=h
 obtain ⟨u,rfl,rx⟩:=Qe9 r
 cases rx
 obtain ⟨z,hd,ys,rel,o,es,ep,h1,h2,h3,h4,h5,h6⟩:=Qu0 I.hok e
 have hn:es.size = ys.length:=size_of_entries h4
 have hl:kvs.length = ys.length:=Paired.length rel
 refine kdl_call (Qaec (es:=es) (ep:=ep) hd) hh ⟨o,h1,h2,h3⟩ (by rw [hn,← hl]; exact z) fun h' tk acc' c' hk hS hacc=>⟨.ref s.heap.objs.size,_,?_,rfl,q _ _ (I.hok.fresh (Nat.le_refl _)) rel.places⟩
 have ea:acc' = (ys.map fun x=>Value.ref x.2.1).toArray:=by
  apply Array.ext_getElem?
  intro j
  rcases Nat.lt_or_ge j es.size with g | g
  ·have ga:j < acc'.size:=by rw [hacc.1]; exact g
   obtain ⟨_,ev⟩:=hacc.2 j acc'[j] (Array.getElem?_eq_getElem ga)
   have gy:j < ys.length:=by omega
   rw [Array.getElem?_eq_getElem ga,ev]
   have e2:=entry_at h4 j
   rw [Array.getElem?_eq_getElem g,List.getElem?_eq_getElem gy] at e2
   have e3:=Option.some.inj e2
   rw [e3]
   simp [gy,entryOfKey]
  ·rw [Array.getElem?_eq_none (by rw [hacc.1]; exact g)]
   refine (Array.getElem?_eq_none ?_).symm
   rw [List.size_toArray,List.length_map,← hn]
   exact g
 subst ea
 exact I.laid (t':=tk) hk (Nat.le_refl _) ⟨by rw [List.length_map,← hl]; exact z,_,c',Qol ys,hS⟩
theorem Q4l (hc:X.calm = true):QCl X (.type "list") Qtn:=⟨Qto hc⟩
theorem Qrq {D:Hp}:∀ {ks:List (List Int)} {vs:List V} {ys:List V},ks.length = vs.length → KeysAt D ((ks.map kIs).zip vs) ys → (∀ k ∈ ks,k.length ≤ 100000) → IsL D ys (ks.map fun k=>T.tup (k.map T.int))
 | [],_,_,_,r,_=>by
  rw [List.map_nil,List.zip_nil_left] at r
  cases r
  exact .nil
 | k :: ks,[],_,h,_,_=>by cases h
 | k :: ks,v :: vs,_,h,r,z=>by
  rw [List.map_cons,List.zip_cons_cons] at r
  cases r with
  | cons a t =>
   obtain ⟨b,rfl,e⟩:=a
   rw [Q0a] at e
   exact .cons (.tup e (IsL.ints _) (by rw [List.length_map]; exact z k (.head _))) (Qrq (by simpa using h) t fun k hk=>z k (.tail _ hk))
theorem KeysAt.dls {H:Hp} {G:Addr → Prop} (hp:Pen H G):∀ {kvs:List (List Key × V)} {ys:List V},KeysAt H kvs ys → KeysAt (dls H G) kvs ys
 | [],_,r=>by cases r; exact .nil
 | _ :: _,_,r=>by
  cases r with
  | cons a t =>
   obtain ⟨b,rfl,e⟩:=a
   refine .cons ⟨b,rfl,?_⟩ (KeysAt.dls hp t)
   rw [Qcb fun z=>?_]
   ·exact e
   ·obtain ⟨o,eo,po⟩:=hp b z
    rw [e] at eo
    cases eo
    cases po
theorem Q4m:Ob Qtn .lstD:=by
 intro B H G σ ρ vs ts w Q F r e q
 match ts,e,r with
 | [.dtt ks us],e,r =>
  have e:(if ks.length ≤ 100000 ∧ ks.all (fun k=>decide (k.length ≤ 100000)) = true then some (PV.ow (.lst (ks.map fun k=>T.tup (k.map T.int)))) else none) = some w:=e
  by_cases z:ks.length ≤ 100000 ∧ ks.all (fun k=>decide (k.length ≤ 100000)) = true
  ·rw [if_pos z] at e
   cases e
   obtain ⟨v,rfl,h⟩:=r.one
   obtain ⟨l,ws,rfl,el,hl,il⟩:=h.dtt
   refine ⟨l,_,rfl,el,fun l2 ys hl2 ky=>?_⟩
   obtain ⟨F2,r2⟩:=Qi1 F hl2 (Same.upd hl2) Qp (Qrq hl (ky.dls F.prv) fun k hk=>of_decide_eq_true (List.all_eq_true.mp z.2 k hk)) (by rw [List.length_map]; exact z.1)
   exact q _ _ _ F2 r2
  ·rw [if_neg z] at e; cases e
end
section
variable {prog:Program} {w:World} {A:Around} {E:Value → Shared → Prop} {h:Heap} {g:Array GenState} {d:Drawn} {t:Nat} {os:OsState} {a:Addr} {its:Array Value} {n:Nat}
end
section
variable {prog:Program} {w:World} {A:Around} {E:Value → Shared → Prop} {s:Shared}
end
section
variable {X:Cx}
end
section
variable {prog:Program} {w:World} {A:Around} {E:Value → Shared → Prop} {s:Shared} {l:Addr} {xs:Array (Int × Tok)}
end
section
variable {X:Cx}
end
end L2
set_option maxHeartbeats 2000000
namespace L2
open PySem PySem.Spec PyProof.Rows PySem.W PySem.Calls
section
variable {prog:Program} {w:World} {A:Around} {E:Value → Shared → Prop} {s:Shared}
end
inductive TupsI (h:Heap):List Value → List (List Int) → Prop
 | nil:TupsI h [] []
 | cons {a:Addr} {its:List Value} {k:List Int} {vs:List Value} {ks:List (List Int)} (ht:h.IsTuple a its.toArray) (hi:IntsAre its k) (t:TupsI h vs ks):TupsI h (.ref a :: vs) (k :: ks)
section
variable {prog:Program} {w:World} {A:Around} {E:Value → Shared → Prop} {s:Shared}
end
section
variable {prog:Program} {w:World} {A:Around} {E:Value → Shared → Prop} {s:Shared}
end
inductive TupsV (K:PySem.W.Frag) (H:Hp):List V → List (List Int) → Prop
 | nil:TupsV K H [] []
 | cons {b:Addr} {k:List Int} {ys:List V} {ks:List (List Int)} (hq:SqT K H b (k.map V.int)) (t:TupsV K H ys ks):TupsV K H (.ref b :: ys) (k :: ks)
section
variable {X:Cx}
end
end L2
namespace L2
open PySem PySem.Spec PyProof.Rows PySem.W PySem.Calls
section
variable {prog:Program} {w:World} {A:Around} {E:Value → Shared → Prop} {s:Shared}
noncomputable def elt (vs:List Value) (ks:List (List Int)) (j:Nat):Int × Value:=(Qu6 (Qld ks j),vs.getD j Value.none)
structure MOk (ks:List (List Int)) (led:Bool) (r:SetTable × Array Nat):Prop where
 fits:r.1.fits r.2.size = true
 plain:r.1.plain = true
 gave:r.1.gaveWay = false
 led:r.1.led = led
 size:r.2.size ≤ 1000
 lt:∀ x ∈ r.2,x < ks.length
end
section
variable {prog:Program} {w:World} {A:Around} {R:Result → Shared → Prop} {I:Addr} {fp wr:List Addr} {G:Array GenState → Array GenState → Prop} {n:Nat} {P:Nat → Value → Prop} {St:Nat → Shared → Prop}
end
section
variable {prog:Program} {w:World} {A:Around} {E:Value → Shared → Prop} {s:Shared}
end
end L2
namespace L2
open PySem PySem.Spec PyProof.Rows PySem.W PySem.Calls
section
variable {prog:Program} {w:World} {A:Around} {E:Value → Shared → Prop} {s:Shared}
end
section
variable {X:Cx}
end
section
variable {H H1:Hp} {b:Addr} {o:HO}
end
section
variable {X:Cx}
end
section
variable {X:Cx} {p:Pr} {e a b:Expr} {e' a' k':E} {st:Stmt} {pos p1 apos:Pos} {x:Str} {K:PySem.W.Frag}
end
end L2
namespace L2
open PySem PySem.Spec PyProof.Rows PySem.W
section
variable {X:Cx} {tg l e:Expr} {tl:TE}
end
section
variable {X:Cx} {p:Pr} {tg e:Expr} {e':E}
end
section
variable {B:Bs} {H H1:Hp} {G G1:Addr → Prop} {σ σ1:St} {ρ ρ1:En} {b:Addr} {o:HO}
noncomputable def RowR (H:Hp) (G:Addr → Prop) (r:Addr) (is:List Int):Prop:=¬ G r ∧ H r = some (.lst (is.map V.int)) ∧ is.length ≤ 1000
noncomputable def TabR (H:Hp) (G:Addr → Prop) (q:Addr × List Addr) (M:List (List Int)):Prop:=¬ G q.1 ∧ H q.1 = some (.lst (q.2.map V.ref)) ∧ Paired (RowR H G) q.2 M ∧ M.length ≤ 1000
noncomputable abbrev Q4n (ps:List (Addr × List Addr)):List Addr:=ps.map (·.1) ++ ps.flatMap (·.2)
structure Tree (H:Hp) (G:Addr → Prop) (lf:Addr) (ps:List (Addr × List Addr)) (Ms:List (List (List Int))):Prop where
 own:G lf
 top:H lf = some (.lst (ps.map fun q=>V.ref q.1))
 tabs:Paired (TabR H G) ps Ms
 nd:(Q4n ps).Nodup
structure Lv (B:Bs) (iF iR:Nat) (H:Hp) (G:Addr → Prop) (σ:St) (ρ:En) (lf lr:Addr) (ps:List (Addr × List Addr)) (Ms:List (List (List Int))) (rs:List Addr) (R:List (List Int)):Prop where
 F:FI B H G σ ρ
 sF:Qa ρ iF = .ow (.lst (Ms.map Qdy))
 eF:σ[iF]? = some (some (.ref lf))
 sR:Qa ρ iR = .ow (.lst (R.map Qn7))
 eR:σ[iR]? = some (some (.ref lr))
 tr:Tree H G lf ps Ms
 hr:H lr = some (.lst (rs.map V.ref))
 rows:Paired (RowR H G) rs R
 nd:(rs ++ Q4n ps).Nodup
 fr:∀ b ∈ rs ++ Q4n ps,B.H b = none
structure Lf (B:Bs) (iF:Nat) (H:Hp) (G:Addr → Prop) (σ:St) (ρ:En) (lf:Addr) (ps:List (Addr × List Addr)) (Ms:List (List (List Int))):Prop where
 F:FI B H G σ ρ
 sF:Qa ρ iF = .ow (.lst (Ms.map Qdy))
 eF:σ[iF]? = some (some (.ref lf))
 tr:Tree H G lf ps Ms
 fr:∀ b ∈ Q4n ps,B.H b = none
variable {iF iR iH:Nat} {lf lr:Addr} {ps:List (Addr × List Addr)} {Ms:List (List (List Int))} {rs:List Addr} {R:List (List Int)} {is:List Int}
end
section
variable {X:Cx} {p:Pr} {body suite:List Stmt} {b0:Stmt} {n:Str} {np hpos pos:Pos} {i:Nat} {b:S} {h:Nat → List Int → Option T}
end
section
variable {X:Cx} {p:Pr} {e:Expr} {es:List Expr} {es':Es} {x nm:Str} {np cpos pos:Pos} {c k:Nat} {D:Ends} {σ:St} {H:Hp}
end
section
variable {X:Cx} {p:Pr} {body suite:List Stmt} {b0:Stmt} {n:Str} {np hpos pos:Pos} {i:Nat} {b:S} {h:Nat → List Int → Option T}
end
section
variable {X:Cx} {p:Pr} {a b c:Expr} {a' b' c':E} {pos:Pos}
end
section
variable {prog:Program} {w:World} {A:Around} {E:Value → Shared → Prop} {s:Shared}
end
section
variable {X:Cx} {a b:Expr} {rest:List Expr} {ta tb:TE} {pos:Pos}
end
section
variable {cf:CF} {ρ:En}
end
theorem Qxg {pos:Pos} {a b:Int} {c cv:Value} (l:List Value) (h:TriplesOk l) (e:codeAmong pos (l ++ [rawInt a,rawInt b,c]) = some cv):codeAmong pos l = some cv ∨ cv = c:=by
 fun_induction TriplesOk l with
 | case1 =>
  simp only [List.nil_append,codeAmong,rawInt] at e
  split at e
  ·exact .inr (Option.some.inj e).symm
  ·cases e
 | case2 a' t b' u x rest ih =>
  simp only [List.cons_append,codeAmong] at e ⊢
  split at e
  ·rename_i hc; rw [if_pos hc]; exact .inl e
  ·rename_i hc; rw [if_neg hc]; exact ih h e
 | case3 l h1 h2=>exact h.elim
section
variable {X:Cx} {pins:List (Addr × Obj)} {σ:St} {H:Hp} {s:Shared}
theorem Inv.trackC (I:Inv X pins σ H s) {x:Str} {c:Addr} {u:Value} (hc:X.env.cells.lookup x = some c) (hf:X.fn x = false) (hab:X.s₀.heap.objs.size ≤ c) (z:s.heap.IsCell c (some u)) :
  ∃ H1,Same H H1 ∧ Inv X pins σ H1 s ∧ ∃ oc w,H1 c = some (.frz oc w) ∧ oc.data = .cell (some u):=by
 obtain ⟨oc,ho,hd⟩:=z
 rcases I.freeC x c hc with n | ⟨_,o,w,e⟩
 ·have sm:Same H (upd H c (.frz oc (.own c))):=Same.upd n
  refine ⟨upd H c (.frz oc (.own c)),sm,⟨I.ok,I.os,I.bare,⟨I.base.keep,I.base.slot,fun b o e n' hx=>?_,I.base.there,fun b xs e=>sm _ _ (I.base.tups b xs e),fun b o u e=>sm _ _ (I.base.frzs b o u e),fun b q e=>sm _ _ (I.base.tbls b q e)⟩,I.loc,I.cell,?_,fun y d e=>?_,fun p hp=>?_,fun b u e=>?_,I.len⟩,oc,_,Qp,hd⟩
  ·rw [Q4 (Nat.ne_of_lt (Nat.lt_of_lt_of_le (Heap.lt_size e) hab))]
   exact I.base.free b o e n' hx
  ·rw [Q4 (Ne.symm (I.cne x c hc))]; exact I.free
  ·by_cases h:d = c
   ·subst h
    have:y = x:=I.ok.inj y x d e hc
    subst this
    exact .inr ⟨hf,oc,_,Qp⟩
   ·rw [Q4 h]; exact I.freeC y d e
  ·obtain ⟨e,n',r⟩:=I.pin p hp
   refine ⟨e,?_,r⟩
   rw [Q4]
   ·exact n'
   ·intro z
    rw [z,ho] at e
    cases e
    exact r.2.2 _ hd
  ·by_cases h:b = c
   ·subst h
    rw [Qp] at e
    cases e
    exact ⟨ho,oc,ho⟩
   ·rw [Q4 h] at e
    exact (I.hok b u e).stay (fun _ _ _ q=>q) (fun _ q=>sm _ _ q) (fun _ _ q=>sm _ _ q) fun _ _ q=>sm _ _ q
 ·have e1:=(I.hok c _ e).1
  rw [ho] at e1
  cases e1
  exact ⟨H,Same.refl _,I,oc,w,e,hd⟩
noncomputable def Qlu (X:Cx):List Str → List Addr → List Nat → Prop
 | [],[],[]=>True
 | x :: xs,c :: cs,j :: js=>(X.N[j]? = some x ∧ X.env.scope.names.lookup x = some .cell ∧ X.env.cells.lookup x = some c ∧ X.fn x = false ∧ X.s₀.heap.objs.size ≤ c) ∧ Qlu X xs cs js
 | _,_,_=>False
noncomputable def Qkq (σ:St):List Nat → List V → Prop
 | [],us=>us = []
 | j :: js,us=>∃ v r,us = v :: r ∧ σ[j]? = some (some v) ∧ Qkq σ js r
theorem Inv.trackAll:∀ {xs:List Str} {cs:List Addr} {js:List Nat} {us:List V} {H:Hp},Inv X pins σ H s → Qlu X xs cs js → Qkq σ js us → ∃ H1,Same H H1 ∧ Inv X pins σ H1 s ∧ CellsAt H1 cs us
 | [],[],[],us,H,I,_,h=>⟨H,Same.refl _,I,h⟩
 | x :: xs,c :: cs,j :: js,us,H,I,k,h=>by
  obtain ⟨v,r,rfl,hv,h⟩:=h
  obtain ⟨⟨k1,k2,k3,k4,k5⟩,k⟩:=k
  obtain ⟨m,hn,hl⟩:=I.loc
  obtain ⟨u,rv,lk⟩:=hl j x v k1 hv (.inr (.inl k2))
  have ic:s.heap.IsCell c (some u):=by
   rcases lk with ⟨z,_⟩ | ⟨_,c2,e2,z⟩
   ·have z:X.env.scope.names.lookup x = some .local:=z
    rw [k2] at z
    cases z
   ·rw [k3] at e2
    cases e2
    exact z
  obtain ⟨H1,s1,I1,oc,w,e1,d1⟩:=I.trackC k3 k4 k5 ic
  obtain ⟨H2,s2,I2,q⟩:=Inv.trackAll I1 k h
  exact ⟨H2,s1.trans s2,I2,v,r,oc,u,w,rfl,s2 _ _ e1,d1,rv,q⟩
 | [],[],_ :: _,_,_,_,k,_=>k.elim
 | [],_ :: _,_,_,_,_,k,_=>k.elim
 | _ :: _,[],_,_,_,_,k,_=>k.elim
 | _ :: _,_ :: _,[],_,_,_,k,_=>k.elim
noncomputable def tLam (l:LamT) (js:List Nat):TE:=fun σ H Q=>∃ us,Qkq σ js us ∧ ∀ f H1,Same H H1 → CloAt H1 f l us → Q (.ref f) H1
theorem Q98 {l:LamT} {js:List Nat} {c tb:Addr} {pos:Pos} {cs:List Addr} (hcode:X.env.code = .ref c) (hC:X.K.In X.base → PySem.W.CodeHd X.base c tb) (hT:Qsy X.K tb l.qual) (hq:X.env.qual ++ "<lambda>" = l.qual)
  (hdef:defaultsOf l.params X.env = ([],[])) (hcl:closureFor l.scope X.env = pure (l.caps.zip cs)) (hcp:Qlu X l.caps cs js) (nd:cs.Nodup) (hlen:cs.length = l.caps.length) :
  PE X (.Lambda l.params l.body l.scope pos) (tLam l js):=by
 intro pins s σ H Q I h
 obtain ⟨us,hus,h⟩:=h
 refine PySem.W.kla_eval hdef ?_
 rw [hq]
 have ht:=I.tab tb l.qual hT
 obtain ⟨ps,hP,htr,hal⟩:=(show ObjOk X.prog X.w H s.heap tb (.tbl l.qual) from I.hok tb _ ht)
 have hg:s.heap.Ns mainGlobals X.mg:=I.mod.glob.keeps I.bk
 have hC':=(hC I.mod.kin).keeps I.bk
 obtain ⟨bm,ob,b1,b2,b3,b4,b5,b6⟩:=I.mod.bm
 have hbt:bm ≠ tb:=fun z=>by
  have q:=(I.bs bm ob b3).2
  rw [z,ht] at q
  cases q
 have hbG:bm ≠ mainGlobals:=fun z=>by
  obtain ⟨o,es,ep,e,hd,_⟩:=hg
  have e':=(I.bs bm ob b3).1
  rw [z,e] at e'
  cases e'
  rw [hd] at b6
  cases b6
 have hgP:mainGlobals ≠ tb:=fun z=>by
  obtain ⟨o,es,ep,e,hd,_⟩:=hg
  rw [z,hP] at e
  cases e
  cases hd
 have hB:s.heap.BuiltinsAt X.mg tb:=⟨bm,ob,b1,b2,hbG,hbt,(I.bs bm ob b3).1,b4,b5,b6⟩
 have fin:∀ (H1:Hp) (s1:Shared) (f c':Addr) (pm ctv:Value),Same H H1 → Inv X pins σ H1 s1 → H1 f = some (.frz (PySem.W.kla_obj "<lambda>" l.qual l.params l.body l.scope (l.caps.zip cs) pm c' ctv) (.own f)) → H1 c' = some (.cod l.qual) → EP X pins σ Q (.ref f) s1 :=
  fun H1 s1 f c' pm ctv sm I1 e1 e2=>by
   obtain ⟨H2,s2,I2,q⟩:=I1.trackAll hcp hus
   exact ⟨.ref f,H2,I2,rfl,h f H2 (sm.trans s2) ⟨cs,c',pm,ctv,nd,hlen,s2 _ _ e1,s2 _ _ e2,q⟩⟩
 cases e:codeAmong pos ps.toList with
 | some cv =>
  obtain ⟨c',rfl,hc'⟩:=hal pos cv e
  refine PySem.W.kla_makeFunctionHit (mg:=X.mg) hcl I.ok.glob hg hcode hC' hP htr e hB fun ctv h' tk hk hsz=>?_
  have n1:H h'.objs.size = none:=I.hok.fresh hsz
  exact fin (upd H h'.objs.size (.frz _ (.own _))) _ _ c' _ ctv (Same.upd n1) (I.laid (t':=tk) (fun b u q=>Heap.get?_push_of_some _ (hk b u q)) hsz ⟨Heap.get?_push_size _ rfl,_,Heap.get?_push_size _ rfl⟩) Qp (Same.upd n1 _ _ hc')
 | none =>
  refine PySem.W.kla_makeFunction (mg:=X.mg) hcl I.ok.glob hg hcode hC' hP htr e hgP hB fun c' ctv h' tk hx hge hlt hrec htb=>?_
  have hcn:H c' = none:=I.hok.fresh hge
  have sm:Same H (upd H c' (.cod l.qual)):=Same.upd hcn
  have hne:∀ b,H b = none → b ≠ tb:=fun b n z=>by rw [z,ht] at n; cases n
  have I0:Inv X pins σ (upd H c' (.cod l.qual)) { s with heap:=h',toks:=tk }:=by
   refine I.un (t':=tk) ⟨fun b o q n _ _=>hx b o (hne b n) q,fun b o q n _ _=>⟨o.slots,hx b o (hne b n) q⟩,fun b o q n _=>?_,fun b o q _=>?_,fun b xs q=>sm _ _ q,fun b o u q=>sm _ _ q,fun b z q=>sm _ _ q⟩ fun b u q=>?_
   ·rw [Q4 (Nat.ne_of_lt (Nat.lt_of_lt_of_le (Heap.lt_size q) hge))]; exact n
   ·by_cases hb:b = tb
    ·subst hb; exact ⟨_,htb⟩
    ·exact ⟨o,hx b o hb q⟩
   ·by_cases hb:b = c'
    ·subst hb
     rw [Qp] at q
     cases q
     exact hrec
    ·rw [Q4 hb] at q
     by_cases hbt:b = tb
     ·subst hbt
      rw [ht] at q
      cases q
      refine ⟨_,htb,by rw [Array.toList_append]; exact TriplesOk_snoc _ _ _ _ htr,fun p cv hcv=>?_⟩
      rw [Array.toList_append] at hcv
      rcases Qxg _ htr hcv with z | z
      ·obtain ⟨d,rfl,hd⟩:=hal p cv z
       exact ⟨d,rfl,sm _ _ hd⟩
      ·exact ⟨c',z,Qp⟩
     ·refine (I.hok b u q).stay (fun d v hd r=>hx d v ?_ r) (fun _ r=>sm _ _ r) (fun _ _ r=>sm _ _ r) fun _ _ r=>sm _ _ r
      rcases hd with z | z
      ·rw [z]; exact hbt
      ·intro z2; rw [z2,ht] at z; cases z
  have n1:(upd H c' (.cod l.qual)) h'.objs.size = none:=I0.hok.fresh (Nat.le_refl _)
  exact fin (upd (upd H c' (.cod l.qual)) h'.objs.size (.frz _ (.own _))) _ _ c' _ ctv (sm.trans (Same.upd n1)) (I0.laid (t':=tk) (fun b u q=>Heap.get?_push_of_some _ q) (Nat.le_refl _) ⟨Heap.get?_push_size _ rfl,_,Heap.get?_push_size _ rfl⟩) Qp (Same.upd n1 _ _ Qp)
end
theorem CellsAt.dls {H:Hp} {G:Addr → Prop} (hp:Pen H G):∀ {cs:List Addr} {vs:List V},CellsAt H cs vs → CellsAt (dls H G) cs vs
 | [],_,r=>r
 | c :: cs,_,r=>by
  obtain ⟨v,w,oc,u,w',e,a,b,d,q⟩:=r
  refine ⟨v,w,oc,u,w',e,?_,b,d,CellsAt.dls hp q⟩
  rw [Qcb]
  ·exact a
  ·intro z
   obtain ⟨o,e1,e2⟩:=hp c z
   rw [a] at e1
   cases e1
   cases e2
theorem CloAt.dls {H:Hp} {G:Addr → Prop} {f:Addr} {l:LamT} {us:List V} (hp:Pen H G) (r:CloAt H f l us):CloAt (dls H G) f l us:=by
 obtain ⟨cs,c',pm,ctv,a,b,c,d,e⟩:=r
 refine ⟨cs,c',pm,ctv,a,b,?_,?_,e.dls hp⟩
 ·rw [Qcb]
  ·exact c
  ·intro z
   obtain ⟨o,e1,e2⟩:=hp f z
   rw [c] at e1
   cases e1
   cases e2
 ·rw [Qcb]
  ·exact d
  ·intro z
   obtain ⟨o,e1,e2⟩:=hp c' z
   rw [d] at e1
   cases e1
   cases e2
theorem CloAt.undls {H:Hp} {G:Addr → Prop} {f:Addr} {l:LamT} {us:List V} (r:CloAt (L2.dls H G) f l us):CloAt H f l us:=r.mono fun b o e=>(Qah e).2
theorem Qrr {B:Bs} {H:Hp} {G:Addr → Prop} {σ:St} {ρ:En} (F:FI B H G σ ρ):∀ {js:List Nat} {ts:List T},Qpb js ρ = some ts → ∃ us,Qkq σ js us ∧ IsL (dls H G) us ts
 | [],ts,e=>by cases e; exact ⟨[],rfl,.nil⟩
 | j :: js,ts,e=>by
  unfold Qpb at e
  cases hs:Qa ρ j with
  | fz t =>
   cases e2:Qpb js ρ with
   | none=>rw [hs,e2] at e; cases e
   | some us =>
    rw [hs,e2] at e
    cases e
    obtain ⟨vs,a,b⟩:=Qrr F e2
    have q:=F.slot j
    rw [hs] at q
    obtain ⟨v,q1,q2⟩:=q
    exact ⟨v :: vs,⟨v,vs,rfl,q1,a⟩,.cons q2 b⟩
  | _=>rw [hs] at e; cases e
section
variable {X:Cx} {p:Pr}
theorem Qaef {k:Nat} {l:LamT} {js:List Nat} {c tb:Addr} {pos:Pos} {cs:List Addr} (hl:Qcw.lookup k = some l) (hcode:X.env.code = .ref c) (hC:X.K.In X.base → PySem.W.CodeHd X.base c tb) (hT:Qsy X.K tb l.qual) (hq:X.env.qual ++ "<lambda>" = l.qual)
  (hdef:defaultsOf l.params X.env = ([],[])) (hcl:closureFor l.scope X.env = pure (l.caps.zip cs)) (hcp:Qlu X l.caps cs js) (nd:cs.Nodup) (hlen:cs.length = l.caps.length) :
  QE X (.Lambda l.params l.body l.scope pos) (tE p (.lam k js)):=(⟨Q98 hcode hC hT hq hdef hcl hcp nd hlen⟩:QE X _ (tLam l js)).weak fun σ H Q ⟨G,ρ,F,h⟩=>by
 unfold evE at h
 cases e:Qpb js ρ with
 | none=>rw [e] at h; exact h.elim
 | some ts =>
  rw [e] at h
  obtain ⟨us,h1,h2⟩:=Qrr F e
  refine ⟨us,h1,fun f H1 sm q=>h (.ref f) H1 G (F.grow sm) ?_⟩
  show Is (dls H1 G) (.ref f) (.clo k ts)
  unfold Is
  exact ⟨f,us,l,rfl,hl,q.dls (F.prv.mono sm),h2.mono (Qbn sm)⟩
end
noncomputable def Qlv (P:Program) (w:World) (K:PySem.W.Frag) (mg:Str → Option Value) (base:Heap) (cf:CF) (n:Nat):Prop :=
 ∀ (k:Nat) (l:LamT),Qcw.lookup k = some l → ∀ (A:Around) (outer:List Env) (s:Shared) (H:Hp) (f:Addr) (us vs:List V) (ws:List Value) (Q:VK),Room n A → Env0 P w K mg base A outer s H → CloAt H f l us → Vals vs ws →
  spF cf mg k (vs ++ us) H Q (fun _ _ _=>False) → codeAny (model P w) A (.call (.ref f) ⟨ws,[]⟩) (CR CX0 outer P w H s Q fun _ _ _=>False) s
theorem CloAt.fnAt {P:Program} {w:World} {H:Hp} {h:Heap} {f:Addr} {l:LamT} {us:List V} (r:CloAt H f l us) (ok:HOk P w H h):PySem.W.FnAt f h:=by
 obtain ⟨cs,c',pm,ctv,a,b,c,d,e⟩:=r
 exact ⟨_,_,_,_,(ok f _ c).1⟩
theorem PVRs.app {H0 H:Hp} {G:Addr → Prop} {σ:St} {ρ:En}:∀ {vs:List V} {rs:List PV} {us:List V} {ts:List T},PVRs H0 H G σ ρ vs rs → IsL (dls H G) us ts → PVRs H0 H G σ ρ (vs ++ us) (rs ++ ts.map PV.fz)
 | _,_,us,[],.nil,q=>by unfold IsL at q; subst q; exact .nil
 | _,_,us,t :: ts,.nil,q=>by
  unfold IsL at q
  obtain ⟨v,r,rfl,a,b⟩:=q
  exact .cons a (PVRs.app (vs:=[]) (rs:=[]) .nil b)
 | _,_,us,ts,.cons a b,q=>.cons a (PVRs.app b q)
section
variable {X:Cx} {p:Pr} {x:Str} {i n:Nat} {e:Expr} {es:List Expr} {es':Es} {p1 pos:Pos}
noncomputable def tApp (i:Nat) (mg:Str → Option Value) (cf:CF) (t:TA):TE:=fun σ H Q=>∃ f,σ[i]? = some (some (.ref f)) ∧ t σ H fun vs H1=>∃ k l us,Qcw.lookup k = some l ∧ CloAt H1 f l us ∧ spF cf mg k (vs ++ us) H1 Q fun _ _ _=>False
theorem Q99 {t:TA} {cf:CF} (hL:Qlv X.prog X.w X.K X.mg X.base cf n) (hr:Room n X.A) (hN:X.N[i]? = some x) (hv:Vis X.env.scope x) (ha:PA X (e :: es) t) (hd:(x == ("__debug__" : Str)) = false) (hcd:(x == ("__classdict__" : Str)) = false)
  (he:starEach (e :: es) X.env = (false,eval e X.env) :: starEach es X.env) (hpl:(backTo pos (starEach es X.env)).any (·.1) = false):PE X (.Call (.Name x p1) (e :: es) [] pos) (tApp i X.mg cf t):=by
 intro pins s σ H Q I h
 obtain ⟨f,hf,h⟩:=h
 refine wpAny_Call_Name_kw (thn (Qx3 hN hv hd hcd pins s σ H (fun v H1=>v = .ref f ∧ H1 = H) I ⟨_,hf,rfl,rfl⟩) fun u s1 ⟨v,H1,I1,rv,e1,e2⟩=>?_)
 subst e1
 subst e2
 obtain rfl:u = Value.ref f:=rv
 have key:=thn (ha pos pins s1 σ H1 _ I1 h) (Q':=fun us s2=>PySem.W.FnAt f s2.heap ∧ wpAny (model X.prog X.w) X.A (call (.ref f) ([] ++ us)) (EP X pins σ Q) X.xe s2) fun us s2 ⟨vs,H2,I2,r,k,l,cs,hl,hc,q⟩=>⟨hc.fnAt I2.hok,?_⟩
 ·show wpAny _ _ (callWith pos (.ref f) [] (backTo pos (starEach (e :: es) X.env)) []) _ _ _
  rw [he] at key ⊢
  exact PySem.W.callWith_of (by show ((false || (backTo pos (starEach es X.env)).any (·.1)) || false) = false; rw [hpl]; rfl) PySem.W.keeps_F (PySem.Calls.evalArgs_plain key)
 ·refine wpAny_call (codeAny_mono (hL k l hl X.A X.stack s2 H2 f cs vs us Q hr I2.env0 hc r q) fun rr s' hq'=>?_)
  cases rr with
  | error ev=>exact False.elim hq'
  | ok fl =>
   cases fl with
   | ret u=>exact I2.after hq'
   | next=>exact False.elim hq'
   | brk=>exact False.elim hq'
   | cont=>exact False.elim hq'
theorem Qaaa {σ:St} {H:Hp} {Q:VK} (h:tE p (.app i es') σ H Q):∃ f,σ[i]? = some (some (.ref f)) ∧ tA p es' σ H fun vs H1=>∃ k l us,Qcw.lookup k = some l ∧ CloAt H1 f l us ∧ spF p.cf p.mg k (vs ++ us) H1 Q fun _ _ _=>False:=by
 obtain ⟨G,ρ,F,h⟩:=h
 unfold evE at h
 have hs:∃ k ts,Qa ρ i = .fz (.clo k ts):=by
  cases e:Qa ρ i with
  | fz t =>
   cases t with
   | clo k ts=>exact ⟨k,ts,rfl⟩
   | _=>rw [e] at h; exact False.elim h
  | _=>rw [e] at h; exact False.elim h
 obtain ⟨k0,ts0,e0⟩:=hs
 rw [if_pos (by rw [e0]; rfl)] at h
 have q0:=F.slot i
 rw [e0] at q0
 obtain ⟨v0,hv0,i0⟩:=q0
 unfold Is at i0
 obtain ⟨f,us0,l0,rfl,_,_,_⟩:=i0
 refine ⟨f,hv0,G,ρ,F,h.bind.imp fun rs ρ1 h1 vs H1 G1 F1 r1=>?_⟩
 unfold Qzq at h1
 cases e1:Qa ρ1 i with
 | fz t =>
  cases t with
  | clo k ts =>
   rw [e1] at h1
   have q1:=F1.slot i
   rw [e1] at q1
   obtain ⟨v1,hv1,i1⟩:=q1
   rw [hv0] at hv1
   cases hv1
   unfold Is at i1
   obtain ⟨f1,us,l,ef,hl,hc,il⟩:=i1
   cases ef
   refine ⟨k,l,us,hl,hc.undls,?_⟩
   replace h1:Fin p (Qaw H G σ ρ) σ (Qu8 (Qgs p.cf k (rs ++ ts.map PV.fz) ρ1)) _:=h1
   have r2:=r1.app il
   unfold Qgs at h1
   by_cases hb:Qv (rs ++ ts.map PV.fz) = true
   ·rw [if_pos hb] at h1
    cases ea:Qy ρ1 (rs ++ ts.map PV.fz) with
    | none=>rw [ea] at h1; exact False.elim h1
    | some as =>
     rw [ea] at h1
     obtain ⟨G',F',A⟩:=Qvd (B:=Qaw H G σ ρ) F1 r2 ea hb
     have hv:∀ (k i:Nat) (v:V),(rs ++ ts.map PV.fz)[k]? = some (.sl i) → (vs ++ us)[k]? = some v → σ[i]? = some (some v):=fun k i v e1 e2=>r2.get e2 e1
     refine ⟨G',as,A,F'.prv,?_⟩
     cases ec:p.cf k as with
     | no=>simp only [ec] at h1; exact False.elim h1
     | xn z fin=>simp only [ec] at h1; exact False.elim h1
     | ok r fin =>
      simp only [ec] at h1
      refine fun v H' G2 C rr=>h1 v H' G2 (F'.called A hv r2.len ea hb C) ?_
      cases r with
      | sl i=>exact False.elim rr
      | fz t=>exact rr
      | ow t =>
       obtain ⟨a,rfl,n,g,o⟩:=rr
       refine ⟨a,rfl,F'.free n,g,fun i hp=>?_,o⟩
       obtain ⟨w,e⟩:=Qi9 hp.1.choose_spec
       obtain ⟨_,t,ob,ea,_⟩:=PrvAt.at F' ⟨⟨w,e⟩,hp.2⟩
       rw [n] at ea
       cases ea
   ·rw [if_neg hb] at h1
    exact False.elim h1
  | _=>rw [e1] at h1; exact False.elim h1
 | _=>rw [e1] at h1; exact False.elim h1
theorem Qaeh (hL:Qlv X.prog X.w X.K X.mg X.base p.cf n) (hm:p.mg = X.mg) (hr:Room n X.A) (hN:X.N[i]? = some x) (hv:Vis X.env.scope x) (ha:QA X (e :: es) (tA p es')) (hd:(x == ("__debug__" : Str)) = false) (hcd:(x == ("__classdict__" : Str)) = false)
  (h1:Q1 e = true) (h2:es.all Q1 = true):QE X (.Call (.Name x p1) (e :: es) [] pos) (tE p (.app i es')) :=
 (⟨Q99 hL hr hN hv ha.h hd hcd (Qbm h1) (Qgv h2)⟩:QE X _ (tApp i X.mg p.cf (tA p es'))).weak fun σ H Q h=>by
  have q:=Qaaa h
  rw [hm] at q
  exact q
end
structure LamSc (l:LamT):Prop where
 kind:l.scope.kind = .function
 co:l.scope.isCoroutine = false
 gen:l.scope.isGenerator = false
 nd:(l.ps ++ l.caps).Nodup
 par:∀ x ∈ l.ps,l.scope.names.lookup x = some .local
 cap:∀ x ∈ l.caps,l.scope.names.lookup x = some .free
 nocell:∀ y ∈ l.scope.names,y.2 ≠ .cell
 free:∀ y ∈ l.scope.names,y.2 = .free → y.1 ∈ l.caps
 bind:∀ (cl:List (Str × Addr)) (pm cdv ctv:Value) (us:List Value),us.length = l.ps.length → bindArgs (PySem.W.kla_fn "<lambda>" l.qual l.params l.body l.scope cl pm cdv ctv) ⟨us,[]⟩ = pure (l.ps.zip us)
noncomputable def Qvi (P:Program) (w:World) (K:PySem.W.Frag) (mg:Str → Option Value) (base:Heap) (N:List Str) (qual:Str) (scope:Scope) (f:Addr) (cd:Value) (cl:List (Str × Addr)) (A:Around) (outer:List Env) (s:Shared) (H:Hp):Cx where
 prog:=P
 w:=w
 K:=K
 mg:=mg
 base:=base
 A:=A.deeper (PySem.W.envX qual scope s.heap.objs.size f cd cl)
 N:=N
 s₀:=s
 H₀:=H
 env:=PySem.W.envX qual scope s.heap.objs.size f cd cl
 outer:=outer
 stack:=PySem.W.envX qual scope s.heap.objs.size f cd cl :: outer
 ex:=[]
 calm:=true
 fn:=fun _=>false
 pn:=[]
 xe:=fun _ _=>False
theorem Qpj {α:Type} {x:Str} {v:α}:∀ {l:List (Str × α)},(l.map (·.1)).Nodup → (x,v) ∈ l → l.lookup x = some v
 | [],_,h=>by cases h
 | (y,w) :: l,nd,h=>by
  rw [List.map_cons,List.nodup_cons] at nd
  rw [List.lookup_cons]
  rcases List.mem_cons.mp h with z | z
  ·cases z; rw [beq_self_eq_true]
  ·have ne:x ≠ y:=fun e=>nd.1 (by subst e; exact List.mem_map_of_mem (f:=(·.1)) z)
   rw [beq_eq_false_iff_ne.mpr ne]
   exact Qpj nd.2 z
theorem Qlw {α:Type}:∀ {xs:List Str} {ys:List α},ys.length = xs.length → (xs.zip ys).map (·.1) = xs
 | [],_,_=>by simp
 | x :: xs,[],h=>by cases h
 | x :: xs,y :: ys,h=>by rw [List.zip_cons_cons,List.map_cons,Qlw (by simpa using h)]
theorem CellsAt.at {H:Hp}:∀ {cs:List Addr} {us:List V},CellsAt H cs us → us.length = cs.length ∧ ∀ (i:Nat) (c:Addr),cs[i]? = some c → ∃ v oc u w,us[i]? = some v ∧ H c = some (.frz oc w) ∧ oc.data = .cell (some u) ∧ RelV v u
 | [],us,h=>by
  have h:us = []:=h
  subst h
  exact ⟨rfl,fun i c e=>by simp at e⟩
 | c :: cs,us,h=>by
  obtain ⟨v,r,oc,u,w,rfl,a,b,d,q⟩:=h
  obtain ⟨q1,q2⟩:=q.at
  refine ⟨by simp [q1],fun i d e=>?_⟩
  cases i with
  | zero=>simp at e; subst e; exact ⟨v,oc,u,w,rfl,a,b,‹_›⟩
  | succ i =>
   rw [List.getElem?_cons_succ] at e ⊢
   exact q2 i d e
section
variable {P:Program} {w:World} {K:PySem.W.Frag} {mg:Str → Option Value} {base:Heap}
theorem Q4o {l:LamT} {f:Addr} {cd:Value} {A:Around} {outer:List Env} {s:Shared} {H:Hp} {h1:Heap} {tk:Nat} {cs:List Addr} {us vs:List V} {ws:List Value} (S:LamSc l) (hd:A.handled = none) (e0:Env0 P w K mg base A outer s H)
  (nd:cs.Nodup) (hl:cs.length = l.caps.length) (hc:CellsAt H cs us) (hv:ws.length = l.ps.length) (r:Vals vs ws) (hns:h1.Ns s.heap.objs.size fun x=>(l.ps.zip ws).reverse.lookup x) (hk:∀ b o,s.heap.get? b = some o → h1.get? b = some o) :
  Inv (Qvi P w K mg base (l.ps ++ l.caps) l.qual l.scope f cd (l.caps.zip cs) A outer s H) [] (Qbk (l.ps ++ l.caps) (vs ++ us)) H { s with heap:=h1,toks:=tk }:=by
 obtain ⟨hu,hca⟩:=hc.at
 have noA:∀ b:Addr,b ∉ (Qvi P w K mg base (l.ps ++ l.caps) l.qual l.scope f cd (l.caps.zip cs) A outer s H).ex:=fun b z=>absurd (show b ∈ ([]:List Addr) from z) (by simp)
 have ndc:l.caps.Nodup:=(List.nodup_append.mp S.nd).2.1
 have ndp:l.ps.Nodup:=(List.nodup_append.mp S.nd).1
 have key:∀ x c,(l.caps.zip cs).lookup x = some c → ∃ i,l.caps[i]? = some x ∧ cs[i]? = some c:=fun x c e=>by
  obtain ⟨i,hi⟩:=List.getElem?_of_mem (PySem.mem_of_lookup e)
  rw [List.getElem?_zip_eq_some] at hi
  exact ⟨i,hi⟩
 have kc:∀ i x c,l.caps[i]? = some x → cs[i]? = some c → (l.caps.zip cs).lookup x = some c:=fun i x c h1 h2 =>
  Qpj (by rw [Qlw hl]; exact ndc) (List.mem_of_getElem? (i:=i) (by rw [List.getElem?_zip_eq_some]; exact ⟨h1,h2⟩))
 have vl:vs.length = l.ps.length:=by rw [r.length,hv]
 refine ⟨⟨e0.mod,S.kind,rfl,rfl,Nat.le_refl _,fun y z c h1 h2=>?_,fun y hy=>?_,fun y c z _=>absurd (show false = true from z) (by decide),fun _=>hd,Around.frames_deeper e0.frames,.inr ⟨rfl,rfl⟩,fun b z=>absurd z (noA b),e0.bs,e0.bsz,fun b _ _=>noA b,fun b z=>absurd z (noA b),e0.funs,e0.frf⟩,
  rfl,e0.bare,Un.kept hk,⟨_,hns,fun i y v h1 h2 h3=>?_⟩,fun y c h=>?_,e0.hok.fresh (Nat.le_refl _),fun y c h=>?_,fun p hp=>absurd (show p ∈ ([]:List (Addr × Obj)) from hp) (by simp),e0.hok.kept hk,?_⟩
 ·obtain ⟨i,i1,i2⟩:=key y c h1
  obtain ⟨j,j1,j2⟩:=key z c h2
  have:i = j:=by
   obtain ⟨p1,p2⟩:=List.getElem?_eq_some_iff.mp i2
   obtain ⟨r1,r2⟩:=List.getElem?_eq_some_iff.mp j2
   exact (List.getElem_inj nd).mp (p2.trans r2.symm)
  subst this
  rw [i1] at j1
  exact Option.some.inj j1
 ·have hy:l.scope.names.lookup y = some .cell ∨ l.scope.names.lookup y = some .free:=hy
  rcases hy with hy | hy
  ·exact absurd rfl (S.nocell _ (PySem.mem_of_lookup hy))
  ·obtain ⟨i,hi⟩:=List.getElem?_of_mem (S.free _ (PySem.mem_of_lookup hy) rfl)
   have:i < cs.length:=by rw [hl]; exact (List.getElem?_eq_some_iff.mp hi).1
   exact ⟨_,kc i y _ hi (List.getElem?_eq_getElem this)⟩
 ·have e:=Qjy h2
  rcases Nat.lt_or_ge i l.ps.length with hi | hi
  ·rw [List.getElem?_append_left (by rw [vl]; exact hi)] at e
   obtain ⟨u,eu,rv⟩:=r.get e
   have h1:(l.ps ++ l.caps)[i]? = some y:=h1
   rw [List.getElem?_append_left hi] at h1
   refine ⟨u,rv,.inl ⟨S.par y (List.mem_of_getElem? h1),?_⟩⟩
   refine Qpj ?_ (List.mem_reverse.mpr (List.mem_of_getElem? (i:=i) (by rw [List.getElem?_zip_eq_some]; exact ⟨h1,eu⟩)))
   rw [List.map_reverse,Qlw hv]
   exact ((List.reverse_perm _).nodup_iff).mpr ndp
  ·rw [List.getElem?_append_right (by rw [vl]; exact hi),vl] at e
   have h1:(l.ps ++ l.caps)[i]? = some y:=h1
   rw [List.getElem?_append_right hi] at h1
   have hlt:i - l.ps.length < cs.length:=by rw [hl]; exact (List.getElem?_eq_some_iff.mp h1).1
   obtain ⟨v',oc,u,w',q1,q2,q3,q4⟩:=hca _ _ (List.getElem?_eq_getElem hlt)
   rw [e] at q1
   cases q1
   refine ⟨u,q4,.inr ⟨.inr (S.cap y (List.mem_of_getElem? h1)),_,kc _ y _ h1 (List.getElem?_eq_getElem hlt),oc,?_,q3⟩⟩
   exact hk _ _ (e0.hok _ _ q2).1
 ·obtain ⟨i,i1,i2⟩:=key y c h
  obtain ⟨v',oc,u,w',q1,q2,q3,q4⟩:=hca _ _ i2
  exact ⟨some u,oc,hk _ _ (e0.hok _ _ q2).1,q3⟩
 ·obtain ⟨i,i1,i2⟩:=key y c h
  obtain ⟨v',oc,u,w',q1,q2,q3,q4⟩:=hca _ _ i2
  exact .inr ⟨rfl,oc,w',q2⟩
 ·show (Qbk (l.ps ++ l.caps) (vs ++ us)).length = (l.ps ++ l.caps).length
  unfold Qbk
  rw [List.length_append,List.length_map,List.length_replicate,List.length_append,List.length_append]
  omega
noncomputable def Qpk (P:Program) (w:World) (K:PySem.W.Frag) (mg:Str → Option Value) (base:Heap) (ds:List Df) (l:LamT) (e:E):Prop :=
 ∀ (cf:CF) (n:Nat) (R:XR) (f:Addr) (cdv:Value) (cl:List (Str × Addr)) (A:Around) (outer:List Env) (s:Shared) (H:Hp),Qlr P w K mg base ds cf n → Qlv P w K mg base cf n →
  Qj6 (Qvi P w K mg base (l.ps ++ l.caps) l.qual l.scope f cdv cl A outer s H) R → Room n (A.deeper (PySem.W.envX l.qual l.scope s.heap.objs.size f cdv cl)) →
  QE (Qvi P w K mg base (l.ps ++ l.caps) l.qual l.scope f cdv cl A outer s H) l.body (tE ⟨cf,R,mg⟩ e)
noncomputable abbrev swX (X:Cx) (g:Str → Bool):Cx:={ X with fn:=g }
theorem Inv.sw {X:Cx} {pins:List (Addr × Obj)} {σ:St} {H:Hp} {s:Shared} {g:Str → Bool} (hle:∀ x,g x = true → X.fn x = true) (I:Inv X pins σ H s):Inv (swX X g) pins σ H s :=
 ⟨⟨I.ok.mod,I.ok.kind,I.ok.glob,I.ok.blt,I.ok.above,I.ok.inj,I.ok.has,fun x c h e=>I.ok.cab x c (hle x h) e,I.ok.hd,I.ok.frames,I.ok.stk,I.ok.exf,I.ok.bs,I.ok.bsz,I.ok.noex,I.ok.exfs,I.ok.funs,I.ok.frf⟩,
  I.os,I.bare,I.base,I.loc,I.cell,I.free,fun x c e=>(I.freeC x c e).imp (fun z=>z) fun ⟨hf,r⟩=>⟨(show g x = false from Bool.eq_false_iff.mpr fun hg=>Bool.false_ne_true (hf.symm.trans (hle x hg))),r⟩,I.pin,I.hok,I.len⟩
structure QB0 (X:Cx) (g:Str → Bool) (st:List Stmt) (t:TS):Prop where
 h:∀ (pins:List (Addr × Obj)) (s:Shared) (σ:St) (H:Hp) (D:Ends),Inv X pins σ H s → t D σ H → wpAny (model X.prog X.w) X.A (execs st X.env) (SP (swX X g) pins D) X.xe s
theorem q0 {X:Cx} {g:Str → Bool} {st:List Stmt} {t:TS} (hle:∀ x,g x = true → X.fn x = true) (h:QB (swX X g) st t):QB0 X g st t:=⟨fun pins s σ H D I q=>h.h pins s σ H D (I.sw hle) q⟩
theorem Qaab {g1 g2:Str → Bool} {CX:CXT} {P:Program} {w:World} {K:PySem.W.Frag} {mg:Str → Option Value} {base:Heap} {k:Nat} {f:Addr} {name qual:Str} {params:Arguments} {body:List Stmt} {scope:Scope} {dV kV doc pm cdv ct oc:Value} {an od:Option Addr}
  {osl:Array (Option Value)} {N ps:List Str} {sp:Sp} (lk:K.lookup f = some ⟨oc,od,.func (PySem.W.fnOf name qual params body scope dV kV doc pm an cdv ct),osl⟩) (hcd:PySem.W.codeIn K cdv qual = true) (S:FnScope N ps scope)
  (len:∀ vs H Q E,sp vs H Q E → vs.length = ps.length)
  (hbody:∀ (A:Around) (outer:List Env) (s:Shared) (H:Hp) (vs:List V) (Q:VK) (E:XK),Room k (A.deeper (envOfC qual scope s.heap.objs.size f cdv)) → sp vs H Q E →
   ∃ t,QB0 (Qhq g1 CX P w K mg base N qual scope f cdv A outer s H E) g2 body t ∧ t { nx:=fun _ H'=>Q .non H',rt:=Q } (Qbk N vs) H) :
  FnOk P w K mg base CX (k + 1) f (PySem.W.fnOf name qual params body scope dV kV doc pm an cdv ct) ps sp:=by
 refine ⟨len,fun A outer s H args us vs Q E hr e0 hb r hsp=>?_⟩
 have hl:=len _ _ _ _ hsp
 have KX:K.In s.heap:=e0.mod.kin.keeps fun b o e=>(e0.bs b o e).1
 have lim:s.heap.NoLimit:=e0.mod.nolimit.keeps fun b o e=>(e0.bs b o e).1
 have hkind:∀ y ∈ ps.zip us,scope.names.lookup y.1 = some .local ∨ (scope.names.lookup y.1 = some .cell ∧ ((cellsFrom (s.heap.objs.size + 1) scope.names []).lookup y.1).isSome = true):=fun ⟨n,v⟩ hy=>by
  rcases S.par n (List.of_mem_zip hy).1 with q | q
  ·exact .inl q
  ·exact .inr ⟨q,PySem.W.cellsFrom_some _ _ _ (.inl q)⟩
 refine codeAny_call_function hr.depth (KX _ _ lk) rfl S.co S.gen rfl (PySem.W.codeRec_of KX hcd) (hb _ _ _ _ ?_)
 refine wpAny_newFunctionEnv_cells S.kind hkind fun env he s1 x=>?_
 subst he
 refine ⟨lim.keeps x.toInCall.keep,codeAny_func ?_⟩
 obtain ⟨t,ht,hq⟩:=hbody A outer s H vs Q E (hr.deeper _) hsp
 have I:Inv (Qhq g1 CX P w K mg base N qual scope f cdv A outer s H E) [] (Qbk N vs) H s1:=Qnw S hr.hd e0 hl r x
 refine wpAny_mono (ht.h [] s1 (Qbk N vs) H _ I hq) (fun fl s' hs=>?_) fun e s' hs=>hs
 cases fl with
 | ret u =>
  obtain ⟨v,σ',H',J,rv,q⟩:=hs
  exact ⟨v,H',J.os,J.bare,J.base,J.hok,rv,q⟩
 | next =>
  obtain ⟨σ',H',J,q⟩:=hs
  exact ⟨.non,H',J.os,J.bare,J.base,J.hok,rfl,q⟩
 | brk =>
  obtain ⟨_,_,_,q⟩:=hs
  exact False.elim q
 | cont =>
  obtain ⟨_,_,_,q⟩:=hs
  exact False.elim q
noncomputable def Qu (P:Program) (w:World) (K:PySem.W.Frag) (mg:Str → Option Value) (base:Heap) (ds:List Df) (d:Df):Prop :=
 ∀ (cf:CF) (n:Nat) (R:XR) (f:Addr) (cdv:Value) (A:Around) (outer:List Env) (s:Shared) (H:Hp) (E:XK),Qlr P w K mg base ds cf n → Qlv P w K mg base cf n → CodeOf K mg d.x cdv → Qj6 (Qhq d.f1 (CXE P w) P w K mg base d.N d.x (Qg d.st) f cdv A outer s H E) R →
  Qj6 (Qhq d.fc (CXE P w) P w K mg base d.N d.x (Qg d.st) f cdv A outer s H E) R → Room n (A.deeper (envOfC d.x (Qg d.st) s.heap.objs.size f cdv)) →
  QB0 (Qhq d.f1 (CXE P w) P w K mg base d.N d.x (Qg d.st) f cdv A outer s H E) d.fc (Qa9 d.st) (tS ⟨cf,R,mg⟩ d.fn.body)
noncomputable abbrev Qvj (l:LamT) (e:E):Fn:=⟨(l.ps ++ l.caps).length,(l.ps ++ l.caps).length,.ret e⟩
theorem Qaac {p:Pr} {e':E} {D:Ends} {σ:St} {H:Hp} (h:tS p (.ret e') D σ H):tE p e' σ H D.rt:=by
 obtain ⟨B,G,ρ,F,hO,h⟩:=h
 unfold exS at h
 exact Qgk F h fun r ρ2 v H2 G2 k F2 _ pv _=>k v σ H2 G2 F2 pv
theorem Q4p {ds:List Df} {cf cf1:CF} {n k:Nat} {l:LamT} {e:E} (S:LamSc l) (b:Qpk P w K mg base ds l e) (hc:Qlr P w K mg base ds cf n) (hL:Qlv P w K mg base cf n) (hcf:∀ as,cf1 k as = Qa7 cf (Qvj l e) as)
  (A:Around) (outer:List Env) (s:Shared) (H:Hp) (f:Addr) (us vs:List V) (ws:List Value) (Q:VK) (hr:Room (n + 1) A) (e0:Env0 P w K mg base A outer s H) (ca:CloAt H f l us) (rv:Vals vs ws) (hs:spF cf1 mg k (vs ++ us) H Q fun _ _ _=>False) :
  codeAny (model P w) A (.call (.ref f) ⟨ws,[]⟩) (CR CX0 outer P w H s Q fun _ _ _=>False) s:=by
 obtain ⟨cs,c',pm,ctv,nd,hl,hf,hcd,hcells⟩:=ca
 obtain ⟨hu,_⟩:=hcells.at
 obtain ⟨G,as,a,pn,z⟩:=hs
 rw [hcf] at z
 have h2:as.length = (l.ps ++ l.caps).length:=by
  unfold Qa7 at z
  by_cases h2:as.length = (Qvj l e).ps
  ·exact h2
  ·rw [if_neg h2] at z; exact z.elim
 have hw:ws.length = l.ps.length:=by
  have q:=a.len
  rw [List.length_append,h2,List.length_append,hu,hl,rv.length] at q
  omega
 have ht:=Qaac (Qz7 (N:=l.ps ++ l.caps) a pn (by rw [a.len,h2]; exact Nat.le_refl _) rfl z)
 have lim:s.heap.NoLimit:=e0.mod.nolimit.keeps fun b o e=>(e0.bs b o e).1
 refine PySem.W.kla_callFunE hr.depth (e0.hok f _ hf).1 rfl S.co S.gen rfl (e0.hok c' _ hcd) ?_
 rw [S.bind _ _ _ _ ws hw]
 refine wpAny_pure (wpAny_newFunctionEnv S.nocell (fun y hy=>S.par _ (List.of_mem_zip hy).1) (fun h1 hns hsb=>⟨lim.fresh _ hsb,?_⟩) S.kind)
 show codeAny _ _ (.expr l.body (PySem.W.envX l.qual l.scope s.heap.objs.size f (.ref c') (l.caps.zip cs))) _ _
 have hk:∀ b o,s.heap.get? b = some o → h1.get? b = some o:=fun b o e=>hsb.extBut b o (Nat.ne_of_lt (Heap.lt_size e)) (Heap.get?_push_of_some _ e)
 have I:=Q4o (f:=f) (cd:=.ref c') (tk:=s.toks + (l.ps.zip ws).length) S hr.hd e0 nd hl hcells hw rv hns hk
 refine PySem.W.kla_codeExpr (wpAny_mono ((b cf n (fun _ _ _ _=>False) f (.ref c') (l.caps.zip cs) A outer s H hc hL Qx (hr.deeper _)).h [] _ _ H Q I ht) (fun u s' ⟨v,H',J,rvv,q⟩=>?_) fun _ _ z=>False.elim z)
 exact ⟨v,H',J.os,J.bare,J.base,J.hok,rvv,q⟩
noncomputable def Qjb (ds:List Df) (ls:List (Nat × Fn)):Nat → Option Fn:=fun f=>match ds[f]? with
 | some d=>some d.fn
 | none=>ls.lookup f
theorem Qlx {ds:List Df} {ls:List (Nat × Fn)} (ok:∀ (f:Nat) (d:Df),ds[f]? = some d → DfOk K mg d ∧ Qu P w K mg base ds d)
  (okl:∀ (k:Nat) (l:LamT),Qcw.lookup k = some l → ds[k]? = none ∧ LamSc l ∧ ∃ e,ls.lookup k = some (Qvj l e) ∧ Qpk P w K mg base ds l e) :
  ∀ n,Qlr P w K mg base ds (evF (Qjb ds ls) n) n ∧ Qlv P w K mg base (evF (Qjb ds ls) n) n
 | 0=>by
  have no:∀ {f:Nat} {vs:List V} {H:Hp} {Q:VK} {E:XK},spF (evF (Qjb ds ls) 0) mg f vs H Q E → False:=fun h=>by
   obtain ⟨G,as,_,_,z⟩:=h
   exact z
  refine ⟨fun f d e=>?_,fun k l hl A outer s H f us vs ws Q _ _ _ _ h=>(no h).elim⟩
  obtain ⟨g,fd,F,m⟩:=(ok f d e).1.dfn.ex
  exact ⟨g,fd,F.kp,m,F.binds (ok f d e).1.bd,⟨fun vs H Q E h=>(no h).elim,fun A outer s H args us vs Q E _ _ _ _ h=>(no h).elim⟩⟩
 | n + 1=>by
  obtain ⟨ih,ihl⟩:=Qlx ok okl n
  refine ⟨fun f d e=>?_,fun k l hl A outer s H f us vs ws Q hr e0 ca rv h=>?_⟩
  ·obtain ⟨o,b⟩:=ok f d e
   have hcf:∀ as,evF (Qjb ds ls) (n + 1) f as = Qa7 (evF (Qjb ds ls) n) d.fn as:=fun as=>by
    show (match Qjb ds ls f with | some fn=>Qa7 (evF (Qjb ds ls) n) fn as | none=>.no) = _
    unfold Qjb
    rw [e]
   obtain ⟨ff,ffd,F,m⟩:=o.dfn.ex
   refine ⟨ff,ffd,F.kp,m,F.binds o.bd,?_⟩
   obtain ⟨oc,od,kV,doc,pm,an,cdv,ct,osl,rfl,lk,hcd'⟩:=F.ex
   refine Qaab (g1:=d.f1) (g2:=d.fc) lk hcd' o.sc (fun vs H Q E h=>?_) fun A outer s H vs Q E hr h=>?_
   ·obtain ⟨G,as,a,_,z⟩:=h
    rw [hcf] at z
    unfold Qa7 at z
    by_cases h2:as.length = d.fn.ps
    ·rw [a.len,h2,o.ps]
    ·rw [if_neg h2] at z; exact z.elim
   ·obtain ⟨G,as,a,pn,z⟩:=h
    refine ⟨_,b (evF (Qjb ds ls) n) n _ ff cdv A outer s H E ih ihl ⟨ff,_,_,_,_,m,lk,rfl⟩ Q55 Q55 hr,?_⟩
    rw [hcf] at z
    have hl:as.length = d.fn.ps:=by
     unfold Qa7 at z
     by_cases h2:as.length = d.fn.ps
     ·exact h2
     ·rw [if_neg h2] at z; exact z.elim
    have hN:d.ps.length ≤ d.N.length:=by
     have:=congrArg List.length o.sc.pre
     rw [List.length_take] at this
     omega
    exact Qz7 a pn (by rw [a.len,hl,o.ps]; exact hN) o.sz z
  ·obtain ⟨hk,S,e,he,b⟩:=okl k l hl
   refine Q4p (cf:=evF (Qjb ds ls) n) S b ih ihl (fun as=>?_) A outer s H f us vs ws Q hr e0 ca rv h
   show (match Qjb ds ls k with | some fn=>Qa7 (evF (Qjb ds ls) n) fn as | none=>.no) = _
   unfold Qjb
   rw [hk,he]
end
noncomputable def Qaei (tb:Addr) (q:Str) (H:Hp):Prop:=H tb = some (.tbl q) ∧ ∀ b,b ≠ tb → H b = none ∨ ∃ o xs,H b = some (.frz o (.lst xs))
theorem Qxh {P:Program} {w:World} {K:PySem.W.Frag} {mg mb:Str → Option Value} {CX:CXT} {k:Nat} {fa a tb:Addr} {qn:Str} {fd:FuncData} {x:Str} {sp:Sp} {s₁:Shared} {vs:List Value} {ns:List Int}
  (KX:K.In s₁.heap) (hns:s₁.heap.Ns mainGlobals mg) (hb:s₁.heap.Ns builtinsNs mb) (hbb:∀ x:Str,x ≠ "__name__" → mb x = bootBuiltins x) (hlim:s₁.heap.NoLimit) (hg:s₁.gens = #[])
  (ha:s₁.heap.get? a = some { cls:=.type "list",data:=.seq vs.toArray }) (hi:IntsAre vs ns) (hl:ns.length ≤ sizeLine) (hr:Room k callerA)
  (ht:s₁.heap.get? tb = some { cls:=.none,data:=.fields #[] }) (hc:isCodeTable s₁.heap tb) (hKt:K.lookup tb = none) (hT:∀ b q,Qsy K b q → b = tb ∧ q = qn)
  (hbm:∃ bm ob,mg "__builtins__" = some (.ref bm) ∧ bm ≠ builtinsNs ∧ s₁.heap.get? bm = some ob ∧ ob.cls = .type "module" ∧ ob.dict = some builtinsNs ∧ ob.data = .plain)
  (F:∀ base:Heap,K.In base → base.Ns mainGlobals mg → FnOk P w K mg base CX k fa fd [x] sp) (hbind:∀ (s:Shared) (u:Value),BindsTo s fd ⟨[u],[]⟩ [(x,u)])
  (hsp:∀ H:Hp,SqL K H a (ns.map V.int) → sp [.ref a] H (fun v _=>v = .bl true) fun _ _ _=>False)
  (hCX:∀ H e s',CX [] H s₁ (fun _ _ _=>False) e s' → False) :
  codeAny (model P w) callerA (.call (.ref fa) ⟨[.ref a],[]⟩) (fun r s'=>r = .ok (.ret (.bool true)) ∧ OldK s₁.heap s'.heap ∧ s'.os = s₁.os ∧ AllBare s'.gens) s₁:=by
 have rv:=Qny hi
 have lenV:=hi.length
 have hat:a ≠ tb:=fun z=>by rw [z,ht] at ha; cases ha
 have core:∀ H:Hp,Qaei tb qn H → SqL K H a (ns.map V.int) → HOk P w H s₁.heap → (∀ b,H b ≠ none → b = a ∨ b = tb) → (H a ≠ none → K.lookup a = none) →
   codeAny (model P w) callerA (.call (.ref fa) ⟨[.ref a],[]⟩) (fun r s'=>r = .ok (.ret (.bool true)) ∧ OldK s₁.heap s'.heap ∧ s'.os = s₁.os ∧ AllBare s'.gens) s₁:=by
  intro H hO hS hok hA hK
  have base_of:∀ {b:Addr} {o:Obj},s₁.heap.get? b = some o → H b = none → (Qow s₁.heap H).get? b = some o:=fun e n=>Qx1 e n
  have noD:∀ {b:Addr} {o:Obj},s₁.heap.get? b = some o → (∀ xs n,o.data ≠ .seq xs n) → (∀ xs,o.data ≠ .fields xs) → H b = none:=fun {b o} e d1 d2=>by
   cases q:H b with
   | none=>rfl
   | some u =>
    rcases hA b (by rw [q]; simp) with e' | e'
    ·subst e'
     rw [ha] at e; cases e
     exact absurd rfl (d1 _ _)
    ·subst e'
     rw [ht] at e; cases e
     exact absurd rfl (d2 _)
  have nsK:∀ {b:Addr} {m:Str → Option Value},s₁.heap.Ns b m → (Qow s₁.heap H).Ns b m:=fun {b m} ⟨o,es,ep,e,d,r⟩=>⟨o,es,ep,base_of e (noD e (fun _ _ z=>by rw [d] at z; cases z) fun _ z=>by rw [d] at z; cases z),d,r⟩
  have hKb:K.In (Qow s₁.heap H):=fun b o e=>base_of (KX b o e) (by
   cases q:H b with
   | none=>rfl
   | some u =>
    rcases hA b (by rw [q]; simp) with e' | e'
    ·subst e'
     rw [hK (by rw [q]; simp)] at e; cases e
    ·subst e'
     rw [hKt] at e; cases e)
  have hM:Mod K mg (Qow s₁.heap H):=⟨hKb,nsK hns,⟨mb,nsK hb,hbb⟩,let ⟨mc,h1,h2⟩:=hlim; ⟨mc,nsK h1,h2⟩,
   let ⟨bm,ob,b1,b2,b3,b4,b5,b6⟩:=hbm; ⟨bm,ob,b1,b2,base_of b3 (noD b3 (fun _ _ z=>by rw [b6] at z; cases z) fun _ z=>by rw [b6] at z; cases z),b4,b5,b6⟩⟩
  have e0:Env0 P w K mg (Qow s₁.heap H) callerA [] s₁ H:=⟨rfl,hM,fun b o e=>Q2m e,Nat.le_of_eq (Qwo _ _),trivial,⟨fun b hb=>absurd (show b ∈ ([]:List Addr) from hb) (by simp),fun b q z=>by
   obtain ⟨rfl,rfl⟩:=hT b q z
   exact hO.1⟩,hok,.of_eq hg⟩
  refine codeAny_mono ((F _ hKb (nsK hns)).run callerA [] s₁ H ⟨[.ref a],[]⟩ [.ref a] [.ref a] _ _ hr e0 (hbind s₁ (.ref a)) (.cons rfl .nil) (hsp H hS)) fun r s' h=>?_
  cases r with
  | error e=>exact (hCX H e s' h).elim
  | ok fl =>
   cases fl with
   | next=>exact False.elim h
   | brk=>exact False.elim h
   | cont=>exact False.elim h
   | ret u =>
    obtain ⟨v,H',os,bare,un,hok',r',q⟩:=h
    have q':v = .bl true:=q
    subst q'
    obtain rfl:u = Value.bool true:=r'
    have kept:∀ b o,s₁.heap.get? b = some o → b ≠ tb → s'.heap.get? b = some o:=fun b o e hbt=>by
     cases q:H b with
     | none=>exact un.keep b o e q (by intro z; exact absurd (show b ∈ ([]:List Addr) from z) (by simp)) (by simp)
     | some u =>
      rcases hO.2 b hbt with z | ⟨ob,xs,z⟩
      ·rw [q] at z; cases z
      ·have z2:=un.frzs b ob _ z
       obtain ⟨e1,_⟩:=hok b _ z
       obtain ⟨e2,_⟩:=hok' b _ z2
       rw [e] at e1; cases e1
       exact e2
    obtain ⟨ps,et,_⟩:=(show ObjOk P w H' s'.heap tb (.tbl qn) from hok' tb _ (un.tbls tb qn hO.1))
    refine ⟨rfl,⟨fun b o e=>?_,fun b o e=>?_⟩,os,bare⟩
    ·by_cases hbt:b = tb
     ·subst hbt
      rw [ht] at e
      cases e
      exact .inr (.inl ⟨hc,rfl,#[],ps,rfl,by rw [Array.empty_append]; exact et⟩)
     ·exact .inl (kept b o e hbt)
    ·by_cases hbt:b = tb
     ·exact ⟨_,by rw [hbt]; exact et⟩
     ·exact ⟨o,kept b o e hbt⟩
 have tok:∀ H:Hp,ObjOk P w H s₁.heap tb (.tbl qn):=fun H=>⟨#[],ht,trivial,fun p cv z=>by cases z⟩
 cases hk:K.lookup a with
 | some o =>
  have e:=KX a o hk
  rw [ha] at e
  cases e
  refine core (fun b=>if b = tb then some (.tbl qn) else none) ⟨if_pos rfl,fun b hb=>.inl (if_neg hb)⟩ (.inr ⟨_,vs.toArray,_,hk,rfl,rfl,rfl,by rw [List.size_toArray,lenV]; exact hl,by simpa using rv⟩) (fun b u z=>?_) (fun b z=>?_) fun z=>absurd (if_neg hat) z
  ·by_cases hb:b = tb
   ·have z':=(if_pos hb).symm.trans z
    cases z'
    subst hb
    exact tok _
   ·have z':=(if_neg hb).symm.trans z
    cases z'
  ·by_cases hb:b = tb
   ·exact .inr hb
   ·exact absurd (if_neg hb) z
 | none =>
  refine core (fun b=>if b = tb then some (.tbl qn) else if b = a then some (.frz { cls:=.type "list",data:=.seq vs.toArray } (.lst (ns.map V.int))) else none) ⟨if_pos rfl,fun b hb=>?_⟩ (.inl (.inr ⟨{ cls:=.type "list",data:=.seq vs.toArray },by show (if a = tb then _ else _) = _; rw [if_neg hat,if_pos rfl]⟩)) (fun b u z=>?_) (fun b z=>?_) fun _=>hk
  ·by_cases hba:b = a
   ·exact .inr ⟨_,_,by show (if b = tb then _ else _) = _; rw [if_neg hb,if_pos hba]⟩
   ·exact .inl (by show (if b = tb then _ else _) = _; rw [if_neg hb,if_neg hba])
  ·by_cases hb:b = tb
   ·have z':=(if_pos hb).symm.trans z
    cases z'
    subst hb
    exact tok _
   ·have z':=(if_neg hb).symm.trans z
    by_cases hba:b = a
    ·have z':=(if_pos hba).symm.trans z'
     cases z'
     subst hba
     exact ⟨ha,by rw [List.length_map]; exact hl,vs,_,rv,ha⟩
    ·have z':=(if_neg hba).symm.trans z'
     cases z'
  ·by_cases hb:b = tb
   ·exact .inr hb
   ·by_cases hba:b = a
    ·exact .inl hba
    ·exact absurd (by show (if b = tb then _ else _) = _; rw [if_neg hb,if_neg hba]) z
noncomputable def Qjc (K:PySem.W.Frag) (tb:Addr):PySem.W.Frag:=K.filter fun p=>!(p.1 == tb)
noncomputable def Qvk (tb:Addr) (q:Str):Obj:={ cls:=.none,data:=.fields #[.ref tb,.str q 0] }
noncomputable def Qct (K:PySem.W.Frag) (tb:Addr) (q:Str):PySem.W.Frag:=match Qjc K tb with
 | []=>[]
 | p :: r=>p :: r ++ [(p.1,Qvk tb q)]
theorem Qly (tb:Addr):∀ K:PySem.W.Frag,(Qjc K tb).lookup tb = none
 | []=>rfl
 | (a,o) :: K=>by
  have ih:=Qly tb K
  unfold Qjc at ih ⊢
  rw [List.filter_cons]
  by_cases h:a = tb
  ·subst h
   rw [if_neg (by simp)]
   exact ih
  ·rw [if_pos (by simpa using h),List.lookup_cons,beq_eq_false_iff_ne.mpr (Ne.symm h)]
   exact ih
theorem Qrs {tb b:Addr} (hb:b ≠ tb):∀ K:PySem.W.Frag,(Qjc K tb).lookup b = K.lookup b
 | []=>rfl
 | (a,o) :: K=>by
  have ih:=Qrs hb K
  unfold Qjc at ih ⊢
  rw [List.filter_cons,List.lookup_cons]
  by_cases h:a = tb
  ·subst h
   rw [if_neg (by simp),beq_eq_false_iff_ne.mpr hb]
   exact ih
  ·rw [if_pos (by simpa using h),List.lookup_cons,ih]
theorem Qom {p:Addr × Obj} {o:Obj} {b:Addr}:∀ {r:PySem.W.Frag},p ∈ r → (r ++ [(p.1,o)]).lookup b = r.lookup b
 | [],h=>by cases h
 | (a,u) :: r,h=>by
  rw [List.cons_append,List.lookup_cons,List.lookup_cons]
  by_cases hb:b = a
  ·subst hb; rw [beq_self_eq_true]
  ·rw [beq_eq_false_iff_ne.mpr hb]
   rcases List.mem_cons.mp h with z | z
   ·cases r with
    | nil=>simp [z,hb]
    | cons q r =>
     clear h
     have:∀ (r:PySem.W.Frag),(r ++ [(p.1,o)]).lookup b = r.lookup b:=fun r=>by
      induction r with
      | nil=>simp [z,hb]
      | cons q r ih=>rw [List.cons_append,List.lookup_cons,List.lookup_cons,ih]
     exact this _
   ·exact Qom z
theorem Qlz {K:PySem.W.Frag} {tb b:Addr} {q:Str}:(Qct K tb q).lookup b = (Qjc K tb).lookup b:=by
 unfold Qct
 cases e:Qjc K tb with
 | nil=>rfl
 | cons p r=>exact Qom (.head _)
theorem Ql0 {K:PySem.W.Frag} {tb:Addr} {q:Str}:(Qct K tb q).lookup tb = none:=by rw [Qlz]; exact Qly _ _
theorem Qg1 {K:PySem.W.Frag} {tb b:Addr} {q:Str} (h:b ≠ tb):(Qct K tb q).lookup b = K.lookup b:=by rw [Qlz]; exact Qrs h _
theorem Qtp {K:PySem.W.Frag} {tb b:Addr} {q:Str} {o:Obj} (h:(Qct K tb q).lookup b = some o):K.lookup b = some o:=by
 by_cases hb:b = tb
 ·subst hb
  rw [Ql0] at h
  cases h
 ·rw [Qg1 hb] at h
  exact h
theorem Q0j {K:PySem.W.Frag} {tb:Addr} {q:Str} {h:Heap} (x:K.In h):(Qct K tb q).In h:=fun a o e=>x a o (Qtp e)
theorem Qxi {K:PySem.W.Frag} {tb:Addr} {q:Str} {c:Addr} {o:Obj} (h:(Qct K tb q).lookup c = some o):Qsy (Qct K tb q) tb q:=by
 unfold Qct at h ⊢
 cases e:Qjc K tb with
 | nil=>rw [e] at h; cases h
 | cons p r=>exact ⟨p.1,0,by show (p :: r ++ [(p.1,Qvk tb q)]).getLast? = _; rw [List.getLast?_append]; rfl⟩
theorem Qxj {K:PySem.W.Frag} {tb:Addr} {q:Str} {a:Addr} {z:Str} (h:Qsy (Qct K tb q) a z):a = tb ∧ z = q:=by
 obtain ⟨b,t,h⟩:=h
 unfold Qct at h
 cases e:Qjc K tb with
 | nil=>rw [e] at h; cases h
 | cons p r =>
  rw [e] at h
  replace h:(p :: r ++ [(p.1,Qvk tb q)]).getLast? = _:=h
  rw [List.getLast?_append] at h
  have h:=Option.some.inj h
  have h:=(Prod.mk.inj h).2
  unfold Qvk at h
  injection h with _ _ h
  injection h with h
  have h:=congrArg Array.toList h
  simp at h
  exact ⟨h.1.symm,h.2.1.symm⟩
section
variable {K:PySem.W.Frag} {tb:Addr} {qn:Str} {mg:Str → Option Value}
theorem Qrt (ht:K.lookup tb = none) {cdv:Value} {q:Str} (h:PySem.W.codeIn K cdv q = true):PySem.W.codeIn (Qct K tb qn) cdv q = true:=by
 cases cdv with
 | ref c =>
  have hne:c ≠ tb:=fun z=>by
   subst z
   unfold PySem.W.codeIn at h
   simp only [ht] at h
   cases h
  unfold PySem.W.codeIn at h ⊢
  simp only [Qg1 hne]
  exact h
 | _=>exact h
theorem Qtq {K:PySem.W.Frag} {f:Addr} {oc:Value} {od:Option Addr} {fd:FuncData} {osl:Array (Option Value)} (h:K.lookup f = some ⟨oc,od,.func fd,osl⟩):PySem.W.keepIn K (.ref f) = true:=by
 unfold PySem.W.keepIn
 simp only [h]
theorem Dfn.mark (ht:K.lookup tb = none) {x:Str} {st:Stmt} (d:Dfn K mg x st):Dfn (Qct K tb qn) mg x st:=by
 obtain ⟨f,fd,F,m⟩:=d.ex
 obtain ⟨oc,od,kV,doc,pm,an,cdv,ct,osl,e,lk,hcd⟩:=F.ex
 have hne:f ≠ tb:=fun z=>by
  subst z
  rw [ht] at lk
  cases lk
 have lk':(Qct K tb qn).lookup f = some ⟨oc,od,.func fd,osl⟩:=by rw [Qg1 hne]; exact lk
 exact ⟨⟨f,fd,⟨⟨oc,od,kV,doc,pm,an,cdv,ct,osl,e,lk',Qrt ht hcd⟩,Qtq lk'⟩,m⟩⟩
structure MakesL (K:PySem.W.Frag) (mg:Str → Option Value) (x:Str) (c tb:Addr):Prop where
 tab:K.lookup tb = none
 of:CodeOf K mg x (.ref c)
 hd:∃ o vs file tf flags tg inF text tt,K.lookup c = some o ∧ o.cls = .type "code" ∧ o.data = .fields vs ∧ vs[11]? = some (.ref tb) ∧ vs.getD 11 .none = .ref tb ∧ vs.getD 18 .none = .str file tf ∧ vs.getD 7 .none = .int flags tg ∧ vs.getD 9 .none = .bool inF ∧ vs.getD 10 .none = .int text tt
theorem MakesL.mk' {x:Str} {f c:Addr} {oc:Value} {od:Option Addr} {fd:FuncData} {osl:Array (Option Value)} {o:Obj} {vs:Array Value} {file:Str} {tf:Tok} {flags:Int} {tg:Tok} {inF:Bool} {text:Int} {tt:Tok}
  (m:mg x = some (.ref f)) (lk:K.lookup f = some ⟨oc,od,.func fd,osl⟩) (hc:fd.code = .ref c) (h:K.lookup c = some o) (h1:o.cls = .type "code") (h2:o.data = .fields vs) (h3:vs[11]? = some (.ref tb)) (h4:vs.getD 11 .none = .ref tb) (h5:vs.getD 18 .none = .str file tf)
  (h6:vs.getD 7 .none = .int flags tg) (h7:vs.getD 9 .none = .bool inF) (h8:vs.getD 10 .none = .int text tt) (ht:K.lookup tb = none):MakesL K mg x c tb :=
 ⟨ht,⟨f,oc,od,fd,osl,m,lk,hc⟩,o,vs,file,tf,flags,tg,inF,text,tt,h,h1,h2,h3,h4,h5,h6,h7,h8⟩
noncomputable def Q0k (K:PySem.W.Frag) (mg:Str → Option Value) (x q:Str):Prop:=∃ c tb,Qsy K tb q ∧ CodeOf K mg x (.ref c) ∧ ∀ base:Heap,K.In base → PySem.W.CodeHd base c tb
theorem MakesL.mark {x:Str} {c:Addr} (m:MakesL K mg x c tb):Q0k (Qct K tb qn) mg x qn:=by
 obtain ⟨ht,⟨f,oc,od,fd,osl,hm,lk,hc⟩,o,vs,file,tf,flags,tg,inF,text,tt,h,h1,h2,h3,h4,h5,h6,h7,h8⟩:=m
 have hnf:f ≠ tb:=fun z=>by subst z; rw [ht] at lk; cases lk
 have hnc:c ≠ tb:=fun z=>by subst z; rw [ht] at h; cases h
 have lk':(Qct K tb qn).lookup c = some o:=by rw [Qg1 hnc]; exact h
 exact ⟨c,tb,Qxi lk',⟨f,oc,od,fd,osl,hm,by rw [Qg1 hnf]; exact lk,hc⟩,fun base hb=>⟨o,vs,file,tf,flags,tg,inF,text,tt,hb _ _ lk',h1,h2,h3,h4,h5,h6,h7,h8,hnc⟩⟩
theorem MakesL.code {x:Str} {c:Addr} (m:MakesL K mg x c tb):∃ c o vs,K.lookup c = some o ∧ o.cls = .type "code" ∧ o.data = .fields vs ∧ vs[11]? = some (.ref tb):=by
 obtain ⟨ht,_,o,vs,file,tf,flags,tg,inF,text,tt,h,h1,h2,h3,_⟩:=m
 exact ⟨c,o,vs,h,h1,h2,h3⟩
end
theorem Q0l {l:PySem.W.OpenLaw} {n k:Nat} {q:Program} {loose:List Str} {XP:(Str → Option Value) → Heap → Prop} {YP:World → Heap → Prop} {d:DefRec} {K:Params → PySem.W.Frag} {CX:CXT} {sp:PySem.W.Frag → Sp} {x qn mf:Str} {ts:List Addr}
  (hn:l.most = some n) (hn2:n ≤ sizeLine) (hdf:d.params.defaults = []) (hr:Room k callerA)
  (hY:∀ (w:World) (h:Heap),YP w h → (K w.params).In h ∧ ∀ P ∈ ts,h.get? P = some { cls:=.none,data:=.fields #[] })
  (F:∀ (w:World) (mg:Str → Option Value) (fa:Addr) (h:Heap),(K w.params).In h → h.Ns mainGlobals mg → mg d.name = some (.ref fa) →
   ∃ c tb,(tb ∈ ts ∧ MakesL (K w.params) mg mf c tb) ∧ (MakesL (K w.params) mg mf c tb → ∃ fd:FuncData,(∀ (s:Shared) (u:Value),BindsTo s fd ⟨[u],[]⟩ [(x,u)]) ∧
    ∀ base:Heap,(Qct (K w.params) tb qn).In base → base.Ns mainGlobals mg → FnOk l.prog w (Qct (K w.params) tb qn) mg base CX k fa fd [x] (sp (Qct (K w.params) tb qn))))
  (hsp:∀ (K:PySem.W.Frag) (H:Hp) (a:Addr) (ns:List Int),ns.length ≤ n → SqL K H a (ns.map V.int) → sp K [.ref a] H (fun v _=>v = .bl true) fun _ _ _=>False)
  (hCX:∀ (H:Hp) (s:Shared) (e:Value) (s':Shared),CX [] H s (fun _ _ _=>False) e s' → False) :
  PySem.W.WalkO q loose XP YP l.row.toRowW d [] (fun f vs=>PySem.call f vs):=by
 refine Att.attach_call hn hdf fun w s₀ s₁ mg mb fa o pm cd doc a vs ns G Y ho hd hcd hmg hobj hints hlen hg=>?_
 obtain ⟨KX,TX⟩:=hY w _ Y
 obtain ⟨c0,tb,⟨hts,mk⟩,hh⟩:=F w mg fa _ KX G.T.g hmg
 obtain ⟨fd,hb,hF⟩:=hh mk
 obtain ⟨c,oc,cv,hc1,hc2,hc3,hc4⟩:=mk.code
 exact Qxh (Q0j KX) G.T.g G.T.b G.T.builtins G.T.nolimit hg hobj hints (Nat.le_trans hlen hn2) hr (TX _ hts) ⟨c,oc,cv,KX _ _ hc1,hc2,hc3,hc4⟩ Ql0 (fun _ _ z=>Qxj z) G.T.bmain hF hb (fun H hS=>hsp _ H a ns hlen hS) fun H e s'=>hCX H s₁ e s'
section
variable {X:Cx} {p:Pr} {x:Str} {e:Expr} {es:List Expr} {es':Es} {p1 pos:Pos}
theorem Qaej {n:Nat} (i:Nat) (hL:Qlv X.prog X.w X.K X.mg X.base p.cf n) (hr:Room n X.A) (ha:QA X (e :: es) (tA p es')) (hm:p.mg = X.mg:=by rfl) (hN:X.N[i]? = some x:=by rfl)
  (hv:Vis X.env.scope x:=by first | exact Or.inl rfl | exact Or.inr (Or.inl rfl) | exact Or.inr (Or.inr rfl)) (hd:(x == ("__debug__" : Str)) = false:=by decide) (hcd:(x == ("__classdict__" : Str)) = false:=by decide)
  (h1:Q1 e = true:=by rfl) (h2:es.all Q1 = true:=by rfl):QE X (.Call (.Name x p1) (e :: es) [] pos) (tE p (.app i es')):=Qaeh hL hm hr hN hv ha hd hcd h1 h2
theorem Qaek {k:Nat} {l:LamT} {js:List Nat} {c:Value} {y:Str} {cs:List Addr} (ct:Q0k X.K X.mg y l.qual) (co:CodeOf X.K X.mg y c) (hl:Qcw.lookup k = some l) (hcode:X.env.code = c)
  (hdef:defaultsOf l.params X.env = ([],[])) (hcl:closureFor l.scope X.env = pure (l.caps.zip cs)) (hcp:Qlu X l.caps cs js) (nd:cs.Nodup) (hq:X.env.qual ++ "<lambda>" = l.qual:=by rfl) (hlen:cs.length = l.caps.length:=by rfl) :
  QE X (.Lambda l.params l.body l.scope pos) (tE p (.lam k js)):=by
 obtain ⟨c',tb,t1,t2,t3⟩:=ct
 have e:=co.one t2
 subst e
 exact Qaef hl hcode (t3 _) t1 hq hdef hcl hcp nd hlen
end
noncomputable abbrev uns (n:Nat):En:=List.replicate n .un
theorem Qeh (n i:Nat):Qa (uns n) i = .un:=by
 unfold Qa uns
 rw [List.getElem?_replicate]
 split <;> rename_i e
 ·split at e <;> cases e
  rfl
 ·rfl
noncomputable abbrev bs0 (H:Hp):Bs:=⟨H,fun _=>False,fun _=>False,fun _=>False,fun _ _=>False⟩
theorem Qaad (H:Hp) {σ:St} {n:Nat} (hl:σ.length = n):FI (bs0 H) H (fun _=>False) σ (uns n) where
 len:=by rw [hl,List.length_replicate]
 slot:=fun i=>by rw [Qeh]; trivial
 apart:=fun i j a h _=>by obtain ⟨⟨t,e⟩,_⟩:=h; rw [Qeh] at e; cases e
 prv:=fun b h=>h.elim
 chg:=fun _ _ _ _ e=>e
 keep:=fun _ o e=>⟨o,e⟩
 newO:=fun a h=>by obtain ⟨i,t,e,_⟩:=h; rw [Qeh] at e; cases e
 newM:=fun a h=>by obtain ⟨i,t,e,_⟩:=h; rw [Qeh] at e; cases e
 fix:=fun i a h=>by obtain ⟨⟨t,e⟩,_⟩:=h; rw [Qeh] at e; rcases e with e | e <;> cases e
 gg:=fun _ h=>h
 gn:=fun _ h=>.inl h
 bp:=fun _ h=>h.elim
noncomputable def Ql1 (K:PySem.W.Frag):Sp:=fun vs H Q _=>∃ (a:Addr) (ns:List Int) (k:Nat),vs = [.ref a,.int k] ∧ SqL K H a (ns.map V.int) ∧ ∀ i:Int,Q (.int i) H
noncomputable abbrev Q0m (K:PySem.W.Frag) (hi:Int):TI:=Q3o K (tOp (Qn2 K) (Q5w (Qj5 (Quv (Ql1 K) [] E0 (Qj5 (Qox 0) (Qj5 (tC (.int 0)) Qwx))) Qwx)) (tSl (Qyv K) (Qox 0) (Qux (tC (.int 1))) (Qux (tC (.int hi)))))
theorem Q0n {p:Pr} {K:PySem.W.Frag} {σ:St} {H:Hp} {D:Ends} {a:Addr} {ns:List Int} {ic n:Nat} {body:S} {hi:Int} (hσ:σ[0]? = some (some (.ref a))) (hs:SqL K H a (ns.map V.int)) (hns:ns.length ≤ 63) (hl:σ.length = n) (hic:ic < n)
  (hb:∀ m:Int,∃ ρ',exS p.cf body ((uns n).set ic (.fz (.int m))) = .nx ρ' ∧ ρ'.length = n) (hD:∀ σ' H',D.nx σ' H'):Q2y (Q0m K hi) (Qhy ic) (tS p body) D σ H:=by
 refine ⟨_,hσ,a,ns,0,rfl,hs,fun c0=>⟨by show 1 ≤ sizeLine; decide,fun l7 n7=>?_⟩⟩
 have hs7:=(Same.upd (o:=.lst [.int c0]) n7).seq hs
 refine ⟨_,hσ,_,rfl,_,rfl,.inl ⟨a,_,rfl,hs7,fun l8 n8=>?_⟩⟩
 have n78:l7 ≠ l8:=Qbt Qp n8
 have hcl:=Qgo (ns.map V.int) (some 1) (some hi)
 refine .inr (.inl ⟨l7,l8,_,_,rfl,rfl,by rw [Q4 n78,Qp],Qp,?_,fun l9 n9=>?_⟩)
 ·refine Qbj ?_
  rw [List.length_map] at hcl
  show 1 + _ ≤ 100000
  omega
 generalize hH9:upd (upd (upd H l7 (.lst [.int c0])) l8 (.lst (Qgn (ns.map V.int) (some 1) (some hi)))) l9 (.lst ([.int c0] ++ Qgn (ns.map V.int) (some 1) (some hi))) = H9
 have e9:H9 l9 = some (.lst ([.int c0] ++ Qgn (ns.map V.int) (some 1) (some hi))):=by rw [← hH9,Qp]
 have allI:∀ x ∈ [V.int c0] ++ Qgn (ns.map V.int) (some 1) (some hi),∃ i:Int,x = .int i:=fun x hx=>by
  rcases List.mem_append.mp hx with hx | hx
  ·exact ⟨c0,List.mem_singleton.mp hx⟩
  ·have hx:=List.mem_of_mem_drop (List.mem_of_mem_take hx)
   obtain ⟨n,_,e⟩:=List.mem_map.mp hx
   exact ⟨n,e.symm⟩
 refine ⟨l9,rfl,.inl ⟨⟨_,SqL.of e9⟩,Qye (K:=K) (a:=l9) (xs:=[V.int c0] ++ Qgn (ns.map V.int) (some 1) (some hi)) (fun i σ H10=>σ.length = n ∧ H10 l9 = some (.lst ([.int c0] ++ Qgn (ns.map V.int) (some 1) (some hi)))) ⟨hl,e9⟩ (fun i σ H10 _ h=>SqL.of h.2) ?_ ?_⟩⟩
 ·rintro i x σ2 H2 hx ⟨hl2,e2⟩
  obtain ⟨m,rfl⟩:=allI x (List.mem_of_getElem? hx)
  obtain ⟨ρ',eb,lb⟩:=hb m
  have F0:=(Qaad H2 hl2).setFz (i:=ic) (v:=.int m) (t:=.int m) (by rw [List.length_replicate]; exact hic) Is.int
  refine ⟨bs0 H2,fun _=>False,_,F0,fun _ z=>z,?_⟩
  rw [eb]
  exact fun σ1 H1 G1 F1 _=>⟨by rw [F1.len,lb],F1.chg l9 _ (fun z=>z) (fun z=>z) e2⟩
 ·rintro σ2 H2 _
  exact hD σ2 H2
noncomputable def Qtr (K:PySem.W.Frag):Sp:=fun vs H Q _=>∃ (a:Addr) (ns:List Int),vs = [.ref a] ∧ SqL K H a (ns.map V.int) ∧ ns.length ≤ 63 ∧ ∀ H',Q (.bl true) H'
noncomputable def Qjd:Slot → Bool
 | .ml _=>false
 | _=>true
theorem Qvl:∀ {ρ:En},ρ.all Qjd = true → ∀ k t,Qa ρ k ≠ .ml t
 | [],_,k,t,e=>by rw [Qfl] at e; cases e
 | s :: ρ,h,0,t,e=>by
  rw [Qd] at e
  subst e
  simp [Qjd] at h
 | s :: ρ,h,k + 1,t,e=>by
  rw [List.all_cons,Bool.and_eq_true] at h
  rw [Qe] at e
  exact Qvl h.2 k t e
theorem Ql2 {js:List (Option Nat)} {ρi:En} (h:ρi.all Qjd = true):∀ (ρ:En) (n:Nat),Qdm js ρi n ρ = ρ
 | [],_=>rfl
 | s :: ρ,n=>by
  unfold Qdm
  rw [Ql2 h ρ (n + 1)]
  rcases Qds js ρi n s with e | ⟨k,t,_,e,_⟩
  ·rw [e]
  ·exact absurd e (Qvl h k t)
theorem Q4q {js:List (Option Nat)} {ρi ρ:En} (h:ρi.all Qjd = true):Qkh js ρi ρ = ρ:=Ql2 h ρ 0
theorem Qru:∀ {ρ0 ρ:En},ρ0.all Qjd = true → ρ0.length = ρ.length → Qer ρ0 ρ = true
 | [],[],_,_=>rfl
 | [],_ :: _,_,h=>by cases h
 | _ :: _,[],_,h=>by cases h
 | s0 :: ρ0,s :: ρ,h,hl=>by
  rw [List.all_cons,Bool.and_eq_true] at h
  have q:=Qru (ρ0:=ρ0) (ρ:=ρ) h.2 (by simpa using hl)
  cases s0 <;> first | exact q | (simp [Qjd] at h)
noncomputable def Qcj:Slot → Bool
 | .un=>true
 | .fz _=>true
 | _=>false
theorem Qrv {s:Slot} {rest:En} {x:T} (h:Qcj s = true):Qfc (.nm 0) x (s :: rest) = some (.fz x :: rest):=by
 cases s <;> first | rfl | cases h
theorem Ql3 {c:En → Out Bool} {el:En → Out PV} {rest:En} {g:T → Bool} {f:T → T}:∀ {xs acc:List T} {s0:Slot},Qcj s0 = true → (∀ x ∈ xs,c (.fz x :: rest) = .ok (g x) (.fz x :: rest)) → (∀ x ∈ xs,g x = true → ∃ r,el (.fz x :: rest) = .ok r (.fz x :: rest) ∧ frz r = some (f x)) → acc.length + xs.length ≤ 100000 →
  ∃ s,Qdx (.nm 0) c el xs acc (s0 :: rest) = .ok (acc ++ (xs.filter g).map f) (s :: rest) ∧ Qcj s = true
 | [],acc,s0,h0,hc,he,hz=>⟨s0,by unfold Qdx; simp,h0⟩
 | x :: xs,acc,s0,h0,hc,he,hz=>by
  rw [List.length_cons] at hz
  have ih:=fun acc' (hz':acc'.length + xs.length ≤ 100000)=>Ql3 (c:=c) (el:=el) (rest:=rest) (g:=g) (f:=f) (xs:=xs) (acc:=acc') (s0:=.fz x) rfl (fun y hy=>hc y (List.mem_cons_of_mem _ hy)) (fun y hy=>he y (List.mem_cons_of_mem _ hy)) hz'
  unfold Qdx
  rw [Qrv h0]
  simp only [hc x List.mem_cons_self,Out.bind]
  cases hg:g x with
  | false =>
   obtain ⟨s,e,o⟩:=ih acc (by omega)
   refine ⟨s,?_,o⟩
   simp only [Bool.false_eq_true,if_false,e,List.filter_cons,hg]
  | true =>
   obtain ⟨r,er,fr⟩:=he x List.mem_cons_self hg
   simp only [if_true,er,fr]
   have za:acc.length < 100000:=by omega
   rw [if_pos za]
   obtain ⟨s,e,o⟩:=ih (acc ++ [f x]) (by rw [List.length_append,List.length_singleton]; omega)
   refine ⟨s,?_,o⟩
   simp only [e,List.filter_cons,hg,if_true,List.map_cons,List.append_assoc,List.singleton_append]
theorem Qvm {cf:CF} {w:W} {js:List (Option Nat)} {cs:Es} {e:E} {ρ rest:En} {xs:List T} {g:T → Bool} {f:T → T} (hw:evW cf w ρ = .ok (xs,none) ρ) (hcap:Qde js ρ = .un :: rest) (hml:rest.all Qjd = true) (hap:Qb5 js = true)
  (hc:∀ x ∈ xs,evC cf cs (.fz x :: rest) = .ok (g x) (.fz x :: rest)) (he:∀ x ∈ xs,g x = true → ∃ r,evE cf e (.fz x :: rest) = .ok r (.fz x :: rest) ∧ frz r = some (f x)) (hz:xs.length ≤ 100000) :
  evE cf (.comp w js (.nm 0) cs e) ρ = .ok (.ow (.lst ((xs.filter g).map f))) ρ:=by
 obtain ⟨s,e1,o⟩:=Ql3 (c:=evC cf cs) (el:=evE cf e) (rest:=rest) (g:=g) (f:=f) (xs:=xs) (acc:=[]) (s0:=.un) rfl hc he (by simpa using hz)
 have hs:(s :: rest).all Qjd = true:=by
  rw [List.all_cons,hml]
  cases s <;> first | rfl | cases o
 unfold evE
 rw [hw]
 simp only [Out.bind,hcap,e1]
 rw [if_pos ⟨Qru (by rw [List.all_cons,hml]; rfl) rfl,hap⟩,Q4q hs]
 rfl
theorem Qbf {cf:CF} {w:W} {js:List (Option Nat)} {e:E} {ρ rest:En} {xs:List T} {f:T → T} (hw:evW cf w ρ = .ok (xs,none) ρ) (hcap:Qde js ρ = .un :: rest) (hml:rest.all Qjd = true) (hap:Qb5 js = true)
  (he:∀ x ∈ xs,∃ r,evE cf e (.fz x :: rest) = .ok r (.fz x :: rest) ∧ frz r = some (f x)) (hz:xs.length ≤ 100000) :
  evE cf (.comp w js (.nm 0) .nil e) ρ = .ok (.ow (.lst (xs.map f))) ρ:=by
 rw [Qvm (g:=fun _=>true) (f:=f) hw hcap hml hap (fun x _=>by unfold evC; rfl) (fun x hx _=>he x hx) hz,List.filter_eq_self.mpr (fun _ _=>rfl)]
theorem Qc3 {tg:Tg} {b:En → SO} (J:Nat → En → Prop):∀ {xs:List T} {n:Nat} {ρ:En},J n ρ → (∀ (i:Nat) x ρ,xs[i]? = some x → J (n + i) ρ → ∃ ρ1 ρ2,Qfc tg x ρ = some ρ1 ∧ (b ρ1 = .nx ρ2 ∨ b ρ1 = .ct ρ2) ∧ J (n + i + 1) ρ2) → ∃ ρ',Qdf tg b xs ρ = .nx ρ' ∧ J (n + xs.length) ρ'
 | [],n,ρ,h,_=>⟨ρ,rfl,h⟩
 | x :: xs,n,ρ,h,hs=>by
  obtain ⟨ρ1,ρ2,e1,e2,j⟩:=hs 0 x ρ rfl h
  obtain ⟨ρ',e3,j3⟩:=Qc3 (tg:=tg) (b:=b) J (xs:=xs) (n:=n + 1) (ρ:=ρ2) (by simpa using j) fun i y ρ hy hj=>by
   have:=hs (i + 1) y ρ (by rw [List.getElem?_cons_succ]; exact hy) (by rw [show n + (i + 1) = n + 1 + i by omega]; exact hj)
   rw [show n + (i + 1) + 1 = n + 1 + i + 1 by omega] at this
   exact this
  refine ⟨ρ',?_,by rw [List.length_cons,show n + (xs.length + 1) = n + 1 + xs.length by omega]; exact j3⟩
  unfold Qdf
  rw [e1]
  rcases e2 with e2 | e2 <;> simp only [e2] <;> exact e3
noncomputable def AllQ (Q:Df → Prop):List Df → Prop
 | []=>True
 | d :: ds=>Q d ∧ AllQ Q ds
theorem Q0o {Q:Df → Prop}:∀ {ds:List Df},AllQ Q ds → ∀ (f:Nat) (d:Df),ds[f]? = some d → Q d
 | [],_,f,d,e=>by simp at e
 | c :: ds,h,0,d,e=>by simp at e; subst e; exact h.1
 | c :: ds,h,f + 1,d,e=>by rw [List.getElem?_cons_succ] at e; exact Q0o h.2 f d e
variable {cf:CF} {ρ ρ1 ρ2:En} {α β:Type}
theorem Q6 {a:α} {k:α → En → Out β}:(Out.ok a ρ).bind k = k a ρ:=rfl
noncomputable def Qaf (i:Nat) (ρ:En):Slot → Out PV
 | .fz t=>.ok (.fz t) ρ
 | .un=>.no
 | .pin _=>.no
 | _=>.ok (.sl i) ρ
theorem Qq {i:Nat}:evE cf (.var i) ρ = Qaf i ρ (Qa ρ i):=by rw [evE]; cases Qa ρ i <;> rfl
theorem Qcu {i:Int}:evE cf (.int i) ρ = .ok (.fz (.int i)) ρ:=by rw [evE]
theorem x_bl {i:Bool}:evE cf (.bl i) ρ = .ok (.fz (.bl i)) ρ:=by rw [evE]
theorem Qon:evE cf .non ρ = .ok (.fz .non) ρ:=by rw [evE]
noncomputable def Qts (rs:List PV) (ρ:En):Out PV:=match Qdv rs with
 | some ts=>if ts.length ≤ 100000 then .ok (.fz (.tup ts)) ρ else .no
 | none=>.no
noncomputable def Qrw (rs:List PV) (ρ:En):Out PV:=match Qdv rs with
 | some ts=>if ts.length ≤ 100000 then .ok (.ow (.lst ts)) ρ else .no
 | none=>.no
theorem Qoo {es:Es}:evE cf (.tup es) ρ = (evA cf es ρ).bind Qts:=by rw [evE]; rfl
theorem Ql4 {es:Es}:evE cf (.lst es) ρ = (evA cf es ρ).bind Qrw:=by rw [evE]; rfl
noncomputable def Qei (o:BOp) (ρ:En):Option T → Option T → Out PV
 | some x,some y=>.opt (opB o x y) ρ
 | _,_=>.no
noncomputable def Qej (o:BOp) (ra rb:PV) (ρ:En):Out PV:=Qei o ρ (cont ρ ra) (cont ρ rb)
noncomputable def Qek (cf:CF) (o:BOp) (b:E) (ra:PV) (ρ:En):Out PV:=(evE cf b ρ).bind (Qej o ra)
theorem Qet {o:BOp} {a b:E}:evE cf (.bin o a b) ρ = (evE cf a ρ).bind (Qek cf o b):=by rw [evE]; rfl
noncomputable def yNeg:PV → En → Out PV
 | .fz (.int i),ρ=>.ok (.fz (.int (-i))) ρ
 | _,_=>.no
noncomputable def yBl:PV → En → Out Bool
 | .fz (.bl b),ρ=>.ok b ρ
 | _,_=>.no
theorem Qai {o:Out PV}:Qak o = o.bind yBl:=by unfold Qak; congr 1; funext r ρ1; cases r with
 | fz t=>cases t <;> rfl
 | ow t=>rfl
 | sl i=>rfl
noncomputable def Ql5 (b:Bool) (ρ:En):Out PV:=.ok (.fz (.bl (!b))) ρ
theorem Qh3 {a:E}:evE cf (.not a) ρ = (Qak (evE cf a ρ)).bind Ql5:=by rw [evE]; rfl
noncomputable def yB (b:Bool) (ρ:En):Out PV:=.ok (.fz (.bl b)) ρ
noncomputable def Qrx (cf:CF) (b:E):Bool → En → Out PV
 | true,ρ=>(Qak (evE cf b ρ)).bind yB
 | false,ρ=>.ok (.fz (.bl false)) ρ
noncomputable def yOr (cf:CF) (b:E):Bool → En → Out PV
 | false,ρ=>(Qak (evE cf b ρ)).bind yB
 | true,ρ=>.ok (.fz (.bl true)) ρ
theorem Ql6 {a b:E}:evE cf (.and a b) ρ = (Qak (evE cf a ρ)).bind (Qrx cf b):=by rw [evE]; congr 1; funext c ρ1; cases c <;> rfl
theorem Qry {a b:E}:evE cf (.or a b) ρ = (Qak (evE cf a ρ)).bind (yOr cf b):=by rw [evE]; congr 1; funext c ρ1; cases c <;> rfl
noncomputable def yIte (cf:CF) (a b:E):Bool → En → Out PV
 | true,ρ=>evE cf a ρ
 | false,ρ=>evE cf b ρ
theorem Q6l {c a b:E}:evE cf (.ite c a b) ρ = (Qak (evE cf c ρ)).bind (yIte cf a b):=by rw [evE]; congr 1; funext c ρ1; cases c <;> rfl
noncomputable def Qby (ρ:En):Option Bool → Out PV
 | some k=>.ok (.fz (.bl k)) ρ
 | none=>.no
noncomputable def Qbz (o:COp) (ρ:En):Option T → Option T → Out PV
 | some x,some y=>Qby ρ (opC o x y)
 | _,_=>.no
noncomputable def Qb0 (o:COp) (ra rb:PV) (ρ:En):Out PV:=Qbz o ρ (cont ρ ra) (cont ρ rb)
noncomputable def Qb1 (cf:CF) (o:COp) (b:E) (ra:PV) (ρ:En):Out PV:=(evE cf b ρ).bind (Qb0 o ra)
theorem Qb8 {o:COp} {a b:E}:evE cf (.cmp o a b) ρ = (evE cf a ρ).bind (Qb1 cf o b):=by
 rw [evE]
 rfl
noncomputable def Qrz (n:String) (ρ:En):Option T → Out PV
 | some t=>if Qlh n && !Qhz t then .ok (.fz (.bl (Qk5 (tyT t) n))) ρ else .no
 | none=>.no
noncomputable def Q0p (n:String) (ra:PV) (ρ:En):Out PV:=Qrz n ρ (cont ρ ra)
theorem Qvn {a:E} {n:String}:evE cf (.isI a n) ρ = (evE cf a ρ).bind (Q0p n):=by
 rw [evE]
 rfl
theorem Qaj {f:Nat} {es:Es}:evE cf (.call f es) ρ = (evA cf es ρ).bind (Qgs cf f):=by rw [evE]
noncomputable def Qbd (b:Bi) (ρ:En):Option (List T) → Out PV
 | some ts=>.opt (Qjv b ts) ρ
 | none=>.no
noncomputable def yBi (b:Bi) (rs:List PV) (ρ:En):Out PV:=Qbd b ρ (Qaa ρ rs)
theorem Qbg {b:Bi} {es:Es}:evE cf (.bi b es) ρ = (evA cf es ρ).bind (yBi b):=by
 rw [evE]
 rfl
noncomputable def Qh8 (ρ:En):Option T → Out PV
 | some t=>.ok (.fz t) ρ
 | none=>.no
noncomputable def Qh9 (ρ:En):Option T → Option T → Out PV
 | some x,some y=>Qh8 ρ (Qzo x y)
 | _,_=>.no
noncomputable def Qia (ra rb:PV) (ρ:En):Out PV:=Qh9 ρ (cont ρ ra) (cont ρ rb)
noncomputable def Qib (cf:CF) (b:E) (ra:PV) (ρ:En):Out PV:=(evE cf b ρ).bind (Qia ra)
theorem Qje {a b:E}:evE cf (.ix a b) ρ = (evE cf a ρ).bind (Qib cf b):=by
 rw [evE]
 rfl
noncomputable def Q6m (ρ:En):PV → Option (List Int) → Out PV
 | .fz (.int j),some is=>.ok (.fz (.int (is.count j:Nat))) ρ
 | _,_=>.no
noncomputable def Q6n (ts:List T) (rb:PV) (ρ:En):Out PV:=Q6m ρ rb (Qdc ts)
noncomputable def Q6o (cf:CF) (b:E):PV → En → Out PV
 | .fz (.tup ts),ρ=>(evE cf b ρ).bind (Q6n ts)
 | _,_=>.no
theorem Qael {a b:E}:evE cf (.cnt a b) ρ = (evE cf a ρ).bind (Q6o cf b):=by
 rw [evE]
 congr 1; funext r ρ1
 cases r with
 | ow t=>rfl
 | sl i=>rfl
 | fz t=>cases t <;> rfl
noncomputable def Q4r (l h:Option Int) (ρ:En):Option T → Out PV
 | some x=>.opt (Qxd x l h) ρ
 | none=>.no
noncomputable def Qvo (ra:PV) (l:Option Int) (ρ:En):Option (Option Int) → Out PV
 | none=>.no
 | some h=>Q4r l h ρ (cont ρ ra)
noncomputable def Q4s (ra:PV) (l:Option Int) (rh:List PV) (ρ:En):Out PV:=Qvo ra l ρ (Qlg rh)
noncomputable def Qvp (cf:CF) (hi:Es) (ra:PV) (ρ:En):Option (Option Int) → Out PV
 | none=>.no
 | some l=>(evA cf hi ρ).bind (Q4s ra l)
noncomputable def Q4t (cf:CF) (hi:Es) (ra:PV) (rl:List PV) (ρ:En):Out PV:=Qvp cf hi ra ρ (Qlg rl)
noncomputable def Q4u (cf:CF) (lo hi:Es) (ra:PV) (ρ:En):Out PV:=(evA cf lo ρ).bind (Q4t cf hi ra)
theorem Q0q {a:E} {lo hi:Es}:evE cf (.slc a lo hi) ρ = (evE cf a ρ).bind (Q4u cf lo hi):=by
 rw [evE]
 rfl
noncomputable def Q6p (l:Bool):PV → En → Out PV
 | .fz (.int j),ρ=>if j.natAbs ≤ 100000 then .ok (if l then .ow (.lst (Q5 0 j.toNat)) else .fz (.tup (Q5 0 j.toNat))) ρ else .no
 | _,_=>.no
theorem Qaah {l:Bool} {a:E}:evE cf (.tupR l a) ρ = (evE cf a ρ).bind (Q6p l):=by
 rw [evE]
 congr 1; funext r ρ1
 cases r with
 | fz t=>cases t <;> rfl
 | ow t=>rfl
 | sl i=>rfl
theorem Qt:evA cf .nil ρ = .ok [] ρ:=by rw [evA]
noncomputable def yC2 (r:PV) (rs:List PV) (ρ:En):Out (List PV):=.ok (r :: rs) ρ
noncomputable def yC1 (cf:CF) (es:Es) (r:PV) (ρ:En):Out (List PV):=(evA cf es ρ).bind (yC2 r)
theorem Qo {e:E} {es:Es}:evA cf (.cons e es) ρ = (evE cf e ρ).bind (yC1 cf es):=by rw [evA]; rfl
noncomputable def Ql7 (r:PV) (ρ:En):Option (List T) → Out (List T × Option Nat)
 | some ts=>.ok (ts,Qjw r) ρ
 | none=>.no
noncomputable def Ql8 (r:PV) (ρ:En):Option T → Out (List T × Option Nat)
 | some t=>Ql7 r ρ (Qgi t)
 | none=>.no
noncomputable def Qtt (r:PV) (ρ:En):Out (List T × Option Nat):=Ql8 r ρ (cont ρ r)
theorem Qop {e:E}:evW cf (.seq e) ρ = (evE cf e ρ).bind Qtt:=by
 rw [evW]
 rfl
noncomputable def Q0r:PV → En → Out (List T × Option Nat)
 | .fz (.int j),ρ=>if j.natAbs ≤ 100000 then .ok (Q5 0 j.toNat,none) ρ else .no
 | _,_=>.no
theorem Qdh {a:E}:evW cf (.rng1 a) ρ = (evE cf a ρ).bind Q0r:=by
 rw [evW]
 congr 1; funext r ρ1
 cases r with
 | fz t=>cases t <;> rfl
 | ow t=>rfl
 | sl i=>rfl
noncomputable def yEnm2 (r:PV) (ρ:En):Option T → Out (List T × Option Nat)
 | some (.lst ts)=>.ok (Q9d 0 ts,Qjw r) ρ
 | _=>.no
noncomputable def Qab (rs:List PV) (ρ:En):FR → Out PV
 | .ok r fin=>.ok r (Qa4 ρ rs fin)
 | .xn x fin=>.xn x (Qa4 ρ rs fin)
 | .no=>.no
noncomputable def Qac (cf:CF) (f:Nat) (rs:List PV) (ρ:En):Option (List Arg) → Out PV
 | some as=>Qab rs ρ (cf f as)
 | none=>.no
theorem Q4v {f:Nat} {rs:List PV} (h:Qv rs = true):Qgs cf f rs ρ = Qac cf f rs ρ (Qy ρ rs):=by
 unfold Qgs
 rw [if_pos h]
 cases Qy ρ rs with
 | none=>rfl
 | some as =>
  show (match cf f as with | .ok r fin=>Out.ok r (Qa4 ρ rs fin) | .xn x fin=>.xn x (Qa4 ρ rs fin) | .no=>.no) = Qab rs ρ (cf f as)
  cases cf f as <;> rfl
theorem Qa0 {a:α} {k:α → En → SO}:ofO (.ok a ρ) k = k a ρ:=rfl
theorem Qc4 {k:En → SO}:(SO.nx ρ).seq k = k ρ:=rfl
theorem z_rt {r:PV} {k:En → SO}:(SO.rt r ρ).seq k = .rt r ρ:=rfl
theorem Qc5:exS cf .nil ρ = .nx ρ:=by rw [exS]
theorem Qbh {a b:S}:exS cf (.seq a b) ρ = (exS cf a ρ).seq (exS cf b):=by rw [exS]
noncomputable def Qka (_:PV) (ρ:En):SO:=.nx ρ
theorem Qic {e:E}:exS cf (.expr e) ρ = ofO (evE cf e ρ) Qka:=by rw [exS]; rfl
theorem Qvq {i:Nat} {e:E}:exS cf (.set i e) ρ = ofO (evE cf e ρ) (Qtg i):=by rw [exS]
noncomputable def Qbp (i:Nat) (ρ:En):Option T → SO
 | some t=>Qau (Qbs i (.fz t) ρ) .nx
 | none=>.no
noncomputable def Qcv (i:Nat) (r:PV) (ρ:En):SO:=Qbp i ρ (frz r)
theorem Qbq {i:Nat} {e:E}:exS cf (.setF i e) ρ = ofO (evE cf e ρ) (Qcv i):=by
 rw [exS]
 rfl
noncomputable def yUnp (is:List Nat):PV → En → SO
 | .fz (.tup ts),ρ=>Qau (Qcz is ts ρ) .nx
 | _,_=>.no
theorem Qaeo {is:List Nat} {e:E}:exS cf (.unp is e) ρ = ofO (evE cf e ρ) (yUnp is):=by
 rw [exS]
 congr 1; funext r ρ1
 cases r with
 | fz t=>cases t <;> rfl
 | ow t=>rfl
 | sl i=>rfl
noncomputable def Qvr (i:Nat) (ρ:En) (t:T):Slot → SO
 | .ow (.lst ts)=>if ts.length < 100000 then .nx (ρ.set i (.ow (.lst (ts ++ [t])))) else .no
 | .ml (.lst ts)=>if ts.length < 100000 then .nx (ρ.set i (.ml (.lst (ts ++ [t])))) else .no
 | _=>.no
noncomputable def Qvs (i:Nat) (ρ:En):Option T → SO
 | none=>.no
 | some t=>Qvr i ρ t (Qa ρ i)
noncomputable def Q0s (i:Nat) (r:PV) (ρ:En):SO:=Qvs i ρ (frz r)
theorem Qaep {i:Nat} {e:E} (h:(Qa ρ i).mut = true):exS cf (.app i e) ρ = ofO (evE cf e ρ) (Q0s i):=by
 rw [exS,if_pos h]
 rfl
noncomputable def Q6q (i:Nat) (ρ:En) (us:List T):Slot → SO
 | .ow (.lst ts)=>if ts.length + us.length ≤ 100000 then .nx (ρ.set i (.ow (.lst (ts ++ us)))) else .no
 | .ml (.lst ts)=>if ts.length + us.length ≤ 100000 then .nx (ρ.set i (.ml (.lst (ts ++ us)))) else .no
 | _=>.no
noncomputable def yExt (i:Nat):PV → En → SO
 | .fz (.tup us),ρ=>Q6q i ρ us (Qa ρ i)
 | _,_=>.no
theorem Qaeq {i:Nat} {e:E} (h:(Qa ρ i).mut = true):exS cf (.ext i e) ρ = ofO (evE cf e ρ) (yExt i):=by
 rw [exS,if_pos h]
 congr 1; funext r ρ1
 cases r with
 | fz t=>cases t <;> rfl
 | ow t=>rfl
 | sl i=>rfl
noncomputable def Q0t (i:Nat) (t:T) (j:Int) (ρ:En):Slot → SO
 | .ow (.lst ts)=>Qau (ixN ts.length j) fun n=>.nx (ρ.set i (.ow (.lst (ts.set n t))))
 | .ml (.lst ts)=>Qau (ixN ts.length j) fun n=>.nx (ρ.set i (.ml (.lst (ts.set n t))))
 | _=>.no
noncomputable def Qvt (i:Nat) (t:T):PV → En → SO
 | .fz (.int j),ρ=>Q0t i t j ρ (Qa ρ i)
 | _,_=>.no
noncomputable def Q0u (cf:CF) (i:Nat) (k:E) (ρ:En):Option T → SO
 | none=>.no
 | some t=>if (Qa ρ i).mut = true then ofO (evE cf k ρ) (Qvt i t) else .no
noncomputable def Q4w (cf:CF) (i:Nat) (k:E) (r:PV) (ρ:En):SO:=Q0u cf i k ρ (frz r)
theorem Q6r {i:Nat} {k e:E}:exS cf (.put i k e) ρ = ofO (evE cf e ρ) (Q4w cf i k):=by
 rw [exS]
 congr 1; funext r ρ1
 unfold Q4w
 cases frz r with
 | none=>rfl
 | some t =>
  show _ = (if (Qa ρ1 i).mut = true then ofO (evE cf k ρ1) (Qvt i t) else .no)
  by_cases h:(Qa ρ1 i).mut = true
  ·simp only [if_pos h]
   congr 1; funext rk ρ2
   cases rk with
   | fz u=>cases u <;> rfl
   | ow u=>rfl
   | sl j=>rfl
  ·simp only [if_neg h]
theorem Qtu {i:Nat} {e:E}:exS cf (.app i e) ρ = if (Qa ρ i).mut = true then ofO (evE cf e ρ) (Q0s i) else .no:=by
 by_cases h:(Qa ρ i).mut = true
 ·rw [if_pos h,Qaep h]
 ·rw [if_neg h,exS,if_neg h]
theorem Qaaj {i:Nat} {e:E}:exS cf (.ext i e) ρ = if (Qa ρ i).mut = true then ofO (evE cf e ρ) (yExt i) else .no:=by
 by_cases h:(Qa ρ i).mut = true
 ·rw [if_pos h,Qaeq h]
 ·rw [if_neg h,exS,if_neg h]
theorem Q2 {f:Nat} {rs:List PV}:Qgs cf f rs ρ = if Qv rs = true then Qac cf f rs ρ (Qy ρ rs) else .no:=by
 by_cases h:Qv rs = true
 ·rw [if_pos h,Q4v h]
 ·rw [if_neg h]; unfold Qgs; rw [if_neg h]
noncomputable def Qcc (r:PV) (ρ:En):SO:=.rt r ρ
theorem Qa5 {e:E}:exS cf (.ret e) ρ = ofO (evE cf e ρ) Qcc:=by rw [exS]; rfl
noncomputable def yIf (cf:CF) (a b:S):Bool → En → SO
 | true,ρ=>exS cf a ρ
 | false,ρ=>exS cf b ρ
theorem Qck {c:E} {a b:S}:exS cf (.ite c a b) ρ = ofO (Qak (evE cf c ρ)) (yIf cf a b):=by rw [exS]; congr 1; funext k ρ1; cases k <;> rfl
noncomputable def Qkj (cf:CF) (tg:Tg) (b:S):List T × Option Nat → En → SO
 | (ts,none),ρ=>Qdf tg (exS cf b) ts ρ
 | (_,some _),_=>.no
theorem Qg2 {w:W} {tg:Tg} {b:S}:exS cf (.for_ w tg b) ρ = Qra (ofO (evW cf w ρ) (Qkj cf tg b)):=by
 rw [exS]
 congr 2; funext its ρ1
 obtain ⟨ts,lk⟩:=its
 cases lk <;> rfl
noncomputable def Qar (r:PV):Option (List T) → FR
 | some fin=>.ok r fin
 | none=>.no
noncomputable def Qa1 (o:Option (List T)):Option PV → FR
 | some r=>Qar r o
 | none=>.no
noncomputable def Qbr (as:List Arg):SO → FR
 | .nx ρ=>Qar (.fz .non) (Qw as ρ)
 | .rt r ρ=>Qa1 (Qw as ρ) (Qat ρ r)
 | .xn x ρ=>match Qw as ρ with
  | some fin=>.xn x fin
  | none=>.no
 | _=>.no
theorem Qaz {fn:Fn} {as:List Arg} (h:as.length = fn.ps):Qa7 cf fn as = Qbr as (exS cf fn.body (Qe3 fn as)):=by
 unfold Qa7
 rw [if_pos h]
 cases exS cf fn.body (Qe3 fn as) with
 | nx ρ=>show (match Qw as ρ with | some fin=>FR.ok (.fz .non) fin | none=>.no) = Qar _ (Qw as ρ); cases Qw as ρ <;> rfl
 | rt r ρ =>
  show (match Qat ρ r,Qw as ρ with | some r,some fin=>FR.ok r fin | _,_=>.no) = Qa1 (Qw as ρ) (Qat ρ r)
  cases Qat ρ r <;> cases Qw as ρ <;> rfl
 | xn x ρ=>rfl
 | bk ρ=>rfl
 | ct ρ=>rfl
 | no=>rfl
section
variable {b:Bool} {i:Int} {x:Str} {ts:List T}
theorem Ql9:Qlh "tuple" = true:=rfl
theorem Q4x:Qlh "list" = true:=rfl
theorem Qfn:Qk5 (tyT (.tup ts)) "tuple" = true:=rfl
theorem Qr0:Qk5 (tyT (.lst ts)) "list" = true:=rfl
end
theorem Qma {as:List Arg} {ρ:En}:Qbr as (.nx ρ) = Qar (.fz .non) (Qw as ρ):=rfl
theorem Qan {as:List Arg} {ρ:En} {r:PV}:Qbr as (.rt r ρ) = Qa1 (Qw as ρ) (Qat ρ r):=rfl
theorem Qc6 {ρ:En}:Qra (.nx ρ) = .nx ρ:=rfl
theorem Qmb {α:Type} (g:α → Bool):∀ (xs:List α),Qe1 (xs.map fun x=>T.bl (g x)) = some (xs.map g)
 | []=>rfl
 | x :: xs=>by
  rw [List.map_cons,List.map_cons]
  unfold Qe1
  rw [Qmb g xs]
  rfl
theorem at_0 {a:T} {l:List T}:atI (a :: l) 0 = some a:=by
 have:atI (a :: l) ((0:Nat):Int) = some a:=Qdi rfl
 exact this
theorem at_1 {a b:T} {l:List T}:atI (a :: b :: l) 1 = some b:=by
 have:atI (a :: b :: l) ((1:Nat):Int) = some b:=Qdi rfl
 exact this
theorem Q6s {n:Nat}:ixN (n + 1) 0 = some 0:=by
 unfold ixN
 rw [if_pos (by omega),if_pos (by omega)]
 rfl
inductive All2 (F:T → T → Prop):List T → List T → Prop where
 | nil:All2 F [] []
 | cons {x y xs ys}:F x y → All2 F xs ys → All2 F (x :: xs) (y :: ys)
inductive Ran (F:T → T → Prop):List T → List T → Prop where
 | nil:Ran F [] []
 | skip {x xs ys}:Ran F xs ys → Ran F (x :: xs) ys
 | take {x y xs ys}:F x y → Ran F xs ys → Ran F (x :: xs) (y :: ys)
variable {cf:CF} {P:T → Prop} {F:T → T → Prop} {rest:T → En}
theorem Qoq {el:En → Out PV}:∀ {xs acc:List T} {s0:Slot} {q:T},Qcj s0 = true → P q → (∀ x ∈ xs,∀ q,P q → ∃ r y q',el (.fz x :: rest q) = .ok r (.fz x :: rest q') ∧ frz r = some y ∧ P q' ∧ F x y) → acc.length + xs.length ≤ 100000 →
  ∃ s ys q',Qdx (.nm 0) (evC cf .nil) el xs acc (s0 :: rest q) = .ok (acc ++ ys) (s :: rest q') ∧ Qcj s = true ∧ P q' ∧ All2 F xs ys
 | [],acc,s0,q,h0,hp,he,hz=>⟨s0,[],q,by unfold Qdx; simp,h0,hp,.nil⟩
 | x :: xs,acc,s0,q,h0,hp,he,hz=>by
  rw [List.length_cons] at hz
  obtain ⟨r,y,q1,er,fr,p1,f1⟩:=he x List.mem_cons_self q hp
  obtain ⟨s,ys,q2,e2,o,p2,f2⟩:=Qoq (el:=el) (xs:=xs) (acc:=acc ++ [y]) (s0:=.fz x) (q:=q1) rfl p1 (fun z hz=>he z (List.mem_cons_of_mem _ hz)) (by rw [List.length_append,List.length_singleton]; omega)
  refine ⟨s,y :: ys,q2,?_,o,p2,.cons f1 f2⟩
  unfold Qdx
  rw [Qrv h0]
  have ec:evC cf .nil (.fz x :: rest q) = .ok true (.fz x :: rest q):=by rw [evC]
  simp only [ec,Out.bind,if_true,er,fr]
  have za:acc.length < 100000:=by omega
  rw [if_pos za,e2,List.append_assoc,List.singleton_append]
theorem Q0v {w:W} {js:List (Option Nat)} {e:E} {ρ:En} {ρ':T → En} {xs:List T} {q:T} (hq:P q) (hw:evW cf w ρ = .ok (xs,none) ρ) (hcap:Qde js ρ = .un :: rest q) (hk:∀ s q',Qer (.un :: rest q) (s :: rest q') = true) (hap:Qb5 js = true) (hb:∀ s q',Qcj s = true → Qkh js (s :: rest q') ρ = ρ' q')
  (he:∀ x ∈ xs,∀ q,P q → ∃ r y q',evE cf e (.fz x :: rest q) = .ok r (.fz x :: rest q') ∧ frz r = some y ∧ P q' ∧ F x y) (hz:xs.length ≤ 100000) :
  ∃ ys q',evE cf (.comp w js (.nm 0) .nil e) ρ = .ok (.ow (.lst ys)) (ρ' q') ∧ P q' ∧ All2 F xs ys:=by
 obtain ⟨s,ys,q',e1,o,p1,f1⟩:=Qoq (cf:=cf) (el:=evE cf e) (rest:=rest) (P:=P) (F:=F) (xs:=xs) (acc:=[]) (s0:=.un) (q:=q) rfl hq he (by simpa using hz)
 refine ⟨ys,q',?_,p1,f1⟩
 unfold evE
 rw [hw]
 simp only [Out.bind,hcap,e1]
 rw [if_pos ⟨hk s q',hap⟩,hb s q' o]
 rfl
theorem Qaes {e:E} {ρ:En}:evC cf (.cons e .nil) ρ = Qak (evE cf e ρ):=by rw [evC]
theorem rngI {j:Int} {ρ:En} (h0:0 ≤ j) (h:j ≤ 100000):Q0r (.fz (.int j)) ρ = .ok (Q5 0 j.toNat,none) ρ:=by
 show (if j.natAbs ≤ 100000 then _ else _) = _
 rw [if_pos (by omega)]
theorem Qmc {n:Nat} {ρ:En} (h:n ≤ 100000):Q0r (.fz (.int (n:Int))) ρ = .ok (Q5 0 n,none) ρ:=by
 rw [rngI (by omega) (by omega),Int.toNat_natCast]
theorem Qpl {α:Type} {xs:List α}:Qe1 (xs.map fun _=>T.bl true) = some (xs.map fun _=>true):=Qmb (fun _=>true) xs
theorem Qtv {α:Type} {xs:List α}:(xs.map fun _=>true).all id = true:=by rw [List.all_eq_true]; intro b hb; obtain ⟨_,_,rfl⟩:=List.mem_map.mp hb; rfl
theorem Qvu {f:T → T} {g:Int → Bool} (h:∀ p,f (.int p) = .bl (g p)):∀ (ps:List Int),Qe1 ((ps.map T.int).map f) = some (ps.map g)
 | []=>rfl
 | p :: ps=>by
  rw [List.map_cons,List.map_cons,List.map_cons,h]
  unfold Qe1
  rw [Qvu h ps]
  rfl
theorem Qcl {i j:Int}:eqO (.int i) (.int j) = some (decide (i = j)):=rfl
end L2
namespace L2
variable {i j:Int} {a b:List T} {x y:T} {lo hi:Option Int} {c:Bool}
theorem uo1:opB .add (.int i) (.int j) = some (.fz (.int (i + j))):=rfl
theorem uo2:opB .add (.tup a) (.tup b) = if a.length + b.length ≤ 100000 then some (.fz (.tup (a ++ b))) else none:=rfl
theorem uo4:opB .sub (.int i) (.int j) = some (.fz (.int (i - j))):=rfl
theorem uo5:opB .mul (.int i) (.int j) = if Qcy i j = true then some (.fz (.int (i * j))) else none:=rfl
theorem uo7:opB .fdv (.int i) (.int j) = if 0 < j ∧ j.natAbs < 2 ^ 64 then some (.fz (.int (i / j))) else if j ≠ 0 ∧ j.natAbs < 2 ^ 250 then some (.fz (.int (i.fdiv j))) else none:=rfl
theorem uo8:opB .mod (.int i) (.int j) = if 0 < j then some (.fz (.int (i % j))) else if j < 0 then some (.fz (.int (i.fmod j))) else none:=rfl
theorem uo9:opB .pow (.int i) (.int j) = if 0 ≤ j ∧ j.natAbs ≤ 1000000 ∧ i.natAbs < 2 ^ 64 then some (.fz (.int (i ^ j.toNat))) else none:=rfl
theorem uc1:opC .eq x y = eqO x y:=rfl
theorem uc2:opC .ne x y = (eqO x y).map (!·):=rfl
theorem uc3:opC .lt (.int i) (.int j) = some (decide (i < j)):=rfl
theorem uc4:opC .le (.int i) (.int j) = some (decide (i ≤ j)):=rfl
theorem uc5:opC .gt (.int i) (.int j) = some (decide (j < i)):=rfl
theorem uc6:opC .ge (.int i) (.int j) = some (decide (j ≤ i)):=rfl
theorem uc7:opC .isn x .non = some (Qeq x):=rfl
theorem uc8:opC .isnn x .non = some (!Qeq x):=rfl
theorem ui1:Qzo (.lst a) (.int i) = atI a i:=rfl
theorem ui2:Qzo (.tup a) (.int i) = atI a i:=rfl
theorem ui4:Qxd (.tup a) lo hi = some (.fz (.tup (Qdz a lo hi))):=rfl
theorem ub1:Qjv .len [.lst a] = some (.fz (.int a.length)):=rfl
theorem ub2:Qjv .len [.tup a] = some (.fz (.int a.length)):=rfl
theorem ub3:Qjv .all [.lst a] = (Qe1 a).map fun bs=>.fz (.bl (bs.all id)):=rfl
theorem ub4:Qjv .any [.lst a] = (Qe1 a).map fun bs=>.fz (.bl (bs.any id)):=rfl
theorem ub5:Qjv .sum [.lst a] = (Qdc a).map fun is=>.fz (.int is.sum):=rfl
theorem ub6:Qjv .max [.int i,.int j] = some (.fz (.int (if j > i then j else i))):=rfl
theorem ub7:Qjv .dvm [.int i,.int j] = if 0 < j ∧ j.natAbs < 2 ^ 64 then some (.fz (.tup [.int (i / j),.int (i % j)])) else none:=rfl
theorem ub8:Qjv .int [.bl c] = some (.fz (.int (if c then 1 else 0))):=rfl
theorem ub9:Qjv .tup [.lst a] = some (.fz (.tup a)):=rfl
section
variable {cf:CF} {ρ:En}
noncomputable def yLam (k:Nat) (ρ:En):Option (List T) → Out PV
 | some ts=>.ok (.fz (.clo k ts)) ρ
 | none=>.no
theorem Qaeu {k:Nat} {js:List Nat}:evE cf (.lam k js) ρ = yLam k ρ (Qpb js ρ):=by rw [evE]; cases Qpb js ρ <;> rfl
noncomputable def yApl (cf:CF) (rs:List PV) (ρ:En):Slot → Out PV
 | .fz (.clo k ts)=>Qu8 (Qgs cf k (rs ++ ts.map PV.fz) ρ)
 | _=>.no
theorem Qaam {i:Nat} {rs:List PV}:Qzq cf i rs ρ = yApl cf rs ρ (Qa ρ i):=by
 unfold Qzq
 cases Qa ρ i with
 | fz t=>cases t <;> rfl
 | _=>rfl
theorem Qaew {i:Nat} {es:Es}:evE cf (.app i es) ρ = if Qtf (Qa ρ i) = true then (evA cf es ρ).bind (Qzq cf i) else .no:=by rw [evE]
theorem Q4y {r:PV}:Qu8 (.ok r ρ) = .ok r ρ:=rfl
theorem Q0w {k:Nat} {ts:List T}:Qtf (.fz (.clo k ts)) = true:=rfl
noncomputable def Q0x (ng:Bool) (ρ:En):Option (List Int) → Option T → Out PV
 | some is,some (.dtt ks ts)=>.ok (.fz (.bl (if ng then !(Qe2 ks ts is).isSome else (Qe2 ks ts is).isSome))) ρ
 | _,_=>.no
noncomputable def Q0y (ng:Bool) (rk rd:PV) (ρ:En):Out PV:=Q0x ng ρ (Qfb rk) (cont ρ rd)
noncomputable def yDin (cf:CF) (ng:Bool) (d:E) (rk:PV) (ρ:En):Out PV:=(evE cf d ρ).bind (Q0y ng rk)
theorem Q6t {ng:Bool} {k d:E}:evE cf (.din ng k d) ρ = (evE cf k ρ).bind (yDin cf ng d):=by
 rw [evE]; rfl
noncomputable def Q6u (ρ:En):Option T → Out PV
 | some t=>.ok (.fz t) ρ
 | none=>.no
noncomputable def Q6v (ρ:En):Option (List Int) → Option T → Out PV
 | some is,some (.dtt ks ts)=>Q6u ρ (Qe2 ks ts is)
 | _,_=>.no
noncomputable def Q6w (rd rk:PV) (ρ:En):Out PV:=Q6v ρ (Qfb rk) (cont ρ rd)
noncomputable def yDix (cf:CF) (k:E) (rd:PV) (ρ:En):Out PV:=(evE cf k ρ).bind (Q6w rd)
theorem Qaey {d k:E}:evE cf (.dix d k) ρ = (evE cf d ρ).bind (yDix cf k):=by
 rw [evE]; rfl
noncomputable def yD1b (ρ:En):Option (List Int) → PV → Out PV
 | some is,.fz t=>.ok (.ow (.dtt [is] [t])) ρ
 | _,_=>.no
noncomputable def yD1a (rk rx:PV) (ρ:En):Out PV:=yD1b ρ (Qfb rk) rx
noncomputable def yD1 (cf:CF) (x:E) (rk:PV) (ρ:En):Out PV:=(evE cf x ρ).bind (yD1a rk)
theorem x_d1 {k x:E}:evE cf (.d1 k x) ρ = (evE cf k ρ).bind (yD1 cf x):=by
 rw [evE]; rfl
noncomputable def yDg2 (ρ:En):Option (List Int) → Option T → Out PV
 | some is,some (.dtt ks ts)=>.ok (.fz ((Qe2 ks ts is).getD .non)) ρ
 | _,_=>.no
noncomputable def yDg1 (rd rk:PV) (ρ:En):Out PV:=yDg2 ρ (Qfb rk) (cont ρ rd)
noncomputable def yDg (cf:CF) (k:E) (rd:PV) (ρ:En):Out PV:=if Qlf (cont ρ rd) = true then (evE cf k ρ).bind (yDg1 rd) else .no
theorem Qae3 {d k:E}:evE cf (.dg1 d k) ρ = (evE cf d ρ).bind (yDg cf k):=by
 rw [evE]; rfl
noncomputable def yDp4 (i:Nat) (ρ:En) (is:List Int) (t:T):Slot → SO
 | .ow (.dtt ks ts)=>if ks.length < 100000 then .nx (ρ.set i (.ow (Qkf ks ts is t))) else .no
 | .ml (.dtt ks ts)=>if ks.length < 100000 then .nx (ρ.set i (.ml (Qkf ks ts is t))) else .no
 | _=>.no
noncomputable def yDp3 (i:Nat) (ρ:En) (t:T):Option (List Int) → SO
 | some is=>yDp4 i ρ is t (Qa ρ i)
 | none=>.no
noncomputable def yDp2 (i:Nat) (t:T) (rk:PV) (ρ:En):SO:=yDp3 i ρ t (Qfb rk)
noncomputable def yDp1 (cf:CF) (i:Nat) (k:E) (ρ:En):Option T → SO
 | none=>.no
 | some t=>if (Qa ρ i).mutD = true then ofO (evE cf k ρ) (yDp2 i t) else .no
noncomputable def yDp (cf:CF) (i:Nat) (k:E) (r:PV) (ρ:En):SO:=yDp1 cf i k ρ (frz r)
theorem Qaao {i:Nat} {k e:E}:exS cf (.dput i k e) ρ = ofO (evE cf e ρ) (yDp cf i k):=by
 rw [exS]; rfl
end
section
variable {cf:CF} {ρ ρ1 ρ2:En}
theorem intL_mp:∀ (xs:List Int),Qdc (xs.map T.int) = some xs
 | []=>rfl
 | x :: xs=>by
  show (match Qdc (xs.map T.int) with | some is=>some (x :: is) | none=>none) = _
  rw [intL_mp xs]
theorem dKey_row (z:List Int):Qfb (.fz (.tup (z.map T.int))) = some z:=intL_mp z
theorem whl_run {c:En → Out Bool} {b:En → SO} {Z:En → Prop} (J:Nat → En → Prop) (h:∀ i ρ,J i ρ → (∃ ρ1,c ρ = .ok false ρ1 ∧ Z ρ1) ∨ (∃ i' ρ1 ρ2,i = i' + 1 ∧ c ρ = .ok true ρ1 ∧ b ρ1 = .nx ρ2 ∧ J i' ρ2)) :
  ∀ (i fuel:Nat) (ρ:En),i < fuel → J i ρ → ∃ ρ',Qgm c b fuel ρ = .nx ρ' ∧ Z ρ'
 | i,0,ρ,hf,_=>absurd hf (Nat.not_lt_zero _)
 | i,fuel + 1,ρ,hf,hj=>by
  rcases h i ρ hj with ⟨ρ1,e,z⟩ | ⟨i',ρ1,ρ2,rfl,e1,e2,j⟩
  ·refine ⟨ρ1,?_,z⟩
   unfold Qgm
   rw [e]
   rfl
  ·obtain ⟨ρ',e3,z⟩:=whl_run J h i' fuel ρ2 (by omega) j
   refine ⟨ρ',?_,z⟩
   unfold Qgm
   rw [e1]
   show (match b ρ1 with | .nx ρ2=>Qgm c b fuel ρ2 | .ct ρ2=>Qgm c b fuel ρ2 | .bk ρ2=>.nx ρ2 | o=>o) = _
   rw [e2]
   exact e3
end
section
variable {fA f0:En → SO} {fc:En → Out Bool} {fV f1 f2:En → Out PV} {iF iR iH iW iS iT iN:Nat} {Ms:List (List (List Int))} {R M:List (List Int)} {is:List Int} {ρ ρ1 ρ2 ρ3:En}
end
section
variable {cf:CF} {ρ ρ1 ρ2:En}
end
noncomputable abbrev Q6x (p:Pr) (K:PySem.W.Frag) (ic:Nat) (hi:Int) (body:S):TS:=Q2r (Q2y (Q0m K hi) (Qhy ic) (tS p body)) (Q7g (tC (.bl true)))
theorem Q4z {p:Pr} {K:PySem.W.Frag} {H:Hp} {vs:List V} {Q:VK} {E:XK} {N:List PySem.Str} {ic:Nat} {hi:Int} {body:S} (h:Qtr K vs H Q E) (hN:1 ≤ N.length) (hic:ic < N.length)
  (hb:∀ m:Int,∃ ρ',exS p.cf body ((uns N.length).set ic (.fz (.int m))) = .nx ρ' ∧ ρ'.length = N.length):Q6x p K ic hi body { nx:=fun _ H'=>Q .non H',rt:=Q } (Qbk N vs) H:=by
 obtain ⟨a,ns,rfl,hs,hns,q⟩:=h
 have hl:(Qbk N [.ref a]).length = N.length:=by unfold Qbk; simp only [List.length_append,List.length_map,List.length_replicate,List.length_cons,List.length_nil]; omega
 exact Q0n (Qoj rfl) hs hns hl hic hb fun σ' H'=>q H'
section
variable {cf:CF} {ρ:En} {x:Xn} {α β:Type}
end
end L2
set_option maxHeartbeats 4000000
namespace My
open PySem L2
noncomputable def top (i:Nat):Stmt:=PySem.Challenge.pw_noughtways_k65_whole_ways_joined_and_spr.main.body.getD i (.Pass ⟨0,0,0,0⟩)
theorem Qid {x:Str} {st:Stmt} {p0:Str} (h:∀ (kV doc pm:Value) (an:Option Addr) (cdv ct:Value) (a0:Value),bindArgs (PySem.W.fnOf x x (Qdj st) (Qa9 st) (Qg st) .none kV doc pm an cdv ct) ⟨[a0],[]⟩ = pure [(p0,a0)]):Qz x st [p0]:=fun a b c d e f us hl=>match us,hl with | [a0],_=>h a b c d e f a0
theorem Qfo {x:Str} {st:Stmt} {p0 p1:Str} (h:∀ (kV doc pm:Value) (an:Option Addr) (cdv ct:Value) (a0 a1:Value),bindArgs (PySem.W.fnOf x x (Qdj st) (Qa9 st) (Qg st) .none kV doc pm an cdv ct) ⟨[a0,a1],[]⟩ = pure [(p0,a0),(p1,a1)]):Qz x st [p0,p1]:=fun a b c d e f us hl=>match us,hl with | [a0,a1],_=>h a b c d e f a0 a1
theorem bdN3 {x:Str} {st:Stmt} {p0 p1 p2:Str} (h:∀ (kV doc pm:Value) (an:Option Addr) (cdv ct:Value) (a0 a1 a2:Value),bindArgs (PySem.W.fnOf x x (Qdj st) (Qa9 st) (Qg st) .none kV doc pm an cdv ct) ⟨[a0,a1,a2],[]⟩ = pure [(p0,a0),(p1,a1),(p2,a2)]):Qz x st [p0,p1,p2]:=fun a b c d e f us hl=>match us,hl with | [a0,a1,a2],_=>h a b c d e f a0 a1 a2
theorem bdN4 {x:Str} {st:Stmt} {p0 p1 p2 p3:Str} (h:∀ (kV doc pm:Value) (an:Option Addr) (cdv ct:Value) (a0 a1 a2 a3:Value),bindArgs (PySem.W.fnOf x x (Qdj st) (Qa9 st) (Qg st) .none kV doc pm an cdv ct) ⟨[a0,a1,a2,a3],[]⟩ = pure [(p0,a0),(p1,a1),(p2,a2),(p3,a3)]):Qz x st [p0,p1,p2,p3]:=fun a b c d e f us hl=>match us,hl with | [a0,a1,a2,a3],_=>h a b c d e f a0 a1 a2 a3
noncomputable abbrev Qfp:Stmt:=top 11
theorem Qr1:FnScope ["thing"] ["thing"] (Qg Qfp):=⟨rfl,rfl,rfl,by decide +kernel,rfl,by decide +kernel,by decide +kernel⟩
theorem Qr2:Qz "is_whole" Qfp ["thing"]:=Qid fun _ _ _ _ _ _ _=>rfl
noncomputable abbrev Qjf:Stmt:=top 12
theorem Qxk:FnScope ["thing","size"] ["thing","size"] (Qg Qjf):=⟨rfl,rfl,rfl,by decide +kernel,rfl,by decide +kernel,by decide +kernel⟩
theorem Qxl:Qz "is_row" Qjf ["thing","size"]:=Qfo fun _ _ _ _ _ _ _ _=>rfl
noncomputable abbrev Qhi:Stmt:=top 13
theorem Qtw:FnScope ["thing"] ["thing"] (Qg Qhi):=⟨rfl,rfl,rfl,by decide +kernel,rfl,by decide +kernel,by decide +kernel⟩
theorem Qtx:Qz "is_grid" Qhi ["thing"]:=Qid fun _ _ _ _ _ _ _=>rfl
noncomputable abbrev Qd3:Stmt:=top 14
theorem Qe5:FnScope ["grid","numbers","row"] ["grid"] (Qg Qd3):=⟨rfl,rfl,rfl,by decide +kernel,rfl,by decide +kernel,by decide +kernel⟩
theorem Qm8:Qz "numbers_of" Qd3 ["grid"]:=Qid fun _ _ _ _ _ _ _=>rfl
noncomputable abbrev Qd4:Stmt:=top 15
theorem Qm9:FnScope ["grid"] ["grid"] (Qg Qd4):=⟨rfl,rfl,rfl,by decide +kernel,rfl,by decide +kernel,by decide +kernel⟩
theorem Qna:Qz "is_bounded" Qd4 ["grid"]:=Qid fun _ _ _ _ _ _ _=>rfl
noncomputable abbrev Qfq:Stmt:=top 16
theorem Qkb:FnScope ["thing","bounded","at"] ["thing","bounded"] (Qg Qfq):=⟨rfl,rfl,rfl,by decide +kernel,rfl,by decide +kernel,by decide +kernel⟩
theorem Qr3:Qz "wrong_at" Qfq ["thing","bounded"]:=Qfo fun _ _ _ _ _ _ _ _=>rfl
noncomputable abbrev Qfr:Stmt:=top 17
theorem Qr4:FnScope ["thing","many"] ["thing","many"] (Qg Qfr):=⟨rfl,rfl,rfl,by decide +kernel,rfl,by decide +kernel,by decide +kernel⟩
theorem Qr5:Qz "is_place" Qfr ["thing","many"]:=Qfo fun _ _ _ _ _ _ _ _=>rfl
noncomputable abbrev Qd5:Stmt:=top 18
theorem Qnb:FnScope ["thing","many"] ["thing","many"] (Qg Qd5):=⟨rfl,rfl,rfl,by decide +kernel,rfl,by decide +kernel,by decide +kernel⟩
theorem Qnc:Qz "are_places" Qd5 ["thing","many"]:=Qfo fun _ _ _ _ _ _ _ _=>rfl
noncomputable abbrev Qjg:Stmt:=top 19
theorem Qxm:FnScope ["thing","many"] ["thing","many"] (Qg Qjg):=⟨rfl,rfl,rfl,by decide +kernel,rfl,by decide +kernel,by decide +kernel⟩
theorem Qxn:Qz "is_way" Qjg ["thing","many"]:=Qfo fun _ _ _ _ _ _ _ _=>rfl
noncomputable abbrev Qd6:Stmt:=top 20
theorem Qnd:FnScope ["thing"] ["thing"] (Qg Qd6):=⟨rfl,rfl,rfl,by decide +kernel,rfl,by decide +kernel,by decide +kernel⟩
theorem Qne:Qz "need_table" Qd6 ["thing"]:=Qid fun _ _ _ _ _ _ _=>rfl
noncomputable abbrev Qdn:Stmt:=top 21
theorem Qg3:FnScope ["thing","at"] ["thing"] (Qg Qdn):=⟨rfl,rfl,rfl,by decide +kernel,rfl,by decide +kernel,by decide +kernel⟩
theorem Qmd:Qz "need_tables" Qdn ["thing"]:=Qid fun _ _ _ _ _ _ _=>rfl
noncomputable abbrev Qfs:Stmt:=top 22
theorem Qr6:FnScope ["thing","many"] ["thing","many"] (Qg Qfs):=⟨rfl,rfl,rfl,by decide +kernel,rfl,by decide +kernel,by decide +kernel⟩
theorem Qr7:Qz "need_way" Qfs ["thing","many"]:=Qfo fun _ _ _ _ _ _ _ _=>rfl
noncomputable abbrev Qd7:Stmt:=top 23
theorem Qnf:FnScope ["thing","many"] ["thing","many"] (Qg Qd7):=⟨rfl,rfl,rfl,by decide +kernel,rfl,by decide +kernel,by decide +kernel⟩
theorem Qng:Qz "need_place" Qd7 ["thing","many"]:=Qfo fun _ _ _ _ _ _ _ _=>rfl
noncomputable abbrev Qb9:Stmt:=top 24
theorem Qel:FnScope ["thing","at"] ["thing"] (Qg Qb9):=⟨rfl,rfl,rfl,by decide +kernel,rfl,by decide +kernel,by decide +kernel⟩
theorem Qie:Qz "need_none_below" Qb9 ["thing"]:=Qid fun _ _ _ _ _ _ _=>rfl
noncomputable abbrev Qeu:Stmt:=top 25
theorem Qc7:FnScope ["ways","fresh","step","many","later","thing","at","met"] ["ways","fresh","step","many"] (Qg Qeu):=⟨rfl,rfl,rfl,by decide +kernel,rfl,by decide +kernel,by decide +kernel⟩
theorem Qpm:Qz "walked_on" Qeu ["ways","fresh","step","many"]:=bdN4 fun _ _ _ _ _ _ _ _ _ _=>rfl
noncomputable abbrev Qd8:Stmt:=top 26
theorem Qdo:FnScope ["begun","step","many","ways","fresh"] ["begun","step","many"] (Qg Qd8):=⟨rfl,rfl,rfl,by decide +kernel,rfl,by decide +kernel,by decide +kernel⟩
theorem Qnh:Qz "first_ways" Qd8 ["begun","step","many"]:=bdN3 fun _ _ _ _ _ _ _ _ _=>rfl
noncomputable abbrev Qev:Stmt:=top 28
theorem Qpn:FnScope ["table","at"] ["table","at"] (Qg Qev):=⟨rfl,rfl,rfl,by decide +kernel,rfl,by decide +kernel,by decide +kernel⟩
theorem Qpo:Qz "column_at" Qev ["table","at"]:=Qfo fun _ _ _ _ _ _ _ _=>rfl
noncomputable abbrev Qd9:Stmt:=top 29
theorem Qni:FnScope ["table"] ["table"] (Qg Qd9):=⟨rfl,rfl,rfl,by decide +kernel,rfl,by decide +kernel,by decide +kernel⟩
theorem Qnj:Qz "columns_of" Qd9 ["table"]:=Qid fun _ _ _ _ _ _ _=>rfl
noncomputable abbrev Qbv:Stmt:=top 30
theorem Qhs:FnScope ["row","column"] ["row","column"] (Qg Qbv):=⟨rfl,rfl,rfl,by decide +kernel,rfl,by decide +kernel,by decide +kernel⟩
theorem Qht:Qz "row_times_column" Qbv ["row","column"]:=Qfo fun _ _ _ _ _ _ _ _=>rfl
noncomputable abbrev Qbl:Stmt:=top 31
theorem Qg4:FnScope ["row","columns"] ["row","columns"] (Qg Qbl):=⟨rfl,rfl,rfl,by decide +kernel,rfl,by decide +kernel,by decide +kernel⟩
theorem Qg5:Qz "row_times_columns" Qbl ["row","columns"]:=Qfo fun _ _ _ _ _ _ _ _=>rfl
noncomputable abbrev Qkr:Stmt:=top 32
theorem Qr8:FnScope ["one","other","columns"] ["one","other"] (Qg Qkr):=⟨rfl,rfl,rfl,by decide +kernel,rfl,by decide +kernel,by decide +kernel⟩
theorem Q0z:Qz "times" Qkr ["one","other"]:=Qfo fun _ _ _ _ _ _ _ _=>rfl
noncomputable abbrev Qks:Stmt:=top 33
theorem Qjh:FnScope ["tables","way","told","place"] ["tables","way"] (Qg Qks):=⟨rfl,rfl,rfl,by decide +kernel,rfl,by decide +kernel,by decide +kernel⟩
theorem Q00:Qz "along" Qks ["tables","way"]:=Qfo fun _ _ _ _ _ _ _ _=>rfl
noncomputable abbrev Qew:Stmt:=top 34
theorem Qpp:FnScope ["table"] ["table"] (Qg Qew):=⟨rfl,rfl,rfl,by decide +kernel,rfl,by decide +kernel,by decide +kernel⟩
theorem Qpq:Qz "is_nought" Qew ["table"]:=Qid fun _ _ _ _ _ _ _=>rfl
noncomputable abbrev Qex:Stmt:=top 36
theorem Qpr:FnScope ["size","at"] ["size","at"] (Qg Qex):=⟨rfl,rfl,rfl,by decide +kernel,rfl,by decide +kernel,by decide +kernel⟩
theorem Qps:Qz "unit_line" Qex ["size","at"]:=Qfo fun _ _ _ _ _ _ _ _=>rfl
noncomputable abbrev Qea:Stmt:=top 37
theorem Qnk:FnScope ["size"] ["size"] (Qg Qea):=⟨rfl,rfl,rfl,by decide +kernel,rfl,by decide +kernel,by decide +kernel⟩
theorem Qnl:Qz "unit_lines" Qea ["size"]:=Qid fun _ _ _ _ _ _ _=>rfl
noncomputable abbrev Qji:Stmt:=top 39
theorem Qor:FnScope ["one","other","many"] ["one","other"] (Qg Qji):=⟨rfl,rfl,rfl,by decide +kernel,rfl,by decide +kernel,by decide +kernel⟩
theorem Qxo:Qz "joined" Qji ["one","other"]:=Qfo fun _ _ _ _ _ _ _ _=>rfl
noncomputable abbrev Qkt:Stmt:=top 40
theorem Qjj:FnScope ["table","often","told","factor"] ["table","often"] (Qg Qkt):=⟨rfl,rfl,rfl,by decide +kernel,rfl,by decide +kernel,by decide +kernel⟩
theorem Q01:Qz "power" Qkt ["table","often"]:=Qfo fun _ _ _ _ _ _ _ _=>rfl
noncomputable abbrev Qhj:Stmt:=top 41
theorem Qty:FnScope ["tables","at","often"] ["tables","at","often"] (Qg Qhj):=⟨rfl,rfl,rfl,by decide +kernel,rfl,by decide +kernel,by decide +kernel⟩
theorem Qtz:Qz "powered" Qhj ["tables","at","often"]:=bdN3 fun _ _ _ _ _ _ _ _ _=>rfl
noncomputable abbrev Qjk:Stmt:=top 42
theorem Qhk:FnScope ["tables","at","often","way","told","place"] ["tables","at","often","way"] (Qg Qjk):=⟨rfl,rfl,rfl,by decide +kernel,rfl,by decide +kernel,by decide +kernel⟩
theorem Qxp:Qz "spread" Qjk ["tables","at","often","way"]:=bdN4 fun _ _ _ _ _ _ _ _ _ _=>rfl
noncomputable abbrev Qeb:Stmt:=top 44
theorem Qnm:FnScope ["table","places"] ["table","places"] (Qg Qeb):=⟨rfl,rfl,rfl,by decide +kernel,rfl,by decide +kernel,by decide +kernel⟩
theorem Qnn:Qz "set_behind" Qeb ["table","places"]:=Qfo fun _ _ _ _ _ _ _ _=>rfl
noncomputable abbrev Qec:Stmt:=top 45
theorem Qno:FnScope ["tables"] ["tables"] (Qg Qec):=⟨rfl,rfl,rfl,by decide +kernel,rfl,by decide +kernel,by decide +kernel⟩
theorem Qnp:Qz "all_places" Qec ["tables"]:=Qid fun _ _ _ _ _ _ _=>rfl
noncomputable abbrev Qc8:Stmt:=top 46
theorem Qkk:FnScope ["tables"] ["tables"] (Qg Qc8):=⟨rfl,rfl,rfl,by decide +kernel,rfl,by decide +kernel,by decide +kernel⟩
theorem Qkl:Qz "ways_to_sets" Qc8 ["tables"]:=Qid fun _ _ _ _ _ _ _=>rfl
noncomputable abbrev Qft:Stmt:=top 47
theorem Qr9:FnScope ["tables"] ["tables"] (Qg Qft):=⟨rfl,rfl,rfl,by decide +kernel,rfl,by decide +kernel,by decide +kernel⟩
theorem Qsa:Qz "sign_way" Qft ["tables"]:=Qid fun _ _ _ _ _ _ _=>rfl
noncomputable abbrev Qem:Stmt:=top 49
theorem Qsb:FnScope ["_law_script","_law_k"] ["_law_script","_law_k"] (Qg Qem):=⟨rfl,rfl,rfl,by decide +kernel,rfl,by decide +kernel,by decide +kernel⟩
theorem Qsc:Qz "_law_cell" Qem ["_law_script","_law_k"]:=Qfo fun _ _ _ _ _ _ _ _=>rfl
noncomputable abbrev Qhl:Stmt:=top 50
theorem Qme:FnScope ["_law_cell_here","_law_left"] ["_law_cell_here"] (Qg Qhl):=⟨rfl,rfl,rfl,by decide +kernel,rfl,by decide +kernel,by decide +kernel⟩
theorem Qt0:Qz "_law_pen" Qhl ["_law_cell_here"]:=Qid fun _ _ _ _ _ _ _=>rfl
noncomputable abbrev Qfu:Stmt:=top 51
theorem Qdu:FnScope ["_law_pen_here","_law_many","_law_left","_law_found","_law_stir"] ["_law_pen_here","_law_many"] (Qg Qfu):=⟨rfl,rfl,rfl,by decide +kernel,rfl,by decide +kernel,by decide +kernel⟩
theorem Qsd:Qz "_law_draw" Qfu ["_law_pen_here","_law_many"]:=Qfo fun _ _ _ _ _ _ _ _=>rfl
noncomputable abbrev Qey:Stmt:=top 52
theorem Qbi:FnScope ["_law_pen_here","_law_size","_law_many","_law_full","_law_most","_law_found","_law_turn","_law_rows","_law_i"] ["_law_pen_here","_law_size"] (Qg Qey):=⟨rfl,rfl,rfl,by decide +kernel,rfl,by decide +kernel,by decide +kernel⟩
theorem Qpt:Qz "_law_marks" Qey ["_law_pen_here","_law_size"]:=Qfo fun _ _ _ _ _ _ _ _=>rfl
noncomputable abbrev Qbw:Stmt:=top 53
theorem Qax:FnScope ["_law_one","_law_other","_law_way","_law_both","_law_here","_law_there","_law_short","_law_way_here"] ["_law_one","_law_other","_law_way"] (Qg Qbw):=⟨rfl,rfl,rfl,by decide +kernel,rfl,by decide +kernel,by decide +kernel⟩
theorem Qhu:Qz "_law_joined_right" Qbw ["_law_one","_law_other","_law_way"]:=bdN3 fun _ _ _ _ _ _ _ _ _=>rfl
noncomputable abbrev Qbx:Stmt:=top 54
theorem Qa8:FnScope ["_law_tables","_law_at","_law_often","_law_way","_law_later","_law_long","_law_short"] ["_law_tables","_law_at","_law_often","_law_way"] (Qg Qbx):=⟨rfl,rfl,rfl,by decide +kernel,rfl,by decide +kernel,by decide +kernel⟩
theorem Qhv:Qz "_law_spread_right" Qbx ["_law_tables","_law_at","_law_often","_law_way"]:=bdN4 fun _ _ _ _ _ _ _ _ _ _=>rfl
noncomputable abbrev Qkc:Stmt:=top 55
theorem Qe6:FnScope ["_law_script","_law_cell_here","_law_pen_here","_law_size","_law_one","_law_other","_law_many","_law_way","_law_at","_law_here"] ["_law_script"] (Qg Qkc):=⟨rfl,rfl,rfl,by decide +kernel,rfl,by decide +kernel,by decide +kernel⟩
theorem Qaar:Qz "law" Qkc ["_law_script"]:=Qid fun _ _ _ _ _ _ _=>rfl
theorem Qaas:PySem.bootBuiltins "abs" = some (.builtin "abs"):=by decide +kernel
theorem Qpu:PySem.bootBuiltins "all" = some (.builtin "all"):=by decide +kernel
theorem Qt1:PySem.bootBuiltins "any" = some (.builtin "any"):=by decide +kernel
theorem Q40:PySem.bootBuiltins "bool" = some (.type "bool"):=by decide +kernel
theorem Q41:PySem.bootBuiltins "dict" = some (.type "dict"):=by decide +kernel
theorem Qxq:PySem.bootBuiltins "divmod" = some (.builtin "divmod"):=by decide +kernel
theorem Qpv:PySem.bootBuiltins "int" = some (.type "int"):=by decide +kernel
theorem Qb3:PySem.bootBuiltins "isinstance" = some (.builtin "isinstance"):=by decide +kernel
theorem Qad:PySem.bootBuiltins "len" = some (.builtin "len"):=by decide +kernel
theorem Qvv:PySem.bootBuiltins "list" = some (.type "list"):=by decide +kernel
theorem Qaat:PySem.bootBuiltins "max" = some (.builtin "max"):=by decide +kernel
theorem Q02:PySem.bootBuiltins "range" = some (.type "range"):=by decide +kernel
theorem Qaau:PySem.bootBuiltins "sum" = some (.builtin "sum"):=by decide +kernel
theorem Qa2:PySem.bootBuiltins "tuple" = some (.type "tuple"):=by decide +kernel
structure Txt (K:PySem.W.Frag) (mg:Str → Option Value):Prop where
 n_abs:mg "abs" = none
 n_all:mg "all" = none
 n_any:mg "any" = none
 n_bool:mg "bool" = none
 n_dict:mg "dict" = none
 n_divmod:mg "divmod" = none
 n_int:mg "int" = none
 n_isinstance:mg "isinstance" = none
 n_len:mg "len" = none
 n_list:mg "list" = none
 n_max:mg "max" = none
 n_range:mg "range" = none
 n_sum:mg "sum" = none
 n_tuple:mg "tuple" = none
 m_MOST_PLACES:∃ u,mg "MOST_PLACES" = some u ∧ RelV (.int (200)) u
 m_MOST_ROWS:∃ u,mg "MOST_ROWS" = some u ∧ RelV (.int (4)) u
 m_MOST_TABLES:∃ u,mg "MOST_TABLES" = some u ∧ RelV (.int (4)) u
 ct_ways_to_sets:Q0k K mg "ways_to_sets" Qo3.qual
noncomputable abbrev Qt2:L2.S:=(.ret (.and (.isI (.var 0) "int") (.not (.isI (.var 0) "bool"))))
noncomputable abbrev Qfv:L2.Df:=⟨"is_whole",Qfp,["thing"],["thing"],⟨1,1,Qt2⟩,fun _=>true,fun _=>true⟩
noncomputable abbrev Qmf:L2.S:=(.seq (.ite (.or (.not (.isI (.var 0) "tuple")) (.cmp .ne (.bi .len (.cons (.var 0) .nil)) (.var 1))) (.ret (.bl false)) .nil)
 (.ret (.bi .all (.cons (.comp (.seq (.var 0)) [none] (.nm 0) .nil (.call 0 (.cons (.var 0) .nil))) .nil))))
noncomputable abbrev Qmg:L2.Df:=⟨"is_row",Qjf,["thing","size"],["thing","size"],⟨2,2,Qmf⟩,fun _=>true,fun _=>true⟩
noncomputable abbrev Qjz:L2.S:=(.seq (.ite (.or (.not (.isI (.var 0) "tuple")) (.or (.cmp .lt (.bi .len (.cons (.var 0) .nil)) (.int 1)) (.cmp .gt (.bi .len (.cons (.var 0) .nil)) (.int (4))))) (.ret (.bl false)) .nil)
 (.ret (.bi .all (.cons (.comp (.seq (.var 0)) [none,some 0] (.nm 0) .nil (.call 1 (.cons (.var 0) (.cons (.bi .len (.cons (.var 1) .nil)) .nil)))) .nil))))
noncomputable abbrev Qhm:L2.Df:=⟨"is_grid",Qhi,["thing"],["thing"],⟨1,1,Qjz⟩,fun _=>true,fun _=>true⟩
noncomputable abbrev Qfw:L2.S:=(.seq (.set 1 (.lst .nil))
 (.seq (.for_ (.seq (.var 0)) (.nm 2) (.ext 1 (.var 2)))
 (.ret (.var 1))))
noncomputable abbrev Qc9:L2.Df:=⟨"numbers_of",Qd3,["grid","numbers","row"],["grid"],⟨1,3,Qfw⟩,fun _=>true,fun _=>true⟩
noncomputable abbrev Qpw:L2.S:=(.ret (.bi .all (.cons (.comp (.seq (.call 3 (.cons (.var 0) .nil))) [none] (.nm 0) .nil (.cmp .lt (.bi .abs (.cons (.var 0) .nil)) (.bin .pow (.int 10) (.int 12)))) .nil)))
noncomputable abbrev Qfx:L2.Df:=⟨"is_bounded",Qd4,["grid"],["grid"],⟨1,1,Qpw⟩,fun _=>true,fun _=>true⟩
noncomputable abbrev Qif:L2.S:=(.seq (.ite (.or (.not (.isI (.var 0) "list")) (.or (.cmp .lt (.bi .len (.cons (.var 0) .nil)) (.int 1)) (.cmp .gt (.bi .len (.cons (.var 0) .nil)) (.int (4))))) (.ret (.neg (.int 1))) .nil)
 (.seq (.for_ (.rng1 (.bi .len (.cons (.var 0) .nil))) (.nm 2) (.seq (.ite (.or (.not (.call 2 (.cons (.ix (.var 0) (.var 2)) .nil))) (.cmp .ne (.bi .len (.cons (.ix (.var 0) (.var 2)) .nil)) (.bi .len (.cons (.ix (.var 0) (.int 0)) .nil)))) (.ret (.var 2)) .nil)
 (.ite (.and (.var 1) (.not (.call 4 (.cons (.ix (.var 0) (.var 2)) .nil)))) (.ret (.var 2)) .nil)))
 (.ret .non)))
noncomputable abbrev Qig:L2.Df:=⟨"wrong_at",Qfq,["thing","bounded","at"],["thing","bounded"],⟨2,3,Qif⟩,fun _=>true,fun _=>true⟩
noncomputable abbrev Qih:L2.S:=(.ret (.and (.call 0 (.cons (.var 0) .nil)) (.and (.cmp .ge (.var 0) (.int 0)) (.cmp .lt (.var 0) (.var 1)))))
noncomputable abbrev Qfy:L2.Df:=⟨"is_place",Qfr,["thing","many"],["thing","many"],⟨2,2,Qih⟩,fun _=>true,fun _=>true⟩
noncomputable abbrev Qfz:L2.S:=(.ret (.and (.isI (.var 0) "tuple") (.bi .all (.cons (.comp (.seq (.var 0)) [none,some 1] (.nm 0) .nil (.call 6 (.cons (.var 0) (.cons (.var 1) .nil)))) .nil))))
noncomputable abbrev Qf0:L2.Df:=⟨"are_places",Qd5,["thing","many"],["thing","many"],⟨2,2,Qfz⟩,fun _=>true,fun _=>true⟩
noncomputable abbrev Qmh:L2.S:=(.ret (.and (.call 7 (.cons (.var 0) (.cons (.var 1) .nil))) (.and (.cmp .ge (.bi .len (.cons (.var 0) .nil)) (.int 1)) (.cmp .le (.bi .len (.cons (.var 0) .nil)) (.int (200))))))
noncomputable abbrev Qmi:L2.Df:=⟨"is_way",Qjg,["thing","many"],["thing","many"],⟨2,2,Qmh⟩,fun _=>true,fun _=>true⟩
noncomputable abbrev Qf1:L2.S:=(.ite (.not (.call 2 (.cons (.var 0) .nil))) .bad .nil)
noncomputable abbrev Qf2:L2.Df:=⟨"need_table",Qd6,["thing"],["thing"],⟨1,1,Qf1⟩,fun _=>true,fun _=>true⟩
noncomputable abbrev Qe7:L2.S:=(.seq (.setF 1 (.call 5 (.cons (.var 0) (.cons (.bl false) .nil))))
 (.ite (.cmp .isnn (.var 1) .non) .bad .nil))
noncomputable abbrev Qba:L2.Df:=⟨"need_tables",Qdn,["thing","at"],["thing"],⟨1,2,Qe7⟩,fun _=>true,fun _=>true⟩
noncomputable abbrev Qii:L2.S:=(.ite (.not (.call 8 (.cons (.var 0) (.cons (.var 1) .nil)))) .bad .nil)
noncomputable abbrev Qf3:L2.Df:=⟨"need_way",Qfs,["thing","many"],["thing","many"],⟨2,2,Qii⟩,fun _=>true,fun _=>true⟩
noncomputable abbrev Qf4:L2.S:=(.ite (.not (.call 6 (.cons (.var 0) (.cons (.var 1) .nil)))) .bad .nil)
noncomputable abbrev Qed:L2.Df:=⟨"need_place",Qd7,["thing","many"],["thing","many"],⟨2,2,Qf4⟩,fun _=>true,fun _=>true⟩
noncomputable abbrev Qda:L2.S:=(.seq (.expr (.call 10 (.cons (.var 0) .nil)))
 (.for_ (.rng1 (.bi .len (.cons (.var 0) .nil))) (.nm 1) (.ite (.bi .any (.cons (.comp (.seq (.call 3 (.cons (.ix (.var 0) (.var 1)) .nil))) [none] (.nm 0) .nil (.cmp .lt (.var 0) (.int 0))) .nil)) .bad .nil)))
noncomputable abbrev Qdb:L2.Df:=⟨"need_none_below",Qb9,["thing","at"],["thing"],⟨1,2,Qda⟩,fun _=>true,fun _=>true⟩
noncomputable abbrev Qg6:L2.S:=(.seq (.set 4 (.lst .nil))
 (.seq (.for_ (.seq (.var 1)) (.nm 5) (.for_ (.rng1 (.var 3)) (.nm 6) (.seq (.setF 7 (.app 2 (.cons (.var 5) (.cons (.var 6) .nil))))
 (.ite (.din true (.var 7) (.var 0)) (.seq (.dput 0 (.var 7) (.bin .add (.dix (.var 0) (.var 5)) (.tup (.cons (.var 6) .nil))))
 (.app 4 (.var 7))) .nil))))
 (.ret (.var 4))))
noncomputable abbrev Qg7:L2.Df:=⟨"walked_on",Qeu,["ways","fresh","step","many","later","thing","at","met"],["ways","fresh","step","many"],⟨4,8,Qg6⟩,fun _=>true,fun _=>true⟩
noncomputable abbrev Qf5:L2.S:=(.seq (.set 3 (.bi .dct (.cons (.var 0) .nil)))
 (.seq (.setF 4 (.bi .lstD (.cons (.var 0) .nil)))
 (.seq (.whl (.cmp .ne (.var 4) (.lst .nil)) (.setF 4 (.call 14 (.cons (.var 3) (.cons (.var 4) (.cons (.var 1) (.cons (.var 2) .nil)))))))
 (.ret (.var 3)))))
noncomputable abbrev Qf6:L2.Df:=⟨"first_ways",Qd8,["begun","step","many","ways","fresh"],["begun","step","many"],⟨3,5,Qf5⟩,fun _=>true,fun _=>true⟩
noncomputable abbrev Qg8:L2.S:=(.ret (.bi .tup (.cons (.comp (.seq (.var 0)) [none,some 1] (.nm 0) .nil (.ix (.var 0) (.var 1))) .nil)))
noncomputable abbrev Qg9:L2.Df:=⟨"column_at",Qev,["table","at"],["table","at"],⟨2,2,Qg8⟩,fun _=>true,fun _=>true⟩
noncomputable abbrev Qf7:L2.S:=(.ret (.bi .tup (.cons (.comp (.rng1 (.bi .len (.cons (.var 0) .nil))) [none,some 0] (.nm 0) .nil (.call 16 (.cons (.var 1) (.cons (.var 0) .nil)))) .nil)))
noncomputable abbrev Qf8:L2.Df:=⟨"columns_of",Qd9,["table"],["table"],⟨1,1,Qf7⟩,fun _=>true,fun _=>true⟩
noncomputable abbrev Qcn:L2.S:=(.ret (.bi .sum (.cons (.comp (.rng1 (.bi .len (.cons (.var 0) .nil))) [none,some 0,some 1] (.nm 0) .nil (.bin .mul (.ix (.var 1) (.var 0)) (.ix (.var 2) (.var 0)))) .nil)))
noncomputable abbrev Qco:L2.Df:=⟨"row_times_column",Qbv,["row","column"],["row","column"],⟨2,2,Qcn⟩,fun _=>true,fun _=>true⟩
noncomputable abbrev Qcg:L2.S:=(.ret (.bi .tup (.cons (.comp (.seq (.var 1)) [none,some 0] (.nm 0) .nil (.call 18 (.cons (.var 1) (.cons (.var 0) .nil)))) .nil)))
noncomputable abbrev Qch:L2.Df:=⟨"row_times_columns",Qbl,["row","columns"],["row","columns"],⟨2,2,Qcg⟩,fun _=>true,fun _=>true⟩
noncomputable abbrev Qpx:L2.S:=(.seq (.setF 2 (.call 17 (.cons (.var 1) .nil)))
 (.ret (.bi .tup (.cons (.comp (.seq (.var 0)) [none,some 2] (.nm 0) .nil (.call 19 (.cons (.var 0) (.cons (.var 1) .nil)))) .nil))))
noncomputable abbrev Qku:L2.Df:=⟨"times",Qkr,["one","other","columns"],["one","other"],⟨2,3,Qpx⟩,fun _=>true,fun _=>true⟩
noncomputable abbrev Qpy:L2.S:=(.seq (.expr (.call 10 (.cons (.var 0) .nil)))
 (.seq (.expr (.call 11 (.cons (.var 1) (.cons (.bi .len (.cons (.var 0) .nil)) .nil))))
 (.seq (.setF 2 (.ix (.var 0) (.ix (.var 1) (.int 0))))
 (.seq (.for_ (.seq (.slc (.var 1) (.cons (.int 1) .nil) .nil)) (.nm 3) (.setF 2 (.call 20 (.cons (.var 2) (.cons (.ix (.var 0) (.var 3)) .nil)))))
 (.ret (.var 2))))))
noncomputable abbrev Qee:L2.Df:=⟨"along",Qks,["tables","way","told","place"],["tables","way"],⟨2,4,Qpy⟩,fun _=>true,fun _=>true⟩
noncomputable abbrev Qha:L2.S:=(.seq (.expr (.call 9 (.cons (.var 0) .nil)))
 (.ret (.not (.bi .any (.cons (.call 3 (.cons (.var 0) .nil)) .nil)))))
noncomputable abbrev Qhb:L2.Df:=⟨"is_nought",Qew,["table"],["table"],⟨1,1,Qha⟩,fun _=>true,fun _=>true⟩
noncomputable abbrev Qhc:L2.S:=(.ret (.bi .tup (.cons (.comp (.rng1 (.var 0)) [none,some 1] (.nm 0) .nil (.bi .int (.cons (.cmp .eq (.var 0) (.var 1)) .nil))) .nil)))
noncomputable abbrev Qhd:L2.Df:=⟨"unit_line",Qex,["size","at"],["size","at"],⟨2,2,Qhc⟩,fun _=>true,fun _=>true⟩
noncomputable abbrev Qf9:L2.S:=(.ret (.comp (.rng1 (.var 0)) [none,some 0] (.nm 0) .nil (.call 23 (.cons (.var 1) (.cons (.var 0) .nil)))))
noncomputable abbrev Qga:L2.Df:=⟨"unit_lines",Qea,["size"],["size"],⟨1,1,Qf9⟩,fun _=>true,fun _=>true⟩
noncomputable abbrev Qmj:L2.S:=(.seq (.expr (.call 10 (.cons (.var 0) .nil)))
 (.seq (.expr (.call 10 (.cons (.var 1) .nil)))
 (.seq (.ite (.cmp .ne (.bi .len (.cons (.ix (.var 0) (.int 0)) .nil)) (.bi .len (.cons (.ix (.var 1) (.int 0)) .nil))) .bad .nil)
 (.seq (.setF 2 (.bin .add (.bi .len (.cons (.var 0) .nil)) (.bi .len (.cons (.var 1) .nil))))
 (.seq (.ite (.cmp .gt (.var 2) (.int (4))) .bad .nil)
 (.ret (.bin .add (.var 0) (.var 1))))))))
noncomputable abbrev Qmk:L2.Df:=⟨"joined",Qji,["one","other","many"],["one","other"],⟨2,3,Qmj⟩,fun _=>true,fun _=>true⟩
noncomputable abbrev Qpz:L2.S:=(.seq (.setF 2 (.bi .tup (.cons (.call 24 (.cons (.bi .len (.cons (.var 0) .nil)) .nil)) .nil)))
 (.seq (.for_ (.rng1 (.var 1)) (.nm 3) (.setF 2 (.call 20 (.cons (.var 2) (.cons (.var 0) .nil)))))
 (.ret (.var 2))))
noncomputable abbrev Qp0:L2.Df:=⟨"power",Qkt,["table","often","told","factor"],["table","often"],⟨2,4,Qpz⟩,fun _=>true,fun _=>true⟩
noncomputable abbrev Qj0:L2.S:=(.seq (.expr (.call 10 (.cons (.var 0) .nil)))
 (.seq (.expr (.call 12 (.cons (.var 1) (.cons (.bi .len (.cons (.var 0) .nil)) .nil))))
 (.ret (.bin .add (.bin .add (.slc (.var 0) .nil (.cons (.var 1) .nil)) (.lst (.cons (.call 26 (.cons (.ix (.var 0) (.var 1)) (.cons (.var 2) .nil))) .nil))) (.slc (.var 0) (.cons (.bin .add (.var 1) (.int 1)) .nil) .nil)))))
noncomputable abbrev Qj1:L2.Df:=⟨"powered",Qhj,["tables","at","often"],["tables","at","often"],⟨3,3,Qj0⟩,fun _=>true,fun _=>true⟩
noncomputable abbrev Qml:L2.S:=(.seq (.expr (.call 10 (.cons (.var 0) .nil)))
 (.seq (.expr (.call 12 (.cons (.var 1) (.cons (.bi .len (.cons (.var 0) .nil)) .nil))))
 (.seq (.expr (.call 11 (.cons (.var 3) (.cons (.bi .len (.cons (.var 0) .nil)) .nil))))
 (.seq (.setF 4 (.tup .nil))
 (.seq (.for_ (.seq (.var 3)) (.nm 5) (.setF 4 (.bin .add (.var 4) (.bin .mul (.tup (.cons (.var 5) .nil)) (.ite (.cmp .eq (.var 5) (.var 1)) (.var 2) (.int 1))))))
 (.ret (.var 4)))))))
noncomputable abbrev Qjl:L2.Df:=⟨"spread",Qjk,["tables","at","often","way","told","place"],["tables","at","often","way"],⟨4,6,Qml⟩,fun _=>true,fun _=>true⟩
noncomputable abbrev Qgb:L2.S:=(.ret (.bi .tup (.cons (.comp (.rng1 (.bi .len (.cons (.var 0) .nil))) [none,some 1,some 0] (.nm 0) (.cons (.bi .any (.cons (.comp (.seq (.var 1)) [none,some 0,some 2] (.nm 0) .nil (.cmp .ne (.ix (.ix (.var 2) (.var 0)) (.var 1)) (.int 0))) .nil)) .nil) (.var 0)) .nil)))
noncomputable abbrev Qgc:L2.Df:=⟨"set_behind",Qeb,["table","places"],["table","places"],⟨2,2,Qgb⟩,fun _=>true,fun _=>true⟩
noncomputable abbrev Qgd:L2.S:=(.ret (.tupR false (.bi .len (.cons (.ix (.var 0) (.int 0)) .nil))))
noncomputable abbrev Qge:L2.Df:=⟨"all_places",Qec,["tables"],["tables"],⟨1,1,Qgd⟩,fun _=>true,fun _=>true⟩
noncomputable abbrev Qen:L2.S:=(.ret (.call 15 (.cons (.d1 (.call 30 (.cons (.var 0) .nil)) (.tup .nil)) (.cons (.lam 38 [0]) (.cons (.bi .len (.cons (.var 0) .nil)) .nil)))))
noncomputable abbrev Qeo:L2.Df:=⟨"ways_to_sets",Qc8,["tables"],["tables"],⟨1,1,Qen⟩,fun x=>!(x == ("tables" : PySem.Str)),fun x=>!(x == ("tables" : PySem.Str))⟩
noncomputable abbrev Qij:L2.S:=(.seq (.expr (.call 13 (.cons (.var 0) .nil)))
 (.ret (.dg1 (.call 31 (.cons (.var 0) .nil)) (.tup .nil))))
noncomputable abbrev Qcd:L2.Df:=⟨"sign_way",Qft,["tables"],["tables"],⟨1,1,Qij⟩,fun _=>true,fun _=>true⟩
noncomputable abbrev Qj2:L2.S:=(.seq (.setF 1 (.bi .max (.cons (.var 0) (.cons (.bin .sub (.int 0) (.var 0)) .nil))))
 (.ret (.lst (.cons (.var 1) (.cons (.bi .int (.cons (.cmp .ge (.var 1) (.bin .pow (.int 10) (.int 18))) .nil)) .nil)))))
noncomputable abbrev Qj3:L2.Df:=⟨"_law_pen",Qhl,["_law_cell_here","_law_left"],["_law_cell_here"],⟨1,2,Qj2⟩,fun _=>true,fun _=>true⟩
noncomputable abbrev Qep:L2.S:=(.seq (.ite (.cmp .eq (.ix (.var 0) (.int 1)) (.int 1)) (.seq (.unp [2,3] (.bi .dvm (.cons (.ix (.var 0) (.int 0)) (.cons (.var 1) .nil))))
 (.seq (.put 0 (.int 0) (.var 2))
 (.ret (.var 3)))) .nil)
 (.seq (.setF 4 (.bin .mod (.bin .mul (.bin .add (.bin .mod (.ix (.var 0) (.int 0)) (.int 2147483647)) (.int 40503)) (.int 69621)) (.int 2147483629)))
 (.seq (.setF 4 (.bin .mod (.bin .add (.bin .mul (.var 4) (.var 4)) (.int 7817)) (.int 2147483587)))
 (.seq (.put 0 (.int 0) (.bin .mod (.bin .add (.bin .mul (.var 4) (.int 48271)) (.int 11)) (.int 2147483629)))
 (.ret (.bin .mod (.bin .fdv (.ix (.var 0) (.int 0)) (.int 32)) (.var 1)))))))
noncomputable abbrev Qa6:L2.Df:=⟨"_law_draw",Qfu,["_law_pen_here","_law_many","_law_left","_law_found","_law_stir"],["_law_pen_here","_law_many"],⟨2,5,Qep⟩,fun _=>true,fun _=>true⟩
noncomputable abbrev Qhe:L2.S:=(.seq (.setF 2 (.bin .add (.int 1) (.call 34 (.cons (.var 0) (.cons (.int 4) .nil)))))
 (.seq (.setF 3 (.ix (.lst (.cons (.int 3) (.cons (.int 4) (.cons (.int 6) .nil)))) (.call 34 (.cons (.var 0) (.cons (.int 3) .nil)))))
 (.seq (.setF 4 (.ix (.lst (.cons (.int 1) (.cons (.int 1) (.cons (.bin .pow (.int 10) (.int 6)) .nil)))) (.call 34 (.cons (.var 0) (.cons (.int 3) .nil)))))
 (.seq (.set 5 (.lst .nil))
 (.seq (.for_ (.rng1 (.var 2)) (.nm 6) (.seq (.set 7 (.lst .nil))
 (.seq (.for_ (.rng1 (.var 1)) (.nm 8) (.app 7 (.bi .tup (.cons (.comp (.rng1 (.var 1)) [none,some 3,some 0,some 4] (.nm 0) .nil (.bin .mul (.bi .int (.cons (.cmp .lt (.call 34 (.cons (.var 2) (.cons (.int 10) .nil))) (.var 1)) .nil)) (.bin .add (.int 1) (.call 34 (.cons (.var 2) (.cons (.var 3) .nil)))))) .nil))))
 (.app 5 (.bi .tup (.cons (.var 7) .nil))))))
 (.ret (.var 5)))))))
noncomputable abbrev Qez:L2.Df:=⟨"_law_marks",Qey,["_law_pen_here","_law_size","_law_many","_law_full","_law_most","_law_found","_law_turn","_law_rows","_law_i"],["_law_pen_here","_law_size"],⟨2,9,Qhe⟩,fun _=>true,fun _=>true⟩
noncomputable abbrev Qcp:L2.S:=(.seq (.setF 3 (.call 25 (.cons (.var 0) (.cons (.var 1) .nil))))
 (.seq (.setF 4 (.bi .tup (.cons (.comp (.seq (.var 2)) [none,some 0] (.nm 0) .nil (.bin .mod (.var 0) (.bi .len (.cons (.var 1) .nil)))) .nil)))
 (.seq (.setF 5 (.bi .tup (.cons (.comp (.seq (.var 2)) [none,some 1] (.nm 0) .nil (.bin .mod (.var 0) (.bi .len (.cons (.var 1) .nil)))) .nil)))
 (.seq (.ite (.cmp .ne (.call 21 (.cons (.var 3) (.cons (.var 4) .nil))) (.call 21 (.cons (.var 0) (.cons (.var 4) .nil)))) (.ret (.bl false)) .nil)
 (.seq (.ite (.cmp .ne (.call 21 (.cons (.var 3) (.cons (.bi .tup (.cons (.comp (.seq (.var 5)) [none,some 0] (.nm 0) .nil (.bin .add (.var 0) (.bi .len (.cons (.var 1) .nil)))) .nil)) .nil))) (.call 21 (.cons (.var 1) (.cons (.var 5) .nil)))) (.ret (.bl false)) .nil)
 (.seq (.setF 6 (.call 32 (.cons (.var 3) .nil)))
 (.seq (.for_ (.seq (.lst (.cons (.call 32 (.cons (.var 0) .nil)) (.cons (.call 32 (.cons (.var 1) .nil)) .nil)))) (.nm 7) (.ite (.and (.cmp .isnn (.var 7) .non) (.or (.cmp .isn (.var 6) .non) (.cmp .gt (.bi .len (.cons (.var 6) .nil)) (.bi .len (.cons (.var 7) .nil))))) (.ret (.bl false)) .nil))
 (.ret (.bl true)))))))))
noncomputable abbrev Qcq:L2.Df:=⟨"_law_joined_right",Qbw,["_law_one","_law_other","_law_way","_law_both","_law_here","_law_there","_law_short","_law_way_here"],["_law_one","_law_other","_law_way"],⟨3,8,Qcp⟩,fun _=>true,fun _=>true⟩
noncomputable abbrev Qcr:L2.S:=(.seq (.setF 4 (.call 27 (.cons (.var 0) (.cons (.var 1) (.cons (.var 2) .nil)))))
 (.seq (.setF 5 (.call 28 (.cons (.var 0) (.cons (.var 1) (.cons (.var 2) (.cons (.var 3) .nil))))))
 (.seq (.ite (.or (.cmp .ne (.call 21 (.cons (.var 0) (.cons (.var 5) .nil))) (.call 21 (.cons (.var 4) (.cons (.var 3) .nil)))) (.cmp .ne (.bi .len (.cons (.var 5) .nil)) (.bin .add (.bi .len (.cons (.var 3) .nil)) (.bin .mul (.bin .sub (.var 2) (.int 1)) (.cnt (.var 3) (.var 1)))))) (.ret (.bl false)) .nil)
 (.seq (.setF 6 (.call 32 (.cons (.var 4) .nil)))
 (.seq (.ite (.cmp .isn (.var 6) .non) (.ret (.bl true)) .nil)
 (.seq (.setF 5 (.call 28 (.cons (.var 0) (.cons (.var 1) (.cons (.var 2) (.cons (.var 6) .nil))))))
 (.seq (.ite (.not (.call 22 (.cons (.call 21 (.cons (.var 0) (.cons (.var 5) .nil))) .nil))) (.ret (.bl false)) .nil)
 (.ret (.and (.cmp .isnn (.call 32 (.cons (.var 0) .nil)) .non) (.cmp .le (.bi .len (.cons (.call 32 (.cons (.var 0) .nil)) .nil)) (.bi .len (.cons (.var 5) .nil))))))))))))
noncomputable abbrev Qcs:L2.Df:=⟨"_law_spread_right",Qbx,["_law_tables","_law_at","_law_often","_law_way","_law_later","_law_long","_law_short"],["_law_tables","_law_at","_law_often","_law_way"],⟨4,7,Qcr⟩,fun _=>true,fun _=>true⟩
noncomputable abbrev ds:List L2.Df:=[Qfv,Qmg,Qhm,Qc9,Qfx,Qig,Qfy,Qf0,Qmi,Qf2,Qba,Qf3,Qed,Qdb,Qg7,Qf6,Qg9,Qf8,Qco,Qch,Qku,Qee,Qhb,Qhd,Qga,Qmk,Qp0,Qj1,Qjl,Qgc,Qge,Qeo,Qcd,Qj3,Qa6,Qez,Qcq,Qcs]
noncomputable abbrev Qmm:L2.E:=(.call 29 (.cons (.ix (.var 2) (.var 1)) (.cons (.var 0) .nil)))
noncomputable abbrev ls:List (Nat × L2.Fn):=[(38,Qvj Qo3 Qmm)]
section
variable {P:Program} {w:World} {K:PySem.W.Frag} {mg:Str → Option Value} {base:Heap}
theorem Qt3 (tx:Txt K mg):Qu P w K mg base ds Qfv:=fun cf n R f cdv A outer s H E hc hL co pz1 pz hr =>
 (q0 (fun _ h=>h) (Qs (Qal (Qll (Qok tx.n_isinstance Qb3 (Qc 0) (Qw6 "int" tx.n_int Qpv)) (Qrg (Q6c (Qok tx.n_isinstance Qb3 (Qc 0) (Qw6 "bool" tx.n_bool Q40))))))))
theorem Q03 (tx:Txt K mg):Qu P w K mg base ds Qmg:=fun cf n R f cdv A outer s H E hc hL co pz1 pz hr =>
 (q0 (fun _ h=>h) (Qk (Qe4 (t_w (Qpd (Qgt (Qc1 (Qok tx.n_isinstance Qb3 (Qc 0) (Qw6 "tuple" tx.n_tuple Qa2)))) (Qi2 (Qrl hr.units (Qbb (Qay K rfl) (Qag K) tx.n_len Qad (Qb (Qc 0) Qf)) (Qc 1))))) (Qs (Qal Qli)) Qci)
  (Qs (Qal (Qbb (Qu4 K rfl) (Qpe K) tx.n_all Qpu (Qb (Qbo ["number"] [none] rfl (Qb6 rfl (Qc 0)) (fun _ _ _=>(Q9 (Qam (i:=0) (show List.Nodup (["number"]:List PySem.Str) by decide +kernel)))) (fun _ _ _=>Qbu) (fun _ _ _=>(Ql (hc 0 Qfv rfl) Qx hr (Qb (Qc 0) Qf)))) Qf))))))
theorem Qxr (tx:Txt K mg):Qu P w K mg base ds Qhm:=fun cf n R f cdv A outer s H E hc hL co pz1 pz hr =>
 (q0 (fun _ h=>h) (Qk (Qe4 (t_w (Qpd (Qgt (Qc1 (Qok tx.n_isinstance Qb3 (Qc 0) (Qw6 "tuple" tx.n_tuple Qa2)))) (Qpd (t_lt (Qbb (Qay K rfl) (Qag K) tx.n_len Qad (Qb (Qc 0) Qf)) Q3) (Qi2 (Q4h (Qbb (Qay K rfl) (Qag K) tx.n_len Qad (Qb (Qc 0) Qf)) (Qph tx.m_MOST_ROWS)))))) (Qs (Qal Qli)) Qci)
  (Qs (Qal (Qbb (Qu4 K rfl) (Qpe K) tx.n_all Qpu (Qb (Qbo ["row","thing"] [none,some 0] rfl (Qb6 rfl (Qc 0)) (fun _ _ _=>(Q9 (Qam (i:=0) (show List.Nodup (["row","thing"]:List PySem.Str) by decide +kernel)))) (fun _ _ _=>Qbu) (fun _ _ _=>(Ql (hc 1 Qmg rfl) Qx hr (Qb (Qc 0) (Qb (Qbb (Qay K rfl) (Qag K) tx.n_len Qad (Qb (Qc 1) Qf)) Qf))))) Qf))))))
theorem Qp1 (tx:Txt K mg):Qu P w K mg base ds Qc9:=fun cf n R f cdv A outer s H E hc hL co pz1 pz hr =>
 (q0 (fun _ h=>h) (Qk (Qog (Qav (i:=1) Qe5.nd (Qh1 Qf)))
  (Qk (Qgz rfl (Qb6 rfl (Qc 0)) (Q9 (Qam (i:=2) Qe5.nd)) (Qs (Qad2 (Qk7 (Q3r K rfl PySem.F.plainAttrs_list PySem.F.slot_list_extend PySem.F.type_list_extend (Qw7 K rfl) (Qiv 1) (Qcm (Qc 2) Qfa))))))
  (Qs (Qal (Qc 1))))))
theorem Qp2 (tx:Txt K mg):Qu P w K mg base ds Qfx:=fun cf n R f cdv A outer s H E hc hL co pz1 pz hr =>
 (q0 (fun _ h=>h) (Qs (Qal (Qbb (Qu4 K rfl) (Qpe K) tx.n_all Qpu (Qb (Qbo ["number"] [none] rfl (Qb6 rfl (Ql (hc 3 Qc9 rfl) pz hr (Qb (Qc 0) Qf))) (fun _ _ _=>(Q9 (Qam (i:=0) (show List.Nodup (["number"]:List PySem.Str) by decide +kernel)))) (fun _ _ _=>Qbu) (fun _ _ _=>(Q4g (Qbb Qac1 Q9p tx.n_abs Qaas (Qb (Qc 0) Qf)) (Qz8 Q3 Q3)))) Qf)))))
theorem Qt4 (tx:Txt K mg):Qu P w K mg base ds Qig:=fun cf n R f cdv A outer s H E hc hL co pz1 pz hr =>
 (q0 (fun _ h=>h) (Qk (Qe4 (t_w (Qpd (Qgt (Qc1 (Qok tx.n_isinstance Qb3 (Qc 0) (Qw6 "list" tx.n_list Qvv)))) (Qpd (t_lt (Qbb (Qay K rfl) (Qag K) tx.n_len Qad (Qb (Qc 0) Qf)) Q3) (Qi2 (Q4h (Qbb (Qay K rfl) (Qag K) tx.n_len Qad (Qb (Qc 0) Qf)) (Qph tx.m_MOST_TABLES)))))) (Qs (Qal (Qadr Q3))) Qci)
  (Qk (Qgz rfl (Qdg tx.n_range (Qbb (Qay K rfl) (Qag K) tx.n_len Qad (Qb (Qc 0) Qf))) (Q9 (Qam (i:=2) Qkb.nd)) (Qk (Qe4 (t_w (Qpd (Qgt (Qc1 (Ql (hc 2 Qhm rfl) Qx hr (Qb (Qd2 rfl (Qc 0) (Qc 2)) Qf)))) (Qi2 (Qrl hr.units (Qbb (Qay K rfl) (Qag K) tx.n_len Qad (Qb (Qd2 rfl (Qc 0) (Qc 2)) Qf)) (Qbb (Qay K rfl) (Qag K) tx.n_len Qad (Qb (Qd2 rfl (Qc 0) Q3) Qf)))))) (Qs (Qal (Qc 2))) Qci)
  (Qs (Qe4 (t_w (Q6d (Qc1 (Qc 1)) (Qi2 (Qgt (Qc1 (Ql (hc 4 Qfx rfl) Qx hr (Qb (Qd2 rfl (Qc 0) (Qc 2)) Qf))))))) (Qs (Qal (Qc 2))) Qci))))
  (Qs (Qal Qn8)))))
theorem Qt5 (tx:Txt K mg):Qu P w K mg base ds Qfy:=fun cf n R f cdv A outer s H E hc hL co pz1 pz hr =>
 (q0 (fun _ h=>h) (Qs (Qal (Qll (Ql (hc 0 Qfv rfl) pz hr (Qb (Qc 0) Qf)) (Qll (Q90 (Qc 0) Q3) (Qrg (Q4g (Qc 0) (Qc 1))))))))
theorem Qp3 (tx:Txt K mg):Qu P w K mg base ds Qf0:=fun cf n R f cdv A outer s H E hc hL co pz1 pz hr =>
 (q0 (fun _ h=>h) (Qs (Qal (Qll (Qok tx.n_isinstance Qb3 (Qc 0) (Qw6 "tuple" tx.n_tuple Qa2)) (Qrg (Qbb (Qu4 K rfl) (Qpe K) tx.n_all Qpu (Qb (Qbo ["place","many"] [none,some 1] rfl (Qb6 rfl (Qc 0)) (fun _ _ _=>(Q9 (Qam (i:=0) (show List.Nodup (["place","many"]:List PySem.Str) by decide +kernel)))) (fun _ _ _=>Qbu) (fun _ _ _=>(Ql (hc 6 Qfy rfl) Qx hr (Qb (Qc 0) (Qb (Qc 1) Qf))))) Qf)))))))
theorem Q04 (tx:Txt K mg):Qu P w K mg base ds Qmi:=fun cf n R f cdv A outer s H E hc hL co pz1 pz hr =>
 (q0 (fun _ h=>h) (Qs (Qal (Qll (Ql (hc 7 Qf0 rfl) pz hr (Qb (Qc 0) (Qb (Qc 1) Qf))) (Qll (Q90 (Qbb (Qay K rfl) (Qag K) tx.n_len Qad (Qb (Qc 0) Qf)) Q3) (Qrg (g_le (Qbb (Qay K rfl) (Qag K) tx.n_len Qad (Qb (Qc 0) Qf)) (Qph tx.m_MOST_PLACES))))))))
theorem Qp4 (tx:Txt K mg):Qu P w K mg base ds Qf2:=fun cf n R f cdv A outer s H E hc hL co pz1 pz hr =>
 (q0 (fun _ h=>h) (Qs (Qe4 (Qgt (Qc1 (Ql (hc 2 Qhm rfl) pz hr (Qb (Qc 0) Qf)))) (Qs Qls) Qci)))
theorem Qnq (tx:Txt K mg):Qu P w K mg base ds Qba:=fun cf n R f cdv A outer s H E hc hL co pz1 pz hr =>
 (q0 (fun _ h=>h) (Qk (Qao (Qav (i:=1) Qg3.nd (Ql (hc 5 Qig rfl) pz hr (Qb (Qc 0) (Qb Qli Qf)))))
  (Qs (Qe4 (Qz9 (Qc 1) Qn8) (Qs Qls) Qci))))
theorem Qt6 (tx:Txt K mg):Qu P w K mg base ds Qf3:=fun cf n R f cdv A outer s H E hc hL co pz1 pz hr =>
 (q0 (fun _ h=>h) (Qs (Qe4 (Qgt (Qc1 (Ql (hc 8 Qmi rfl) pz hr (Qb (Qc 0) (Qb (Qc 1) Qf))))) (Qs Qls) Qci)))
theorem Qp5 (tx:Txt K mg):Qu P w K mg base ds Qed:=fun cf n R f cdv A outer s H E hc hL co pz1 pz hr =>
 (q0 (fun _ h=>h) (Qs (Qe4 (Qgt (Qc1 (Ql (hc 6 Qfy rfl) pz hr (Qb (Qc 0) (Qb (Qc 1) Qf))))) (Qs Qls) Qci)))
theorem Qjm (tx:Txt K mg):Qu P w K mg base ds Qdb:=fun cf n R f cdv A outer s H E hc hL co pz1 pz hr =>
 (q0 (fun _ h=>h) (Qk (Qdw (Ql (hc 10 Qba rfl) pz hr (Qb (Qc 0) Qf)))
  (Qs (Qgz rfl (Qdg tx.n_range (Qbb (Qay K rfl) (Qag K) tx.n_len Qad (Qb (Qc 0) Qf))) (Q9 (Qam (i:=1) Qel.nd)) (Qs (Qe4 (Qc1 (Qbb (Qy7 K rfl) (Qth K) tx.n_any Qt1 (Qb (Qbo ["number"] [none] rfl (Qb6 rfl (Ql (hc 3 Qc9 rfl) Qx hr (Qb (Qd2 rfl (Qc 0) (Qc 1)) Qf))) (fun _ _ _=>(Q9 (Qam (i:=0) (show List.Nodup (["number"]:List PySem.Str) by decide +kernel)))) (fun _ _ _=>Qbu) (fun _ _ _=>(Q4g (Qc 0) Q3))) Qf))) (Qs Qls) Qci))))))
theorem Qse (tx:Txt K mg):Qu P w K mg base ds Qg7:=fun cf n R f cdv A outer s H E hc hL co pz1 pz hr =>
 (q0 (fun _ h=>h) (Qk (Qog (Qav (i:=4) Qc7.nd (Qh1 Qf)))
  (Qk (Qgz rfl (Qb6 rfl (Qc 1)) (Q9 (Qam (i:=5) Qc7.nd)) (Qs (Qgz rfl (Qdg tx.n_range (Qc 3)) (Q9 (Qam (i:=6) Qc7.nd)) (Qk (Qao (Qav (i:=7) Qc7.nd (Qaej 2 hL hr (Qb (Qc 5) (Qb (Qc 6) Qf)))))
  (Qs (Qe4 (Q93 hr.units (Qc 7) (Qc 0)) (Qk (Q95 hr.units (Qiv 0) (Qc 7) (Qdt rfl (Qaea hr.units (Qc 0) (Qc 5)) (Qrd (Qb (Qc 6) Qf))))
  (Qs (Qz4 (Qk7 (Q3r K rfl PySem.F.plainAttrs_list PySem.F.slot_list_append PySem.F.type_list_append Qk8 (Qiv 4) (Qcm (Qc 7) Qfa)))))) Qci))))))
  (Qs (Qal (Qc 4))))))
theorem Qp6 (tx:Txt K mg):Qu P w K mg base ds Qf6:=fun cf n R f cdv A outer s H E hc hL co pz1 pz hr =>
 (q0 (fun _ h=>h) (Qk (Qog (Qav (i:=3) Qdo.nd (Qc2 Q4j Q0g tx.n_dict Q41 (Qb (Qc 0) Qf))))
  (Qk (Qao (Qav (i:=4) Qdo.nd (Qc2 (Q4l rfl) Q4m tx.n_list Qvv (Qb (Qc 0) Qf))))
  (Qk (Qad3 (Qrl hr.units (Qc 4) (Qh1 Qf)) (Qs (Qao (Qav (i:=4) Qdo.nd (Ql (hc 14 Qg7 rfl) Qx hr (Qb (Qc 3) (Qb (Qc 4) (Qb (Qc 1) (Qb (Qc 2) Qf)))))))))
  (Qs (Qal (Qc 3)))))))
theorem Qsf (tx:Txt K mg):Qu P w K mg base ds Qg9:=fun cf n R f cdv A outer s H E hc hL co pz1 pz hr =>
 (q0 (fun _ h=>h) (Qs (Qal (Qc2 (Qb7 K rfl) (Qc0 K) tx.n_tuple Qa2 (Qb (Qbo ["row","at"] [none,some 1] rfl (Qb6 rfl (Qc 0)) (fun _ _ _=>(Q9 (Qam (i:=0) (show List.Nodup (["row","at"]:List PySem.Str) by decide +kernel)))) (fun _ _ _=>Qbu) (fun _ _ _=>(Qd2 rfl (Qc 0) (Qc 1)))) Qf)))))
theorem Qp7 (tx:Txt K mg):Qu P w K mg base ds Qf8:=fun cf n R f cdv A outer s H E hc hL co pz1 pz hr =>
 (q0 (fun _ h=>h) (Qs (Qal (Qc2 (Qb7 K rfl) (Qc0 K) tx.n_tuple Qa2 (Qb (Qbo ["at","table"] [none,some 0] rfl (Qdg tx.n_range (Qbb (Qay K rfl) (Qag K) tx.n_len Qad (Qb (Qc 0) Qf))) (fun _ _ _=>(Q9 (Qam (i:=0) (show List.Nodup (["at","table"]:List PySem.Str) by decide +kernel)))) (fun _ _ _=>Qbu) (fun _ _ _=>(Ql (hc 16 Qg9 rfl) Qx hr (Qb (Qc 1) (Qb (Qc 0) Qf))))) Qf)))))
theorem Qik (tx:Txt K mg):Qu P w K mg base ds Qco:=fun cf n R f cdv A outer s H E hc hL co pz1 pz hr =>
 (q0 (fun _ h=>h) (Qs (Qal (Qbb (Qacz K rfl) (Q9q K) tx.n_sum Qaau (Qb (Qbo ["k","row","column"] [none,some 0,some 1] rfl (Qdg tx.n_range (Qbb (Qay K rfl) (Qag K) tx.n_len Qad (Qb (Qc 0) Qf))) (fun _ _ _=>(Q9 (Qam (i:=0) (show List.Nodup (["k","row","column"]:List PySem.Str) by decide +kernel)))) (fun _ _ _=>Qbu) (fun _ _ _=>(Qlt (Qd2 rfl (Qc 1) (Qc 0)) (Qd2 rfl (Qc 2) (Qc 0))))) Qf)))))
theorem Qhw (tx:Txt K mg):Qu P w K mg base ds Qch:=fun cf n R f cdv A outer s H E hc hL co pz1 pz hr =>
 (q0 (fun _ h=>h) (Qs (Qal (Qc2 (Qb7 K rfl) (Qc0 K) tx.n_tuple Qa2 (Qb (Qbo ["column","row"] [none,some 0] rfl (Qb6 rfl (Qc 1)) (fun _ _ _=>(Q9 (Qam (i:=0) (show List.Nodup (["column","row"]:List PySem.Str) by decide +kernel)))) (fun _ _ _=>Qbu) (fun _ _ _=>(Ql (hc 18 Qco rfl) Qx hr (Qb (Qc 1) (Qb (Qc 0) Qf))))) Qf)))))
theorem Q42 (tx:Txt K mg):Qu P w K mg base ds Qku:=fun cf n R f cdv A outer s H E hc hL co pz1 pz hr =>
 (q0 (fun _ h=>h) (Qk (Qao (Qav (i:=2) Qr8.nd (Ql (hc 17 Qf8 rfl) pz hr (Qb (Qc 1) Qf))))
  (Qs (Qal (Qc2 (Qb7 K rfl) (Qc0 K) tx.n_tuple Qa2 (Qb (Qbo ["row","columns"] [none,some 2] rfl (Qb6 rfl (Qc 0)) (fun _ _ _=>(Q9 (Qam (i:=0) (show List.Nodup (["row","columns"]:List PySem.Str) by decide +kernel)))) (fun _ _ _=>Qbu) (fun _ _ _=>(Ql (hc 19 Qch rfl) Qx hr (Qb (Qc 0) (Qb (Qc 1) Qf))))) Qf))))))
theorem Q43 (tx:Txt K mg):Qu P w K mg base ds Qee:=fun cf n R f cdv A outer s H E hc hL co pz1 pz hr =>
 (q0 (fun _ h=>h) (Qk (Qdw (Ql (hc 10 Qba rfl) pz hr (Qb (Qc 0) Qf)))
  (Qk (Qdw (Ql (hc 11 Qf3 rfl) pz hr (Qb (Qc 1) (Qb (Qbb (Qay K rfl) (Qag K) tx.n_len Qad (Qb (Qc 0) Qf)) Qf))))
  (Qk (Qao (Qav (i:=2) Qjh.nd (Qd2 rfl (Qc 0) (Qd2 rfl (Qc 1) Q3))))
  (Qk (Qgz rfl (Qb6 rfl (Qrm rfl (Qc 1) (Qi5 Q3) Qi4)) (Q9 (Qam (i:=3) Qjh.nd)) (Qs (Qao (Qav (i:=2) Qjh.nd (Ql (hc 20 Qku rfl) Qx hr (Qb (Qc 2) (Qb (Qd2 rfl (Qc 0) (Qc 3)) Qf)))))))
  (Qs (Qal (Qc 2))))))))
theorem Qsg (tx:Txt K mg):Qu P w K mg base ds Qhb:=fun cf n R f cdv A outer s H E hc hL co pz1 pz hr =>
 (q0 (fun _ h=>h) (Qk (Qdw (Ql (hc 9 Qf2 rfl) pz hr (Qb (Qc 0) Qf)))
  (Qs (Qal (Q6c (Qbb (Qy7 K rfl) (Qth K) tx.n_any Qt1 (Qb (Ql (hc 3 Qc9 rfl) pz hr (Qb (Qc 0) Qf)) Qf)))))))
theorem Qsh (tx:Txt K mg):Qu P w K mg base ds Qhd:=fun cf n R f cdv A outer s H E hc hL co pz1 pz hr =>
 (q0 (fun _ h=>h) (Qs (Qal (Qc2 (Qb7 K rfl) (Qc0 K) tx.n_tuple Qa2 (Qb (Qbo ["k","at"] [none,some 1] rfl (Qdg tx.n_range (Qc 0)) (fun _ _ _=>(Q9 (Qam (i:=0) (show List.Nodup (["k","at"]:List PySem.Str) by decide +kernel)))) (fun _ _ _=>Qbu) (fun _ _ _=>(Qc2 Qta Qti tx.n_int Qpv (Qb (g_eq hr.units (Qc 0) (Qc 1)) Qf)))) Qf)))))
theorem Qp8 (tx:Txt K mg):Qu P w K mg base ds Qga:=fun cf n R f cdv A outer s H E hc hL co pz1 pz hr =>
 (q0 (fun _ h=>h) (Qs (Qal (Qbo ["at","size"] [none,some 0] rfl (Qdg tx.n_range (Qc 0)) (fun _ _ _=>(Q9 (Qam (i:=0) (show List.Nodup (["at","size"]:List PySem.Str) by decide +kernel)))) (fun _ _ _=>Qbu) (fun _ _ _=>(Ql (hc 23 Qhd rfl) Qx hr (Qb (Qc 1) (Qb (Qc 0) Qf))))))))
theorem Q05 (tx:Txt K mg):Qu P w K mg base ds Qmk:=fun cf n R f cdv A outer s H E hc hL co pz1 pz hr =>
 (q0 (fun _ h=>h) (Qk (Qdw (Ql (hc 10 Qba rfl) pz hr (Qb (Qc 0) Qf)))
  (Qk (Qdw (Ql (hc 10 Qba rfl) pz hr (Qb (Qc 1) Qf)))
  (Qk (Qe4 (Qrl hr.units (Qbb (Qay K rfl) (Qag K) tx.n_len Qad (Qb (Qd2 rfl (Qc 0) Q3) Qf)) (Qbb (Qay K rfl) (Qag K) tx.n_len Qad (Qb (Qd2 rfl (Qc 1) Q3) Qf))) (Qs Qls) Qci)
  (Qk (Qao (Qav (i:=2) Qor.nd (Qdt rfl (Qbb (Qay K rfl) (Qag K) tx.n_len Qad (Qb (Qc 0) Qf)) (Qbb (Qay K rfl) (Qag K) tx.n_len Qad (Qb (Qc 1) Qf)))))
  (Qk (Qe4 (Q4h (Qc 2) (Qph tx.m_MOST_TABLES)) (Qs Qls) Qci)
  (Qs (Qal (Qdt rfl (Qc 0) (Qc 1))))))))))
theorem Q44 (tx:Txt K mg):Qu P w K mg base ds Qp0:=fun cf n R f cdv A outer s H E hc hL co pz1 pz hr =>
 (q0 (fun _ h=>h) (Qk (Qao (Qav (i:=2) Qjj.nd (Qc2 (Qb7 K rfl) (Qc0 K) tx.n_tuple Qa2 (Qb (Ql (hc 24 Qga rfl) pz hr (Qb (Qbb (Qay K rfl) (Qag K) tx.n_len Qad (Qb (Qc 0) Qf)) Qf)) Qf))))
  (Qk (Qgz rfl (Qdg tx.n_range (Qc 1)) (Q9 (Qam (i:=3) Qjj.nd)) (Qs (Qao (Qav (i:=2) Qjj.nd (Ql (hc 20 Qku rfl) Qx hr (Qb (Qc 2) (Qb (Qc 0) Qf)))))))
  (Qs (Qal (Qc 2))))))
theorem Qxs (tx:Txt K mg):Qu P w K mg base ds Qj1:=fun cf n R f cdv A outer s H E hc hL co pz1 pz hr =>
 (q0 (fun _ h=>h) (Qk (Qdw (Ql (hc 10 Qba rfl) pz hr (Qb (Qc 0) Qf)))
  (Qk (Qdw (Ql (hc 12 Qed rfl) pz hr (Qb (Qc 1) (Qb (Qbb (Qay K rfl) (Qag K) tx.n_len Qad (Qb (Qc 0) Qf)) Qf))))
  (Qs (Qal (Qdt rfl (Qdt rfl (Qrm rfl (Qc 0) Qi4 (Qi5 (Qc 1))) (Qh1 (Qb (Ql (hc 26 Qp0 rfl) pz hr (Qb (Qd2 rfl (Qc 0) (Qc 1)) (Qb (Qc 2) Qf))) Qf))) (Qrm rfl (Qc 0) (Qi5 (Qdt rfl (Qc 1) Q3)) Qi4)))))))
theorem Q06 (tx:Txt K mg):Qu P w K mg base ds Qjl:=fun cf n R f cdv A outer s H E hc hL co pz1 pz hr =>
 (q0 (fun _ h=>h) (Qk (Qdw (Ql (hc 10 Qba rfl) pz hr (Qb (Qc 0) Qf)))
  (Qk (Qdw (Ql (hc 12 Qed rfl) pz hr (Qb (Qc 1) (Qb (Qbb (Qay K rfl) (Qag K) tx.n_len Qad (Qb (Qc 0) Qf)) Qf))))
  (Qk (Qdw (Ql (hc 11 Qf3 rfl) pz hr (Qb (Qc 3) (Qb (Qbb (Qay K rfl) (Qag K) tx.n_len Qad (Qb (Qc 0) Qf)) Qf))))
  (Qk (Qao (Qav (i:=4) Qhk.nd (Qrd Qf)))
  (Qk (Qgz rfl (Qb6 rfl (Qc 3)) (Q9 (Qam (i:=5) Qhk.nd)) (Qs (Qao (Qav (i:=4) Qhk.nd (Qdt rfl (Qc 4) (Qlt (Qrd (Qb (Qc 5) Qf)) (Qads (t_eq hr.units (Qc 5) (Qc 1)) (Qc 2) Q3)))))))
  (Qs (Qal (Qc 4)))))))))
theorem Qp9 (tx:Txt K mg):Qu P w K mg base ds Qgc:=fun cf n R f cdv A outer s H E hc hL co pz1 pz hr =>
 (q0 (fun _ h=>h) (Qs (Qal (Qc2 (Qb7 K rfl) (Qc0 K) tx.n_tuple Qa2 (Qb (Qbo ["k","places","table"] [none,some 1,some 0] rfl (Qdg tx.n_range (Qbb (Qay K rfl) (Qag K) tx.n_len Qad (Qb (Qc 0) Qf))) (fun _ _ _=>(Q9 (Qam (i:=0) (show List.Nodup (["k","places","table"]:List PySem.Str) by decide +kernel)))) (fun _ _ _=>(Q9w (Qc1 (Qbb (Qy7 K rfl) (Qth K) tx.n_any Qt1 (Qb (Qbo ["place","k","table"] [none,some 0,some 2] rfl (Qb6 rfl (Qc 1)) (fun _ _ _=>(Q9 (Qam (i:=0) (show List.Nodup (["place","k","table"]:List PySem.Str) by decide +kernel)))) (fun _ _ _=>Qbu) (fun _ _ _=>(g_ne hr.units (Qd2 rfl (Qd2 rfl (Qc 2) (Qc 0)) (Qc 1)) Q3))) Qf))))) (fun _ _ _=>(Qc 0))) Qf)))))
theorem Qqa (tx:Txt K mg):Qu P w K mg base ds Qge:=fun cf n R f cdv A outer s H E hc hL co pz1 pz hr =>
 (q0 (fun _ h=>h) (Qs (Qal (Q92 tx.n_tuple Qa2 tx.n_range Q02 rfl (Qbb (Qay K rfl) (Qag K) tx.n_len Qad (Qb (Qd2 rfl (Qc 0) Q3) Qf))))))
theorem Qmn (tx:Txt K mg):Qu P w K mg base ds Qeo:=fun cf n R f cdv A outer s H E hc hL co pz1 pz hr =>
 (q0 (fun _ h=>h) (Qs (Qal (Ql (hc 15 Qf6 rfl) pz hr (Qb (g_d1 hr.units (Ql (hc 30 Qge rfl) pz hr (Qb (Qc 0) Qf)) (Qrd Qf)) (Qb (Qaek (l:=Qo3) (cs:=[_]) tx.ct_ways_to_sets co rfl rfl rfl rfl ⟨⟨rfl,rfl,rfl,rfl,Nat.le_succ _⟩,trivial⟩ (List.nodup_cons.mpr ⟨List.not_mem_nil,List.nodup_nil⟩)) (Qb (Qbb (Qay K rfl) (Qag K) tx.n_len Qad (Qb (Qc 0) Qf)) Qf)))))))
theorem Qt7 (tx:Txt K mg):Qu P w K mg base ds Qcd:=fun cf n R f cdv A outer s H E hc hL co pz1 pz hr =>
 (q0 (fun _ h=>h) (Qk (Qdw (Ql (hc 13 Qdb rfl) pz hr (Qb (Qc 0) Qf)))
  (Qs (Qal (Qaeb hr.units (Ql (hc 31 Qeo rfl) pz hr (Qb (Qc 0) Qf)) (Qrd Qf))))))
theorem Qxt (tx:Txt K mg):Qu P w K mg base ds Qj3:=fun cf n R f cdv A outer s H E hc hL co pz1 pz hr =>
 (q0 (fun _ h=>h) (Qk (Qao (Qav (i:=1) Qme.nd (Qbb (Q9r K rfl rfl) (Q9s K) tx.n_max Qaat (Qb (Qc 0) (Qb (Q6j Q3 (Qc 0)) Qf)))))
  (Qs (Qal (Qh1 (Qb (Qc 1) (Qb (Qc2 Qta Qti tx.n_int Qpv (Qb (Q90 (Qc 1) (Qz8 Q3 Q3)) Qf)) Qf)))))))
theorem Qt8 (tx:Txt K mg):Qu P w K mg base ds Qa6:=fun cf n R f cdv A outer s H E hc hL co pz1 pz hr =>
 (q0 (fun _ h=>h) (Qk (Qe4 (t_eq hr.units (Qd2 rfl (Qc 0) Q3) Q3) (Qk (Qad1 (Qy5 (Qbb Qac3 Q9t tx.n_divmod Qxq (Qb (Qd2 rfl (Qc 0) Q3) (Qb (Qc 1) Qf))) (Q9v (is:=[2,3]) (Q8y K rfl rfl (Qu2 (Qam (i:=2) Qdu.nd) (Qu2 (Qam (i:=3) Qdu.nd) Q8x))) rfl)))
  (Qk (Q6i (Qy5 (Qc 2) (Qy3 (Qiv 0) Q3)))
  (Qs (Qal (Qc 3))))) Qci)
  (Qk (Qao (Qav (i:=4) Qdu.nd (Qj9 (Qlt (Qdt rfl (Qj9 (Qd2 rfl (Qc 0) Q3) Q3) Q3) Q3) Q3)))
  (Qk (Qao (Qav (i:=4) Qdu.nd (Qj9 (Qdt rfl (Qlt (Qc 4) (Qc 4)) Q3) Q3)))
  (Qk (Q6i (Qy5 (Qj9 (Qdt rfl (Qlt (Qc 4) Q3) Q3) Q3) (Qy3 (Qiv 0) Q3)))
  (Qs (Qal (Qj9 (Qad5 (Qd2 rfl (Qc 0) Q3) Q3) (Qc 1)))))))))
theorem Qsi (tx:Txt K mg):Qu P w K mg base ds Qez:=fun cf n R f cdv A outer s H E hc hL co pz1 pz hr =>
 (q0 (fun _ h=>h) (Qk (Qao (Qav (i:=2) Qbi.nd (Qdt rfl Q3 (Ql (hc 34 Qa6 rfl) pz hr (Qb (Qc 0) (Qb Q3 Qf))))))
  (Qk (Qao (Qav (i:=3) Qbi.nd (Qd2 rfl (Qh1 (Qb Q3 (Qb Q3 (Qb Q3 Qf)))) (Ql (hc 34 Qa6 rfl) pz hr (Qb (Qc 0) (Qb Q3 Qf))))))
  (Qk (Qao (Qav (i:=4) Qbi.nd (Qd2 rfl (Qh1 (Qb Q3 (Qb Q3 (Qb (Qz8 Q3 Q3) Qf)))) (Ql (hc 34 Qa6 rfl) pz hr (Qb (Qc 0) (Qb Q3 Qf))))))
  (Qk (Qog (Qav (i:=5) Qbi.nd (Qh1 Qf)))
  (Qk (Qgz rfl (Qdg tx.n_range (Qc 2)) (Q9 (Qam (i:=6) Qbi.nd)) (Qk (Qog (Qav (i:=7) Qbi.nd (Qh1 Qf)))
  (Qk (Qgz rfl (Qdg tx.n_range (Qc 1)) (Q9 (Qam (i:=8) Qbi.nd)) (Qs (Qz4 (Qk7 (Q3r K rfl PySem.F.plainAttrs_list PySem.F.slot_list_append PySem.F.type_list_append Qk8 (Qiv 7) (Qcm (Qc2 (Qb7 K rfl) (Qc0 K) tx.n_tuple Qa2 (Qb (Qbo ["_law_j","_law_full","_law_pen_here","_law_most"] [none,some 3,some 0,some 4] rfl (Qdg tx.n_range (Qc 1)) (fun _ _ _=>(Q9 (Qam (i:=0) (show List.Nodup (["_law_j","_law_full","_law_pen_here","_law_most"]:List PySem.Str) by decide +kernel)))) (fun _ _ _=>Qbu) (fun _ _ _=>(Qlt (Qc2 Qta Qti tx.n_int Qpv (Qb (Q4g (Ql (hc 34 Qa6 rfl) Qx hr (Qb (Qc 2) (Qb Q3 Qf))) (Qc 1)) Qf)) (Qdt rfl Q3 (Ql (hc 34 Qa6 rfl) Qx hr (Qb (Qc 2) (Qb (Qc 3) Qf))))))) Qf)) Qfa))))))
  (Qs (Qz4 (Qk7 (Q3r K rfl PySem.F.plainAttrs_list PySem.F.slot_list_append PySem.F.type_list_append Qk8 (Qiv 5) (Qcm (Qc2 (Qb7 K rfl) (Qc0 K) tx.n_tuple Qa2 (Qb (Qc 7) Qf)) Qfa))))))))
  (Qs (Qal (Qc 5)))))))))
theorem Qil (tx:Txt K mg):Qu P w K mg base ds Qcq:=fun cf n R f cdv A outer s H E hc hL co pz1 pz hr =>
 (q0 (fun _ h=>h) (Qk (Qao (Qav (i:=3) Qax.nd (Ql (hc 25 Qmk rfl) pz hr (Qb (Qc 0) (Qb (Qc 1) Qf)))))
  (Qk (Qao (Qav (i:=4) Qax.nd (Qc2 (Qb7 K rfl) (Qc0 K) tx.n_tuple Qa2 (Qb (Qbo ["_law_at","_law_one"] [none,some 0] rfl (Qb6 rfl (Qc 2)) (fun _ _ _=>(Q9 (Qam (i:=0) (show List.Nodup (["_law_at","_law_one"]:List PySem.Str) by decide +kernel)))) (fun _ _ _=>Qbu) (fun _ _ _=>(Qj9 (Qc 0) (Qbb (Qay K rfl) (Qag K) tx.n_len Qad (Qb (Qc 1) Qf))))) Qf))))
  (Qk (Qao (Qav (i:=5) Qax.nd (Qc2 (Qb7 K rfl) (Qc0 K) tx.n_tuple Qa2 (Qb (Qbo ["_law_at","_law_other"] [none,some 1] rfl (Qb6 rfl (Qc 2)) (fun _ _ _=>(Q9 (Qam (i:=0) (show List.Nodup (["_law_at","_law_other"]:List PySem.Str) by decide +kernel)))) (fun _ _ _=>Qbu) (fun _ _ _=>(Qj9 (Qc 0) (Qbb (Qay K rfl) (Qag K) tx.n_len Qad (Qb (Qc 1) Qf))))) Qf))))
  (Qk (Qe4 (Qrl hr.units (Ql (hc 21 Qee rfl) pz hr (Qb (Qc 3) (Qb (Qc 4) Qf))) (Ql (hc 21 Qee rfl) pz hr (Qb (Qc 0) (Qb (Qc 4) Qf)))) (Qs (Qal Qli)) Qci)
  (Qk (Qe4 (Qrl hr.units (Ql (hc 21 Qee rfl) pz hr (Qb (Qc 3) (Qb (Qc2 (Qb7 K rfl) (Qc0 K) tx.n_tuple Qa2 (Qb (Qbo ["_law_at","_law_one"] [none,some 0] rfl (Qb6 rfl (Qc 5)) (fun _ _ _=>(Q9 (Qam (i:=0) (show List.Nodup (["_law_at","_law_one"]:List PySem.Str) by decide +kernel)))) (fun _ _ _=>Qbu) (fun _ _ _=>(Qdt rfl (Qc 0) (Qbb (Qay K rfl) (Qag K) tx.n_len Qad (Qb (Qc 1) Qf))))) Qf)) Qf))) (Ql (hc 21 Qee rfl) pz hr (Qb (Qc 1) (Qb (Qc 5) Qf)))) (Qs (Qal Qli)) Qci)
  (Qk (Qao (Qav (i:=6) Qax.nd (Ql (hc 32 Qcd rfl) pz hr (Qb (Qc 3) Qf))))
  (Qk (Qgz rfl (Qb6 rfl (Qh1 (Qb (Ql (hc 32 Qcd rfl) Qx hr (Qb (Qc 0) Qf)) (Qb (Ql (hc 32 Qcd rfl) Qx hr (Qb (Qc 1) Qf)) Qf)))) (Q9 (Qam (i:=7) Qax.nd)) (Qs (Qe4 (t_w (Q6d (Qz9 (Qc 7) Qn8) (Qi2 (t_w (Qpd (Q6k (Qc 6) Qn8) (Qi2 (Q4h (Qbb (Qay K rfl) (Qag K) tx.n_len Qad (Qb (Qc 6) Qf)) (Qbb (Qay K rfl) (Qag K) tx.n_len Qad (Qb (Qc 7) Qf))))))))) (Qs (Qal Qli)) Qci)))
  (Qs (Qal Qli))))))))))
theorem Qim (tx:Txt K mg):Qu P w K mg base ds Qcs:=fun cf n R f cdv A outer s H E hc hL co pz1 pz hr =>
 (q0 (fun _ h=>h) (Qk (Qao (Qav (i:=4) Qa8.nd (Ql (hc 27 Qj1 rfl) pz hr (Qb (Qc 0) (Qb (Qc 1) (Qb (Qc 2) Qf))))))
  (Qk (Qao (Qav (i:=5) Qa8.nd (Ql (hc 28 Qjl rfl) pz hr (Qb (Qc 0) (Qb (Qc 1) (Qb (Qc 2) (Qb (Qc 3) Qf)))))))
  (Qk (Qe4 (t_w (Qpd (Qrl hr.units (Ql (hc 21 Qee rfl) pz hr (Qb (Qc 0) (Qb (Qc 5) Qf))) (Ql (hc 21 Qee rfl) pz hr (Qb (Qc 4) (Qb (Qc 3) Qf)))) (Qi2 (Qrl hr.units (Qbb (Qay K rfl) (Qag K) tx.n_len Qad (Qb (Qc 5) Qf)) (Qdt rfl (Qbb (Qay K rfl) (Qag K) tx.n_len Qad (Qb (Qc 3) Qf)) (Qlt (Q6j (Qc 2) Q3) (Qad9 rfl (Qc 3) (Qc 1)))))))) (Qs (Qal Qli)) Qci)
  (Qk (Qao (Qav (i:=6) Qa8.nd (Ql (hc 32 Qcd rfl) pz hr (Qb (Qc 4) Qf))))
  (Qk (Qe4 (Q6k (Qc 6) Qn8) (Qs (Qal Qli)) Qci)
  (Qk (Qao (Qav (i:=5) Qa8.nd (Ql (hc 28 Qjl rfl) pz hr (Qb (Qc 0) (Qb (Qc 1) (Qb (Qc 2) (Qb (Qc 6) Qf)))))))
  (Qk (Qe4 (Qgt (Qc1 (Ql (hc 22 Qhb rfl) pz hr (Qb (Ql (hc 21 Qee rfl) pz hr (Qb (Qc 0) (Qb (Qc 5) Qf))) Qf)))) (Qs (Qal Qli)) Qci)
  (Qs (Qal (Qll (Q91 (Ql (hc 32 Qcd rfl) pz hr (Qb (Qc 0) Qf)) Qn8) (Qrg (g_le (Qbb (Qay K rfl) (Qag K) tx.n_len Qad (Qb (Ql (hc 32 Qcd rfl) pz hr (Qb (Qc 0) Qf)) Qf)) (Qbb (Qay K rfl) (Qag K) tx.n_len Qad (Qb (Qc 5) Qf)))))))))))))))
theorem Q45 (tx:Txt K mg):Qpk P w K mg base ds Qo3 Qmm:=fun cf n R f cdv cl A outer s H hc hL pz hr =>
 (Ql (hc 29 Qgc rfl) pz hr (Qb (Qd2 rfl (Qc 2) (Qc 1)) (Qb (Qc 0) Qf)))
theorem Q46:LamSc Qo3:=⟨rfl,rfl,rfl,by decide +kernel,by decide +kernel,by decide +kernel,by decide +kernel,by decide +kernel,fun _ _ _ _ us hl=>match us,hl with | [a0,a1],_=>rfl⟩
theorem Qqb (d:Dfn K mg "_law_cell" Qem) (tx:Txt K mg):Has P w K mg base "_law_cell" ["_law_script","_law_k"] 1 (Ql1 K):=by
 refine Qac4 (k:=0) d Qsb Qsc (fun vs H Q E h=>?_) (fun f cdv A outer s H vs Q E hr h=>?_)
 ·obtain ⟨a,ns,k,rfl,_⟩:=h
  rfl
 ·obtain ⟨a,ns,k,rfl,hs,q⟩:=h
  refine ⟨_,(Qo8 (Q5z (Qy1 Q80 (Qiv 1) (Q8v (Qay K rfl) tx.n_len Qad (Qcm (Qiv 0) Qfa)) (Q7z _)) (Qo9 (Qu3 (q_ix (o_ix K rfl) (Qiv 0) (Qiv 1)))) Qy4)
   (Qo9 (Qu3 Qq6))),?_⟩
  refine ⟨_,rfl,_,rfl,a,_,rfl,.inl hs,_,_,rfl,rfl,_,rfl,?_⟩
  refine ite2 (fun c=>?_) (fun c=>?_)
  ·have c:(k:Int) < (ns.map V.int).length:=by simpa using c
   have hk:k < ns.length:=by rw [List.length_map] at c; omega
   refine ⟨_,rfl,_,rfl,.inl ⟨a,_,_,_,rfl,rfl,hs,Qdi (v:=V.int ns[k]) ?_,q _⟩⟩
   rw [List.getElem?_map,List.getElem?_eq_getElem hk]
   rfl
  ·exact q _
noncomputable abbrev Qt9:L2.S:=(.seq (.set 2 (.call 33 (.cons (.var 1) .nil)))
 (.seq (.setF 3 (.bin .add (.int 1) (.call 34 (.cons (.var 2) (.cons (.int 4) .nil)))))
 (.seq (.setF 4 (.slc (.call 35 (.cons (.var 2) (.cons (.var 3) .nil))) .nil (.cons (.int 2) .nil)))
 (.seq (.setF 5 (.slc (.call 35 (.cons (.var 2) (.cons (.var 3) .nil))) .nil (.cons (.int 2) .nil)))
 (.seq (.setF 6 (.bin .add (.int 1) (.call 34 (.cons (.var 2) (.cons (.int 6) .nil)))))
 (.seq (.setF 7 (.bi .tup (.cons (.comp (.rng1 (.var 6)) [none,some 2] (.nm 0) .nil (.call 34 (.cons (.var 1) (.cons (.int 4) .nil)))) .nil)))
 (.seq (.setF 8 (.call 34 (.cons (.var 2) (.cons (.bi .len (.cons (.var 4) .nil)) .nil))))
 (.seq (.setF 9 (.bi .tup (.cons (.comp (.seq (.var 7)) [none,some 4] (.nm 0) .nil (.bin .mod (.var 0) (.bi .len (.cons (.var 1) .nil)))) .nil)))
 (.ite (.or (.not (.call 36 (.cons (.var 4) (.cons (.var 5) (.cons (.var 7) .nil))))) (.not (.call 37 (.cons (.var 4) (.cons (.var 8) (.cons (.bin .add (.int 1) (.call 34 (.cons (.var 2) (.cons (.int 4) .nil)))) (.cons (.var 9) .nil))))))) (.ret (.bl false)) .nil)))))))))
theorem Qae8 (tx:Txt K mg) {cf:CF} {f:Addr} {cdv:Value} {A:Around} {outer:List Env} {s:Shared} {H:Hp} {E:XK} (hc:Qlr P w K mg base ds cf 14) (h_cell:Has P w K mg base "_law_cell" ["_law_script","_law_k"] 1 (Ql1 K)) (hr:Room 14 (A.deeper (PyProof.Rows.envOfC "law" (Qg Qkc) s.heap.objs.size f cdv))) :
  QB (Qhq (fun _=>true) CX0 P w K mg base ["_law_script","_law_cell_here","_law_pen_here","_law_size","_law_one","_law_other","_law_many","_law_way","_law_at","_law_here"] "law" (Qg Qkc) f cdv A outer s H E).nox (Qa9 Qkc) (Q6x ⟨cf,fun _ _ _ _=>False,mg⟩ K 1 3 Qt9) :=
 Qo8 (Q50 PassesOwn.never rfl (Q5y K rfl (q_op (Q51 K rfl) (Q5x (Qcm (q_fn h_cell (hr.mono (by decide)) (Qcm (Qiv 0) (Qcm Qq6 Qfa))) Qfa)) (q_sl (o_sl K rfl) (Qiv 0) (Qs9 Qq6) (Qs9 Qq6)))) (Qam (i:=1) Qe6.nd)
   (Qk (Qog (Qav (i:=2) Qe6.nd (Ql (hc 33 Qj3 rfl) Qx hr (Qb (Qc 1) Qf))))
  (Qk (Qao (Qav (i:=3) Qe6.nd (Qdt rfl Q3 (Ql (hc 34 Qa6 rfl) Qx hr (Qb (Qc 2) (Qb Q3 Qf))))))
  (Qk (Qao (Qav (i:=4) Qe6.nd (Qrm rfl (Ql (hc 35 Qez rfl) Qx hr (Qb (Qc 2) (Qb (Qc 3) Qf))) Qi4 (Qi5 Q3))))
  (Qk (Qao (Qav (i:=5) Qe6.nd (Qrm rfl (Ql (hc 35 Qez rfl) Qx hr (Qb (Qc 2) (Qb (Qc 3) Qf))) Qi4 (Qi5 Q3))))
  (Qk (Qao (Qav (i:=6) Qe6.nd (Qdt rfl Q3 (Ql (hc 34 Qa6 rfl) Qx hr (Qb (Qc 2) (Qb Q3 Qf))))))
  (Qk (Qao (Qav (i:=7) Qe6.nd (Qc2 (Qb7 K rfl) (Qc0 K) tx.n_tuple Qa2 (Qb (Qbo ["_law_turn","_law_pen_here"] [none,some 2] rfl (Qdg tx.n_range (Qc 6)) (fun _ _ _=>(Q9 (Qam (i:=0) (show List.Nodup (["_law_turn","_law_pen_here"]:List PySem.Str) by decide +kernel)))) (fun _ _ _=>Qbu) (fun _ _ _=>(Ql (hc 34 Qa6 rfl) Qx hr (Qb (Qc 1) (Qb Q3 Qf))))) Qf))))
  (Qk (Qao (Qav (i:=8) Qe6.nd (Ql (hc 34 Qa6 rfl) Qx hr (Qb (Qc 2) (Qb (Qbb (Qay K rfl) (Qag K) tx.n_len Qad (Qb (Qc 4) Qf)) Qf)))))
  (Qk (Qao (Qav (i:=9) Qe6.nd (Qc2 (Qb7 K rfl) (Qc0 K) tx.n_tuple Qa2 (Qb (Qbo ["_law_place","_law_one"] [none,some 4] rfl (Qb6 rfl (Qc 7)) (fun _ _ _=>(Q9 (Qam (i:=0) (show List.Nodup (["_law_place","_law_one"]:List PySem.Str) by decide +kernel)))) (fun _ _ _=>Qbu) (fun _ _ _=>(Qj9 (Qc 0) (Qbb (Qay K rfl) (Qag K) tx.n_len Qad (Qb (Qc 1) Qf))))) Qf))))
  (Qs (Qe4 (t_w (Qpd (Qgt (Qc1 (Ql (hc 36 Qcq rfl) Qx hr (Qb (Qc 4) (Qb (Qc 5) (Qb (Qc 7) Qf)))))) (Qi2 (Qgt (Qc1 (Ql (hc 37 Qcs rfl) Qx hr (Qb (Qc 4) (Qb (Qc 8) (Qb (Qdt rfl Q3 (Ql (hc 34 Qa6 rfl) Qx hr (Qb (Qc 2) (Qb Q3 Qf)))) (Qb (Qc 9) Qf)))))))))) (Qs (Qal Qli)) Qci)))))))))))
  (Qo9 (Qu3 q_bl))
end
noncomputable abbrev En2:=List Int × List Int
noncomputable def dd:List En2 → List En2 → List En2
 | _,[]=>[]
 | D,p :: P=>if (D.lookup p.1).isSome then dd D P else p :: dd (D ++ [p]) P
theorem Qef (D:List En2) (p:En2) (P:List En2):dd D (p :: P) = if (D.lookup p.1).isSome = true then dd D P else p :: dd (D ++ [p]) P:=rfl
section
variable (m:Nat) (st:List Int → Nat → List Int)
noncomputable def ex1 (p:En2):List En2:=(List.range m).map fun k=>(st p.1 k,p.2 ++ [(k:Int)])
noncomputable def exs (P:List En2):List En2:=P.flatMap (ex1 m st)
end
theorem Qb2 {D E:List En2} {z:List Int}:(D ++ E).lookup z = ((D.lookup z).or (E.lookup z)):=by
 induction D with
 | nil=>rfl
 | cons p D ih =>
  rw [List.cons_append,List.lookup_cons,List.lookup_cons]
  cases z == p.1 with
  | true=>rfl
  | false=>exact ih
theorem Q07 {p:En2} {z:List Int}:[p].lookup z = if z = p.1 then some p.2 else none:=by
 rw [List.lookup_cons]
 by_cases h:z = p.1
 ·rw [if_pos h,h,beq_self_eq_true]
 ·rw [if_neg h,beq_eq_false_iff_ne.mpr h]; rfl
theorem Qkv:∀ (P D:List En2) (z:List Int),(D ++ dd D P).lookup z = (D ++ P).lookup z
 | [],D,z=>rfl
 | p :: P,D,z=>by
  unfold dd
  by_cases h:(D.lookup p.1).isSome = true
  ·rw [if_pos h,Qkv P D z,Qb2,Qb2,List.lookup_cons]
   by_cases hz:z = p.1
   ·subst hz
    obtain ⟨w,e⟩:=Option.isSome_iff_exists.mp h
    rw [e]
    rfl
   ·rw [beq_eq_false_iff_ne.mpr hz]
  ·rw [if_neg h]
   have q:=Qkv P (D ++ [p]) z
   rw [List.append_assoc,List.append_assoc] at q
   exact q
theorem Qin:∀ (P Q D:List En2),dd D (P ++ Q) = dd D P ++ dd (D ++ dd D P) Q
 | [],Q,D=>by simp [dd]
 | p :: P,Q,D=>by
  rw [List.cons_append,Qef,Qef]
  by_cases h:(D.lookup p.1).isSome = true
  ·rw [if_pos h,if_pos h]; exact Qin P Q D
  ·rw [if_neg h,if_neg h,Qin P Q (D ++ [p]),List.cons_append,List.append_assoc]
   rfl
theorem Qjn {D:List En2} {z w:List Int} (h:D.lookup z = some w):(z,w) ∈ D:=by
 induction D with
 | nil=>cases h
 | cons q D ih =>
  rw [List.lookup_cons] at h
  by_cases hq:z = q.1
  ·rw [hq,beq_self_eq_true] at h
   have h:some q.2 = some w:=h
   cases h
   rw [hq]; exact .head _
  ·rw [beq_eq_false_iff_ne.mpr hq] at h
   exact .tail _ (ih h)
noncomputable def Has1 (D:List En2) (z:List Int):Prop:=(D.lookup z).isSome = true
theorem Has1.app {D E:List En2} {z:List Int} (h:Has1 D z):Has1 (D ++ E) z:=by
 unfold Has1 at h ⊢
 obtain ⟨w,e⟩:=Option.isSome_iff_exists.mp h
 rw [Qb2,e]
 rfl
theorem Q08:∀ (P D:List En2),(∀ p ∈ P,Has1 D p.1) → dd D P = []
 | [],D,_=>rfl
 | p :: P,D,h=>by
  rw [Qef,if_pos (show (D.lookup p.1).isSome = true from h p (.head _))]
  exact Q08 P D fun q hq=>h q (.tail _ hq)
theorem Q09 (P D:List En2) {p:En2} (hp:p ∈ P):Has1 (D ++ dd D P) p.1:=by
 unfold Has1
 rw [Qkv,Qb2]
 have:∀ (P:List En2),p ∈ P → (P.lookup p.1).isSome = true:=fun P h=>by
  induction P with
  | nil=>cases h
  | cons q P ih =>
   rw [List.lookup_cons]
   by_cases hq:p.1 = q.1
   ·rw [hq,beq_self_eq_true]; rfl
   ·rw [beq_eq_false_iff_ne.mpr hq]
    rcases List.mem_cons.mp h with z | z
    ·exact absurd (by rw [z]) hq
    ·exact ih z
 have h2:=this P hp
 obtain ⟨w,e⟩:=Option.isSome_iff_exists.mp h2
 rw [e]
 cases D.lookup p.1 <;> rfl
section
variable {m:Nat} {st:List Int → Nat → List Int}
theorem Q47 {p q:En2} (h:q ∈ ex1 m st p):∃ k,k < m ∧ q.1 = st p.1 k:=by
 unfold ex1 at h
 obtain ⟨k,hk,rfl⟩:=List.mem_map.mp h
 exact ⟨k,List.mem_range.mp hk,rfl⟩
theorem Qua {p:En2} {k:Nat} (h:k < m):(st p.1 k,p.2 ++ [(k:Int)]) ∈ ex1 m st p:=List.mem_map.mpr ⟨k,List.mem_range.mpr h,rfl⟩
theorem Qqc:∀ (P D E:List En2),(∀ r,Has1 D r → ∀ k,k < m → Has1 E (st r k)) → dd E (exs m st (dd D P)) = dd E (exs m st P)
 | [],D,E,_=>rfl
 | p :: P,D,E,h=>by
  have e2:exs m st (p :: P) = ex1 m st p ++ exs m st P:=by unfold exs; rw [List.flatMap_cons]
  rw [Qef]
  by_cases hp:(D.lookup p.1).isSome = true
  ·rw [if_pos hp,Qqc P D E h,e2,Qin,Q08 (ex1 m st p) E fun q hq=>?_,List.nil_append,List.append_nil]
   obtain ⟨k,hk,e⟩:=Q47 hq
   rw [e]
   exact h _ hp k hk
  ·rw [if_neg hp]
   have e1:exs m st (p :: dd (D ++ [p]) P) = ex1 m st p ++ exs m st (dd (D ++ [p]) P):=by unfold exs; rw [List.flatMap_cons]
   rw [e1,e2,Qin,Qin,Qqc P (D ++ [p]) (E ++ dd E (ex1 m st p)) fun r hr k hk=>?_]
   by_cases hd:Has1 D r
   ·exact (h r hd k hk).app
   ·unfold Has1 at hr hd
    have hr2:([p].lookup r).isSome = true:=by
     rw [Qb2] at hr
     cases e:D.lookup r with
     | some w=>rw [e] at hd; exact absurd rfl hd
     | none=>rw [e] at hr; exact hr
    rw [Q07] at hr2
    by_cases e:r = p.1
    ·subst e
     exact Q09 (ex1 m st p) E (Qua hk)
    ·rw [if_neg e] at hr2; cases hr2
end
section
variable (m:Nat) (st:List Int → Nat → List Int)
noncomputable def lvP (r:List Int):Nat → List En2 × List En2
 | 0=>([(r,[])],[(r,[])])
 | d + 1=>((lvP r d).1 ++ dd (lvP r d).1 (exs m st (lvP r d).2),dd (lvP r d).1 (exs m st (lvP r d).2))
noncomputable def lvL (r:List Int):Nat → List En2
 | 0=>[(r,[])]
 | d + 1=>exs m st (lvL r d)
theorem Q6y (r:List Int):∀ d,∃ D0,(lvP m st r d).1 = D0 ++ (lvP m st r d).2 ∧ (lvP m st r d).2 = dd D0 (lvL m st r d) ∧ (∀ z,Has1 D0 z → ∀ k,k < m → Has1 (lvP m st r d).1 (st z k))
 | 0=>⟨[],rfl,rfl,fun z h=>by cases h⟩
 | d + 1=>by
  obtain ⟨D0,h1,h2,h3⟩:=Q6y r d
  refine ⟨(lvP m st r d).1,rfl,?_,fun z hz k hk=>?_⟩
  ·show dd (lvP m st r d).1 (exs m st (lvP m st r d).2) = dd _ (exs m st (lvL m st r d))
   conv=>lhs; rw [h2]
   exact Qqc _ D0 _ h3
  ·show Has1 ((lvP m st r d).1 ++ dd (lvP m st r d).1 (exs m st (lvP m st r d).2)) (st z k)
   by_cases h0:Has1 D0 z
   ·exact (h3 z h0 k hk).app
   ·have hz2:(((lvP m st r d).2).lookup z).isSome = true:=by
     unfold Has1 at hz h0
     rw [h1,Qb2] at hz
     cases e:D0.lookup z with
     | some w=>rw [e] at h0; exact absurd rfl h0
     | none=>rw [e] at hz; exact hz
    obtain ⟨w,e⟩:=Option.isSome_iff_exists.mp hz2
    have mem:(z,w) ∈ (lvP m st r d).2:=Qjn e
    exact Q09 _ _ (p:=(st z k,w ++ [(k:Int)])) (List.mem_flatMap.mpr ⟨(z,w),mem,Qua (p:=(z,w)) hk⟩)
noncomputable def Qqd (r:List Int):Nat → List En2
 | 0=>lvL m st r 0
 | d + 1=>Qqd r d ++ lvL m st r (d + 1)
theorem Qqe (r z:List Int):∀ d,((lvP m st r d).1).lookup z = (Qqd m st r d).lookup z
 | 0=>rfl
 | d + 1=>by
  obtain ⟨D0,h1,h2,h3⟩:=Q6y m st r d
  have e:(lvP m st r (d + 1)).1 = (lvP m st r d).1 ++ dd (lvP m st r d).1 (lvL m st r (d + 1)):=by
   show (lvP m st r d).1 ++ dd (lvP m st r d).1 (exs m st (lvP m st r d).2) = _
   congr 1
   conv=>lhs; rw [h2]
   exact Qqc _ D0 _ h3
  rw [e,Qkv,Qb2,Qqe r z d]
  show _ = (Qqd m st r d ++ lvL m st r (d + 1)).lookup z
  rw [Qb2]
end
section
variable (m:Nat) (st:List Int → Nat → List Int)
theorem Qvw (r:List Int) {j:Nat} (h:(lvP m st r j).2 = []):∀ k,lvP m st r (j + k) = ((lvP m st r j).1,[])
 | 0=>by rw [Nat.add_zero]; exact Prod.ext rfl h
 | k + 1=>by
  have ih:=Qvw r h k
  show ((lvP m st r (j + k)).1 ++ dd (lvP m st r (j + k)).1 (exs m st (lvP m st r (j + k)).2),dd (lvP m st r (j + k)).1 (exs m st (lvP m st r (j + k)).2)) = _
  rw [ih]
  show ((lvP m st r j).1 ++ dd _ [],dd _ []) = _
  show ((lvP m st r j).1 ++ [],[]) = _
  rw [List.append_nil]
end
theorem Q1a:∀ (P D:List En2),(D.map (·.1)).Nodup → ((D ++ dd D P).map (·.1)).Nodup
 | [],D,h=>by show ((D ++ []).map _).Nodup; rw [List.append_nil]; exact h
 | p :: P,D,h=>by
  rw [Qef]
  by_cases e:(D.lookup p.1).isSome = true
  ·rw [if_pos e]; exact Q1a P D h
  ·rw [if_neg e]
   have h2:((D ++ [p]).map (·.1)).Nodup:=by
    rw [List.map_append,List.nodup_append]
    refine ⟨h,List.nodup_cons.mpr ⟨List.not_mem_nil,List.nodup_nil⟩,fun a ha b hb z=>e ?_⟩
    rw [List.mem_singleton.mp hb] at z
    subst z
    obtain ⟨q,hq,e2⟩:=List.mem_map.mp ha
    have key:∀ (D:List En2),q ∈ D → (D.lookup q.1).isSome = true:=fun D hD=>by
     induction D with
     | nil=>cases hD
     | cons x D ih =>
      rw [List.lookup_cons]
      by_cases hx:q.1 = x.1
      ·rw [hx,beq_self_eq_true]; rfl
      ·rw [beq_eq_false_iff_ne.mpr hx]
       rcases List.mem_cons.mp hD with z | z
       ·exact absurd (by rw [z]) hx
       ·exact ih z
    have k:=key D hq
    rw [show q.1 = p.1 from e2] at k
    exact k
   have:=Q1a P (D ++ [p]) h2
   rw [List.append_assoc] at this
   exact this
noncomputable def Qxu:List Int → List (List Int)
 | []=>[[]]
 | x :: xs=>Qxu xs ++ (Qxu xs).map (x :: ·)
theorem Qsj:∀ xs:List Int,(Qxu xs).length = 2 ^ xs.length
 | []=>rfl
 | x :: xs=>by rw [Qxu,List.length_append,List.length_map,Qsj xs,List.length_cons,Nat.pow_succ]; omega
theorem Q1b {ps qs:List Int} (h:ps.Sublist qs):ps ∈ Qxu qs:=by
 induction h with
 | slnil=>exact .head _
 | cons a _ ih=>exact List.mem_append_left _ ih
 | cons_cons a _ ih=>exact List.mem_append_right _ (List.mem_map_of_mem ih)
theorem Q6z:∀ (ks L:List (List Int)),ks.Nodup → (∀ x ∈ ks,x ∈ L) → ks.length ≤ L.length
 | [],_,_,_=>Nat.zero_le _
 | k :: ks,L,h,s=>by
  obtain ⟨h1,h2⟩:=List.nodup_cons.mp h
  have hk:=s k (.head _)
  have ih:=Q6z ks (L.erase k) h2 fun x hx=>(List.mem_erase_of_ne (show x ≠ k from fun z=>h1 (by rw [← z]; exact hx))).mpr (s x (.tail _ hx))
  rw [List.length_erase_of_mem hk] at ih
  have:0 < L.length:=List.length_pos_of_mem hk
  rw [List.length_cons]
  omega
open PySem L2
noncomputable abbrev cfn (k:Nat):CF:=evF (Qjb ds ls) k
noncomputable abbrev Tb:=List (List Int)
noncomputable abbrev Qi (r:List Int):T:=.tup (r.map .int)
noncomputable abbrev Qr (M:Tb):T:=.tup (M.map Qi)
noncomputable abbrev Qh (Ms:List Tb):T:=.lst (Ms.map Qr)
structure Sq (n:Nat) (M:Tb):Prop where
 len:M.length = n
 row:∀ r ∈ M,r.length = n
 pos:∀ r ∈ M,∀ x ∈ r,(0:Int) ≤ x
 bd:∀ r ∈ M,∀ x ∈ r,(x:Int).natAbs < 2 ^ 100
noncomputable def Bn (a:Nat) (M:Tb):Prop:=∀ r ∈ M,∀ x ∈ r,(x:Int).natAbs < 2 ^ a
structure Tabs (n:Nat) (Ms:List Tb):Prop where
 n1:1 ≤ n
 n4:n ≤ 4
 m1:1 ≤ Ms.length
 m4:Ms.length ≤ 4
 sq:∀ M ∈ Ms,Sq n M
theorem Qub (k:Nat) (i:Int):cfn (k + 1) 0 [.fz (.int i)] = .ok (.fz (.bl true)) [.non]:=rfl
theorem Q1c (k:Nat) (r:List Int) (hr:r.length ≤ 1000):cfn (k + 2) 1 [.fz (Qi r),.fz (.int r.length)] = .ok (.fz (.bl true)) [.non,.non]:=by
 have hcomp:evE (cfn (k + 1)) (.comp (.seq (.var 0)) [none] (.nm 0) .nil (.call 0 (.cons (.var 0) .nil))) [.fz (Qi r),.fz (.int r.length)] = .ok (.ow (.lst ((r.map T.int).map fun _=>T.bl true))) [.fz (Qi r),.fz (.int r.length)] :=
  Qbf (rest:=[]) rfl rfl rfl rfl (fun x hx=>by
   obtain ⟨i,_,rfl⟩:=List.mem_map.mp hx
   exact ⟨.fz (.bl true),rfl,rfl⟩) (by rw [List.length_map]; omega)
 show Qa7 (cfn (k + 1)) ⟨2,2,Qmf⟩ _ = _
 rw [Qaz rfl]
 show Qbr _ (exS _ Qmf [.fz (Qi r),.fz (.int r.length)]) = _
 simp only [Qbh,Qck,Qry,Qh3,Qvn,Qq,Qaf,Qd,Q6,Q0p,Qrz,cont,Ql9,Qhz,Bool.not_false,Bool.and_true,Qfn,if_true,Qai,yBl,Ql5,Bool.not_true,yOr,Qb8,Qbg,Qo,yC1,Qt,yC2,yBi,Qbd,Qaa,Out.opt,ub2,List.length_map,Qb1,Qe,Qb0,Qbz,Qby,uc2,Option.map,Qcl,decide_true,yB,Qa0,yIf,Qc5,Qc4,Qa5,hcomp,ub3,Qpl,Qtv,Qcc,Qan,Qa1,Qat,Qar,Qw]
theorem Qos (k:Nat) {n:Nat} {M:Tb} (h:Sq n M) (h1:1 ≤ n) (h4:n ≤ 4):cfn (k + 3) 2 [.fz (Qr M)] = .ok (.fz (.bl true)) [.non]:=by
 have hl:=h.len
 have hcomp:evE (cfn (k + 2)) (.comp (.seq (.var 0)) [none,some 0] (.nm 0) .nil (.call 1 (.cons (.var 0) (.cons (.bi .len (.cons (.var 1) .nil)) .nil)))) [.fz (Qr M)] = .ok (.ow (.lst ((M.map Qi).map fun _=>T.bl true))) [.fz (Qr M)] :=
  Qbf (rest:=[.fz (Qr M)]) rfl rfl rfl rfl (fun x hx=>by
   obtain ⟨r,hr,rfl⟩:=List.mem_map.mp hx
   have hrl:=h.row r hr
   have q:=Q1c k r (by omega)
   rw [show ((r.length:Nat):Int) = (M.length:Nat) by omega] at q
   refine ⟨.fz (.bl true),?_,rfl⟩
   simp only [Qaj,Qo,Qq,Qaf,Qd,Q6,yC1,Qbg,Qe,Qt,yC2,yBi,Qbd,Qaa,cont,Out.opt,ub2,List.length_map,Q2,Qv,Qac,Qy,Qas,Qab,q,Qa4,Qn,Q0,L2.Qj,Option.map,if_true]) (by rw [List.length_map]; omega)
 show Qa7 (cfn (k + 2)) ⟨1,1,Qjz⟩ _ = _
 rw [Qaz rfl]
 show Qbr _ (exS _ Qjz [.fz (Qr M)]) = _
 have c1:¬ ((M.length:Int) < 1):=by omega
 have c2:¬ (4 < (M.length:Int)):=by omega
 simp only [Qbh,Qck,Qry,Qh3,Qvn,Qq,Qaf,Qd,Q6,Q0p,Qrz,cont,Ql9,Qhz,Bool.not_false,Bool.and_true,Qfn,if_true,Qai,yBl,Ql5,Bool.not_true,yOr,Qb8,Qbg,Qo,yC1,Qt,yC2,yBi,Qbd,Qaa,Out.opt,ub2,List.length_map,Qb1,Qcu,Qb0,Qbz,Qby,uc3,c1,decide_false,uc5,c2,yB,Qa0,yIf,Qc5,Qc4,Qa5,hcomp,ub3,Option.map,Qpl,Qtv,Qcc,Qan,Qa1,Qat,Qar,Qw]
theorem Qot {cf:CF} {g:Slot}:∀ (rows:Tb) (acc:List Int) (s:Slot),Qcj s = true → acc.length + rows.flatten.length ≤ 1000 → ∃ s',Qdf (.nm 2) (exS cf (.ext 1 (.var 2))) (rows.map Qi) [g,.ow (.lst (acc.map .int)),s] = .nx [g,.ow (.lst ((acc ++ rows.flatten).map .int)),s']
 | [],acc,s,_,_=>⟨s,by simp [Qdf]⟩
 | r :: rows,acc,s,hs,hz=>by
  rw [List.flatten_cons,List.length_append] at hz
  obtain ⟨s',e⟩:=Qot (cf:=cf) (g:=g) rows (acc ++ r) (.fz (Qi r)) rfl (by rw [List.length_append]; omega)
  refine ⟨s',?_⟩
  have e0:Qfc (.nm 2) (Qi r) [g,.ow (.lst (acc.map .int)),s] = some [g,.ow (.lst (acc.map .int)),.fz (Qi r)]:=by
   cases s <;> first | rfl | cases hs
  rw [List.map_cons]
  unfold Qdf
  rw [e0]
  have z:acc.length + r.length ≤ 100000:=by omega
  simp only [Qaaj,Slot.mut,Qe,Qd,Qq,Qaf,Qa0,yExt,Q6q,List.length_map,z,List.set,if_true]
  rw [← List.map_append,e,List.flatten_cons,List.append_assoc]
theorem Qjo (k:Nat) (M:Tb) (hz:M.flatten.length ≤ 1000):cfn (k + 1) 3 [.fz (Qr M)] = .ok (.ow (.lst (M.flatten.map .int))) [.non]:=by
 obtain ⟨s',e⟩:=Qot (cf:=cfn k) (g:=.fz (Qr M)) M [] .un rfl (by simpa using hz)
 rw [List.map_nil,List.nil_append] at e
 show Qa7 (cfn k) ⟨1,3,Qfw⟩ _ = _
 rw [Qaz rfl]
 show Qbr _ (exS _ Qfw [.fz (Qr M),.un,.un]) = _
 simp only [Qbh,Qvq,Ql4,Qt,Q6,Qrw,Qdv,List.length_nil,Nat.reduceLeDiff,if_true,Qa0,Qtg,Qau,Qbs,List.length_cons,Nat.reduceAdd,Nat.reduceLT,Qe,Qd,List.set,Qc4,Qg2,Qop,Qq,Qaf,Qtt,Ql8,cont,Ql7,Qgi,Qjw,Qkj,e,Qc6,Qa5,Qcc,Qan,Qa1,Qat,Qar,Qw,Option.map]
theorem Qsk {n:Nat}:∀ {M:Tb},(∀ r ∈ M,r.length = n) → M.flatten.length = M.length * n
 | [],_=>by simp
 | r :: M,h=>by
  rw [List.flatten_cons,List.length_append,h r List.mem_cons_self,Qsk (fun x hx=>h x (List.mem_cons_of_mem _ hx)),List.length_cons,Nat.add_mul,Nat.one_mul,Nat.add_comm]
theorem Sq.flat {n:Nat} {M:Tb} (h:Sq n M) (h4:n ≤ 4):M.flatten.length ≤ 1000:=by
 rw [Qsk h.row,h.len]
 have:n * n ≤ 4 * 4:=Nat.mul_le_mul h4 h4
 omega
theorem Qhn {n:Nat} {Ms:List Tb} (h:Tabs n Ms) {i:Nat} (hi:i < Ms.length):atI (Ms.map Qr) (i:Int) = some (Qr Ms[i]) ∧ Sq n Ms[i] :=
 ⟨Qdi (by rw [List.getElem?_map,List.getElem?_eq_getElem hi]; rfl),h.sq _ (List.getElem_mem hi)⟩
noncomputable abbrev Qqf:S:=.ite (.or (.not (.call 2 (.cons (.ix (.var 0) (.var 2)) .nil))) (.cmp .ne (.bi .len (.cons (.ix (.var 0) (.var 2)) .nil)) (.bi .len (.cons (.ix (.var 0) (.int 0)) .nil)))) (.ret (.var 2)) .nil
noncomputable abbrev Qqg:S:=.ite (.and (.var 1) (.not (.call 4 (.cons (.ix (.var 0) (.var 2)) .nil)))) (.ret (.var 2)) .nil
theorem Qsl (k:Nat) {n:Nat} {Ms:List Tb} (h:Tabs n Ms) {i:Nat} (hi:i < Ms.length):exS (cfn (k + 3)) Qqf [.fz (Qh Ms),.fz (.bl false),.fz (.int i)] = .nx [.fz (Qh Ms),.fz (.bl false),.fz (.int i)]:=by
 obtain ⟨a1,q1⟩:=Qhn h hi
 obtain ⟨a0,q0⟩:=Qhn h (show 0 < Ms.length by omega)
 have a0':atI (Ms.map Qr) 0 = some (Qr Ms[0]):=a0
 have g:=Qos k q1 h.n1 h.n4
 have l1:=q1.len
 have l0:=q0.len
 simp only [Qck,Qry,Qh3,Qaj,Qo,Qje,Qq,Qaf,Qd,Q6,Qib,Qe,Qia,Qh9,cont,Qh8,ui1,a1,yC1,Qt,yC2,Q2,Qv,Qac,Qy,Qas,Qab,g,Qa4,Qn,Q0,L2.Qj,Option.map,if_true,Qai,yBl,Ql5,Bool.not_true,yOr,Qb8,Qbg,yBi,Qbd,Qaa,Out.opt,ub2,List.length_map,l1,Qb1,Qcu,a0',l0,Qb0,Qbz,Qby,uc2,Qcl,decide_true,yB,Qa0,yIf,Qc5]
theorem Qsm (k:Nat) {Ms:List Tb} {i:Nat}:exS (cfn (k + 3)) Qqg [.fz (Qh Ms),.fz (.bl false),.fz (.int i)] = .nx [.fz (Qh Ms),.fz (.bl false),.fz (.int i)]:=by
 simp only [Qck,Ql6,Qq,Qaf,Qe,Qd,Qai,Q6,yBl,Qrx,Qa0,yIf,Qc5]
theorem Quc (k:Nat) {n:Nat} {Ms:List Tb} (h:Tabs n Ms):∃ s,Qdf (.nm 2) (exS (cfn (k + 3)) (.seq Qqf Qqg)) (Q5 0 Ms.length) [.fz (Qh Ms),.fz (.bl false),.un] = .nx [.fz (Qh Ms),.fz (.bl false),s]:=by
 obtain ⟨ρ',e,s,_,rfl⟩:=Qc3 (fun _ ρ=>∃ s,Qcj s = true ∧ ρ = [.fz (Qh Ms),.fz (.bl false),s]) (tg:=.nm 2) (b:=exS (cfn (k + 3)) (.seq Qqf Qqg)) (xs:=Q5 0 Ms.length) (n:=0) (ρ:=[.fz (Qh Ms),.fz (.bl false),.un]) ⟨.un,rfl,rfl⟩ (by
  rintro i x ρ hx ⟨s,hs,rfl⟩
  have hi:i < Ms.length:=by have:=(List.getElem?_eq_some_iff.mp hx).1; rwa [Q8] at this
  rw [Qfd hi] at hx
  cases hx
  rw [Int.zero_add]
  refine ⟨[.fz (Qh Ms),.fz (.bl false),.fz (.int i)],[.fz (Qh Ms),.fz (.bl false),.fz (.int i)],(by cases s <;> first | rfl | cases hs),.inl ?_,.fz (.int i),rfl,rfl⟩
  rw [Qbh,Qsl k h hi,Qc4,Qsm])
 exact ⟨s,e⟩
theorem Qud (k:Nat) {n:Nat} {Ms:List Tb} (h:Tabs n Ms):cfn (k + 4) 5 [.fz (Qh Ms),.fz (.bl false)] = .ok (.fz .non) [.non,.non]:=by
 have h1:=h.m1
 have h4:=h.m4
 obtain ⟨s,e⟩:=Quc k h
 show Qa7 (cfn (k + 3)) ⟨2,3,Qif⟩ _ = _
 rw [Qaz rfl]
 show Qbr _ (exS _ Qif [.fz (Qh Ms),.fz (.bl false),.un]) = _
 have c1:¬ ((Ms.length:Int) < 1):=by omega
 have c2:¬ (4 < (Ms.length:Int)):=by omega
 have c3:Ms.length ≤ 100000:=by omega
 simp only [Qbh,Qck,Qry,Qh3,Qvn,Qq,Qaf,Qd,Q6,Q0p,Qrz,cont,Q4x,Qhz,Bool.not_false,Bool.and_true,Qr0,if_true,Qai,yBl,Ql5,Bool.not_true,yOr,Qb8,Qbg,Qo,yC1,Qt,yC2,yBi,Qbd,Qaa,Out.opt,ub1,List.length_map,Qb1,Qcu,Qb0,Qbz,Qby,uc3,c1,decide_false,uc5,c2,yB,Qa0,yIf,Qc5,Qc4,Qg2,Qdh,Qmc c3,Qkj,e,Qc6,Qa5,Qon,Qcc,Qan,Qa1,Qat,Qar,Qw,Option.map]
theorem Qb4 (k:Nat) {n:Nat} {Ms:List Tb} (h:Tabs n Ms):cfn (k + 5) 10 [.fz (Qh Ms)] = .ok (.fz .non) [.non]:=by
 have e:=Qud k h
 show Qa7 (cfn (k + 4)) ⟨1,2,Qe7⟩ _ = _
 rw [Qaz rfl]
 show Qbr _ (exS _ Qe7 [.fz (Qh Ms),.un]) = _
 simp only [Qbh,Qbq,Qaj,Qo,Qq,Qaf,Qd,Q6,yC1,x_bl,Qt,yC2,Q2,Qv,Qac,Qy,Qas,Qab,e,Qa4,Qn,Q0,L2.Qj,Option.map,if_true,Qa0,Qcv,Qbp,frz,Qau,Qbs,List.length_cons,List.length_nil,Nat.reduceAdd,Nat.reduceLT,Qe,List.set,Qc4,Qck,Qb8,Qb1,Qon,Qb0,Qbz,cont,Qby,uc8,Qeq,Bool.not_true,Qai,yBl,yIf,Qc5,Qma,Qar,Qw]
noncomputable abbrev Qqh:S:=.ite (.bi .any (.cons (.comp (.seq (.call 3 (.cons (.ix (.var 0) (.var 1)) .nil))) [none] (.nm 0) .nil (.cmp .lt (.var 0) (.int 0))) .nil)) .bad .nil
theorem Q48 {α:Type} {xs:List α}:Qe1 (xs.map fun _=>T.bl false) = some (xs.map fun _=>false):=Qmb (fun _=>false) xs
theorem Q1d {α:Type} {xs:List α}:(xs.map fun _=>false).any id = false:=by rw [List.any_eq_false]; intro b hb; obtain ⟨_,_,rfl⟩:=List.mem_map.mp hb; simp
theorem Que (k:Nat) {n:Nat} {Ms:List Tb} (h:Tabs n Ms) {i:Nat} (hi:i < Ms.length):exS (cfn (k + 1)) Qqh [.fz (Qh Ms),.fz (.int i)] = .nx [.fz (Qh Ms),.fz (.int i)]:=by
 obtain ⟨a1,q1⟩:=Qhn h hi
 have hz:=q1.flat h.n4
 have en:=Qjo k Ms[i] hz
 have hw:evW (cfn (k + 1)) (.seq (.call 3 (.cons (.ix (.var 0) (.var 1)) .nil))) [.fz (Qh Ms),.fz (.int i)] = .ok ((Ms[i]).flatten.map T.int,none) [.fz (Qh Ms),.fz (.int i)]:=by
  simp only [Qop,Qaj,Qo,Qje,Qq,Qaf,Qd,Q6,Qib,Qe,Qia,Qh9,cont,Qh8,ui1,a1,yC1,Qt,yC2,Q2,Qv,Qac,Qy,Qas,Qab,en,Qa4,Qn,Q0,L2.Qj,Option.map,if_true,Qtt,Ql8,Ql7,Qgi,Qjw]
 have hcomp:evE (cfn (k + 1)) (.comp (.seq (.call 3 (.cons (.ix (.var 0) (.var 1)) .nil))) [none] (.nm 0) .nil (.cmp .lt (.var 0) (.int 0))) [.fz (Qh Ms),.fz (.int i)] = .ok (.ow (.lst (((Ms[i]).flatten.map T.int).map fun _=>T.bl false))) [.fz (Qh Ms),.fz (.int i)] :=
  Qbf (rest:=[]) hw rfl rfl rfl (fun x hx=>by
   obtain ⟨z,hz,rfl⟩:=List.mem_map.mp hx
   obtain ⟨r,hr,hzr⟩:=List.mem_flatten.mp hz
   have p:=q1.pos r hr z hzr
   have c:¬ z < 0:=by omega
   refine ⟨.fz (.bl false),?_,rfl⟩
   simp only [Qb8,Qq,Qaf,Qd,Q6,Qb1,Qcu,Qb0,Qbz,cont,Qby,uc3,c,decide_false]) (by rw [List.length_map]; omega)
 simp only [Qck,Qbg,Qo,hcomp,Q6,yC1,Qt,yC2,yBi,Qbd,Qaa,cont,Out.opt,ub4,Option.map,Q48,Q1d,Qai,yBl,Qa0,yIf,Qc5]
theorem Quf (k:Nat) {n:Nat} {Ms:List Tb} (h:Tabs n Ms):∃ s,Qdf (.nm 1) (exS (cfn (k + 1)) Qqh) (Q5 0 Ms.length) [.fz (Qh Ms),.un] = .nx [.fz (Qh Ms),s]:=by
 obtain ⟨ρ',e,s,_,rfl⟩:=Qc3 (fun _ ρ=>∃ s,Qcj s = true ∧ ρ = [.fz (Qh Ms),s]) (tg:=.nm 1) (b:=exS (cfn (k + 1)) Qqh) (xs:=Q5 0 Ms.length) (n:=0) (ρ:=[.fz (Qh Ms),.un]) ⟨.un,rfl,rfl⟩ (by
  rintro i x ρ hx ⟨s,hs,rfl⟩
  have hi:i < Ms.length:=by have:=(List.getElem?_eq_some_iff.mp hx).1; rwa [Q8] at this
  rw [Qfd hi] at hx
  cases hx
  rw [Int.zero_add]
  exact ⟨[.fz (Qh Ms),.fz (.int i)],[.fz (Qh Ms),.fz (.int i)],(by cases s <;> first | rfl | cases hs),.inl (Que k h hi),.fz (.int i),rfl,rfl⟩)
 exact ⟨s,e⟩
theorem Qjp (k:Nat) {n:Nat} {Ms:List Tb} (h:Tabs n Ms):cfn (k + 6) 13 [.fz (Qh Ms)] = .ok (.fz .non) [.non]:=by
 have h4:=h.m4
 have e:=Qb4 k h
 obtain ⟨s,el⟩:=Quf (k + 4) h
 have c3:Ms.length ≤ 100000:=by omega
 show Qa7 (cfn (k + 5)) ⟨1,2,Qda⟩ _ = _
 rw [Qaz rfl]
 show Qbr _ (exS _ Qda [.fz (Qh Ms),.un]) = _
 simp only [Qbh,Qic,Qaj,Qo,Qq,Qaf,Qd,Q6,yC1,Qt,yC2,Q2,Qv,Qac,Qy,Qas,Qab,e,Qa4,Qn,Q0,L2.Qj,Option.map,if_true,Qa0,Qka,Qc4,Qg2,Qdh,Qbg,yBi,Qbd,Qaa,cont,Out.opt,ub1,List.length_map,Qmc c3,Qkj,el,Qc6,Qma,Qar,Qw]
open PySem L2
noncomputable def InR (n:Nat) (ps:List Int):Prop:=∀ p ∈ ps,0 ≤ p ∧ p < (n:Int)
structure Set' (n:Nat) (ps:List Int):Prop where
 inr:InR n ps
 ris:ps.Pairwise (· < ·)
 len:ps.length ≤ 4
noncomputable def at2 (M:Tb) (p:Int) (j:Nat):Int:=(M.getD p.toNat []).getD j 0
noncomputable def hit (M:Tb) (ps:List Int) (j:Nat):Bool:=(ps.map fun p=>!decide (at2 M p j = 0)).any id
noncomputable def sb (M:Tb) (ps:List Int):List Int:=((List.range M.length).filter (hit M ps)).map fun (j:Nat)=>(j:Int)
theorem Qaav {n:Nat} {M:Tb} (h:Sq n M) {p:Int} (h0:0 ≤ p) (h1:p < (n:Int)):∃ r,atI (M.map Qi) p = some (Qi r) ∧ ∀ j:Nat,j < n → atI (r.map T.int) (j:Int) = some (.int (at2 M p j)):=by
 obtain ⟨i,rfl⟩:=Int.eq_ofNat_of_zero_le h0
 have hi:i < M.length:=by rw [h.len]; omega
 refine ⟨M[i],Qdi (by rw [List.getElem?_map,List.getElem?_eq_getElem hi]; rfl),fun j hj=>?_⟩
 have hj':j < (M[i]).length:=by rw [h.row _ (List.getElem_mem hi)]; exact hj
 refine Qdi ?_
 rw [List.getElem?_map,List.getElem?_eq_getElem hj']
 show some (T.int _) = some (T.int _)
 congr 2
 unfold at2
 rw [Int.toNat_natCast,List.getD_eq_getElem?_getD,List.getD_eq_getElem?_getD,List.getElem?_eq_getElem hi,Option.getD_some,List.getElem?_eq_getElem hj',Option.getD_some]
noncomputable def jOf:T → Nat
 | .int i=>i.toNat
 | _=>0
noncomputable def neT (M:Tb) (j:Nat):T → T
 | .int p=>.bl (!decide (at2 M p j = 0))
 | _=>.non
theorem Q49 (g:Nat → Bool) (n:Nat):((Q5 0 n).filter (fun x=>g (jOf x))).map id = (((List.range n).filter g).map fun (j:Nat)=>(j:Int)).map T.int:=by
 unfold Q5
 rw [List.map_id,List.filter_map,List.map_map]
 have e:((fun x=>g (jOf x)) ∘ fun (i:Nat)=>T.int (0 + (i:Nat))) = g:=by
  funext i
  show g ((0 + (i:Int)).toNat) = g i
  rw [Int.zero_add,Int.toNat_natCast]
 rw [e]
 apply List.map_congr_left
 intro i _
 show T.int (0 + (i:Int)) = T.int (i:Int)
 rw [Int.zero_add]
theorem Qaaw (k:Nat) {n:Nat} {M:Tb} (h:Sq n M) (h4:n ≤ 4) {ps:List Int} (hp:InR n ps) (hz:ps.length ≤ 1000) {j:Nat} (hj:j < n):Qak (evE (cfn k) (.bi .any (.cons (.comp (.seq (.var 1)) [none,some 0,some 2] (.nm 0) .nil (.cmp .ne (.ix (.ix (.var 2) (.var 0)) (.var 1)) (.int 0))) .nil)) [.fz (.int (0 + (j:Int))),.fz (Qi ps),.fz (Qr M)]) = .ok (hit M ps j) [.fz (.int (0 + (j:Int))),.fz (Qi ps),.fz (Qr M)]:=by
 have hcomp:evE (cfn k) (.comp (.seq (.var 1)) [none,some 0,some 2] (.nm 0) .nil (.cmp .ne (.ix (.ix (.var 2) (.var 0)) (.var 1)) (.int 0))) [.fz (.int (0 + (j:Int))),.fz (Qi ps),.fz (Qr M)] = .ok (.ow (.lst ((ps.map T.int).map (neT M j)))) [.fz (.int (0 + (j:Int))),.fz (Qi ps),.fz (Qr M)] :=
  Qbf (rest:=[.fz (.int (0 + (j:Int))),.fz (Qr M)]) rfl rfl rfl rfl (fun x hx=>by
   obtain ⟨p,hpm,rfl⟩:=List.mem_map.mp hx
   obtain ⟨r,a1,a2⟩:=Qaav h (hp p hpm).1 (hp p hpm).2
   have a2:=a2 j hj
   refine ⟨.fz (.bl (!decide (at2 M p j = 0))),?_,rfl⟩
   simp only [Int.zero_add,Qb8,Qje,Qq,Qaf,Qe,Qd,Q6,Qib,Qia,Qh9,cont,Qh8,ui2,a1,a2,Qb1,Qcu,Qb0,Qbz,Qby,uc2,Option.map,Qcl]) (by rw [List.length_map]; omega)
 have tr:Qe1 ((ps.map T.int).map (neT M j)) = some (ps.map fun p=>!decide (at2 M p j = 0)):=Qvu (fun p=>rfl) ps
 simp only [Qbg,Qo,hcomp,Q6,yC1,Qt,yC2,yBi,Qbd,Qaa,cont,Out.opt,ub4,Option.map,tr,Qai,yBl]
 rfl
theorem Qqi (k:Nat) {n:Nat} {M:Tb} (h:Sq n M) (h4:n ≤ 4) {ps:List Int} (hp:InR n ps) (hz:ps.length ≤ 1000):cfn (k + 1) 29 [.fz (Qr M),.fz (Qi ps)] = .ok (.fz (Qi (sb M ps))) [.non,.non]:=by
 have hl:=h.len
 have hw:evW (cfn k) (.rng1 (.bi .len (.cons (.var 0) .nil))) [.fz (Qr M),.fz (Qi ps)] = .ok (Q5 0 M.length,none) [.fz (Qr M),.fz (Qi ps)]:=by
  have c:M.length ≤ 100000:=by omega
  simp only [Qdh,Qbg,Qo,Qq,Qaf,Qd,Q6,yC1,Qt,yC2,yBi,Qbd,Qaa,cont,Out.opt,ub2,List.length_map,Qmc c]
 have hcomp:=Qvm (cf:=cfn k) (w:=.rng1 (.bi .len (.cons (.var 0) .nil))) (js:=[none,some 1,some 0]) (cs:=.cons (.bi .any (.cons (.comp (.seq (.var 1)) [none,some 0,some 2] (.nm 0) .nil (.cmp .ne (.ix (.ix (.var 2) (.var 0)) (.var 1)) (.int 0))) .nil)) .nil) (e:=.var 0)
  (ρ:=[.fz (Qr M),.fz (Qi ps)]) (rest:=[.fz (Qi ps),.fz (Qr M)]) (g:=fun x=>hit M ps (jOf x)) (f:=id) hw rfl rfl rfl (fun x hx=>by
   unfold Q5 at hx
   obtain ⟨j,hj,rfl⟩:=List.mem_map.mp hx
   have hj:=List.mem_range.mp hj
   rw [Qaes,Qaaw k h h4 hp hz (by omega)]
   show Out.ok (hit M ps j) _ = Out.ok (hit M ps ((0 + (j:Int)).toNat)) _
   rw [Int.zero_add,Int.toNat_natCast]) (fun x hx _=>by
   unfold Q5 at hx
   obtain ⟨j,hj,rfl⟩:=List.mem_map.mp hx
   exact ⟨.fz (.int (0 + (j:Int))),rfl,rfl⟩) (by rw [Q8]; omega)
 rw [Q49] at hcomp
 show Qa7 (cfn k) ⟨2,2,Qgb⟩ _ = _
 rw [Qaz rfl]
 show Qbr _ (exS _ Qgb [.fz (Qr M),.fz (Qi ps)]) = _
 simp only [Qa5,Qbg,Qo,hcomp,Q6,yC1,Qt,yC2,yBi,Qbd,Qaa,cont,Out.opt,ub9,Qa0,Qcc,Qan,Qa1,Qat,Qar,Qw,Option.map]
 rfl
open PySem L2
theorem Q1e:∀ (ts:List T),eqL ts [] = ts.isEmpty
 | []=>by rw [Qix]; rfl
 | t :: ts=>by rw [Qiy (by simp)]; rfl
theorem Q5a {ts:List T} (h:ts.all (Qm 49) = true):eqO (.lst ts) (.lst []) = some ts.isEmpty:=by
 show (if _ then _ else _) = _
 rw [if_pos ⟨by rw [Qm]; exact h,by simp [Qm]⟩,eqT,Q1e]
theorem Qug (M:Tb) (ps:List Int):InR M.length (sb M ps):=fun p hp=>by
 unfold sb at hp
 obtain ⟨j,hj,rfl⟩:=List.mem_map.mp hp
 have:=List.mem_range.mp (List.mem_filter.mp hj).1
 omega
theorem Qaax (M:Tb) (ps:List Int):(sb M ps).length ≤ M.length:=by
 unfold sb
 rw [List.length_map]
 have:=List.length_filter_le (hit M ps) (List.range M.length)
 rwa [List.length_range] at this
noncomputable def St (n:Nat) (s:List Int):Prop:=InR n s ∧ s.length ≤ 1000
theorem tab0 {n:Nat} {Ms:List Tb} (h:Tabs n Ms):∃ M,atI (Ms.map Qr) 0 = some (Qr M) ∧ M.length = n:=by
 obtain ⟨a0,q0⟩:=Qhn h (show 0 < Ms.length by have:=h.m1; omega)
 exact ⟨_,a0,q0.len⟩
open PySem L2
noncomputable def Qhf (q:T):Prop:=∃ n f:Int,0 ≤ n ∧ q = .lst [.int n,.int f]
theorem Qe8 (k:Nat) {m:Int} (h0:0 < m) (h1:m.natAbs < 2 ^ 64) {q:T} (hq:Qhf q):∃ r q',0 ≤ r ∧ r < m ∧ Qhf q' ∧ cfn (k + 1) 34 [.ml q,.fz (.int m)] = .ok (.fz (.int r)) [q',.non]:=by
 obtain ⟨n,f,hn,rfl⟩:=hq
 have h1':m.natAbs < 18446744073709551616:=h1
 have h32:(32:Int).natAbs < 18446744073709551616:=by decide
 by_cases hf:f = 1
 ·refine ⟨n % m,.lst [.int (n / m),.int f],Int.emod_nonneg _ (by omega),Int.emod_lt_of_pos _ h0,⟨_,_,Int.ediv_nonneg hn (by omega),rfl⟩,?_⟩
  show Qa7 (cfn k) ⟨2,5,Qep⟩ _ = _
  rw [Qaz rfl]
  show Qbr _ (exS _ Qep [.ml (.lst [.int n,.int f]),.fz (.int m),.un,.un,.un]) = _
  subst hf
  simp only [Qbh,Qck,Qb8,Qje,Qq,Qaf,Qd,Q6,Qib,Qcu,Qia,Qh9,cont,Slot.prv,Qh8,ui1,at_1,Qb1,Qb0,Qbz,Qby,uc1,Qcl,decide_true,Qai,yBl,Qa0,yIf,Qaeo,Qbg,Qo,at_0,yC1,Qe,Qt,yC2,yBi,Qbd,Qaa,Out.opt,ub7,h0,Nat.reducePow,h1',and_self,if_true,yUnp,Qau,Qcz,Qbs,List.length_cons,List.length_nil,Nat.reduceAdd,Nat.reduceLT,List.set,Qc4,Q6r,Q4w,Q0u,frz,Slot.mut,Qvt,Q0t,Q6s,Qa5,Qcc,z_rt,Qan,Qa1,Qat,Qar,Qw,Option.map]
 ·refine ⟨(((((n % 2147483647 + 40503) * 69621 % 2147483629) * ((n % 2147483647 + 40503) * 69621 % 2147483629) + 7817) % 2147483587) * 48271 + 11) % 2147483629 / 32 % m,
   .lst [.int ((((((n % 2147483647 + 40503) * 69621 % 2147483629) * ((n % 2147483647 + 40503) * 69621 % 2147483629) + 7817) % 2147483587) * 48271 + 11) % 2147483629),.int f],Int.emod_nonneg _ (by omega),Int.emod_lt_of_pos _ h0,⟨_,_,Int.emod_nonneg _ (by decide),rfl⟩,?_⟩
  show Qa7 (cfn k) ⟨2,5,Qep⟩ _ = _
  rw [Qaz rfl]
  show Qbr _ (exS _ Qep [.ml (.lst [.int n,.int f]),.fz (.int m),.un,.un,.un]) = _
  have b1:Qcy (n % 2147483647 + 40503) 69621 = true:=by unfold Qcy; simp
  have m1:0 ≤ (n % 2147483647 + 40503) * 69621 % 2147483629:=Int.emod_nonneg _ (by decide)
  have m2:(n % 2147483647 + 40503) * 69621 % 2147483629 < 2147483629:=Int.emod_lt_of_pos _ (by decide)
  generalize hs:(n % 2147483647 + 40503) * 69621 % 2147483629 = st at m1 m2 ⊢
  have b2:Qcy st st = true:=by
   unfold Qcy
   simp only [Bool.or_eq_true,decide_eq_true_eq]
   exact .inl (by omega)
  have b3:∀ z,Qcy z 48271 = true:=fun z=>by unfold Qcy; simp
  simp only [Qbh,Qck,Qb8,Qje,Qq,Qaf,Qd,Q6,Qib,Qcu,Qia,Qh9,cont,Slot.prv,Qh8,ui1,at_1,Qb1,Qb0,Qbz,Qby,uc1,Qcl,hf,decide_false,Qai,yBl,Qa0,yIf,Qc5,Qc4,Qbq,Qet,at_0,Qek,Qej,Qei,Out.opt,uo8,Int.reduceLT,if_false,if_true,uo1,uo5,b1,hs,Qcv,Qbp,frz,Qau,Qbs,List.length_cons,List.length_nil,Nat.reduceAdd,Nat.reduceLT,Qe,List.set,b2,Q6r,b3,Q4w,Q0u,Slot.mut,Qvt,Q0t,Q6s,Qa5,uo7,Nat.reducePow,h32,and_self,h0,Qcc,Qan,Qa1,Qat,Qar,Qw,Option.map]
theorem Qae9 (k:Nat) (c:Int):∃ q,Qhf q ∧ cfn (k + 1) 33 [.fz (.int c)] = .ok (.ow q) [.non]:=by
 refine ⟨.lst [.int (if 0 - c > c then 0 - c else c),.int (if decide (10 ^ 18 ≤ (if 0 - c > c then 0 - c else c)) = true then 1 else 0)],⟨_,_,?_,rfl⟩,?_⟩
 ·split <;> omega
 ·have p1:(18:Int).natAbs ≤ 1000000:=by decide
  have p2:(10:Int).natAbs < 18446744073709551616:=by decide
  show Qa7 (cfn k) ⟨1,2,Qj2⟩ _ = _
  rw [Qaz rfl]
  show Qbr _ (exS _ Qj2 [.fz (.int c),.un]) = _
  have z2:(2:Nat) ≤ 100000:=by decide
  simp only [Qbh,Qbq,Qbg,Qo,Qq,Qaf,Qd,Q6,yC1,Qet,Qcu,Qek,Qej,Qei,cont,Out.opt,uo4,Qt,yC2,yBi,Qbd,Qaa,ub6,Qa0,Qcv,Qbp,frz,Qau,Qbs,List.length_cons,List.length_nil,Nat.reduceAdd,Nat.reduceLT,Qe,List.set,if_true,Qc4,Qa5,Ql4,Qb8,Qb1,uo9,Int.reduceLE,p1,Nat.reducePow,p2,and_self,Int.reduceToNat,Int.reducePow,Qb0,Qbz,Qby,uc6,ub8,Qrw,Qdv,z2,Qcc,Qan,Qa1,Qat,Qar,Qw,Option.map]
noncomputable def Q1f (_ y:T):Prop:=∃ v:Int,y = .int v ∧ 0 ≤ v ∧ v ≤ 1000000
theorem Qxv {xs ys:List T} (h:All2 Q1f xs ys):∃ r:List Int,ys = r.map T.int ∧ r.length = xs.length ∧ ∀ v ∈ r,0 ≤ v ∧ v ≤ 1000000:=by
 induction h with
 | nil=>exact ⟨[],rfl,rfl,fun v hv=>(nomatch hv)⟩
 | cons f _ ih =>
  obtain ⟨v,rfl,hv⟩:=f
  obtain ⟨r,rfl,hl,hr⟩:=ih
  refine ⟨v :: r,rfl,by rw [List.length_cons,List.length_cons,hl],fun w hw=>?_⟩
  rcases List.mem_cons.mp hw with rfl | hw
  ·exact hv
  ·exact hr w hw
noncomputable abbrev Quh:E:=.bin .mul (.bi .int (.cons (.cmp .lt (.call 34 (.cons (.var 2) (.cons (.int 10) .nil))) (.var 1)) .nil)) (.bin .add (.int 1) (.call 34 (.cons (.var 2) (.cons (.var 3) .nil))))
theorem Qaay (k:Nat) {n:Nat} (h4:n ≤ 4) {full most:Int} (m0:0 < most) (m1:most.natAbs < 2 ^ 64) (m2:most ≤ 1000000) {q:T} (hq:Qhf q) {a:Slot} {found rows:T} {s6:Slot} {i:Int}:∃ (r:List Int) (q':T),evE (cfn (k + 1)) (.bi .tup (.cons (.comp (.rng1 (.var 1)) [none,some 3,some 0,some 4] (.nm 0) .nil Quh) .nil)) [.ml q,.fz (.int n),a,.fz (.int full),.fz (.int most),.ow found,s6,.ow rows,.fz (.int i)] =
  .ok (.fz (Qi r)) [.ml q',.fz (.int n),a,.fz (.int full),.fz (.int most),.ow found,s6,.ow rows,.fz (.int i)] ∧ Qhf q' ∧ r.length = n ∧ ∀ v ∈ r,0 ≤ v ∧ v ≤ 1000000:=by
 have hw:evW (cfn (k + 1)) (.rng1 (.var 1)) [.ml q,.fz (.int n),a,.fz (.int full),.fz (.int most),.ow found,s6,.ow rows,.fz (.int i)] = .ok (Q5 0 n,none) [.ml q,.fz (.int n),a,.fz (.int full),.fz (.int most),.ow found,s6,.ow rows,.fz (.int i)]:=by
  have c:n ≤ 100000:=by omega
  simp only [Qdh,Qq,Qaf,Qe,Qd,Q6,Qmc c]
 obtain ⟨ys,q',e,p,f⟩:=Q0v (cf:=cfn (k + 1)) (P:=Qhf) (F:=Q1f) (rest:=fun q=>[.fz (.int full),.ml q,.fz (.int most)]) (w:=.rng1 (.var 1)) (js:=[none,some 3,some 0,some 4]) (e:=Quh) (ρ:=[.ml q,.fz (.int n),a,.fz (.int full),.fz (.int most),.ow found,s6,.ow rows,.fz (.int i)])
  (ρ':=fun q'=>[.ml q',.fz (.int n),a,.fz (.int full),.fz (.int most),.ow found,s6,.ow rows,.fz (.int i)]) hq hw rfl (fun s q'=>rfl) rfl (fun s q' _=>rfl) (fun x hx q hq=>by
   obtain ⟨r1,q1,a0,a1,p1,e1⟩:=Qe8 k (m:=10) (by decide) (by decide) hq
   obtain ⟨r2,q2,b0,b1,p2,e2⟩:=Qe8 k m0 m1 p1
   have mo:Qcy (if decide (r1 < full) = true then 1 else 0) (1 + r2) = true:=by
    unfold Qcy
    split <;> simp
   refine ⟨.fz (.int ((if decide (r1 < full) = true then 1 else 0) * (1 + r2))),_,q2,?_,rfl,p2,_,rfl,?_⟩
   ·simp only [Qet,Qbg,Qo,Qb8,Qaj,Qq,Qaf,Qe,Qd,Q6,yC1,Qcu,Qt,yC2,Q2,Qv,List.all_cons,List.all_nil,Bool.and_true,Qac,Qy,Qas,Qab,e1,Qa4,Qn,Q0,L2.Qj,reduceCtorEq,Option.map,if_false,Nat.reduceAdd,Nat.reduceEqDiff,if_true,List.getElem?_cons_zero,Slot.put,Qb1,Qb0,Qbz,cont,Qby,uc3,yBi,Qbd,Qaa,Out.opt,ub8,Qek,e2,Qej,Qei,uo1,uo5,mo]
   ·split <;> constructor <;> omega) (by rw [Q8]; omega)
 obtain ⟨r,rfl,hl,hr⟩:=Qxv f
 rw [Q8] at hl
 refine ⟨r,q',?_,p,hl,hr⟩
 simp only [Qbg,Qo,e,Q6,yC1,Qt,yC2,yBi,Qbd,Qaa,cont,Out.opt,ub9]
noncomputable def Rows (n i:Nat) (rows:Tb):Prop:=rows.length = i ∧ ∀ r ∈ rows,r.length = n ∧ ∀ x ∈ r,(0:Int) ≤ x ∧ x ≤ 1000000
theorem Rows.snoc {n i:Nat} {rows:Tb} {r:List Int} (h:Rows n i rows) (hl:r.length = n) (hr:∀ x ∈ r,0 ≤ x ∧ x ≤ 1000000):Rows n (i + 1) (rows ++ [r]):=by
 refine ⟨by rw [List.length_append,h.1]; rfl,fun x hx=>?_⟩
 rcases List.mem_append.mp hx with hx | hx
 ·exact h.2 x hx
 ·rw [List.mem_singleton.mp hx]; exact ⟨hl,hr⟩
noncomputable abbrev Q1g:S:=.app 7 (.bi .tup (.cons (.comp (.rng1 (.var 1)) [none,some 3,some 0,some 4] (.nm 0) .nil Quh) .nil))
theorem Q5b (k:Nat) {n:Nat} (h4:n ≤ 4) {full most:Int} (m0:0 < most) (m1:most.natAbs < 2 ^ 64) (m2:most ≤ 1000000) {q:T} (hq:Qhf q) {a:Slot} {found:T} {s6 s8:Slot} (o8:Qcj s8 = true):∃ (rows:Tb) (q':T) (t8:Slot),Qdf (.nm 8) (exS (cfn (k + 1)) Q1g) (Q5 0 n) [.ml q,.fz (.int n),a,.fz (.int full),.fz (.int most),.ow found,s6,.ow (.lst []),s8] =
  .nx [.ml q',.fz (.int n),a,.fz (.int full),.fz (.int most),.ow found,s6,.ow (.lst (rows.map Qi)),t8] ∧ Qhf q' ∧ Rows n n rows ∧ Qcj t8 = true:=by
 obtain ⟨ρ',e,rows,q',t8,p,hr,o,rfl⟩:=Qc3 (fun j ρ=>∃ (rows:Tb) (q':T) (t8:Slot),Qhf q' ∧ Rows n j rows ∧ Qcj t8 = true ∧ ρ = [.ml q',.fz (.int n),a,.fz (.int full),.fz (.int most),.ow found,s6,.ow (.lst (rows.map Qi)),t8]) (tg:=.nm 8) (b:=exS (cfn (k + 1)) Q1g) (xs:=Q5 0 n) (n:=0) (ρ:=[.ml q,.fz (.int n),a,.fz (.int full),.fz (.int most),.ow found,s6,.ow (.lst []),s8]) ⟨[],q,s8,hq,⟨rfl,fun r hr=>(nomatch hr)⟩,o8,rfl⟩ (by
  rintro i x ρ hx ⟨rows,q1,t8,p1,hr,o,rfl⟩
  have hi:i < n:=by have:=(List.getElem?_eq_some_iff.mp hx).1; rwa [Q8] at this
  rw [Qfd hi] at hx
  cases hx
  obtain ⟨r,q2,e2,p2,l2,v2⟩:=Qaay k h4 m0 m1 m2 p1 (a:=a) (found:=found) (rows:=.lst (rows.map Qi)) (s6:=s6) (i:=0 + (i:Int)) (n:=n) (full:=full)
  have z:rows.length < 100000:=by have:=hr.1; omega
  refine ⟨[.ml q1,.fz (.int n),a,.fz (.int full),.fz (.int most),.ow found,s6,.ow (.lst (rows.map Qi)),.fz (.int (0 + (i:Int)))],_,(by cases t8 <;> first | rfl | cases o),.inl ?_,rows ++ [r],q2,.fz (.int (0 + (i:Int))),p2,hr.snoc l2 v2,rfl,rfl⟩
  simp only [Qtu,Slot.mut,Qe,Qd,e2,Qa0,Q0s,Qvs,frz,Qvr,List.length_map,z,List.set,if_true,List.map_append,List.map_cons,List.map_nil])
 rw [Q8,Nat.zero_add] at hr
 exact ⟨rows,q',t8,e,p,hr,o⟩
noncomputable abbrev Q1h:S:=.seq (.set 7 (.lst .nil)) (.seq (.for_ (.rng1 (.var 1)) (.nm 8) Q1g) (.app 5 (.bi .tup (.cons (.var 7) .nil))))
noncomputable def own1:Slot → Bool
 | .un=>true
 | .fz _=>true
 | .ow _=>true
 | _=>false
theorem Qxw (k:Nat) {n m:Nat} (h4:n ≤ 4) (hm:m ≤ 4) {full most:Int} (m0:0 < most) (m1:most.natAbs < 2 ^ 64) (m2:most ≤ 1000000) {q:T} (hq:Qhf q) {a:Slot}:∃ (Ms:List Tb) (q':T) (t6 t7 t8:Slot),Qdf (.nm 6) (exS (cfn (k + 1)) Q1h) (Q5 0 m) [.ml q,.fz (.int n),a,.fz (.int full),.fz (.int most),.ow (.lst []),.un,.un,.un] =
  .nx [.ml q',.fz (.int n),a,.fz (.int full),.fz (.int most),.ow (.lst (Ms.map Qr)),t6,t7,t8] ∧ Qhf q' ∧ Ms.length = m ∧ ∀ M ∈ Ms,Sq n M ∧ Bn 20 M:=by
 obtain ⟨ρ',e,Ms,q',t6,t7,t8,p,hl,hs,_,_,_,rfl⟩:=Qc3 (fun j ρ=>∃ (Ms:List Tb) (q':T) (t6 t7 t8:Slot),Qhf q' ∧ Ms.length = j ∧ (∀ M ∈ Ms,Sq n M ∧ Bn 20 M) ∧ Qcj t6 = true ∧ own1 t7 = true ∧ Qcj t8 = true ∧ ρ = [.ml q',.fz (.int n),a,.fz (.int full),.fz (.int most),.ow (.lst (Ms.map Qr)),t6,t7,t8]) (tg:=.nm 6) (b:=exS (cfn (k + 1)) Q1h) (xs:=Q5 0 m) (n:=0) (ρ:=[.ml q,.fz (.int n),a,.fz (.int full),.fz (.int most),.ow (.lst []),.un,.un,.un]) ⟨[],q,.un,.un,.un,hq,rfl,fun M hM=>(nomatch hM),rfl,rfl,rfl,rfl⟩ (by
  rintro i x ρ hx ⟨Ms,q1,t6,t7,t8,p1,hl,hs,o6,o7,o8,rfl⟩
  have hi:i < m:=by have:=(List.getElem?_eq_some_iff.mp hx).1; rwa [Q8] at this
  obtain ⟨rows,q2,u8,e2,p2,hr,w8⟩:=Q5b k h4 m0 m1 m2 p1 (a:=a) (found:=.lst (Ms.map Qr)) (s6:=.fz x) o8 (n:=n) (full:=full)
  have c:n ≤ 100000:=by omega
  have z:Ms.length < 100000:=by omega
  refine ⟨[.ml q1,.fz (.int n),a,.fz (.int full),.fz (.int most),.ow (.lst (Ms.map Qr)),.fz x,t7,t8],_,(by cases t6 <;> first | rfl | cases o6),.inl ?_,Ms ++ [rows],q2,.fz x,.ow (.lst (rows.map Qi)),u8,p2,by rw [List.length_append,hl]; rfl,fun M hM=>?_,rfl,rfl,w8,rfl⟩
  ·have es:exS (cfn (k + 1)) (.set 7 (.lst .nil)) [.ml q1,.fz (.int n),a,.fz (.int full),.fz (.int most),.ow (.lst (Ms.map Qr)),.fz x,t7,t8] = .nx [.ml q1,.fz (.int n),a,.fz (.int full),.fz (.int most),.ow (.lst (Ms.map Qr)),.fz x,.ow (.lst []),t8]:=by
    cases t7 <;> first | rfl | (cases o7; done)
   rw [Qbh,es,Qc4]
   simp only [Qbh,Qg2,Qdh,Qq,Qaf,Qe,Qd,Q6,Qmc c,Qa0,Qkj,e2,Qc6,Qc4,Qtu,Slot.mut,Qbg,Qo,yC1,Qt,yC2,yBi,Qbd,Qaa,cont,Slot.prv,Out.opt,ub9,Q0s,Qvs,frz,Qvr,List.length_map,z,List.set,if_true,List.map_append,List.map_cons,List.map_nil]
  ·rcases List.mem_append.mp hM with hM | hM
   ·exact hs M hM
   ·rw [List.mem_singleton.mp hM]
    exact ⟨⟨hr.1,fun r h=>(hr.2 r h).1,fun r h x hx=>((hr.2 r h).2 x hx).1,fun r h x hx=>by have:=(hr.2 r h).2 x hx; omega⟩,fun r h x hx=>by have:=(hr.2 r h).2 x hx; show x.natAbs < 2 ^ 20; omega⟩)
 rw [Q8,Nat.zero_add] at hl
 exact ⟨Ms,q',t6,t7,t8,e,p,hl,hs⟩
theorem at3 (a b c:Int) {r:Int} (h0:0 ≤ r) (h1:r < 3):∃ v,atI [T.int a,.int b,.int c] r = some (.int v) ∧ (v = a ∨ v = b ∨ v = c):=by
 obtain ⟨i,rfl⟩:=Int.eq_ofNat_of_zero_le h0
 have hi:i = 0 ∨ i = 1 ∨ i = 2:=by omega
 rcases hi with rfl | rfl | rfl
 ·exact ⟨a,Qdi rfl,.inl rfl⟩
 ·exact ⟨b,Qdi rfl,.inr (.inl rfl)⟩
 ·exact ⟨c,Qdi rfl,.inr (.inr rfl)⟩
theorem Qvx (k:Nat) {n:Nat} (h1:1 ≤ n) (h4:n ≤ 4) {q:T} (hq:Qhf q):∃ Ms q',Tabs n Ms ∧ (∀ M ∈ Ms,Bn 20 M) ∧ Qhf q' ∧ cfn (k + 2) 35 [.ml q,.fz (.int n)] = .ok (.ow (Qh Ms)) [q',.non]:=by
 obtain ⟨r1,q1,a0,a1,p1,e1⟩:=Qe8 k (m:=4) (by decide) (by decide) hq
 obtain ⟨r2,q2,b0,b1,p2,e2⟩:=Qe8 k (m:=3) (by decide) (by decide) p1
 obtain ⟨r3,q3,c0,c1,p3,e3⟩:=Qe8 k (m:=3) (by decide) (by decide) p2
 obtain ⟨full,ef,_⟩:=at3 3 4 6 b0 b1
 obtain ⟨most,em,hmost⟩:=at3 1 1 (10 ^ 6) c0 c1
 have em':atI [T.int 1,.int 1,.int 1000000] r3 = some (.int most):=em
 have mm:most = 1 ∨ most = 1000000:=by rcases hmost with h | h | h <;> omega
 have m0:0 < most:=by omega
 have m1:most.natAbs < 2 ^ 64:=by omega
 obtain ⟨m,hm⟩:=Int.eq_ofNat_of_zero_le (show 0 ≤ 1 + r1 by omega)
 obtain ⟨Ms,q4,t6,t7,t8,e4,p4,hl,hs⟩:=Qxw k h4 (show m ≤ 4 by omega) m0 m1 (by omega) p3 (a:=.fz (.int m)) (n:=n) (full:=full)
 refine ⟨Ms,q4,⟨h1,h4,by omega,by omega,fun M hM=>(hs M hM).1⟩,fun M hM=>(hs M hM).2,p4,?_⟩
 have c:m ≤ 100000:=by omega
 have z3:(3:Nat) ≤ 100000:=by decide
 have z0:(0:Nat) ≤ 100000:=by decide
 have p10:(6:Int).natAbs ≤ 1000000:=by decide
 have p11:(10:Int).natAbs < 18446744073709551616:=by decide
 show Qa7 (cfn (k + 1)) ⟨2,9,Qhe⟩ _ = _
 rw [Qaz rfl]
 show Qbr _ (exS _ Qhe [.ml q,.fz (.int n),.un,.un,.un,.un,.un,.un,.un]) = _
 simp only [Qbh,Qbq,Qet,Qcu,Q6,Qek,Qaj,Qo,Qq,Qaf,Qd,yC1,Qt,yC2,Q2,Qv,List.all_cons,List.all_nil,Bool.and_true,Qac,Qy,Qas,Qab,e1,Qa4,Qn,Q0,L2.Qj,Option.map,if_true,List.getElem?_cons_zero,Slot.put,Nat.reduceAdd,reduceCtorEq,if_false,Qej,Qei,cont,Out.opt,uo1,hm,Qa0,Qcv,Qbp,frz,Qau,Qbs,List.length_cons,List.length_nil,Nat.reduceLT,Qe,List.set,Qc4,Qje,Ql4,Qrw,Qdv,z3,Qib,e2,Qia,Qh9,Qh8,ui1,ef,uo9,Int.reduceLE,p10,Nat.reducePow,p11,and_self,Int.reduceToNat,Int.reducePow,e3,em',Qvq,z0,Qtg,Qg2,Qdh,Qmc c,Qkj,e4,Qc6,Qa5,Qcc,Qan,Qa1,Qat,Qar,Qw]
open PySem L2
noncomputable abbrev stp (Ms:List Tb) (r:List Int) (k:Nat):List Int:=sb (Ms.getD k []) r
theorem Q1i {n:Nat} {Ms:List Tb} (h:Tabs n Ms) {i:Nat} (hi:i < Ms.length):atI (Ms.map Qr) (i:Int) = some (Qr (Ms.getD i [])) ∧ Sq n (Ms.getD i []):=by
 obtain ⟨a,q⟩:=Qhn h hi
 have e:Ms.getD i [] = Ms[i]:=by rw [List.getD_eq_getElem?_getD,List.getElem?_eq_getElem hi,Option.getD_some]
 rw [e]
 exact ⟨a,q⟩
theorem Qaaz {n:Nat} {Ms:List Tb} (h:Tabs n Ms) {i:Nat} (hi:i < Ms.length) (r:List Int):St n (stp Ms r i):=by
 have l:=(Q1i h hi).2.len
 have n4:=h.n4
 refine ⟨?_,?_⟩
 ·have:=Qug (Ms.getD i []) r
  rwa [l] at this
 ·have:=Qaax (Ms.getD i []) r
  show (sb (Ms.getD i []) r).length ≤ 1000
  omega
theorem Qafa (k:Nat) {n:Nat} {Ms:List Tb} (h:Tabs n Ms) {r:List Int} (hr:St n r) {i:Nat} (hi:i < Ms.length):cfn (k + 2) 38 [.fz (Qi r),.fz (.int i),.fz (Qh Ms)] = .ok (.fz (Qi (stp Ms r i))) [.non,.non,.non]:=by
 obtain ⟨a,q⟩:=Q1i h hi
 have e:=Qqi k q h.n4 hr.1 hr.2
 show Qa7 (cfn (k + 1)) ⟨3,3,.ret Qmm⟩ _ = _
 rw [Qaz rfl]
 show Qbr _ (exS _ (.ret Qmm) [.fz (Qi r),.fz (.int i),.fz (Qh Ms)]) = _
 simp only [Qa5,Qaj,Qo,Qje,Qq,Qaf,Qe,Qd,Q6,Qib,Qia,Qh9,cont,Qh8,ui1,a,yC1,Qt,yC2,Q2,Qv,Qac,Qy,Qas,Qab,e,Qa4,Qn,Q0,L2.Qj,Option.map,if_true,Qa0,Qcc,Qan,Qa1,Qat,Qar,Qw]
noncomputable abbrev dT (D:List En2):T:=.dtt (D.map (·.1)) (D.map fun p=>Qi p.2)
theorem Qmo (z:List Int):∀ D:List En2,Qe2 (D.map (·.1)) (D.map fun p=>Qi p.2) z = (D.lookup z).map Qi
 | []=>rfl
 | p :: D=>by
  rw [List.map_cons,List.map_cons,Qe2,List.lookup_cons]
  by_cases h:p.1 = z
  ·rw [if_pos h,← h,beq_self_eq_true]; rfl
  ·rw [if_neg h,beq_eq_false_iff_ne.mpr (Ne.symm h)]; exact Qmo z D
theorem Qaa0 {D:List En2} {z w:List Int} (h:D.lookup z = none):Qkf (D.map (·.1)) (D.map fun p=>Qi p.2) z (Qi w) = dT (D ++ [(z,w)]):=by
 unfold Qkf
 rw [Qmo,h]
 show T.dtt _ _ = T.dtt ((D ++ [(z,w)]).map (·.1)) ((D ++ [(z,w)]).map fun p=>Qi p.2)
 rw [List.map_append,List.map_append]
 rfl
theorem intL_mp:∀ (xs:List Int),Qdc (xs.map T.int) = some xs
 | []=>rfl
 | x :: xs=>by rw [List.map_cons,Qdc,intL_mp xs]
theorem dKey_row (r:List Int):Qfb (.fz (Qi r)) = some r:=intL_mp r
noncomputable abbrev Qvy:S:=.seq (.setF 7 (.app 2 (.cons (.var 5) (.cons (.var 6) .nil)))) (.ite (.din true (.var 7) (.var 0)) (.seq (.dput 0 (.var 7) (.bin .add (.dix (.var 0) (.var 5)) (.tup (.cons (.var 6) .nil)))) (.app 4 (.var 7))) .nil)
noncomputable abbrev Qa3 (N:List En2):List T:=N.map fun p=>Qi p.1
theorem Q5c (k:Nat) {n:Nat} {Ms:List Tb} (h:Tabs n Ms) {D N:List En2} {r w:List Int} (hr:St n r) (hw:D.lookup r = some w) (hz:w.length ≤ 1000) {i:Nat} (hi:i < Ms.length) (hD:D.length ≤ 10000) (hN:N.length ≤ 10000) {a b s7:Slot} (o7:Qcj s7 = true) :
  ∃ s7',Qcj s7' = true ∧ exS (cfn (k + 2)) Qvy [.ml (dT D),a,.fz (.clo 38 [Qh Ms]),b,.ow (.lst (Qa3 N)),.fz (Qi r),.fz (.int i),s7] =
   .nx [.ml (dT (D ++ dd D [(stp Ms r i,w ++ [(i:Int)])])),a,.fz (.clo 38 [Qh Ms]),b,.ow (.lst (Qa3 (N ++ dd D [(stp Ms r i,w ++ [(i:Int)])]))),.fz (Qi r),.fz (.int i),s7']:=by
 have e:=Qafa k h hr hi
 have e1:evE (cfn (k + 2)) (.app 2 (.cons (.var 5) (.cons (.var 6) .nil))) [.ml (dT D),a,.fz (.clo 38 [Qh Ms]),b,.ow (.lst (Qa3 N)),.fz (Qi r),.fz (.int i),s7] = .ok (.fz (Qi (stp Ms r i))) [.ml (dT D),a,.fz (.clo 38 [Qh Ms]),b,.ow (.lst (Qa3 N)),.fz (Qi r),.fz (.int i),s7]:=by
  simp only [Qaew,Qe,Qd,Q0w,Qo,Qq,Qaf,Q6,yC1,Qt,yC2,Qaam,yApl,List.map_cons,List.map_nil,List.cons_append,List.nil_append,Q2,Qv,Qac,Qy,Qas,Qab,e,Qa4,Qn,Q0,L2.Qj,Option.map,if_true,Q4y]
 have e2:exS (cfn (k + 2)) (.setF 7 (.app 2 (.cons (.var 5) (.cons (.var 6) .nil)))) [.ml (dT D),a,.fz (.clo 38 [Qh Ms]),b,.ow (.lst (Qa3 N)),.fz (Qi r),.fz (.int i),s7] = .nx [.ml (dT D),a,.fz (.clo 38 [Qh Ms]),b,.ow (.lst (Qa3 N)),.fz (Qi r),.fz (.int i),.fz (Qi (stp Ms r i))]:=by
  rw [Qbq,e1]
  cases s7 <;> first | rfl | cases o7
 refine ⟨.fz (Qi (stp Ms r i)),rfl,?_⟩
 rw [Qbh,e2,Qc4,Qef]
 have c1:D.length < 100000:=by omega
 have c2:N.length < 100000:=by omega
 have c3:w.length + 1 ≤ 100000:=by omega
 have c4:(1:Nat) ≤ 100000:=by decide
 cases hs:D.lookup (stp Ms r i) with
 | some v =>
  rw [if_pos (show (some v).isSome = true from rfl)]
  simp only [Qck,Q6t,Qq,Qaf,Qe,Qd,Q6,yDin,Q0y,Q0x,dKey_row,cont,Slot.prv,Qmo,Option.map,hs,Option.isSome_some,Bool.not_true,if_true,Qai,yBl,Qa0,yIf,Qc5,dd,List.append_nil]
 | none =>
  rw [if_neg (by simp)]
  simp only [Qck,Q6t,Qq,Qaf,Qe,Qd,Q6,yDin,Q0y,Q0x,dKey_row,cont,Slot.prv,Qmo,Option.map,hs,Option.isSome_none,Bool.not_false,if_true,Qai,yBl,Qa0,yIf,Qbh,Qaao,Qet,Qaey,yDix,Q6w,Q6v,Q6u,hw,Qek,Qoo,Qo,yC1,Qt,yC2,Qts,Qdv,frz,List.length_cons,List.length_nil,Nat.reduceAdd,c4,Qej,Qei,Out.opt,uo2,List.length_map,c3,yDp,yDp1,Slot.mutD,yDp2,yDp3,yDp4,c1,List.set,Qc4,Qtu,Slot.mut,Q0s,Qvs,Qvr,c2,dd,List.map_append,List.map_cons,List.map_nil]
  rw [show T.tup (List.map T.int w ++ [T.int (i:Int)]) = Qi (w ++ [(i:Int)]) from by unfold Qi; rw [List.map_append]; rfl,Qaa0 hs]
theorem Qqj:∀ (P D:List En2),(dd D P).length ≤ P.length
 | [],_=>Nat.le_refl _
 | p :: P,D=>by
  rw [Qef]
  by_cases h:(D.lookup p.1).isSome = true
  ·rw [if_pos h,List.length_cons]; exact Nat.le_succ_of_le (Qqj P D)
  ·rw [if_neg h,List.length_cons,List.length_cons]; exact Nat.succ_le_succ (Qqj P _)
noncomputable abbrev ent (Ms:List Tb) (r w:List Int) (i:Nat):List En2:=(List.range i).map fun k=>(stp Ms r k,w ++ [(k:Int)])
theorem Q1j (Ms:List Tb) (r w:List Int) (i:Nat):ent Ms r w (i + 1) = ent Ms r w i ++ [(stp Ms r i,w ++ [(i:Int)])]:=by unfold ent; rw [List.range_succ,List.map_append]; rfl
theorem Q1k (k:Nat) {n:Nat} {Ms:List Tb} (h:Tabs n Ms) {D N:List En2} {r w:List Int} (hr:St n r) (hw:D.lookup r = some w) (hz:w.length ≤ 1000) (hD:D.length ≤ 9000) (hN:N.length ≤ 9000) {a b s6 s7:Slot} (o6:Qcj s6 = true) (o7:Qcj s7 = true) :
  ∃ s6' s7',Qcj s6' = true ∧ Qcj s7' = true ∧ Qdf (.nm 6) (exS (cfn (k + 2)) Qvy) (Q5 0 Ms.length) [.ml (dT D),a,.fz (.clo 38 [Qh Ms]),b,.ow (.lst (Qa3 N)),.fz (Qi r),s6,s7] =
   .nx [.ml (dT (D ++ dd D (ex1 Ms.length (stp Ms) (r,w)))),a,.fz (.clo 38 [Qh Ms]),b,.ow (.lst (Qa3 (N ++ dd D (ex1 Ms.length (stp Ms) (r,w))))),.fz (Qi r),s6',s7']:=by
 have m4:=h.m4
 obtain ⟨ρ',e,s6',s7',p6,p7,rfl⟩:=Qc3 (fun j ρ=>∃ s6' s7',Qcj s6' = true ∧ Qcj s7' = true ∧ ρ = [.ml (dT (D ++ dd D (ent Ms r w j))),a,.fz (.clo 38 [Qh Ms]),b,.ow (.lst (Qa3 (N ++ dd D (ent Ms r w j)))),.fz (Qi r),s6',s7'])
  (xs:=Q5 0 Ms.length) (n:=0) (ρ:=[.ml (dT D),a,.fz (.clo 38 [Qh Ms]),b,.ow (.lst (Qa3 N)),.fz (Qi r),s6,s7]) ⟨s6,s7,o6,o7,by show _ = [Slot.ml (dT (D ++ [])),a,.fz (.clo 38 [Qh Ms]),b,.ow (.lst (Qa3 (N ++ []))),.fz (Qi r),s6,s7]; rw [List.append_nil,List.append_nil]⟩ (tg:=.nm 6) (b:=exS (cfn (k + 2)) Qvy) (by
  rintro i x ρ hx ⟨t6,t7,p6,p7,rfl⟩
  have hi:i < Ms.length:=by have:=(List.getElem?_eq_some_iff.mp hx).1; rwa [Q8] at this
  rw [Qfd hi] at hx
  cases hx
  rw [Nat.zero_add]
  have hl:=Qqj (ent Ms r w i) D
  have hle:(ent Ms r w i).length = i:=by unfold ent; rw [List.length_map,List.length_range]
  obtain ⟨t7',q7,e7⟩:=Q5c k h (D:=D ++ dd D (ent Ms r w i)) (N:=N ++ dd D (ent Ms r w i)) (a:=a) (b:=b) hr (by rw [Qb2,hw]; rfl) hz hi (by rw [List.length_append]; omega) (by rw [List.length_append]; omega) p7
  refine ⟨[.ml (dT (D ++ dd D (ent Ms r w i))),a,.fz (.clo 38 [Qh Ms]),b,.ow (.lst (Qa3 (N ++ dd D (ent Ms r w i)))),.fz (Qi r),.fz (.int (0 + (i:Int))),t7],_,(by cases t6 <;> first | rfl | cases p6),.inl ?_,.fz (.int (i:Int)),t7',rfl,q7,rfl⟩
  rw [Int.zero_add,e7,Q1j,Qin,List.append_assoc,List.append_assoc])
 refine ⟨s6',s7',p6,p7,?_⟩
 rw [e]
 rw [Q8,Nat.zero_add]
 rfl
noncomputable abbrev Qaa1:S:=.for_ (.rng1 (.var 3)) (.nm 6) Qvy
theorem Qvz (m:Nat) (st:List Int → Nat → List Int):∀ N:List En2,(exs m st N).length = N.length * m
 | []=>by simp [exs]
 | p :: N=>by
  have:exs m st (p :: N) = ex1 m st p ++ exs m st N:=by unfold exs; rw [List.flatMap_cons]
  rw [this,List.length_append,Qvz m st N,List.length_cons]
  unfold ex1
  rw [List.length_map,List.length_range,Nat.succ_mul,Nat.add_comm]
theorem Q1l (m:Nat) (st:List Int → Nat → List Int) (N:List En2) (p:En2):exs m st (N ++ [p]) = exs m st N ++ ex1 m st p:=by unfold exs; rw [List.flatMap_append,List.flatMap_cons,List.flatMap_nil,List.append_nil]
theorem Q1m (k:Nat) {n:Nat} {Ms:List Tb} (h:Tabs n Ms) {D N:List En2} (hN:∀ p ∈ N,St n p.1 ∧ D.lookup p.1 = some p.2 ∧ p.2.length ≤ 1000) (lN:N.length ≤ 1000) (lD:D.length ≤ 1000) :
  cfn (k + 3) 14 [.ml (dT D),.fz (.lst (Qa3 N)),.fz (.clo 38 [Qh Ms]),.fz (.int Ms.length)] = .ok (.ow (.lst (Qa3 (dd D (exs Ms.length (stp Ms) N))))) [dT (D ++ dd D (exs Ms.length (stp Ms) N)),.non,.non,.non]:=by
 have m4:=h.m4
 have c:Ms.length ≤ 100000:=by omega
 obtain ⟨ρ',e,s5',s6',s7',p5,p6,p7,rfl⟩:=Qc3 (fun j ρ=>∃ s5' s6' s7',Qcj s5' = true ∧ Qcj s6' = true ∧ Qcj s7' = true ∧ ρ = [.ml (dT (D ++ dd D (exs Ms.length (stp Ms) (N.take j)))),.fz (.lst (Qa3 N)),.fz (.clo 38 [Qh Ms]),.fz (.int Ms.length),.ow (.lst (Qa3 (dd D (exs Ms.length (stp Ms) (N.take j))))),s5',s6',s7'])
  (xs:=Qa3 N) (n:=0) (ρ:=[.ml (dT D),.fz (.lst (Qa3 N)),.fz (.clo 38 [Qh Ms]),.fz (.int Ms.length),.ow (.lst []),.un,.un,.un]) ⟨.un,.un,.un,rfl,rfl,rfl,by show _ = [Slot.ml (dT (D ++ [])),.fz (.lst (Qa3 N)),.fz (.clo 38 [Qh Ms]),.fz (.int Ms.length),.ow (.lst []),.un,.un,.un]; rw [List.append_nil]⟩ (tg:=.nm 5) (b:=exS (cfn (k + 2)) Qaa1) (by
  rintro i x ρ hx ⟨t5,t6,t7,p5,p6,p7,rfl⟩
  rw [List.getElem?_map] at hx
  cases hp:N[i]? with
  | none=>rw [hp] at hx; cases hx
  | some p =>
   rw [hp] at hx
   cases hx
   rw [Nat.zero_add]
   obtain ⟨q1,q2,q3⟩:=hN p (List.mem_of_getElem? hp)
   have il:i < N.length:=(List.getElem?_eq_some_iff.mp hp).1
   have hl:=Qqj (exs Ms.length (stp Ms) (N.take i)) D
   rw [Qvz,List.length_take,Nat.min_eq_left (by omega)] at hl
   have hb:i * Ms.length ≤ 1000 * 4:=Nat.mul_le_mul (by omega) m4
   obtain ⟨t6',t7',q6,q7,e7⟩:=Q1k k h (D:=D ++ dd D (exs Ms.length (stp Ms) (N.take i))) (N:=dd D (exs Ms.length (stp Ms) (N.take i))) (a:=.fz (.lst (Qa3 N))) (b:=.fz (.int Ms.length)) q1 (w:=p.2) (by rw [Qb2,q2]; rfl) q3 (by rw [List.length_append]; omega) (by omega) p6 p7
   refine ⟨[.ml (dT (D ++ dd D (exs Ms.length (stp Ms) (N.take i)))),.fz (.lst (Qa3 N)),.fz (.clo 38 [Qh Ms]),.fz (.int Ms.length),.ow (.lst (Qa3 (dd D (exs Ms.length (stp Ms) (N.take i))))),.fz (Qi p.1),t6,t7],_,(by cases t5 <;> first | rfl | cases p5),.inl ?_,.fz (Qi p.1),t6',t7',rfl,q6,q7,rfl⟩
   have et:N.take (i + 1) = N.take i ++ [p]:=by rw [List.take_add_one,hp]; rfl
   rw [et,Q1l,Qin]
   simp only [Qg2,Qdh,Qq,Qaf,Qe,Qd,Q6,Qmc c,Qa0,Qkj,e7,List.append_assoc,Qc6])
 rw [Nat.zero_add,show (Qa3 N).length = N.length from List.length_map _,List.take_length] at e
 have z0:(0:Nat) ≤ 100000:=by decide
 show Qa7 (cfn (k + 2)) ⟨4,8,Qg6⟩ _ = _
 rw [Qaz rfl]
 show Qbr _ (exS _ Qg6 [.ml (dT D),.fz (.lst (Qa3 N)),.fz (.clo 38 [Qh Ms]),.fz (.int Ms.length),.un,.un,.un,.un]) = _
 simp only [Qbh,Qvq,Ql4,Qt,Q6,Qrw,Qdv,List.length_nil,z0,if_true,Qa0,Qtg,Qau,Qbs,List.length_cons,Nat.reduceAdd,Nat.reduceLT,Qe,Qd,List.set,Qc4,Qg2,Qop,Qq,Qaf,Qtt,Ql8,cont,Ql7,Qgi,Qjw,Qkj,e,Qc6,Qa5,Qcc,Qan,Qa1,Qat,Qar,Qw,Option.map]
open PySem L2
theorem whl_run {c:En → Out Bool} {b:En → SO} {Z:En → Prop} (J:Nat → En → Prop) (h:∀ i ρ,J i ρ → (∃ ρ1,c ρ = .ok false ρ1 ∧ Z ρ1) ∨ (∃ i' ρ1 ρ2,i = i' + 1 ∧ c ρ = .ok true ρ1 ∧ b ρ1 = .nx ρ2 ∧ J i' ρ2)) :
  ∀ (i fuel:Nat) (ρ:En),i < fuel → J i ρ → ∃ ρ',Qgm c b fuel ρ = .nx ρ' ∧ Z ρ'
 | i,0,ρ,hf,_=>absurd hf (Nat.not_lt_zero _)
 | i,fuel + 1,ρ,hf,hj=>by
  rcases h i ρ hj with ⟨ρ1,e,z⟩ | ⟨i',ρ1,ρ2,rfl,e1,e2,j⟩
  ·refine ⟨ρ1,?_,z⟩
   unfold Qgm
   rw [e]
   rfl
  ·obtain ⟨ρ',e3,z⟩:=whl_run J h i' fuel ρ2 (by omega) j
   refine ⟨ρ',?_,z⟩
   unfold Qgm
   rw [e1]
   show (match b ρ1 with | .nx ρ2=>Qgm c b fuel ρ2 | .ct ρ2=>Qgm c b fuel ρ2 | .bk ρ2=>.nx ρ2 | o=>o) = _
   rw [e2]
   exact e3
noncomputable def upS (n:Nat):List Int:=(List.range n).map fun (i:Nat)=>(0:Int) + (i:Int)
theorem Qaa2 (n:Nat):Q5 0 n = (upS n).map T.int:=by
 unfold Q5 upS
 rw [List.map_map]
 rfl
theorem Q1n {n:Nat} (h4:n ≤ 4):St n (upS n):=by
 refine ⟨fun p hp=>?_,by unfold upS; rw [List.length_map,List.length_range]; omega⟩
 obtain ⟨i,hi,rfl⟩:=List.mem_map.mp hp
 have:=List.mem_range.mp hi
 omega
theorem Qaa3 (M:Tb) (ps:List Int):(sb M ps).Sublist (upS M.length):=by
 unfold sb upS
 have:(fun (i:Nat)=>(0:Int) + (i:Int)) = fun (j:Nat)=>(j:Int):=by funext i; exact Int.zero_add _
 rw [this]
 exact List.filter_sublist.map _
theorem Qui:∀ {P D:List En2} {p:En2},p ∈ dd D P → p ∈ P
 | [],_,_,h=>by cases h
 | q :: P,D,p,h=>by
  rw [Qef] at h
  by_cases e:(D.lookup q.1).isSome = true
  ·rw [if_pos e] at h; exact .tail _ (Qui h)
  ·rw [if_neg e] at h
   rcases List.mem_cons.mp h with z | z
   ·rw [z]; exact .head _
   ·exact .tail _ (Qui z)
theorem Qqk:∀ {P D:List En2} {p:En2},p ∈ dd D P → (D ++ dd D P).lookup p.1 = some p.2
 | [],_,_,h=>by cases h
 | q :: P,D,p,h=>by
  rw [Qef] at h ⊢
  by_cases e:(D.lookup q.1).isSome = true
  ·rw [if_pos e] at h ⊢; exact Qqk h
  ·rw [if_neg e] at h ⊢
   rcases List.mem_cons.mp h with z | z
   ·rw [z,Qb2]
    cases e2:D.lookup q.1 with
    | some w=>rw [e2] at e; exact absurd rfl e
    | none=>rw [List.lookup_cons,beq_self_eq_true]; rfl
   ·have:=Qqk z
    rw [List.append_assoc] at this
    exact this
theorem Qv0 {m:Nat} {st:List Int → Nat → List Int} {N:List En2} {p:En2} (h:p ∈ exs m st N):∃ q ∈ N,∃ k,k < m ∧ p = (st q.1 k,q.2 ++ [(k:Int)]):=by
 obtain ⟨q,hq,hp⟩:=List.mem_flatMap.mp h
 unfold ex1 at hp
 obtain ⟨k,hk,rfl⟩:=List.mem_map.mp hp
 exact ⟨q,hq,k,List.mem_range.mp hk,rfl⟩
noncomputable abbrev lvD (Ms:List Tb) (n j:Nat):List En2:=(lvP Ms.length (stp Ms) (upS n) j).1
noncomputable abbrev lvN (Ms:List Tb) (n j:Nat):List En2:=(lvP Ms.length (stp Ms) (upS n) j).2
structure Lv (n:Nat) (Ms:List Tb) (j:Nat):Prop where
 st:∀ p ∈ lvD Ms n j,St n p.1 ∧ p.1.Sublist (upS n) ∧ p.2.length ≤ j
 get:∀ p ∈ lvN Ms n j,(lvD Ms n j).lookup p.1 = some p.2
 sub:∃ D0,lvD Ms n j = D0 ++ lvN Ms n j
 nd:((lvD Ms n j).map (·.1)).Nodup
theorem Qv1 {n:Nat} {Ms:List Tb} (h:Tabs n Ms):∀ j,Lv n Ms j
 | 0=>by
  have one:∀ p:En2,p ∈ [(upS n,([]:List Int))] → p = (upS n,[]):=fun p hp=>List.mem_singleton.mp hp
  refine ⟨fun p hp=>?_,fun p hp=>?_,⟨[],rfl⟩,List.nodup_cons.mpr ⟨List.not_mem_nil,List.nodup_nil⟩⟩
  ·rw [one p hp]; exact ⟨Q1n h.n4,List.Sublist.refl _,Nat.le_refl _⟩
  ·rw [one p hp]
   show [(upS n,([]:List Int))].lookup (upS n) = _
   rw [List.lookup_cons,beq_self_eq_true]
 | j + 1=>by
  have ih:=Qv1 h j
  obtain ⟨D0,hs⟩:=ih.sub
  have new:∀ p ∈ dd (lvD Ms n j) (exs Ms.length (stp Ms) (lvN Ms n j)),St n p.1 ∧ p.1.Sublist (upS n) ∧ p.2.length ≤ j + 1:=fun p hp=>by
   obtain ⟨q,hq,k,hk,rfl⟩:=Qv0 (Qui hp)
   have w:=(ih.st q (by rw [hs]; exact List.mem_append_right _ hq)).2.2
   refine ⟨Qaaz h hk _,?_,by simp; omega⟩
   have:=Qaa3 (Ms.getD k []) q.1
   rw [(Q1i h hk).2.len] at this
   exact this
  refine ⟨fun p hp=>?_,fun p hp=>Qqk hp,⟨_,rfl⟩,Q1a _ _ ih.nd⟩
  rcases List.mem_append.mp (show p ∈ lvD Ms n j ++ dd (lvD Ms n j) (exs Ms.length (stp Ms) (lvN Ms n j)) from hp) with z | z
  ·obtain ⟨a,b,c⟩:=ih.st p z
   exact ⟨a,b,Nat.le_succ_of_le c⟩
  ·exact new p z
theorem Qaa4 {n:Nat} (h4:n ≤ 4) {D:List En2} (nd:(D.map (·.1)).Nodup) (hs:∀ p ∈ D,p.1.Sublist (upS n)):D.length ≤ 16:=by
 have h1:=Q6z (D.map (·.1)) (Qxu (upS n)) nd fun x hx=>by
  obtain ⟨p,hp,rfl⟩:=List.mem_map.mp hx
  exact Q1b (hs p hp)
 rw [List.length_map,Qsj] at h1
 have h2:(upS n).length = n:=by unfold upS; rw [List.length_map,List.length_range]
 rw [h2] at h1
 exact Nat.le_trans h1 (Nat.le_trans (Nat.pow_le_pow_right (by decide) h4) (by decide))
theorem Lv.le {n:Nat} {Ms:List Tb} (h:Tabs n Ms) {j:Nat} (L:Lv n Ms j):(lvD Ms n j).length ≤ 16:=Qaa4 h.n4 L.nd fun p hp=>(L.st p hp).2.1
theorem Lv.leN {n:Nat} {Ms:List Tb} (h:Tabs n Ms) {j:Nat} (L:Lv n Ms j):(lvN Ms n j).length ≤ 16:=by
 obtain ⟨D0,e⟩:=L.sub
 have:=L.le h
 rw [e,List.length_append] at this
 omega
theorem Lv.inN {n:Nat} {Ms:List Tb} {j:Nat} (L:Lv n Ms j) {p:En2} (hp:p ∈ lvN Ms n j):p ∈ lvD Ms n j:=by
 obtain ⟨D0,e⟩:=L.sub
 rw [e]
 exact List.mem_append_right _ hp
theorem Q1o (r:List Int):Qm 49 (Qi r) = true:=by
 show (r.map T.int).all (Qm 48) = true
 rw [List.all_eq_true]
 intro x hx
 obtain ⟨i,_,rfl⟩:=List.mem_map.mp hx
 rfl
theorem Qxx (N:List En2):(Qa3 N).all (Qm 49) = true:=by
 rw [List.all_eq_true]
 intro x hx
 obtain ⟨p,_,rfl⟩:=List.mem_map.mp hx
 exact Q1o p.1
theorem Qaa5 (N:List En2):eqO (.lst (Qa3 N)) (.lst []) = some N.isEmpty:=by
 have:=Q5a (Qxx N)
 rw [this]
 cases N <;> rfl
noncomputable abbrev Qv2:S:=.setF 4 (.call 14 (.cons (.var 3) (.cons (.var 4) (.cons (.var 1) (.cons (.var 2) .nil)))))
noncomputable abbrev Qql:E:=.cmp .ne (.var 4) (.lst .nil)
theorem Q5d (k:Nat) {n:Nat} {Ms:List Tb} (h:Tabs n Ms):∃ j,lvN Ms n j = [] ∧ j ≤ 18 ∧ cfn (k + 4) 15 [.fz (.dtt [upS n] [.tup []]),.fz (.clo 38 [Qh Ms]),.fz (.int Ms.length)] = .ok (.ow (dT (lvD Ms n j))) [.non,.non,.non]:=by
 have z0:(0:Nat) ≤ 100000:=by decide
 obtain ⟨ρ',e,j,s,hj,hj18,rfl⟩:=whl_run (c:=fun ρ=>Qak (evE (cfn (k + 3)) Qql ρ)) (b:=exS (cfn (k + 3)) Qv2)
  (Z:=fun ρ=>∃ j s,lvN Ms n j = [] ∧ j ≤ 18 ∧ ρ = [.fz (.dtt [upS n] [.tup []]),.fz (.clo 38 [Qh Ms]),.fz (.int Ms.length),.ow (dT (lvD Ms n j)),s])
  (fun i ρ=>∃ j,j + i = 18 ∧ 17 - (lvD Ms n j).length + (if lvN Ms n j = [] then 0 else 1) ≤ i ∧ ρ = [.fz (.dtt [upS n] [.tup []]),.fz (.clo 38 [Qh Ms]),.fz (.int Ms.length),.ow (dT (lvD Ms n j)),.fz (.lst (Qa3 (lvN Ms n j)))]) (by
  rintro i ρ ⟨j,hji,hm,rfl⟩
  have L:=Qv1 h j
  have l1:=L.le h
  have l2:=L.leN h
  have et:Qak (evE (cfn (k + 3)) Qql [.fz (.dtt [upS n] [.tup []]),.fz (.clo 38 [Qh Ms]),.fz (.int Ms.length),.ow (dT (lvD Ms n j)),.fz (.lst (Qa3 (lvN Ms n j)))]) = .ok (!(lvN Ms n j).isEmpty) [.fz (.dtt [upS n] [.tup []]),.fz (.clo 38 [Qh Ms]),.fz (.int Ms.length),.ow (dT (lvD Ms n j)),.fz (.lst (Qa3 (lvN Ms n j)))]:=by
   have en:=Qaa5 (lvN Ms n j)
   simp only [Qb8,Qq,Qaf,Qe,Qd,Q6,Qb1,Ql4,Qt,Qrw,Qdv,List.length_nil,z0,if_true,Qb0,Qbz,cont,Qby,uc2,Option.map,en,Qai,yBl]
  by_cases hN:lvN Ms n j = []
  ·left
   refine ⟨[.fz (.dtt [upS n] [.tup []]),.fz (.clo 38 [Qh Ms]),.fz (.int Ms.length),.ow (dT (lvD Ms n j)),.fz (.lst (Qa3 (lvN Ms n j)))],?_,j,_,hN,by omega,rfl⟩
   show Qak _ = _
   rw [et,show (lvN Ms n j).isEmpty = true by rw [hN]; rfl]
   rfl
  ·right
   rw [if_neg hN] at hm
   have e1:=Q1m k h (D:=lvD Ms n j) (N:=lvN Ms n j) (fun p hp=>⟨(L.st p (L.inN hp)).1,L.get p hp,by have:=(L.st p (L.inN hp)).2.2; omega⟩) (by omega) (by omega)
   refine ⟨i - 1,[.fz (.dtt [upS n] [.tup []]),.fz (.clo 38 [Qh Ms]),.fz (.int Ms.length),.ow (dT (lvD Ms n j)),.fz (.lst (Qa3 (lvN Ms n j)))],[.fz (.dtt [upS n] [.tup []]),.fz (.clo 38 [Qh Ms]),.fz (.int Ms.length),.ow (dT (lvD Ms n (j + 1))),.fz (.lst (Qa3 (lvN Ms n (j + 1))))],by omega,?_,?_,j + 1,by omega,?_,rfl⟩
   ·show Qak _ = .ok true _
    rw [et]
    cases hN2:lvN Ms n j with
    | nil=>exact absurd hN2 hN
    | cons p N=>rfl
   ·simp only [Qbq,Qaj,Qo,Qq,Qaf,Qe,Qd,Q6,yC1,Qt,yC2,Q2,Qv,List.all_cons,List.all_nil,Bool.and_true,Qac,Qy,Qas,Qab,e1,Qa4,Qn,Q0,L2.Qj,reduceCtorEq,Option.map,if_false,Nat.reduceAdd,Nat.reduceEqDiff,if_true,List.getElem?_cons_zero,Slot.put,Qa0,Qcv,Qbp,frz,Qau,Qbs,List.length_cons,List.length_nil,Nat.reduceLT,List.set]
    rfl
   ·have l3:=(Qv1 h (j + 1)).le h
    have e2:(lvD Ms n (j + 1)).length = (lvD Ms n j).length + (lvN Ms n (j + 1)).length:=by
     show (lvD Ms n j ++ lvN Ms n (j + 1)).length = _
     rw [List.length_append]
    by_cases hN2:lvN Ms n (j + 1) = []
    ·rw [if_pos hN2]
     rw [hN2] at e2
     simp at e2
     omega
    ·rw [if_neg hN2]
     have:0 < (lvN Ms n (j + 1)).length:=List.length_pos_iff.mpr hN2
     omega)
  18 1000000 [.fz (.dtt [upS n] [.tup []]),.fz (.clo 38 [Qh Ms]),.fz (.int Ms.length),.ow (dT (lvD Ms n 0)),.fz (.lst (Qa3 (lvN Ms n 0)))] (by decide) ⟨0,rfl,by
   show 17 - 1 + (if [(upS n,([]:List Int))] = [] then 0 else 1) ≤ 18
   rw [if_neg (by simp)]
   decide,rfl⟩
 refine ⟨j,hj,hj18,?_⟩
 have c1:(upS n).length ≤ 100000:=by have:=(Q1n h.n4).2; omega
 have es:exS (cfn (k + 3)) (.set 3 (.bi .dct (.cons (.var 0) .nil))) [.fz (.dtt [upS n] [.tup []]),.fz (.clo 38 [Qh Ms]),.fz (.int Ms.length),.un,.un] = .nx [.fz (.dtt [upS n] [.tup []]),.fz (.clo 38 [Qh Ms]),.fz (.int Ms.length),.ow (dT (lvD Ms n 0)),.un]:=rfl
 have el:evE (cfn (k + 3)) (.bi .lstD (.cons (.var 0) .nil)) [.fz (.dtt [upS n] [.tup []]),.fz (.clo 38 [Qh Ms]),.fz (.int Ms.length),.ow (dT (lvD Ms n 0)),.un] = .ok (.ow (.lst (Qa3 (lvN Ms n 0)))) [.fz (.dtt [upS n] [.tup []]),.fz (.clo 38 [Qh Ms]),.fz (.int Ms.length),.ow (dT (lvD Ms n 0)),.un]:=by
  have ob:Qjv .lstD [.dtt [upS n] [.tup []]] = some (.ow (.lst [Qi (upS n)])):=by
   show (if _ then _ else _) = _
   rw [if_pos ⟨by show 1 ≤ 100000; decide,by simp [c1]⟩]
   rfl
  simp only [Qbg,Qo,Qq,Qaf,Qd,Q6,yC1,Qt,yC2,yBi,Qbd,Qaa,cont,Out.opt,ob]
  rfl
 have ew:exS (cfn (k + 3)) (.whl Qql Qv2) [.fz (.dtt [upS n] [.tup []]),.fz (.clo 38 [Qh Ms]),.fz (.int Ms.length),.ow (dT (lvD Ms n 0)),.fz (.lst (Qa3 (lvN Ms n 0)))] = .nx [.fz (.dtt [upS n] [.tup []]),.fz (.clo 38 [Qh Ms]),.fz (.int Ms.length),.ow (dT (lvD Ms n j)),s]:=by
  rw [exS,e]
  rfl
 show Qa7 (cfn (k + 3)) ⟨3,5,Qf5⟩ _ = _
 rw [Qaz rfl]
 show Qbr _ (exS _ Qf5 [.fz (.dtt [upS n] [.tup []]),.fz (.clo 38 [Qh Ms]),.fz (.int Ms.length),.un,.un]) = _
 simp only [Qbh,es,Qc4,Qbq,el,Qa0,Qcv,Qbp,frz,Qau,Qbs,List.length_cons,List.length_nil,Nat.reduceAdd,Nat.reduceLT,Qe,Qd,List.set,if_true,ew,Qa5,Qq,Qaf,Qcc,Qan,Qa1,Qat,Qar,Qw,Option.map]
theorem Qqm (k:Nat) {n:Nat} {Ms:List Tb} (h:Tabs n Ms):cfn (k + 1) 30 [.fz (Qh Ms)] = .ok (.fz (Qi (upS n))) [.non]:=by
 obtain ⟨M0,a0,l0⟩:=tab0 h
 have n4:=h.n4
 have c:n ≤ 100000:=by omega
 show Qa7 (cfn k) ⟨1,1,Qgd⟩ _ = _
 rw [Qaz rfl]
 show Qbr _ (exS _ Qgd [.fz (Qh Ms)]) = _
 simp only [Qa5,Qaah,Qbg,Qo,Qje,Qq,Qaf,Qd,Q6,Qib,Qcu,Qia,Qh9,cont,Qh8,ui1,a0,yC1,Qt,yC2,yBi,Qbd,Qaa,Out.opt,ub2,List.length_map,l0,Q6p,Int.natAbs_natCast,c,Bool.false_eq_true,Int.toNat_natCast,Qaa2,if_false,if_true,Qa0,Qcc,Qan,Qa1,Qat,Qar,Qw,Option.map]
noncomputable def Qkm:Option (List Int) → T
 | some w=>Qi w
 | none=>.non
theorem Qmp (k:Nat) {n:Nat} {Ms:List Tb} (h:Tabs n Ms):∃ j,lvN Ms n j = [] ∧ j ≤ 18 ∧ cfn (k + 5) 31 [.fz (Qh Ms)] = .ok (.ow (dT (lvD Ms n j))) [.non]:=by
 obtain ⟨j,hj,hj18,e1⟩:=Q5d k h
 have e2:=Qqm (k + 3) h
 refine ⟨j,hj,hj18,?_⟩
 have z0:(0:Nat) ≤ 100000:=by decide
 show Qa7 (cfn (k + 4)) ⟨1,1,Qen⟩ _ = _
 rw [Qaz rfl]
 show Qbr _ (exS _ Qen [.fz (Qh Ms)]) = _
 simp only [Qa5,Qaj,Qo,x_d1,Qq,Qaf,Qd,Q6,yC1,Qt,yC2,Q2,Qv,Qac,Qy,Qas,Qab,e2,Qa4,Qn,Q0,L2.Qj,Option.map,if_true,yD1,Qoo,Qts,Qdv,List.length_nil,z0,yD1a,yD1b,dKey_row,Qaeu,yLam,Qpb,Qbg,yBi,Qbd,Qaa,cont,Out.opt,ub1,List.length_map,e1,Qa0,Qcc,Qan,Qa1,Qat,Qar,Qw]
open PySem L2
noncomputable def ge (r:List Int) (k:Nat):Int:=r.getD k 0
noncomputable def Qgf (r c:List Int):Int:=((List.range r.length).map fun k=>ge r k * ge c k).sum
noncomputable def col (M:Tb) (j:Nat):List Int:=M.map fun l=>ge l j
noncomputable def rb (M:Tb) (r:List Int):List Int:=(List.range M.length).map fun j=>Qgf r (col M j)
theorem Q1p {r:List Int} {j:Nat} (h:j < r.length):atI (r.map T.int) (j:Int) = some (.int (ge r j)):=by
 refine Qdi ?_
 rw [List.getElem?_map,List.getElem?_eq_getElem h]
 show some (T.int _) = some (T.int _)
 congr 2
 unfold ge
 rw [List.getD_eq_getElem?_getD,List.getElem?_eq_getElem h,Option.getD_some]
noncomputable def iOf:T → List Int
 | .tup ts=>ts.map fun t=>match t with | .int i=>i | _=>0
 | _=>[]
theorem Qho (r:List Int):iOf (Qi r) = r:=by
 show (r.map T.int).map _ = r
 rw [List.map_map]
 conv=>rhs; rw [← List.map_id r]
 rfl
theorem Qmq (j:Nat):jOf (.int (0 + (j:Int))) = j:=by
 show (0 + (j:Int)).toNat = j
 rw [Int.zero_add,Int.toNat_natCast]
theorem Qqn {f:Nat → T} (n:Nat):((Q5 0 n).map fun x=>f (jOf x)) = (List.range n).map f:=by
 unfold Q5
 rw [List.map_map]
 apply List.map_congr_left
 intro j _
 show f (jOf (.int (0 + (j:Int)))) = f j
 rw [Qmq]
theorem Q5e (M:Tb) (j:Nat):(col M j).length = M.length:=by unfold col; rw [List.length_map]
structure Shp (n:Nat) (M:Tb):Prop where
 len:M.length = n
 row:∀ r ∈ M,r.length = n
theorem Sq.shp {n:Nat} {M:Tb} (h:Sq n M):Shp n M:=⟨h.len,h.row⟩
noncomputable def tms (A M:Tb):Tb:=A.map (rb M)
theorem Q1q (M:Tb) (r:List Int):(rb M r).length = M.length:=by unfold rb; rw [List.length_map,List.length_range]
theorem Qqo {n:Nat} {A M:Tb} (hA:Shp n A) (h:Shp n M):Shp n (tms A M):=by
 refine ⟨by unfold tms; rw [List.length_map,hA.len],fun r hr=>?_⟩
 unfold tms at hr
 obtain ⟨x,_,rfl⟩:=List.mem_map.mp hr
 rw [Q1q,h.len]
theorem Qh4 {n:Nat} {Ms:List Tb} (h:Tabs n Ms) {w:Int} (h0:0 ≤ w) (h1:w < (Ms.length:Int)):atI (Ms.map Qr) w = some (Qr (Ms.getD w.toNat [])) ∧ Sq n (Ms.getD w.toNat []):=by
 obtain ⟨i,rfl⟩:=Int.eq_ofNat_of_zero_le h0
 have hi:i < Ms.length:=by omega
 obtain ⟨a,q⟩:=Qhn h hi
 have e:Ms.getD (i:Int).toNat [] = Ms[i]:=by rw [Int.toNat_natCast,List.getD_eq_getElem?_getD,List.getElem?_eq_getElem hi,Option.getD_some]
 rw [e]
 exact ⟨a,q⟩
noncomputable def go (Ms:List Tb) (A:Tb) (w:Int):Tb:=tms A (Ms.getD w.toNat [])
theorem Q1r {n:Nat} {Ms:List Tb} (h:Tabs n Ms) {w:Int} (h0:0 ≤ w) (h1:w < (Ms.length:Int)) {A:Tb} (hA:Shp n A):Shp n (go Ms A w):=by
 obtain ⟨_,q⟩:=Qh4 h h0 h1
 exact Qqo hA q.shp
theorem cut1 (x:T) (xs:List T):Qdz (x :: xs) (some 1) none = xs:=by
 unfold Qdz HT.sIx
 simp
noncomputable def wlk (Ms:List Tb):List Int → Tb
 | []=>[]
 | w :: ws=>ws.foldl (go Ms) (Ms.getD w.toNat [])
theorem Qsn {n:Nat} {Ms:List Tb} (h:Tabs n Ms):∀ (ws:List Int) (A:Tb),InR Ms.length ws → Shp n A → Shp n (ws.foldl (go Ms) A)
 | [],A,_,hs=>hs
 | w :: ws,A,hw,hs=>Qsn h ws _ (fun p hp=>hw p (List.mem_cons_of_mem _ hp)) (Q1r h (hw w List.mem_cons_self).1 (hw w List.mem_cons_self).2 hs)
theorem Q1s:∀ xs:List Int,(∀ x ∈ xs,(0:Int) ≤ x) → 0 ≤ xs.sum ∧ (xs.sum = 0 ↔ ∀ x ∈ xs,x = 0)
 | [],_=>⟨Int.le_refl _,fun _ x hx=>(nomatch hx),fun _=>rfl⟩
 | x :: xs,h=>by
  obtain ⟨h1,h2⟩:=Q1s xs fun y hy=>h y (.tail _ hy)
  have h0:=h x (.head _)
  rw [List.sum_cons]
  refine ⟨by omega,fun e y hy=>?_,fun e=>?_⟩
  ·rcases List.mem_cons.mp hy with rfl | hy
   ·omega
   ·exact h2.mp (by omega) y hy
  ·rw [e x (.head _),h2.mpr fun y hy=>e y (.tail _ hy)]; rfl
noncomputable def Nn (A:Tb):Prop:=∀ r ∈ A,∀ x ∈ r,(0:Int) ≤ x
theorem Q1t {r:List Int} (h:∀ x ∈ r,(0:Int) ≤ x) (k:Nat):0 ≤ ge r k:=by
 unfold ge
 rw [List.getD_eq_getElem?_getD]
 cases e:r[k]? with
 | none=>exact Int.le_refl _
 | some v=>exact h v (List.mem_of_getElem? e)
theorem Q1u {M:Tb} {j k:Nat} (h:k < M.length):ge (col M j) k = at2 M (k:Int) j:=by
 unfold col at2
 rw [Int.toNat_natCast]
 conv=>lhs; unfold ge
 rw [List.getD_eq_getElem?_getD,List.getElem?_map,List.getD_eq_getElem?_getD (l:=M),List.getElem?_eq_getElem h]
 rfl
theorem Quj {M:Tb} (h:Nn M) (j:Nat):∀ x ∈ col M j,(0:Int) ≤ x:=fun x hx=>by
 unfold col at hx
 obtain ⟨r,hr,rfl⟩:=List.mem_map.mp hx
 exact Q1t (h r hr) j
theorem Quk {r c:List Int} (hr:∀ x ∈ r,(0:Int) ≤ x) (hc:∀ x ∈ c,(0:Int) ≤ x):0 ≤ Qgf r c ∧ (Qgf r c = 0 ↔ ∀ k,k < r.length → ge r k * ge c k = 0):=by
 obtain ⟨h1,h2⟩:=Q1s ((List.range r.length).map fun k=>ge r k * ge c k) fun x hx=>by
  obtain ⟨k,_,rfl⟩:=List.mem_map.mp hx
  exact Int.mul_nonneg (Q1t hr k) (Q1t hc k)
 refine ⟨h1,h2.trans ⟨fun e k hk=>e _ (List.mem_map.mpr ⟨k,List.mem_range.mpr hk,rfl⟩),fun e x hx=>?_⟩⟩
 obtain ⟨k,hk,rfl⟩:=List.mem_map.mp hx
 exact e k (List.mem_range.mp hk)
theorem Qv3 (M:Tb) (r:List Int) {j:Nat} (h:j < M.length):ge (rb M r) j = Qgf r (col M j):=by
 unfold rb
 conv=>lhs; unfold ge
 rw [List.getD_eq_getElem?_getD,List.getElem?_map,List.getElem?_range h]
 rfl
theorem Q1v {A M:Tb} (hA:Nn A) (hM:Nn M):Nn (tms A M):=fun r hr x hx=>by
 unfold tms at hr
 obtain ⟨r0,h0,rfl⟩:=List.mem_map.mp hr
 unfold rb at hx
 obtain ⟨j,_,rfl⟩:=List.mem_map.mp hx
 exact (Quk (hA r0 h0) (Quj hM j)).1
theorem Q1w {M:Tb} {s:List Int} {j:Nat}:(j:Int) ∈ sb M s ↔ j < M.length ∧ ∃ p ∈ s,at2 M p j ≠ 0:=by
 unfold sb hit
 rw [List.mem_map]
 constructor
 ·rintro ⟨i,hi,e⟩
  have e:i = j:=by omega
  subst e
  obtain ⟨h1,h2⟩:=List.mem_filter.mp hi
  obtain ⟨b,hb,hb2⟩:=List.any_eq_true.mp h2
  obtain ⟨p,hp,rfl⟩:=List.mem_map.mp hb
  exact ⟨List.mem_range.mp h1,p,hp,fun z=>by rw [z] at hb2; simp at hb2⟩
 ·rintro ⟨h1,p,hp,h2⟩
  refine ⟨j,List.mem_filter.mpr ⟨List.mem_range.mpr h1,List.any_eq_true.mpr ⟨_,List.mem_map.mpr ⟨p,hp,rfl⟩,by simp [h2]⟩⟩,rfl⟩
structure Su (n:Nat) (A:Tb) (s:List Int):Prop where
 nn:Nn A
 inr:InR n s
 hit:∀ j:Nat,j < n → ((j:Int) ∈ s ↔ ∃ r ∈ A,ge r j ≠ 0)
theorem Q1x {n:Nat} {M:Tb} (hl:M.length = n) (hM:Nn M) (hi:InR n (sb M (upS n))):Su n M (sb M (upS n)):=by
 refine ⟨hM,hi,fun j hj=>?_⟩
 rw [Q1w]
 constructor
 ·rintro ⟨_,p,hp,h2⟩
  unfold upS at hp
  obtain ⟨i,hi,rfl⟩:=List.mem_map.mp hp
  have hi:=List.mem_range.mp hi
  have hi':i < M.length:=by omega
  refine ⟨M[i],List.getElem_mem hi',fun z=>h2 ?_⟩
  rw [Int.zero_add]
  unfold at2
  rw [Int.toNat_natCast,List.getD_eq_getElem?_getD (l:=M),List.getElem?_eq_getElem hi',Option.getD_some]
  exact z
 ·rintro ⟨r,hr,h2⟩
  obtain ⟨i,hi',rfl⟩:=List.getElem_of_mem hr
  refine ⟨by omega,(i:Int),List.mem_map.mpr ⟨i,List.mem_range.mpr (by omega),Int.zero_add _⟩,fun z=>h2 ?_⟩
  unfold at2 at z
  rw [Int.toNat_natCast,List.getD_eq_getElem?_getD (l:=M),List.getElem?_eq_getElem hi',Option.getD_some] at z
  exact z
theorem Q5f {n:Nat} {A M:Tb} {s:List Int} (hl:M.length = n) (hA:Shp n A) (hM:Nn M) (h:Su n A s) (hi:InR n (sb M s)):Su n (tms A M) (sb M s):=by
 refine ⟨Q1v h.nn hM,hi,fun j hj=>?_⟩
 rw [Q1w]
 constructor
 ·rintro ⟨_,p,hp,h2⟩
  obtain ⟨p0,p1⟩:=h.inr p hp
  obtain ⟨i,rfl⟩:=Int.eq_ofNat_of_zero_le p0
  have hi:i < n:=by omega
  obtain ⟨r,hr,h3⟩:=(h.hit i hi).mp hp
  refine ⟨rb M r,List.mem_map_of_mem hr,fun z=>?_⟩
  rw [Qv3 M r (by omega)] at z
  have:=(Quk (h.nn r hr) (Quj hM j)).2.mp z i (by rw [hA.row r hr]; exact hi)
  rw [Q1u (by omega)] at this
  rcases Int.mul_eq_zero.mp this with a | a
  ·exact h3 a
  ·exact h2 a
 ·rintro ⟨r',hr',h2⟩
  unfold tms at hr'
  obtain ⟨r,hr,rfl⟩:=List.mem_map.mp hr'
  rw [Qv3 M r (by omega)] at h2
  refine ⟨by omega,?_⟩
  refine Classical.byContradiction fun hn=>h2 ((Quk (h.nn r hr) (Quj hM j)).2.mpr fun k hk=>?_)
  rw [hA.row r hr] at hk
  rw [Q1u (by omega)]
  by_cases z:ge r k = 0
  ·rw [z,Int.zero_mul]
  ·have hm:=(h.hit k hk).mpr ⟨r,hr,z⟩
   have z2:at2 M (k:Int) j = 0:=Classical.byContradiction fun q=>hn ⟨_,hm,q⟩
   rw [z2,Int.mul_zero]
theorem Su.nil {n:Nat} {A:Tb} {s:List Int} (hA:Shp n A) (h:Su n A s):s = [] ↔ ∀ r ∈ A,∀ x ∈ r,x = 0:=by
 constructor
 ·rintro rfl r hr x hx
  obtain ⟨j,hj,rfl⟩:=List.getElem_of_mem hx
  refine Classical.byContradiction fun z=>?_
  have:=(h.hit j (by rw [← hA.row r hr]; exact hj)).mpr ⟨r,hr,fun q=>z ?_⟩
  ·cases this
  ·unfold ge at q
   rw [List.getD_eq_getElem?_getD,List.getElem?_eq_getElem hj,Option.getD_some] at q
   exact q
 ·intro h0
  cases s with
  | nil=>rfl
  | cons p s =>
   obtain ⟨p0,p1⟩:=h.inr p (.head _)
   obtain ⟨i,rfl⟩:=Int.eq_ofNat_of_zero_le p0
   obtain ⟨r,hr,h3⟩:=(h.hit i (by omega)).mp (.head _)
   refine absurd ?_ h3
   unfold ge
   rw [List.getD_eq_getElem?_getD]
   cases e:r[i]? with
   | none=>rfl
   | some v=>exact h0 r hr v (List.mem_of_getElem? e)
section
variable (m:Nat) (st:List Int → Nat → List Int)
noncomputable def aw (r:List Int) (w:List Int):List Int:=w.foldl (fun s k=>st s k.toNat) r
theorem Qv4 (r w:List Int) (k:Nat):aw st r (w ++ [(k:Int)]) = st (aw st r w) k:=by
 unfold aw
 rw [List.foldl_append]
 rfl
theorem Qqp (r:List Int):∀ (d:Nat) (p:En2),p ∈ lvL m st r d → p.2.length = d ∧ InR m p.2 ∧ p.1 = aw st r p.2
 | 0,p,hp=>by
  rw [List.mem_singleton.mp hp]
  exact ⟨rfl,fun x hx=>(nomatch hx),rfl⟩
 | d + 1,p,hp=>by
  obtain ⟨q,hq,k,hk,rfl⟩:=Qv0 (show p ∈ exs m st (lvL m st r d) from hp)
  obtain ⟨h1,h2,h3⟩:=Qqp r d q hq
  refine ⟨by rw [List.length_append,h1]; rfl,fun x hx=>?_,?_⟩
  ·rcases List.mem_append.mp hx with z | z
   ·exact h2 x z
   ·rw [List.mem_singleton.mp z]; omega
  ·rw [Qv4,← h3]
theorem Qul (r:List Int):∀ (d:Nat) (w:List Int),w.length = d → InR m w → (aw st r w,w) ∈ lvL m st r d
 | 0,w,hl,_=>by
  rw [List.length_eq_zero_iff.mp hl]
  exact .head _
 | d + 1,w,hl,hw=>by
  have hne:w ≠ []:=fun z=>by rw [z] at hl; cases hl
  have e:w = w.dropLast ++ [w.getLast hne]:=(List.dropLast_concat_getLast hne).symm
  obtain ⟨a0,a1⟩:=hw _ (List.getLast_mem hne)
  obtain ⟨k,hk⟩:=Int.eq_ofNat_of_zero_le a0
  have ih:=Qul r d w.dropLast (by rw [List.length_dropLast,hl]; rfl) fun x hx=>hw x (List.dropLast_subset _ hx)
  rw [hk] at e
  rw [e,Qv4]
  exact List.mem_flatMap.mpr ⟨_,ih,Qua (p:=(aw st r w.dropLast,w.dropLast)) (by omega)⟩
theorem Qmr (r:List Int):∀ (d i:Nat),i ≤ d → ∀ p ∈ lvL m st r i,p ∈ Qqd m st r d
 | 0,i,hi,p,hp=>by
  have:i = 0:=by omega
  subst this
  exact hp
 | d + 1,i,hi,p,hp=>by
  by_cases e:i = d + 1
  ·subst e; exact List.mem_append_right _ hp
  ·exact List.mem_append_left _ (Qmr r d i (by omega) p hp)
theorem Qv5 {D:List En2} {p:En2} (h:p ∈ D):(D.lookup p.1).isSome = true:=by
 induction D with
 | nil=>cases h
 | cons q D ih =>
  rw [List.lookup_cons]
  by_cases hq:p.1 = q.1
  ·rw [hq,beq_self_eq_true]; rfl
  ·rw [beq_eq_false_iff_ne.mpr hq]
   rcases List.mem_cons.mp h with z | z
   ·exact absurd (by rw [z]) hq
   ·exact ih z
theorem Q60 (r z w:List Int):∀ d,(Qqd m st r d).lookup z = some w → InR m w ∧ z = aw st r w ∧ ∀ v,InR m v → aw st r v = z → w.length ≤ v.length
 | 0,h=>by
  obtain ⟨h1,h2,h3⟩:=Qqp m st r 0 _ (Qjn h)
  exact ⟨h2,h3,fun v _ _=>by have h1:w.length = 0:=h1; omega⟩
 | d + 1,h=>by
  have h':(Qqd m st r d ++ lvL m st r (d + 1)).lookup z = some w:=h
  rw [Qb2] at h'
  cases e:(Qqd m st r d).lookup z with
  | some u =>
   rw [e] at h'
   have h':some u = some w:=h'
   cases h'
   exact Q60 r z w d e
  | none =>
   rw [e] at h'
   obtain ⟨h1,h2,h3⟩:=Qqp m st r (d + 1) _ (Qjn (show (lvL m st r (d + 1)).lookup z = some w from h'))
   have h1:w.length = d + 1:=h1
   refine ⟨h2,h3,fun v hv hz=>?_⟩
   by_cases hl:v.length ≤ d
   ·have q:=Qv5 (Qmr m st r d v.length hl _ (Qul m st r v.length v rfl hv))
    have q:((Qqd m st r d).lookup (aw st r v)).isSome = true:=q
    rw [hz,e] at q
    cases q
   ·omega
end
noncomputable abbrev wa (Ms:List Tb) (n:Nat) (w:List Int):List Int:=aw (stp Ms) (upS n) w
theorem Qv6 {n:Nat} {Ms:List Tb} (h:Tabs n Ms):∀ (ws:List Int) (A:Tb) (s:List Int),InR Ms.length ws → Shp n A → Su n A s → Su n (ws.foldl (go Ms) A) (ws.foldl (fun s k=>stp Ms s k.toNat) s)
 | [],A,s,_,_,h3=>h3
 | w :: ws,A,s,hw,hs,h3=>by
  obtain ⟨h0,h1⟩:=hw w List.mem_cons_self
  obtain ⟨_,q⟩:=Qh4 h h0 h1
  rw [List.foldl_cons,List.foldl_cons]
  refine Qv6 h ws _ _ (fun p hp=>hw p (List.mem_cons_of_mem _ hp)) (Q1r h h0 h1 hs) ?_
  have i:=Qug (Ms.getD w.toNat []) s
  rw [q.len] at i
  exact Q5f q.len hs q.pos h3 i
theorem Qv7 {n:Nat} {Ms:List Tb} (h:Tabs n Ms) {w:Int} {ws:List Int} (hw:InR Ms.length (w :: ws)):Su n (wlk Ms (w :: ws)) (wa Ms n (w :: ws)) ∧ Shp n (wlk Ms (w :: ws)):=by
 obtain ⟨h0,h1⟩:=hw w List.mem_cons_self
 obtain ⟨_,q⟩:=Qh4 h h0 h1
 have i:=Qug (Ms.getD w.toNat []) (upS n)
 rw [q.len] at i
 exact ⟨Qv6 h ws _ _ (fun p hp=>hw p (List.mem_cons_of_mem _ hp)) q.shp (Q1x q.len q.pos i),Qsn h ws _ (fun p hp=>hw p (List.mem_cons_of_mem _ hp)) q.shp⟩
noncomputable def Sh (Ms:List Tb) (n:Nat):Option (List Int) → Prop
 | some w=>w ≠ [] ∧ InR Ms.length w ∧ wa Ms n w = [] ∧ w.length ≤ 18 ∧ ∀ v,InR Ms.length v → wa Ms n v = [] → w.length ≤ v.length
 | none=>∀ v,InR Ms.length v → wa Ms n v ≠ []
theorem Qms (k:Nat) {n:Nat} {Ms:List Tb} (h:Tabs n Ms):∃ o,Sh Ms n o ∧ cfn (k + 7) 32 [.fz (Qh Ms)] = .ok (.fz (Qkm o)) [.non]:=by
 have e1:=Qjp k h
 obtain ⟨j,hj,hj18,e3⟩:=Qmp (k + 1) h
 have dk:Qfb (.fz (.tup [])) = some []:=dKey_row []
 have z0:(0:Nat) ≤ 100000:=by decide
 refine ⟨(lvD Ms n j).lookup [],?_,?_⟩
 ·cases hz:(lvD Ms n j).lookup [] with
  | none =>
   intro v hv hz2
   have q:=Qv5 (Qmr Ms.length (stp Ms) (upS n) (j + v.length) v.length (by omega) _ (Qul Ms.length (stp Ms) (upS n) v.length v rfl hv))
   have q:((Qqd Ms.length (stp Ms) (upS n) (j + v.length)).lookup (aw (stp Ms) (upS n) v)).isSome = true:=q
   rw [← Qqe,Qvw Ms.length (stp Ms) (upS n) hj,show aw (stp Ms) (upS n) v = [] from hz2] at q
   have q:((lvD Ms n j).lookup []).isSome = true:=q
   rw [hz] at q
   cases q
  | some w =>
   have hl:w.length ≤ 18:=by have:=((Qv1 h j).st _ (Qjn hz)).2.2; show (([]:List Int),w).2.length ≤ 18; omega
   rw [show lvD Ms n j = (lvP Ms.length (stp Ms) (upS n) j).1 from rfl,Qqe] at hz
   obtain ⟨s1,s2,s3⟩:=Q60 Ms.length (stp Ms) (upS n) [] w j hz
   refine ⟨fun z=>?_,s1,s2.symm,hl,fun v hv hz2=>s3 v hv hz2⟩
   rw [z] at s2
   have l:(upS n).length = 0:=by rw [show upS n = [] from s2.symm]; rfl
   unfold upS at l
   rw [List.length_map,List.length_range] at l
   have:=h.n1
   omega
 ·show Qa7 (cfn (k + 6)) ⟨1,1,Qij⟩ _ = _
  rw [Qaz rfl]
  show Qbr _ (exS _ Qij [.fz (Qh Ms)]) = _
  simp only [Qbh,Qic,Qaj,Qo,Qq,Qaf,Qd,Q6,yC1,Qt,yC2,Q2,Qv,Qac,Qy,Qas,Qab,e1,Qa4,Qn,Q0,L2.Qj,Option.map,if_true,Qa0,Qka,Qc4,Qa5,Qae3,e3,yDg,Qlf,cont,Qoo,Qts,Qdv,List.length_nil,z0,yDg1,yDg2,dk,Qmo,Qcc,Qan,Qa1,Qat,Qar,Qw]
  cases (lvD Ms n j).lookup [] <;> rfl
open PySem L2
theorem Qmt (k:Nat) {i:Int} {n:Nat} (h0:0 ≤ i) (h1:i < (n:Int)):cfn (k + 2) 6 [.fz (.int i),.fz (.int n)] = .ok (.fz (.bl true)) [.non,.non]:=by
 have e:=Qub k i
 show Qa7 (cfn (k + 1)) ⟨2,2,Qih⟩ _ = _
 rw [Qaz rfl]
 show Qbr _ (exS _ Qih [.fz (.int i),.fz (.int n)]) = _
 simp only [Qa5,Ql6,Qaj,Qo,Qq,Qaf,Qd,Q6,yC1,Qt,yC2,Q2,Qv,Qac,Qy,Qas,Qab,e,Qa4,Qn,Q0,L2.Qj,Option.map,if_true,Qai,yBl,Qrx,Qb8,Qb1,Qcu,Qb0,Qbz,cont,Qby,uc6,h0,decide_true,Qe,uc3,h1,yB,Qa0,Qcc,Qan,Qa1,Qat,Qar,Qw]
theorem Qqq (k:Nat) {n:Nat} {ps:List Int} (h:InR n ps) (hz:ps.length ≤ 1000):cfn (k + 3) 7 [.fz (Qi ps),.fz (.int n)] = .ok (.fz (.bl true)) [.non,.non]:=by
 have hcomp:evE (cfn (k + 2)) (.comp (.seq (.var 0)) [none,some 1] (.nm 0) .nil (.call 6 (.cons (.var 0) (.cons (.var 1) .nil)))) [.fz (Qi ps),.fz (.int n)] = .ok (.ow (.lst ((ps.map T.int).map fun _=>T.bl true))) [.fz (Qi ps),.fz (.int n)] :=
  Qbf (rest:=[.fz (.int n)]) rfl rfl rfl rfl (fun x hx=>by
   obtain ⟨p,hp,rfl⟩:=List.mem_map.mp hx
   have q:=Qmt k (h p hp).1 (h p hp).2
   refine ⟨.fz (.bl true),?_,rfl⟩
   simp only [Qaj,Qo,Qq,Qaf,Qd,Q6,yC1,Qe,Qt,yC2,Q2,Qv,Qac,Qy,Qas,Qab,q,Qa4,Qn,Q0,L2.Qj,Option.map,if_true]) (by rw [List.length_map]; omega)
 show Qa7 (cfn (k + 2)) ⟨2,2,Qfz⟩ _ = _
 rw [Qaz rfl]
 show Qbr _ (exS _ Qfz [.fz (Qi ps),.fz (.int n)]) = _
 simp only [Qa5,Ql6,Qvn,Qq,Qaf,Qd,Q6,Q0p,Qrz,cont,Ql9,Qhz,Bool.not_false,Bool.and_true,Qfn,if_true,Qai,yBl,Qrx,Qbg,Qo,hcomp,yC1,Qt,yC2,yBi,Qbd,Qaa,Out.opt,ub3,Option.map,Qpl,Qtv,yB,Qa0,Qcc,Qan,Qa1,Qat,Qar,Qw]
theorem Q1y (k:Nat) {n:Nat} {ps:List Int} (h:InR n ps) (h1:1 ≤ ps.length) (h2:ps.length ≤ 200):cfn (k + 4) 8 [.fz (Qi ps),.fz (.int n)] = .ok (.fz (.bl true)) [.non,.non]:=by
 have e:=Qqq k h (by omega)
 have c1:(1:Int) ≤ (ps.length:Int):=by omega
 have c2:(ps.length:Int) ≤ 200:=by omega
 show Qa7 (cfn (k + 3)) ⟨2,2,Qmh⟩ _ = _
 rw [Qaz rfl]
 show Qbr _ (exS _ Qmh [.fz (Qi ps),.fz (.int n)]) = _
 simp only [Qa5,Ql6,Qaj,Qo,Qq,Qaf,Qd,Q6,yC1,Qe,Qt,yC2,Q2,Qv,Qac,Qy,Qas,Qab,e,Qa4,Qn,Q0,L2.Qj,Option.map,if_true,Qai,yBl,Qrx,Qb8,Qbg,yBi,Qbd,Qaa,cont,Out.opt,ub2,List.length_map,Qb1,Qcu,Qb0,Qbz,Qby,uc6,c1,decide_true,uc4,c2,yB,Qa0,Qcc,Qan,Qa1,Qat,Qar,Qw]
theorem Qmu (k:Nat) {n:Nat} {ps:List Int} (h:InR n ps) (h1:1 ≤ ps.length) (h2:ps.length ≤ 200):cfn (k + 5) 11 [.fz (Qi ps),.fz (.int n)] = .ok (.fz .non) [.non,.non]:=by
 have e1:=Q1y k h h1 h2
 show Qa7 (cfn (k + 4)) ⟨2,2,Qii⟩ _ = _
 rw [Qaz rfl]
 show Qbr _ (exS _ Qii [.fz (Qi ps),.fz (.int n)]) = _
 simp only [Qck,Qh3,Qaj,Qo,Qq,Qaf,Qd,Q6,yC1,Qe,Qt,yC2,Q2,Qv,Qac,Qy,Qas,Qab,e1,Qa4,Qn,Q0,L2.Qj,Option.map,if_true,Qai,yBl,Ql5,Bool.not_true,Qa0,yIf,Qc5,Qma,Qar,Qw]
theorem Qjq (k:Nat) {i:Int} {n:Nat} (h0:0 ≤ i) (h1:i < (n:Int)):cfn (k + 3) 12 [.fz (.int i),.fz (.int n)] = .ok (.fz .non) [.non,.non]:=by
 have e1:=Qmt k h0 h1
 show Qa7 (cfn (k + 2)) ⟨2,2,Qf4⟩ _ = _
 rw [Qaz rfl]
 show Qbr _ (exS _ Qf4 [.fz (.int i),.fz (.int n)]) = _
 simp only [Qck,Qh3,Qaj,Qo,Qq,Qaf,Qd,Q6,yC1,Qe,Qt,yC2,Q2,Qv,Qac,Qy,Qas,Qab,e1,Qa4,Qn,Q0,L2.Qj,Option.map,if_true,Qai,yBl,Ql5,Bool.not_true,Qa0,yIf,Qc5,Qma,Qar,Qw]
theorem Q1z {x b:Nat} (h:x < 2 ^ b) (hb:b ≤ 9000):x.log2 < 9000:=by
 by_cases h0:x = 0
 ·subst h0
  have:Nat.log2 0 = 0:=by decide
  omega
 ·have:=(Nat.log2_lt h0).mpr h
  omega
theorem Q5g {i j:Int} {a:Nat} (h1:i.natAbs < 2 ^ a) (ha:a ≤ 9000) (h2:j.natAbs < 2 ^ 100):Qcy i j = true:=by
 have l1:=Q1z h1 ha
 have l2:=Q1z h2 (by decide)
 unfold Qcy
 simp only [Bool.or_eq_true,Bool.and_eq_true,decide_eq_true_eq]
 exact .inr (.inr (.inr ⟨l1,l2⟩))
theorem Qso {c:List Int} {a:Nat} (h:∀ x ∈ c,(x:Int).natAbs < 2 ^ a) (k:Nat):(ge c k).natAbs < 2 ^ a:=by
 unfold ge
 rw [List.getD_eq_getElem?_getD]
 cases e:c[k]? with
 | none=>exact Nat.pow_pos (by decide)
 | some v=>exact h v (List.mem_of_getElem? e)
theorem Q10 {a:Nat} {M:Tb} (h:Bn a M) {j:Nat}:∀ x ∈ col M j,x.natAbs < 2 ^ a:=fun x hx=>by
 unfold col at hx
 obtain ⟨l,hl,rfl⟩:=List.mem_map.mp hx
 exact Qso (h l hl) j
theorem Qsp (k:Nat) {n:Nat} {M:Tb} (h:Sq n M) (h4:n ≤ 4) {j:Nat} (hj:j < n):cfn (k + 1) 16 [.fz (Qr M),.fz (.int j)] = .ok (.fz (Qi (col M j))) [.non,.non]:=by
 have hl:=h.len
 have hcomp:evE (cfn k) (.comp (.seq (.var 0)) [none,some 1] (.nm 0) .nil (.ix (.var 0) (.var 1))) [.fz (Qr M),.fz (.int j)] = .ok (.ow (.lst ((M.map Qi).map fun x=>T.int (ge (iOf x) j)))) [.fz (Qr M),.fz (.int j)] :=
  Qbf (rest:=[.fz (.int j)]) rfl rfl rfl rfl (fun x hx=>by
   obtain ⟨l,hm,rfl⟩:=List.mem_map.mp hx
   have a:=Q1p (r:=l) (j:=j) (by rw [h.row l hm]; exact hj)
   refine ⟨.fz (.int (ge l j)),?_,by rw [Qho]; rfl⟩
   simp only [Qje,Qq,Qaf,Qd,Q6,Qib,Qe,Qia,Qh9,cont,Qh8,ui2,a]) (by rw [List.length_map]; omega)
 have em:((M.map Qi).map fun x=>T.int (ge (iOf x) j)) = (col M j).map T.int:=by
  unfold col
  rw [List.map_map,List.map_map]
  apply List.map_congr_left
  intro l _
  show T.int (ge (iOf (Qi l)) j) = T.int (ge l j)
  rw [Qho]
 rw [em] at hcomp
 show Qa7 (cfn k) ⟨2,2,Qg8⟩ _ = _
 rw [Qaz rfl]
 show Qbr _ (exS _ Qg8 [.fz (Qr M),.fz (.int j)]) = _
 simp only [Qa5,Qbg,Qo,hcomp,Q6,yC1,Qt,yC2,yBi,Qbd,Qaa,cont,Out.opt,ub9,Qa0,Qcc,Qan,Qa1,Qat,Qar,Qw,Option.map]
theorem Qqr (k:Nat) {n:Nat} {M:Tb} (h:Sq n M) (h4:n ≤ 4):cfn (k + 2) 17 [.fz (Qr M)] = .ok (.fz (Qr ((List.range M.length).map (col M)))) [.non]:=by
 have hl:=h.len
 have hw:evW (cfn (k + 1)) (.rng1 (.bi .len (.cons (.var 0) .nil))) [.fz (Qr M)] = .ok (Q5 0 M.length,none) [.fz (Qr M)]:=by
  have c:M.length ≤ 100000:=by omega
  simp only [Qdh,Qbg,Qo,Qq,Qaf,Qd,Q6,yC1,Qt,yC2,yBi,Qbd,Qaa,cont,Out.opt,ub2,List.length_map,Qmc c]
 have hcomp:evE (cfn (k + 1)) (.comp (.rng1 (.bi .len (.cons (.var 0) .nil))) [none,some 0] (.nm 0) .nil (.call 16 (.cons (.var 1) (.cons (.var 0) .nil)))) [.fz (Qr M)] = .ok (.ow (.lst ((Q5 0 M.length).map fun x=>Qi (col M (jOf x))))) [.fz (Qr M)] :=
  Qbf (rest:=[.fz (Qr M)]) hw rfl rfl rfl (fun x hx=>by
   unfold Q5 at hx
   obtain ⟨j,hj,rfl⟩:=List.mem_map.mp hx
   have hj:=List.mem_range.mp hj
   have e:=Qsp k h h4 (j:=j) (by omega)
   refine ⟨.fz (Qi (col M j)),?_,by rw [Qmq]; rfl⟩
   simp only [Int.zero_add,Qaj,Qo,Qq,Qaf,Qe,Qd,Q6,yC1,Qt,yC2,Q2,Qv,Qac,Qy,Qas,Qab,e,Qa4,Qn,Q0,L2.Qj,Option.map,if_true]) (by rw [Q8]; omega)
 rw [Qqn (f:=fun j=>Qi (col M j))] at hcomp
 show Qa7 (cfn (k + 1)) ⟨1,1,Qf7⟩ _ = _
 rw [Qaz rfl]
 show Qbr _ (exS _ Qf7 [.fz (Qr M)]) = _
 simp only [Qa5,Qbg,Qo,hcomp,Q6,yC1,Qt,yC2,yBi,Qbd,Qaa,cont,Out.opt,ub9,Qa0,Qcc,Qan,Qa1,Qat,Qar,Qw,Option.map]
 unfold Qr
 rw [List.map_map]
 rfl
theorem Qio (k:Nat) {r c:List Int} (hrc:r.length = c.length) (hz:r.length ≤ 1000) {a:Nat} (hb:∀ x ∈ r,(x:Int).natAbs < 2 ^ a) (ha:a ≤ 9000) (hc:∀ x ∈ c,(x:Int).natAbs < 2 ^ 100):cfn (k + 1) 18 [.fz (Qi r),.fz (Qi c)] = .ok (.fz (.int (Qgf r c))) [.non,.non]:=by
 have hw:evW (cfn k) (.rng1 (.bi .len (.cons (.var 0) .nil))) [.fz (Qi r),.fz (Qi c)] = .ok (Q5 0 r.length,none) [.fz (Qi r),.fz (Qi c)]:=by
  have c:r.length ≤ 100000:=by omega
  simp only [Qdh,Qbg,Qo,Qq,Qaf,Qd,Q6,yC1,Qt,yC2,yBi,Qbd,Qaa,cont,Out.opt,ub2,List.length_map,Qmc c]
 have hcomp:evE (cfn k) (.comp (.rng1 (.bi .len (.cons (.var 0) .nil))) [none,some 0,some 1] (.nm 0) .nil (.bin .mul (.ix (.var 1) (.var 0)) (.ix (.var 2) (.var 0)))) [.fz (Qi r),.fz (Qi c)] = .ok (.ow (.lst ((Q5 0 r.length).map fun x=>T.int (ge r (jOf x) * ge c (jOf x))))) [.fz (Qi r),.fz (Qi c)] :=
  Qbf (rest:=[.fz (Qi r),.fz (Qi c)]) hw rfl rfl rfl (fun x hx=>by
   unfold Q5 at hx
   obtain ⟨j,hj,rfl⟩:=List.mem_map.mp hx
   have hj:=List.mem_range.mp hj
   have a1:=Q1p (r:=r) (j:=j) hj
   have a2:=Q1p (r:=c) (j:=j) (by omega)
   have mo:Qcy (ge r j) (ge c j) = true:=Q5g (Qso hb j) ha (Qso hc j)
   refine ⟨.fz (.int (ge r j * ge c j)),?_,by rw [Qmq]; rfl⟩
   simp only [Int.zero_add,Qet,Qje,Qq,Qaf,Qe,Qd,Q6,Qib,Qia,Qh9,cont,Qh8,ui2,a1,Qek,a2,Qej,Qei,Out.opt,uo5,mo,if_true]) (by rw [Q8]; omega)
 rw [Qqn (f:=fun j=>T.int (ge r j * ge c j))] at hcomp
 have em:((List.range r.length).map fun j=>T.int (ge r j * ge c j)) = ((List.range r.length).map fun j=>ge r j * ge c j).map T.int:=by rw [List.map_map]; rfl
 rw [em] at hcomp
 show Qa7 (cfn k) ⟨2,2,Qcn⟩ _ = _
 rw [Qaz rfl]
 show Qbr _ (exS _ Qcn [.fz (Qi r),.fz (Qi c)]) = _
 simp only [Qa5,Qbg,Qo,hcomp,Q6,yC1,Qt,yC2,yBi,Qbd,Qaa,cont,Out.opt,ub5,Option.map,intL_mp,Qa0,Qcc,Qan,Qa1,Qat,Qar,Qw]
 rfl
theorem Qhx (k:Nat) {r:List Int} {a:Nat} (hb:∀ x ∈ r,(x:Int).natAbs < 2 ^ a) (ha:a ≤ 9000) {Cs:Tb} (hC:∀ c ∈ Cs,r.length = c.length ∧ ∀ x ∈ c,(x:Int).natAbs < 2 ^ 100) (hr:r.length ≤ 1000) (hz:Cs.length ≤ 1000):cfn (k + 2) 19 [.fz (Qi r),.fz (Qr Cs)] = .ok (.fz (Qi (Cs.map (Qgf r)))) [.non,.non]:=by
 have hcomp:evE (cfn (k + 1)) (.comp (.seq (.var 1)) [none,some 0] (.nm 0) .nil (.call 18 (.cons (.var 1) (.cons (.var 0) .nil)))) [.fz (Qi r),.fz (Qr Cs)] = .ok (.ow (.lst ((Cs.map Qi).map fun x=>T.int (Qgf r (iOf x))))) [.fz (Qi r),.fz (Qr Cs)] :=
  Qbf (rest:=[.fz (Qi r)]) rfl rfl rfl rfl (fun x hx=>by
   obtain ⟨c,hm,rfl⟩:=List.mem_map.mp hx
   obtain ⟨h1,h2⟩:=hC c hm
   have e:=Qio k h1 hr hb ha h2
   refine ⟨.fz (.int (Qgf r c)),?_,by rw [Qho]; rfl⟩
   simp only [Qaj,Qo,Qq,Qaf,Qe,Qd,Q6,yC1,Qt,yC2,Q2,Qv,Qac,Qy,Qas,Qab,e,Qa4,Qn,Q0,L2.Qj,Option.map,if_true]) (by rw [List.length_map]; omega)
 have em:((Cs.map Qi).map fun x=>T.int (Qgf r (iOf x))) = (Cs.map (Qgf r)).map T.int:=by
  rw [List.map_map,List.map_map]
  apply List.map_congr_left
  intro l _
  show T.int (Qgf r (iOf (Qi l))) = T.int (Qgf r l)
  rw [Qho]
 rw [em] at hcomp
 show Qa7 (cfn (k + 1)) ⟨2,2,Qcg⟩ _ = _
 rw [Qaz rfl]
 show Qbr _ (exS _ Qcg [.fz (Qi r),.fz (Qr Cs)]) = _
 simp only [Qa5,Qbg,Qo,hcomp,Q6,yC1,Qt,yC2,yBi,Qbd,Qaa,cont,Out.opt,ub9,Qa0,Qcc,Qan,Qa1,Qat,Qar,Qw,Option.map]
theorem Qv8 (k:Nat) {n:Nat} {A M:Tb} (hA:Shp n A) {a:Nat} (bA:Bn a A) (ha:a ≤ 9000) (h:Sq n M) (h4:n ≤ 4):cfn (k + 3) 20 [.fz (Qr A),.fz (Qr M)] = .ok (.fz (Qr (tms A M))) [.non,.non]:=by
 have hl:=h.len
 have la:=hA.len
 have e1:=Qqr k h h4
 have hcomp:evE (cfn (k + 2)) (.comp (.seq (.var 0)) [none,some 2] (.nm 0) .nil (.call 19 (.cons (.var 0) (.cons (.var 1) .nil)))) [.fz (Qr A),.fz (Qr M),.fz (Qr ((List.range M.length).map (col M)))] = .ok (.ow (.lst ((A.map Qi).map fun x=>Qi (rb M (iOf x))))) [.fz (Qr A),.fz (Qr M),.fz (Qr ((List.range M.length).map (col M)))] :=
  Qbf (rest:=[.fz (Qr ((List.range M.length).map (col M)))]) rfl rfl rfl rfl (fun x hx=>by
   obtain ⟨r,hm,rfl⟩:=List.mem_map.mp hx
   have hr:=hA.row r hm
   have e2:=Qhx k (r:=r) (bA r hm) ha (Cs:=(List.range M.length).map (col M)) (fun c hc=>by
    obtain ⟨j,_,rfl⟩:=List.mem_map.mp hc
    exact ⟨by rw [Q5e,hl,hr],Q10 h.bd⟩) (by omega) (by rw [List.length_map,List.length_range]; omega)
   have em:((List.range M.length).map (col M)).map (Qgf r) = rb M r:=by unfold rb; rw [List.map_map]; rfl
   rw [em] at e2
   refine ⟨.fz (Qi (rb M r)),?_,by rw [Qho]; rfl⟩
   simp only [Qaj,Qo,Qq,Qaf,Qd,Q6,yC1,Qe,Qt,yC2,Q2,Qv,Qac,Qy,Qas,Qab,e2,Qa4,Qn,Q0,L2.Qj,Option.map,if_true]) (by rw [List.length_map]; omega)
 have em:((A.map Qi).map fun x=>Qi (rb M (iOf x))) = (tms A M).map Qi:=by
  unfold tms
  rw [List.map_map,List.map_map]
  apply List.map_congr_left
  intro l _
  show Qi (rb M (iOf (Qi l))) = Qi (rb M l)
  rw [Qho]
 rw [em] at hcomp
 show Qa7 (cfn (k + 2)) ⟨2,3,Qpx⟩ _ = _
 rw [Qaz rfl]
 show Qbr _ (exS _ Qpx [.fz (Qr A),.fz (Qr M),.un]) = _
 simp only [Qbh,Qbq,Qaj,Qo,Qq,Qaf,Qe,Qd,Q6,yC1,Qt,yC2,Q2,Qv,Qac,Qy,Qas,Qab,e1,Qa4,Qn,Q0,L2.Qj,Option.map,if_true,Qa0,Qcv,Qbp,frz,Qau,Qbs,List.length_cons,List.length_nil,Nat.reduceAdd,Nat.reduceLT,List.set,Qc4,Qa5,Qbg,hcomp,yBi,Qbd,Qaa,cont,Out.opt,ub9,Qcc,Qan,Qa1,Qat,Qar,Qw]
theorem Q11 {B:Nat}:∀ xs:List Int,(∀ x ∈ xs,(x:Int).natAbs ≤ B) → xs.sum.natAbs ≤ xs.length * B
 | [],_=>Nat.zero_le _
 | x :: xs,h=>by
  have h1:=h x (.head _)
  have h2:=Q11 xs fun y hy=>h y (.tail _ hy)
  rw [List.sum_cons,List.length_cons,Nat.succ_mul]
  have:=Int.natAbs_add_le x xs.sum
  omega
theorem Q12 {n:Nat} {A M:Tb} (hA:Shp n A) (h4:n ≤ 4) {a b:Nat} (bA:Bn a A) (bM:Bn b M):Bn (a + b + 2) (tms A M):=fun r hr x hx=>by
 unfold tms at hr
 obtain ⟨q,hq,rfl⟩:=List.mem_map.mp hr
 unfold rb at hx
 obtain ⟨j,_,rfl⟩:=List.mem_map.mp hx
 unfold Qgf
 have hl:=hA.row q hq
 have p1:0 < 2 ^ a:=Nat.pow_pos (by decide)
 have p2:0 < 2 ^ b:=Nat.pow_pos (by decide)
 have s:=Q11 (B:=(2 ^ a - 1) * (2 ^ b - 1)) ((List.range q.length).map fun k=>ge q k * ge (col M j) k) (fun y hy=>by
  obtain ⟨k,_,rfl⟩:=List.mem_map.mp hy
  have b1:=Qso (bA q hq) k
  have b2:=Qso (Q10 bM (j:=j)) k
  rw [Int.natAbs_mul]
  exact Nat.mul_le_mul (by omega) (by omega))
 rw [List.length_map,List.length_range] at s
 have t:(2 ^ a - 1) * (2 ^ b - 1) < 2 ^ a * 2 ^ b:=Nat.lt_of_le_of_lt (Nat.mul_le_mul_left _ (Nat.sub_le _ _)) (Nat.mul_lt_mul_of_pos_right (by omega) p2)
 rw [Nat.pow_add,Nat.pow_add]
 generalize 2 ^ a * 2 ^ b = X at *
 generalize (2 ^ a - 1) * (2 ^ b - 1) = Y at *
 have:q.length * Y ≤ 4 * Y:=Nat.mul_le_mul_right _ (by omega)
 omega
theorem Qou (k:Nat) {n:Nat} {Ms:List Tb} (h:Tabs n Ms) {b:Slot}:∀ (ws:List Int) (A:Tb) (a:Nat) (x:Slot),Qcj x = true → InR Ms.length ws → Shp n A → Bn a A → a + 102 * ws.length ≤ 9000 →
  ∃ x',Qdf (.nm 3) (exS (cfn (k + 3)) (.setF 2 (.call 20 (.cons (.var 2) (.cons (.ix (.var 0) (.var 3)) .nil))))) (ws.map T.int) [.fz (Qh Ms),b,.fz (Qr A),x] = .nx [.fz (Qh Ms),b,.fz (Qr (ws.foldl (go Ms) A)),x'] ∧ Qcj x' = true
 | [],A,a,x,hx,_,_,_,_=>⟨x,rfl,hx⟩
 | w :: ws,A,a,x,hx,hw,hs,hb,hz=>by
  obtain ⟨h0,h1⟩:=hw w List.mem_cons_self
  obtain ⟨a1,q1⟩:=Qh4 h h0 h1
  rw [List.length_cons] at hz
  have e:=Qv8 k hs hb (by omega) q1 h.n4
  obtain ⟨x',e2,o⟩:=Qou k h (b:=b) ws (go Ms A w) (a + 100 + 2) (.fz (.int w)) rfl (fun p hp=>hw p (List.mem_cons_of_mem _ hp)) (Q1r h h0 h1 hs) (Q12 hs h.n4 hb q1.bd) (by omega)
  refine ⟨x',?_,o⟩
  have e0:Qfc (.nm 3) (.int w) [.fz (Qh Ms),b,.fz (Qr A),x] = some [.fz (Qh Ms),b,.fz (Qr A),.fz (.int w)]:=by
   cases x <;> first | rfl | cases hx
  rw [List.map_cons,List.foldl_cons]
  unfold Qdf
  rw [e0]
  simp only [Qbq,Qaj,Qo,Qq,Qaf,Qe,Qd,Q6,yC1,Qje,Qib,Qia,Qh9,cont,Qh8,ui1,a1,Qt,yC2,Q2,Qv,Qac,Qy,Qas,Qab,e,Qa4,Qn,Q0,L2.Qj,Option.map,if_true,Qa0,Qcv,Qbp,frz,Qau,Qbs,List.length_cons,List.length_nil,Nat.reduceAdd,Nat.reduceLT,List.set]
  exact e2
theorem Qgg (k:Nat) {n:Nat} {Ms:List Tb} (h:Tabs n Ms) {w:List Int} (hne:w ≠ []) (hw:InR Ms.length w) (hz:w.length ≤ 80):cfn (k + 6) 21 [.fz (Qh Ms),.fz (Qi w)] = .ok (.fz (Qr (wlk Ms w))) [.non,.non]:=by
 cases w with
 | nil=>exact absurd rfl hne
 | cons w ws =>
  have hz':ws.length + 1 ≤ 80:=hz
  obtain ⟨h0,h1⟩:=hw w List.mem_cons_self
  obtain ⟨a1,q1⟩:=Qh4 h h0 h1
  obtain ⟨x',e4,_⟩:=Qou (k + 2) h (b:=.fz (Qi (w :: ws))) ws (Ms.getD w.toNat []) 100 .un rfl (fun p hp=>hw p (List.mem_cons_of_mem _ hp)) q1.shp q1.bd (by omega)
  have c:=cut1 (.int w) (ws.map T.int)
  have e1:=Qb4 k h
  have e2:=Qmu k hw (Nat.succ_le_succ (Nat.zero_le _)) (show ws.length + 1 ≤ 200 by omega)
  show Qa7 (cfn (k + 5)) ⟨2,4,Qpy⟩ _ = _
  rw [Qaz rfl]
  show Qbr _ (exS _ Qpy [.fz (Qh Ms),.fz (Qi (w :: ws)),.un,.un]) = _
  rw [show Qi (w :: ws) = .tup (.int w :: ws.map T.int) from rfl] at e4 e2 ⊢
  simp only [Qbh,Qic,Qaj,Qo,Qq,Qaf,Qd,Q6,yC1,Qt,yC2,Q2,Qv,Qac,Qy,Qas,Qab,e1,Qa4,Qn,Q0,L2.Qj,Option.map,if_true,Qa0,Qka,Qc4,Qe,Qbg,yBi,Qbd,Qaa,cont,Out.opt,ub1,List.length_map,e2,Qbq,Qje,Qib,Qcu,Qia,Qh9,Qh8,ui2,at_0,ui1,a1,Qcv,Qbp,frz,Qau,Qbs,List.length_cons,List.length_nil,Nat.reduceAdd,Nat.reduceLT,List.set,Qg2,Qop,Q0q,Q4u,Q4t,Qvp,Qlg,Q4s,Qvo,Q4r,ui4,c,Qtt,Ql8,Ql7,Qgi,Qjw,Qkj,e4,Qc6,Qa5,Qcc,Qan,Qa1,Qat,Qar,Qw]
  rfl
theorem Qv9:∀ xs:List Int,(∀ x ∈ xs,x = 0) → Qe1 (xs.map T.int) = some (xs.map fun _=>false)
 | [],_=>rfl
 | x :: xs,h=>by
  have h1:=h x (.head _)
  subst h1
  rw [List.map_cons,Qe1,Qv9 xs fun y hy=>h y (.tail _ hy)]
  rfl
theorem Qum (k:Nat) {n:Nat} {A:Tb} (hA:Shp n A) (h1:1 ≤ n) (h4:n ≤ 4) (h0:∀ r ∈ A,∀ x ∈ r,x = 0):cfn (k + 5) 22 [.fz (Qr A)] = .ok (.fz (.bl true)) [.non]:=by
 have sq:Sq n A:=⟨hA.len,hA.row,fun r hr x hx=>by rw [h0 r hr x hx]; exact Int.le_refl 0,fun r hr x hx=>by rw [h0 r hr x hx]; decide⟩
 have eg:=Qos k sq h1 h4
 have en:=Qjo (k + 3) A (sq.flat h4)
 have et:=Qv9 A.flatten fun x hx=>by
  obtain ⟨r,hr,hx⟩:=List.mem_flatten.mp hx
  exact h0 r hr x hx
 have e9:cfn (k + 4) 9 [.fz (Qr A)] = .ok (.fz .non) [.non]:=by
  show Qa7 (cfn (k + 3)) ⟨1,1,Qf1⟩ _ = _
  rw [Qaz rfl]
  show Qbr _ (exS _ Qf1 [.fz (Qr A)]) = _
  simp only [Qck,Qh3,Qaj,Qo,Qq,Qaf,Qd,Q6,yC1,Qt,yC2,Q2,Qv,Qac,Qy,Qas,Qab,eg,Qa4,Qn,Q0,L2.Qj,Option.map,if_true,Qai,yBl,Ql5,Bool.not_true,Qa0,yIf,Qc5,Qma,Qar,Qw]
 show Qa7 (cfn (k + 4)) ⟨1,1,Qha⟩ _ = _
 rw [Qaz rfl]
 show Qbr _ (exS _ Qha [.fz (Qr A)]) = _
 simp only [Qbh,Qic,Qaj,Qo,Qq,Qaf,Qd,Q6,yC1,Qt,yC2,Q2,Qv,Qac,Qy,Qas,Qab,e9,Qa4,Qn,Q0,L2.Qj,Option.map,if_true,Qa0,Qka,Qc4,Qa5,Qh3,Qbg,en,yBi,Qbd,Qaa,cont,Out.opt,ub4,et,Q1d,Qai,yBl,Ql5,Bool.not_false,Qcc,Qan,Qa1,Qat,Qar,Qw]
open PySem L2
noncomputable def unl (n a:Nat):List Int:=(List.range n).map fun j=>if j = a then 1 else 0
noncomputable def uni (n:Nat):Tb:=(List.range n).map (unl n)
theorem Qsq (k:Nat) {n a:Nat} (h4:n ≤ 4):cfn (k + 1) 23 [.fz (.int n),.fz (.int a)] = .ok (.fz (Qi (unl n a))) [.non,.non]:=by
 have c:n ≤ 100000:=by omega
 have hw:evW (cfn k) (.rng1 (.var 0)) [.fz (.int n),.fz (.int a)] = .ok (Q5 0 n,none) [.fz (.int n),.fz (.int a)]:=by
  simp only [Qdh,Qq,Qaf,Qd,Q6,Qmc c]
 have hcomp:evE (cfn k) (.comp (.rng1 (.var 0)) [none,some 1] (.nm 0) .nil (.bi .int (.cons (.cmp .eq (.var 0) (.var 1)) .nil))) [.fz (.int n),.fz (.int a)] = .ok (.ow (.lst ((Q5 0 n).map fun x=>T.int (if jOf x = a then 1 else 0)))) [.fz (.int n),.fz (.int a)] :=
  Qbf (rest:=[.fz (.int a)]) hw rfl rfl rfl (fun x hx=>by
   unfold Q5 at hx
   obtain ⟨j,hj,rfl⟩:=List.mem_map.mp hx
   refine ⟨.fz (.int (if j = a then 1 else 0)),?_,by rw [Qmq]; rfl⟩
   by_cases hja:j = a
   ·subst hja
    simp only [Int.zero_add,Qbg,Qo,Qb8,Qq,Qaf,Qd,Q6,Qb1,Qe,Qb0,Qbz,cont,Qby,uc1,Qcl,decide_true,yC1,Qt,yC2,yBi,Qbd,Qaa,Out.opt,ub8,if_true]
   ·have c1:¬ ((0:Int) + (j:Int) = (a:Int)):=by omega
    simp only [Qbg,Qo,Qb8,Qq,Qaf,Qd,Q6,Qb1,Qe,Qb0,Qbz,cont,Qby,uc1,Qcl,c1,decide_false,yC1,Qt,yC2,yBi,Qbd,Qaa,Out.opt,ub8,Bool.false_eq_true,if_false,hja]) (by rw [Q8]; omega)
 rw [Qqn (f:=fun j=>T.int (if j = a then 1 else 0))] at hcomp
 show Qa7 (cfn k) ⟨2,2,Qhc⟩ _ = _
 rw [Qaz rfl]
 show Qbr _ (exS _ Qhc [.fz (.int n),.fz (.int a)]) = _
 simp only [Qa5,Qbg,Qo,hcomp,Q6,yC1,Qt,yC2,yBi,Qbd,Qaa,cont,Out.opt,ub9,Qa0,Qcc,Qan,Qa1,Qat,Qar,Qw,Option.map]
 unfold Qi unl
 rw [List.map_map]
 rfl
theorem Qqs (k:Nat) {n:Nat} (h4:n ≤ 4):cfn (k + 2) 24 [.fz (.int n)] = .ok (.ow (.lst ((uni n).map Qi))) [.non]:=by
 have c:n ≤ 100000:=by omega
 have hw:evW (cfn (k + 1)) (.rng1 (.var 0)) [.fz (.int n)] = .ok (Q5 0 n,none) [.fz (.int n)]:=by
  simp only [Qdh,Qq,Qaf,Qd,Q6,Qmc c]
 have hcomp:evE (cfn (k + 1)) (.comp (.rng1 (.var 0)) [none,some 0] (.nm 0) .nil (.call 23 (.cons (.var 1) (.cons (.var 0) .nil)))) [.fz (.int n)] = .ok (.ow (.lst ((Q5 0 n).map fun x=>Qi (unl n (jOf x))))) [.fz (.int n)] :=
  Qbf (rest:=[.fz (.int n)]) hw rfl rfl rfl (fun x hx=>by
   unfold Q5 at hx
   obtain ⟨j,hj,rfl⟩:=List.mem_map.mp hx
   have e:=Qsq k (a:=j) h4
   refine ⟨.fz (Qi (unl n j)),?_,by rw [Qmq]; rfl⟩
   simp only [Int.zero_add,Qaj,Qo,Qq,Qaf,Qe,Qd,Q6,yC1,Qt,yC2,Q2,Qv,Qac,Qy,Qas,Qab,e,Qa4,Qn,Q0,L2.Qj,Option.map,if_true]) (by rw [Q8]; omega)
 rw [Qqn (f:=fun j=>Qi (unl n j))] at hcomp
 show Qa7 (cfn (k + 1)) ⟨1,1,Qf9⟩ _ = _
 rw [Qaz rfl]
 show Qbr _ (exS _ Qf9 [.fz (.int n)]) = _
 simp only [Qa5,hcomp,Qa0,Qcc,Qan,Qa1,Qat,Qar,Qw,Option.map]
 unfold uni
 rw [List.map_map]
 rfl
theorem Qsr (f:Nat → Int) (a:Nat):∀ n,((List.range n).map fun k=>(if k = a then (1:Int) else 0) * f k).sum = if a < n then f a else 0
 | 0=>rfl
 | n + 1=>by
  rw [List.range_succ,List.map_append,List.sum_append,Qsr f a n,List.map_cons,List.map_nil,List.sum_cons,List.sum_nil,Int.add_zero]
  by_cases h:n = a
  ·subst h
   rw [if_neg (Nat.lt_irrefl _),if_pos rfl,if_pos (Nat.lt_succ_self _)]
   omega
  ·rw [if_neg h]
   by_cases h2:a < n
   ·rw [if_pos h2,if_pos (by omega)]
    omega
   ·rw [if_neg h2,if_neg (by omega)]
    omega
theorem Qaa6 {n a k:Nat} (h:k < n):ge (unl n a) k = if k = a then 1 else 0:=by
 unfold ge unl
 rw [List.getD_eq_getElem?_getD,List.getElem?_map,List.getElem?_range h]
 rfl
theorem Qwa (n a:Nat):(unl n a).length = n:=by unfold unl; rw [List.length_map,List.length_range]
theorem Qwb (n:Nat):Shp n (uni n):=by
 refine ⟨by unfold uni; rw [List.length_map,List.length_range],fun r hr=>?_⟩
 unfold uni at hr
 obtain ⟨a,_,rfl⟩:=List.mem_map.mp hr
 exact Qwa n a
theorem Qaa7 {r:List Int} {n:Nat} (h:r.length = n):((List.range n).map fun j=>ge r j) = r:=by
 apply List.ext_getElem?
 intro i
 rw [List.getElem?_map]
 by_cases hi:i < n
 ·rw [List.getElem?_range hi,List.getElem?_eq_getElem (by omega)]
  show some (ge r i) = _
  unfold ge
  rw [List.getD_eq_getElem?_getD,List.getElem?_eq_getElem (by omega),Option.getD_some]
 ·rw [List.getElem?_eq_none (by rw [List.length_range]; omega),List.getElem?_eq_none (by omega)]
  rfl
theorem Q13 {n:Nat} {M:Tb} (h:Shp n M):tms (uni n) M = M:=by
 apply List.ext_getElem?
 intro a
 unfold tms uni
 rw [List.map_map,List.getElem?_map]
 have hl:=h.len
 by_cases ha:a < n
 ·have ha':a < M.length:=by omega
  rw [List.getElem?_range ha,List.getElem?_eq_getElem ha']
  show some (rb M (unl n a)) = some M[a]
  congr 1
  unfold rb
  rw [hl]
  conv=>rhs; rw [← Qaa7 (h.row M[a] (List.getElem_mem ha'))]
  apply List.map_congr_left
  intro j _
  unfold Qgf
  rw [Qwa]
  have e:((List.range n).map fun k=>ge (unl n a) k * ge (col M j) k) = (List.range n).map fun k=>(if k = a then (1:Int) else 0) * ge (col M j) k:=by
   apply List.map_congr_left
   intro k hk
   rw [Qaa6 (List.mem_range.mp hk)]
  rw [e,Qsr,if_pos ha]
  unfold ge col
  rw [List.getD_eq_getElem?_getD,List.getElem?_map,List.getElem?_eq_getElem ha',Option.map_some,Option.getD_some]
  rfl
 ·rw [List.getElem?_eq_none (by rw [List.length_range]; omega),List.getElem?_eq_none (by omega)]
  rfl
noncomputable def pwr (M A:Tb):Nat → Tb
 | 0=>A
 | i + 1=>tms (pwr M A i) M
theorem Qgh {n:Nat} {M A:Tb} (hA:Shp n A) (h:Shp n M):∀ i,Shp n (pwr M A i)
 | 0=>hA
 | i + 1=>Qqo (Qgh hA h i) h
theorem Qss {n:Nat} {M:Tb} (h:Shp n M):∀ i,pwr M (uni n) (i + 1) = pwr M M i
 | 0=>Q13 h
 | i + 1=>by
  show tms (pwr M (uni n) (i + 1)) M = tms (pwr M M i) M
  rw [Qss h i]
theorem Qaa8 (n:Nat):Bn 1 (uni n):=fun r hr x hx=>by
 unfold uni at hr
 obtain ⟨a,_,rfl⟩:=List.mem_map.mp hr
 unfold unl at hx
 obtain ⟨j,_,rfl⟩:=List.mem_map.mp hx
 split <;> decide
theorem Qun {n:Nat} {M A:Tb} (h4:n ≤ 4) (hA:Shp n A) (h:Shp n M) {a:Nat} (bA:Bn a A) (bM:Bn 20 M):∀ i,Bn (a + 22 * i) (pwr M A i)
 | 0=>bA
 | i + 1=>by
  have:=Q12 (Qgh hA h i) h4 (Qun h4 hA h bA bM i) bM
  rw [show a + 22 * i + 20 + 2 = a + 22 * (i + 1) by omega] at this
  exact this
theorem Bn.mono {a b:Nat} {M:Tb} (h:Bn a M) (hab:a ≤ b):Bn b M:=fun r hr x hx=>Nat.lt_of_lt_of_le (h r hr x hx) (Nat.pow_le_pow_right (by decide) hab)
theorem Q14 {M A:Tb} (hA:Nn A) (h:Nn M):∀ i,Nn (pwr M A i)
 | 0=>hA
 | i + 1=>Q1v (Q14 hA h i) h
theorem Qaa9 {n:Nat} {M:Tb} (h:Sq n M) (h4:n ≤ 4) (b:Bn 20 M) {i:Nat} (hi:i ≤ 3):Sq n (pwr M M i):=by
 have s:=Qgh h.shp h.shp i
 exact ⟨s.len,s.row,Q14 h.pos h.pos i,(Qun h4 h.shp h.shp b b i).mono (by omega)⟩
theorem Q5h (k:Nat) {n:Nat} {M:Tb} (h:Sq n M) (h4:n ≤ 4) (b20:Bn 20 M) {o:Nat} (h6:o ≤ 3):cfn (k + 4) 26 [.fz (Qr M),.fz (.int (o + 1))] = .ok (.fz (Qr (pwr M M o))) [.non,.non]:=by
 have hl:=h.len
 have e1:=Qqs (k + 1) (n:=n) h4
 obtain ⟨ρ',e,t3,_,rfl⟩:=Qc3 (fun i ρ=>∃ s:Slot,Qcj s = true ∧ ρ = [.fz (Qr M),.fz (.int (o + 1)),.fz (Qr (pwr M (uni n) i)),s]) (tg:=.nm 3) (b:=exS (cfn (k + 3)) (.setF 2 (.call 20 (.cons (.var 2) (.cons (.var 0) .nil))))) (xs:=Q5 0 (o + 1)) (n:=0) (ρ:=[.fz (Qr M),.fz (.int (o + 1)),.fz (Qr (uni n)),.un]) ⟨.un,rfl,rfl⟩ (by
  rintro i x ρ hx ⟨s,os,rfl⟩
  have hi:i < o + 1:=by have:=(List.getElem?_eq_some_iff.mp hx).1; rwa [Q8] at this
  have e:=Qv8 k (Qgh (Qwb n) h.shp (0 + i)) (Qun h4 (Qwb n) h.shp (Qaa8 n) b20 (0 + i)) (by omega) h h4
  refine ⟨[.fz (Qr M),.fz (.int (o + 1)),.fz (Qr (pwr M (uni n) (0 + i))),.fz x],_,(by cases s <;> first | rfl | cases os),.inl ?_,.fz x,rfl,rfl⟩
  simp only [Qbq,Qaj,Qo,Qq,Qaf,Qe,Qd,Q6,yC1,Qt,yC2,Q2,Qv,Qac,Qy,Qas,Qab,e,Qa4,Qn,Q0,L2.Qj,Option.map,if_true,Qa0,Qcv,Qbp,frz,Qau,Qbs,List.length_cons,List.length_nil,Nat.reduceAdd,Nat.reduceLT,List.set,pwr])
 rw [Q8,Nat.zero_add,Qss h.shp] at e
 have c:(0:Int) ≤ (o:Int) + 1:=by omega
 have c':(o:Int) + 1 ≤ 100000:=by omega
 have ct:((o:Int) + 1).toNat = o + 1:=by omega
 show Qa7 (cfn (k + 3)) ⟨2,4,Qpz⟩ _ = _
 rw [Qaz rfl]
 show Qbr _ (exS _ Qpz [.fz (Qr M),.fz (.int (o + 1)),.un,.un]) = _
 simp only [Qbh,Qbq,Qbg,Qo,Qaj,Qq,Qaf,Qd,Q6,yC1,Qt,yC2,yBi,Qbd,Qaa,cont,Out.opt,ub2,List.length_map,hl,Q2,Qv,Qac,Qy,Qas,Qab,e1,Qa4,Qn,Q0,L2.Qj,Option.map,if_true,ub9,Qa0,Qcv,Qbp,frz,Qau,Qbs,List.length_cons,List.length_nil,Nat.reduceAdd,Nat.reduceLT,Qe,List.set,Qc4,Qg2,Qdh,rngI c c',ct,Qkj,e,Qc6,Qa5,Qcc,Qan,Qa1,Qat,Qar,Qw]
theorem Q15 (k:Nat) {n:Nat} {M:Tb} (h:Sq n M) (h4:n ≤ 4) (b20:Bn 20 M) {o:Nat} (h1:1 ≤ o) (h6:o ≤ 4):cfn (k + 4) 26 [.fz (Qr M),.fz (.int o)] = .ok (.fz (Qr (pwr M M (o - 1)))) [.non,.non]:=by
 obtain ⟨m,rfl⟩:∃ m,o = m + 1:=⟨o - 1,by omega⟩
 exact Q5h k h h4 b20 (show m ≤ 3 by omega)
noncomputable def pwM (Ms:List Tb) (a:Int) (o:Nat):Tb:=pwr (Ms.getD a.toNat []) (Ms.getD a.toNat []) (o - 1)
noncomputable def pwd (Ms:List Tb) (a:Int) (o:Nat):List T:=Qdz (Ms.map Qr) none (some a) ++ [Qr (pwM Ms a o)] ++ Qdz (Ms.map Qr) (some (a + 1)) none
theorem Q16 {a b:List T} (h:a.length + b.length ≤ 100000):opB .add (.lst a) (.lst b) = some (.ow (.lst (a ++ b))):=if_pos h
theorem Qxy (k:Nat) {n:Nat} {Ms:List Tb} (h:Tabs n Ms) {a:Int} (a0:0 ≤ a) (a1:a < (Ms.length:Int)) (b20:Bn 20 (Ms.getD a.toNat [])) {o:Nat} (h1:1 ≤ o) (h6:o ≤ 4):cfn (k + 6) 27 [.fz (Qh Ms),.fz (.int a),.fz (.int o)] = .ok (.ow (.lst (pwd Ms a o))) [.non,.non,.non]:=by
 obtain ⟨ea,sq⟩:=Qh4 h a0 a1
 have e1:=Qb4 k h
 have e2:=Qjq (k + 2) a0 a1
 have e3:=Q15 (k + 1) sq h.n4 b20 h1 h6
 have m4:=h.m4
 have l1:=Qiw (Ms.map Qr) none (some a)
 have l2:=Qiw (Ms.map Qr) (some (a + 1)) none
 rw [List.length_map] at l1 l2
 have y0:(1:Nat) ≤ 100000:=by decide
 have y1:(Qdz (Ms.map Qr) none (some a)).length + 1 ≤ 100000:=by omega
 have y2:(Qdz (Ms.map Qr) none (some a) ++ [Qr (pwM Ms a o)]).length + (Qdz (Ms.map Qr) (some (a + 1)) none).length ≤ 100000:=by rw [List.length_append,List.length_singleton]; omega
 unfold pwM at y2
 have s1:∀ lo hi,Qxd (Qh Ms) lo hi = some (.ow (.lst (Qdz (Ms.map Qr) lo hi))):=fun _ _=>rfl
 show Qa7 (cfn (k + 5)) ⟨3,3,Qj0⟩ _ = _
 rw [Qaz rfl]
 show Qbr _ (exS _ Qj0 [.fz (Qh Ms),.fz (.int a),.fz (.int o)]) = _
 simp only [Qbh,Qic,Qaj,Qo,Qq,Qaf,Qd,Q6,yC1,Qt,yC2,Q2,Qv,Qac,Qy,Qas,Qab,e1,Qa4,Qn,Q0,L2.Qj,Option.map,if_true,Qa0,Qka,Qc4,Qe,Qbg,yBi,Qbd,Qaa,cont,Out.opt,ub1,List.length_map,e2,Qa5,Qet,Q0q,Q4u,Q4t,Qvp,Qlg,Q4s,Qvo,Q4r,s1,Qek,Ql4,Qje,Qib,Qia,Qh9,Qh8,ui1,ea,e3,Qrw,Qdv,frz,List.length_cons,List.length_nil,Nat.reduceAdd,y0,Qej,Qei,Q16 (b:=[_]) y1,Qcu,uo1,Q16 y2,Qcc,Qan,Qa1,Qat,Qar,Qw,pwd,pwM]
noncomputable def lng (a:Int) (o:Nat) (ps:List Int):List Int:=ps.flatMap fun p=>List.replicate (if p = a then o else 1) p
theorem Qwc {p:Int} {o:Nat} (h1:1 ≤ o) (h2:o ≤ 1000):opB .mul (.tup [.int p]) (.int (o:Int)) = some (.fz (.tup ((List.replicate o p).map T.int))):=by
 show (if [T.int p].length * (o:Int).toNat ≤ 100000 ∧ 1 ≤ (o:Int) ∧ (o:Int).natAbs ≤ 100000 ∧ [T.int p] ≠ [] then some (PV.fz (.tup (List.replicate (o:Int).toNat [T.int p]).flatten)) else none) = _
 rw [if_pos ⟨by rw [List.length_singleton,Int.toNat_natCast]; omega,by omega,by omega,by simp⟩,Int.toNat_natCast]
 congr 3
 rw [List.map_replicate]
 exact List.flatten_replicate_singleton
theorem Qwd {a:Int} {o:Nat} (h6:o ≤ 6):∀ ps:List Int,(lng a o ps).length ≤ 6 * ps.length
 | []=>Nat.zero_le _
 | p :: ps=>by
  have:=Qwd (a:=a) h6 ps
  unfold lng at this ⊢
  rw [List.flatMap_cons,List.length_append,List.length_replicate,List.length_cons]
  split <;> omega
theorem Q17 {a:Int} {o:Nat} {ps:List Int} {i:Nat} {p:Int} (h:ps[i]? = some p):lng a o (ps.take (i + 1)) = lng a o (ps.take i) ++ List.replicate (if p = a then o else 1) p:=by
 unfold lng
 rw [List.take_add_one,h,List.flatMap_append]
 simp
theorem Q18 {a:Int} {o:Nat} (h6:o ≤ 6) {tg:Tg} {b:En → SO} {env:List Int → Slot → En} (hset:∀ acc s x,Qcj s = true → Qfc tg x (env acc s) = some (env acc (.fz x)))
  (hb:∀ acc p,acc.length ≤ 900 → b (env acc (.fz (.int p))) = .nx (env (acc ++ List.replicate (if p = a then o else 1) p) (.fz (.int p)))) {ps:List Int} (hz:ps.length ≤ 100) {s:Slot} (os:Qcj s = true) :
  ∃ s',Qcj s' = true ∧ Qdf tg b (ps.map T.int) (env [] s) = .nx (env (lng a o ps) s'):=by
 obtain ⟨ρ',e,t,ot,rfl⟩:=Qc3 (fun i ρ=>∃ s:Slot,Qcj s = true ∧ ρ = env (lng a o (ps.take i)) s) (tg:=tg) (b:=b) (xs:=ps.map T.int) (n:=0) (ρ:=env [] s) ⟨s,os,rfl⟩ (by
  rintro i x ρ hx ⟨s,os,rfl⟩
  rw [Nat.zero_add]
  rw [List.getElem?_map] at hx
  cases hp:ps[i]? with
  | none=>rw [hp] at hx; cases hx
  | some p =>
   rw [hp] at hx
   cases hx
   have l:=Qwd (a:=a) h6 (ps.take i)
   have l2:(ps.take i).length ≤ ps.length:=by rw [List.length_take]; omega
   refine ⟨_,_,hset _ _ _ os,.inl (hb _ p (by omega)),.fz (.int p),rfl,?_⟩
   rw [Q17 hp])
 rw [Nat.zero_add,List.length_map,List.take_length] at e
 exact ⟨t,ot,e⟩
theorem Qst (k:Nat) {n:Nat} {Ms:List Tb} (h:Tabs n Ms) {a:Int} (a0:0 ≤ a) (a1:a < (Ms.length:Int)) {o:Nat} (h1:1 ≤ o) (h6:o ≤ 6) {ps:List Int} (hp:InR Ms.length ps) (p1:1 ≤ ps.length) (p2:ps.length ≤ 100):cfn (k + 6) 28 [.fz (Qh Ms),.fz (.int a),.fz (.int o),.fz (Qi ps)] = .ok (.fz (Qi (lng a o ps))) [.non,.non,.non,.non]:=by
 have e1:=Qb4 k h
 have e2:=Qjq (k + 2) a0 a1
 have e3:=Qmu k hp p1 (by omega)
 obtain ⟨s',_,e4⟩:=Q18 (a:=a) h6 (tg:=.nm 5) (b:=exS (cfn (k + 5)) (.setF 4 (.bin .add (.var 4) (.bin .mul (.tup (.cons (.var 5) .nil)) (.ite (.cmp .eq (.var 5) (.var 1)) (.var 2) (.int 1)))))) (env:=fun acc s=>[.fz (Qh Ms),.fz (.int a),.fz (.int o),.fz (Qi ps),.fz (Qi acc),s])
  (fun acc s x os=>by cases s <;> first | rfl | cases os) (fun acc p hz=>by
   have em:∀ q:List Int,Qi (acc ++ q) = .tup (acc.map T.int ++ q.map T.int):=fun q=>by unfold Qi; rw [List.map_append]
   by_cases hpa:p = a
   ·have ro:=Qwc (p:=p) h1 (by omega)
    have y1:acc.length + o ≤ 100000:=by omega
    subst hpa
    simp only [Qbq,Qet,Qq,Qaf,Qe,Qd,Q6,Qek,Qoo,Qo,yC1,Qt,yC2,Qts,Qdv,frz,List.length_cons,List.length_nil,Nat.reduceAdd,Nat.reduceLeDiff,if_true,Q6l,Qb8,Qb1,Qb0,Qbz,cont,Qby,uc1,Qcl,decide_true,Qai,yBl,yIte,Qej,Qei,Out.opt,ro,uo2,List.length_map,List.length_replicate,y1,Qa0,Qcv,Qbp,Qau,Qbs,Nat.reduceLT,List.set,em]
   ·have y1:acc.length + 1 ≤ 100000:=by omega
    have r1':opB .mul (.tup [.int p]) (.int 1) = some (.fz (.tup ((List.replicate 1 p).map T.int))):=Qwc (p:=p) (o:=1) (by decide) (by decide)
    simp only [Qbq,Qet,Qq,Qaf,Qe,Qd,Q6,Qek,Qoo,Qo,yC1,Qt,yC2,Qts,Qdv,frz,List.length_cons,List.length_nil,Nat.reduceAdd,Nat.reduceLeDiff,if_true,Q6l,Qb8,Qb1,Qb0,Qbz,cont,Qby,uc1,Qcl,hpa,decide_false,Qai,yBl,yIte,Qcu,Qej,Qei,Out.opt,r1',uo2,List.length_map,List.length_replicate,y1,Qa0,Qcv,Qbp,Qau,Qbs,Nat.reduceLT,List.set,if_false,em]) p2 (s:=.un) rfl
 have y0:(0:Nat) ≤ 100000:=by decide
 have e4':Qdf (.nm 5) (exS (cfn (k + 5)) (.setF 4 (.bin .add (.var 4) (.bin .mul (.tup (.cons (.var 5) .nil)) (.ite (.cmp .eq (.var 5) (.var 1)) (.var 2) (.int 1)))))) (ps.map T.int) [.fz (Qh Ms),.fz (.int a),.fz (.int o),.fz (Qi ps),.fz (.tup []),.un] = .nx [.fz (Qh Ms),.fz (.int a),.fz (.int o),.fz (Qi ps),.fz (Qi (lng a o ps)),s']:=e4
 show Qa7 (cfn (k + 5)) ⟨4,6,Qml⟩ _ = _
 rw [Qaz rfl]
 show Qbr _ (exS _ Qml [.fz (Qh Ms),.fz (.int a),.fz (.int o),.fz (Qi ps),.un,.un]) = _
 simp only [Qbh,Qic,Qaj,Qo,Qq,Qaf,Qd,Q6,yC1,Qt,yC2,Q2,Qv,Qac,Qy,Qas,Qab,e1,Qa4,Qn,Q0,L2.Qj,Option.map,if_true,Qa0,Qka,Qc4,Qe,Qbg,yBi,Qbd,Qaa,cont,Out.opt,ub1,List.length_map,e2,e3,Qbq,Qoo,Qts,Qdv,List.length_nil,y0,Qcv,Qbp,frz,Qau,Qbs,List.length_cons,Nat.reduceAdd,Nat.reduceLT,List.set,Qg2,Qop,Qtt,Ql8,Ql7,Qgi,Qjw,Qkj,e4',Qc6,Qa5,Qcc,Qan,Qa1,Qat,Qar,Qw]
theorem tb_0 {n:Nat} {Ms:List Tb} (h:Tabs n Ms):atI (Ms.map Qr) 0 = some (Qr (Ms.getD 0 [])) ∧ (Ms.getD 0 []).length = n:=by
 obtain ⟨a,q⟩:=Qh4 h (w:=0) (Int.le_refl 0) (by have:=h.m1; omega)
 exact ⟨a,q.len⟩
section
variable (k:Nat) {n m:Nat} {A B:List Tb}
theorem Q19 (hA:Tabs n A) (hB:Tabs m B) (hl:n = m) (hs:A.length + B.length ≤ 4):cfn (k + 6) 25 [.fz (Qh A),.fz (Qh B)] = .ok (.ow (.lst (A.map Qr ++ B.map Qr))) [.non,.non]:=by
 have e1:=Qb4 k hA
 have e2:=Qb4 k hB
 obtain ⟨a0,l0⟩:=tb_0 hA
 obtain ⟨b0,m0⟩:=tb_0 hB
 have c1:(n:Int) = (m:Int):=by omega
 have c2:¬ (4:Int) < (A.length:Int) + (B.length:Int):=by omega
 have ca:opB .add (Qh A) (Qh B) = some (.ow (.lst (A.map Qr ++ B.map Qr))):=Q16 (by rw [List.length_map,List.length_map]; omega)
 show Qa7 (cfn (k + 5)) ⟨2,3,Qmj⟩ _ = _
 rw [Qaz rfl]
 show Qbr _ (exS _ Qmj [.fz (Qh A),.fz (Qh B),.un]) = _
 simp only [Qbh,Qic,Qaj,Qo,Qq,Qaf,Qd,Q6,yC1,Qt,yC2,Q2,Qv,Qac,Qy,Qas,Qab,e1,Qa4,Qn,Q0,L2.Qj,Option.map,if_true,Qa0,Qka,Qc4,Qe,e2,Qck,Qb8,Qbg,Qje,Qib,Qcu,Qia,Qh9,cont,Qh8,ui1,a0,yBi,Qbd,Qaa,Out.opt,ub2,List.length_map,l0,c1,Qb1,b0,m0,Qb0,Qbz,Qby,uc2,Qcl,decide_true,Bool.not_true,Qai,yBl,yIf,Qc5,Qbq,Qet,ub1,Qek,Qej,Qei,uo1,Qcv,Qbp,frz,Qau,Qbs,List.length_cons,List.length_nil,Nat.reduceAdd,Nat.reduceLT,List.set,uc5,c2,decide_false,Qa5,ca,Qcc,Qan,Qa1,Qat,Qar,Qw]
end
open PySem L2
noncomputable def Sm (n:Nat) (f:Nat → Int):Int:=((List.range n).map f).sum
theorem Qdp (n:Nat) (f:Nat → Int):Sm (n + 1) f = Sm n f + f n:=by
 unfold Sm
 rw [List.range_succ,List.map_append,List.sum_append]
 simp
theorem Qhg {n:Nat} {f g:Nat → Int} (h:∀ i,i < n → f i = g i):Sm n f = Sm n g:=by
 unfold Sm
 rw [List.map_congr_left fun i hi=>h i (List.mem_range.mp hi)]
theorem Q2a (f g:Nat → Int):∀ n,Sm n (fun i=>f i + g i) = Sm n f + Sm n g
 | 0=>rfl
 | n + 1=>by
  rw [Qdp,Qdp,Qdp,Q2a f g n]
  omega
theorem Qwe (f:Nat → Int) (c:Int):∀ n,Sm n f * c = Sm n fun i=>f i * c
 | 0=>by show (0:Int) * c = 0; rw [Int.zero_mul]
 | n + 1=>by rw [Qdp,Qdp,Int.add_mul,Qwe f c n]
theorem Qwf (f:Nat → Int) (c:Int):∀ n,c * Sm n f = Sm n fun i=>c * f i
 | 0=>by show c * (0:Int) = 0; rw [Int.mul_zero]
 | n + 1=>by rw [Qdp,Qdp,Int.mul_add,Qwf f c n]
theorem Qwg:∀ n,Sm n (fun _=>0) = 0
 | 0=>rfl
 | n + 1=>by rw [Qdp,Qwg n]; rfl
theorem Qwh (f:Nat → Nat → Int) (m:Nat):∀ n,Sm n (fun i=>Sm m (fun j=>f i j)) = Sm m (fun j=>Sm n (fun i=>f i j))
 | 0=>(Qwg m).symm
 | n + 1=>by
  rw [Qdp,Qwh f m n,← Q2a]
  exact Qhg fun j _=>(Qdp n fun i=>f i j).symm
theorem Qaba (M:Tb) (j l:Nat):ge (col M j) l = ge (M.getD l []) j:=by
 unfold col
 conv=>lhs; unfold ge
 rw [List.getD_eq_getElem?_getD,List.getD_eq_getElem?_getD,List.getElem?_map]
 cases M[l]? <;> rfl
theorem Q2b {n:Nat} {M:Tb} (h:Shp n M) {l:Nat} (hl:l < n):(M.getD l []).length = n:=by
 have hl':l < M.length:=by rw [h.len]; exact hl
 rw [List.getD_eq_getElem?_getD,List.getElem?_eq_getElem hl',Option.getD_some]
 exact h.row _ (List.getElem_mem hl')
theorem Q2c {n:Nat} {A M:Tb} (h:Shp n A) {l:Nat} (hl:l < n):(tms A M).getD l [] = rb M (A.getD l []):=by
 have hl':l < A.length:=by rw [h.len]; exact hl
 unfold tms
 rw [List.getD_eq_getElem?_getD,List.getD_eq_getElem?_getD,List.getElem?_map,List.getElem?_eq_getElem hl']
 rfl
theorem Qqt {n:Nat} {r:List Int} (h:r.length = n) (M:Tb) (j:Nat):Qgf r (col M j) = Sm n fun l=>ge r l * ge (M.getD l []) j:=by
 unfold Qgf
 rw [h]
 exact Qhg fun l _=>by rw [Qaba]
theorem Q2d {n:Nat} {B C:Tb} (hB:Shp n B) (hC:Shp n C) {r:List Int} (hr:r.length = n):rb C (rb B r) = rb (tms B C) r:=by
 have lt:=(Qqo hB hC).len
 conv=>lhs; unfold rb
 conv=>rhs; unfold rb
 rw [hC.len,lt]
 refine List.map_congr_left fun j hj=>?_
 have hj:=List.mem_range.mp hj
 show Qgf (rb B r) (col C j) = Qgf r (col (tms B C) j)
 rw [Qqt (n:=n) (by rw [Q1q,hB.len]),Qqt hr]
 have e1:(Sm n fun k=>ge (rb B r) k * ge (C.getD k []) j) = Sm n fun k=>Sm n fun l=>ge r l * ge (B.getD l []) k * ge (C.getD k []) j:=Qhg fun k hk=>by
  rw [Qv3 B r (by rw [hB.len]; exact hk),Qqt hr,Qwe]
 have e2:(Sm n fun l=>ge r l * ge ((tms B C).getD l []) j) = Sm n fun l=>Sm n fun k=>ge r l * ge (B.getD l []) k * ge (C.getD k []) j:=Qhg fun l hl=>by
  rw [Q2c hB hl,Qv3 C _ (by rw [hC.len]; exact hj),Qqt (Q2b hB hl),Qwf]
  exact Qhg fun k _=>(Int.mul_assoc _ _ _).symm
 rw [e1,e2,Qwh]
theorem Qxz {n:Nat} {A B C:Tb} (hA:Shp n A) (hB:Shp n B) (hC:Shp n C):tms (tms A B) C = tms A (tms B C):=by
 unfold tms
 rw [List.map_map]
 refine List.map_congr_left fun r hr=>?_
 show rb C (rb B r) = _
 exact Q2d hB hC (hA.row r hr)
theorem foldl_rep (Ms:List Tb) (p:Int) (A:Tb):∀ i,(List.replicate i p).foldl (go Ms) A = pwr (Ms.getD p.toNat []) A i
 | 0=>rfl
 | i + 1=>by
  rw [List.replicate_succ',List.foldl_append,foldl_rep Ms p A i]
  rfl
theorem Qwi {n:Nat} {A M:Tb} (hA:Shp n A) (hM:Shp n M):∀ i,pwr M A (i + 1) = tms A (pwr M M i)
 | 0=>rfl
 | i + 1=>by
  show tms (pwr M A (i + 1)) M = tms A (tms (pwr M M i) M)
  rw [Qwi hA hM i,Qxz hA (Qgh hM hM i) hM]
noncomputable def ltr (Ms:List Tb) (a:Int) (o:Nat):List Tb:=Ms.set a.toNat (pwM Ms a o)
theorem Qjr (Ms:List Tb) (a:Int) (o:Nat):(ltr Ms a o).length = Ms.length:=List.length_set
theorem Qwj {Ms:List Tb} {a:Int} {o:Nat} (a0:0 ≤ a) (a1:a < (Ms.length:Int)) {p:Int} (p0:0 ≤ p):(ltr Ms a o).getD p.toNat [] = if p = a then pwM Ms a o else Ms.getD p.toNat []:=by
 unfold ltr
 rw [List.getD_eq_getElem?_getD,List.getElem?_set]
 by_cases h:p = a
 ·subst h
  rw [if_pos rfl,if_pos rfl,if_pos (by omega)]
  rfl
 ·rw [if_neg (by omega),if_neg h,List.getD_eq_getElem?_getD]
theorem Q2e {n:Nat} {Ms:List Tb} (h:Tabs n Ms) {a:Int} (a0:0 ≤ a) (a1:a < (Ms.length:Int)) (b20:Bn 20 (Ms.getD a.toNat [])) {o:Nat} (h4:o ≤ 4):Tabs n (ltr Ms a o):=by
 refine ⟨h.n1,h.n4,by rw [Qjr]; exact h.m1,by rw [Qjr]; exact h.m4,fun M hM=>?_⟩
 rcases List.mem_or_eq_of_mem_set hM with z | z
 ·exact h.sq M z
 ·rw [z]
  exact Qaa9 (Qh4 h a0 a1).2 h.n4 b20 (by omega)
theorem Qkd {n:Nat} {Ms:List Tb} (h:Tabs n Ms) {a:Int} (a0:0 ≤ a) (a1:a < (Ms.length:Int)) {o:Nat} (h1:1 ≤ o):∀ (ws:List Int) (A:Tb),InR Ms.length ws → Shp n A → (lng a o ws).foldl (go Ms) A = ws.foldl (go (ltr Ms a o)) A
 | [],A,_,_=>rfl
 | p :: ws,A,hw,hA=>by
  obtain ⟨p0,p1⟩:=hw p (.head _)
  obtain ⟨_,q⟩:=Qh4 h p0 p1
  have e:lng a o (p :: ws) = List.replicate (if p = a then o else 1) p ++ lng a o ws:=by unfold lng; rw [List.flatMap_cons]
  rw [e,List.foldl_append,foldl_rep,List.foldl_cons]
  have e2:pwr (Ms.getD p.toNat []) A (if p = a then o else 1) = go (ltr Ms a o) A p:=by
   unfold go
   rw [Qwj a0 a1 p0]
   by_cases hp:p = a
   ·subst hp
    rw [if_pos rfl,if_pos rfl]
    obtain ⟨i,rfl⟩:∃ i,o = i + 1:=⟨o - 1,by omega⟩
    exact Qwi hA q.shp i
   ·rw [if_neg hp,if_neg hp]
    rfl
  rw [e2]
  refine Qkd h a0 a1 h1 ws _ (fun x hx=>hw x (.tail _ hx)) ?_
  rw [← e2]
  exact Qgh hA q.shp _
theorem Qmv {n:Nat} {Ms:List Tb} (h:Tabs n Ms) {a:Int} (a0:0 ≤ a) (a1:a < (Ms.length:Int)) {o:Nat} (h1:1 ≤ o) {ws:List Int} (hne:ws ≠ []) (hw:InR Ms.length ws):wlk Ms (lng a o ws) = wlk (ltr Ms a o) ws:=by
 cases ws with
 | nil=>exact absurd rfl hne
 | cons p ws =>
  obtain ⟨p0,p1⟩:=hw p (.head _)
  obtain ⟨_,q⟩:=Qh4 h p0 p1
  have e:lng a o (p :: ws) = p :: (List.replicate ((if p = a then o else 1) - 1) p ++ lng a o ws):=by
   unfold lng
   rw [List.flatMap_cons]
   obtain ⟨i,hi⟩:∃ i,(if p = a then o else 1) = i + 1:=⟨(if p = a then o else 1) - 1,by split <;> omega⟩
   rw [hi,List.replicate_succ,List.cons_append,Nat.add_sub_cancel]
  rw [e]
  show (List.replicate ((if p = a then o else 1) - 1) p ++ lng a o ws).foldl (go Ms) (Ms.getD p.toNat []) = ws.foldl (go (ltr Ms a o)) ((ltr Ms a o).getD p.toNat [])
  rw [List.foldl_append,foldl_rep,Qwj a0 a1 p0]
  have e2:pwr (Ms.getD p.toNat []) (Ms.getD p.toNat []) ((if p = a then o else 1) - 1) = if p = a then pwM Ms a o else Ms.getD p.toNat []:=by
   by_cases hp:p = a
   ·subst hp
    rw [if_pos rfl,if_pos rfl]
    rfl
   ·rw [if_neg hp,if_neg hp]
    rfl
  rw [← e2]
  exact Qkd h a0 a1 h1 ws _ (fun x hx=>hw x (.tail _ hx)) (Qgh q.shp q.shp _)
theorem Qwk {m:Nat} {a:Int} {o:Nat} {ws:List Int} (hw:InR m ws):InR m (lng a o ws):=fun x hx=>by
 unfold lng at hx
 obtain ⟨p,hp,hx⟩:=List.mem_flatMap.mp hx
 rw [(List.mem_replicate.mp hx).2]
 exact hw p hp
theorem Qj4 {a:Int} {o:Nat} (h1:1 ≤ o):∀ ws:List Int,(lng a o ws).length = ws.length + (o - 1) * ws.count a
 | []=>by simp [lng]
 | p :: ws=>by
  have ih:=Qj4 (a:=a) h1 ws
  unfold lng at ih ⊢
  rw [List.flatMap_cons,List.length_append,List.length_replicate,ih,List.length_cons,List.count_cons]
  by_cases hp:p = a
  ·subst hp
   rw [if_pos rfl,beq_self_eq_true,if_pos rfl,Nat.mul_add,Nat.mul_one]
   omega
  ·rw [if_neg hp,beq_eq_false_iff_ne.mpr hp]
   simp
   omega
theorem Qmw {a:Int} {o:Nat} (h4:o ≤ 4):∀ ps:List Int,(lng a o ps).length ≤ 4 * ps.length
 | []=>Nat.zero_le _
 | p :: ps=>by
  have:=Qmw (a:=a) h4 ps
  unfold lng at this ⊢
  rw [List.flatMap_cons,List.length_append,List.length_replicate,List.length_cons]
  split <;> omega
theorem Q2f {a:Int} {o:Nat} (h1:1 ≤ o) {ws:List Int} (h:ws ≠ []):lng a o ws ≠ []:=fun z=>by
 have e:=Qj4 (a:=a) h1 ws
 rw [z] at e
 have:0 < ws.length:=List.length_pos_iff.mpr h
 have e:0 = ws.length + (o - 1) * ws.count a:=e
 omega
theorem Qov {Ms Ns:List Tb}:∀ (ws:List Int) (A:Tb),(∀ p ∈ ws,Ms.getD p.toNat [] = Ns.getD p.toNat []) → ws.foldl (go Ms) A = ws.foldl (go Ns) A
 | [],A,_=>rfl
 | p :: ws,A,h=>by
  rw [List.foldl_cons,List.foldl_cons]
  unfold go
  rw [h p (.head _)]
  exact Qov ws _ fun x hx=>h x (.tail _ hx)
theorem Q2g {Ms Ns:List Tb} {ws:List Int} (h:∀ p ∈ ws,Ms.getD p.toNat [] = Ns.getD p.toNat []):wlk Ms ws = wlk Ns ws:=by
 cases ws with
 | nil=>rfl
 | cons p ws =>
  show ws.foldl (go Ms) (Ms.getD p.toNat []) = ws.foldl (go Ns) (Ns.getD p.toNat [])
  rw [h p (.head _)]
  exact Qov ws _ fun x hx=>h x (.tail _ hx)
theorem Qmx {Ms Ns:List Tb} (f:Int → Int):∀ (ws:List Int) (A:Tb),(∀ p ∈ ws,Ms.getD (f p).toNat [] = Ns.getD p.toNat []) → (ws.map f).foldl (go Ms) A = ws.foldl (go Ns) A
 | [],A,_=>rfl
 | p :: ws,A,h=>by
  rw [List.map_cons,List.foldl_cons,List.foldl_cons]
  unfold go
  rw [h p (.head _)]
  exact Qmx f ws _ fun x hx=>h x (.tail _ hx)
theorem Qx0 {Ms Ns:List Tb} (f:Int → Int) {ws:List Int} (h:∀ p ∈ ws,Ms.getD (f p).toNat [] = Ns.getD p.toNat []):wlk Ms (ws.map f) = wlk Ns ws:=by
 cases ws with
 | nil=>rfl
 | cons p ws =>
  show (ws.map f).foldl (go Ms) (Ms.getD (f p).toNat []) = ws.foldl (go Ns) (Ns.getD p.toNat [])
  rw [h p (.head _)]
  exact Qmx f ws _ fun x hx=>h x (.tail _ hx)
theorem Q2h {Ms Ns:List Tb} {n:Nat} (f:Int → Int) (ws:List Int) (h:∀ p ∈ ws,Ms.getD (f p).toNat [] = Ns.getD p.toNat []):wa Ms n (ws.map f) = wa Ns n ws:=by
 have g:∀ (ws:List Int) (s:List Int),(∀ p ∈ ws,Ms.getD (f p).toNat [] = Ns.getD p.toNat []) → (ws.map f).foldl (fun s k=>stp Ms s k.toNat) s = ws.foldl (fun s k=>stp Ns s k.toNat) s:=fun ws=>by
  induction ws with
  | nil=>intro s _; rfl
  | cons p ws ih =>
   intro s h
   rw [List.map_cons,List.foldl_cons,List.foldl_cons]
   show (ws.map f).foldl (fun s k=>stp Ms s k.toNat) (sb (Ms.getD (f p).toNat []) s) = _
   rw [h p (.head _)]
   exact ih _ fun x hx=>h x (.tail _ hx)
 exact g ws _ h
theorem Qsu {A B:List Tb} {p:Int} (p0:0 ≤ p) (p1:p < (A.length:Int)):(A ++ B).getD p.toNat [] = A.getD p.toNat []:=by
 rw [List.getD_eq_getElem?_getD,List.getD_eq_getElem?_getD,List.getElem?_append_left (by omega)]
theorem Qsv {A B:List Tb} {p:Int} (p0:0 ≤ p):(A ++ B).getD (p + (A.length:Int)).toNat [] = B.getD p.toNat []:=by
 rw [List.getD_eq_getElem?_getD,List.getD_eq_getElem?_getD,List.getElem?_append_right (by omega),show (p + (A.length:Int)).toNat - A.length = p.toNat by omega]
theorem Q61 {Ms Ns:List Tb} {n:Nat} {o p:Option (List Int)} (h1:Sh Ms n o) (h2:Sh Ns n p) (f:Int → Int) (hf:∀ i,0 ≤ i → i < (Ns.length:Int) → (0 ≤ f i ∧ f i < (Ms.length:Int)) ∧ Ms.getD (f i).toNat [] = Ns.getD i.toNat []):match p with | none=>True | some w=>∃ v,o = some v ∧ v.length ≤ w.length:=by
 cases p with
 | none=>trivial
 | some w =>
  obtain ⟨_,w1,w2,_,_⟩:=h2
  have hi:InR Ms.length (w.map f):=fun x hx=>by
   obtain ⟨i,hi,rfl⟩:=List.mem_map.mp hx
   exact (hf i (w1 i hi).1 (w1 i hi).2).1
  have hw:wa Ms n (w.map f) = []:=by
   rw [Q2h f w fun i hi=>(hf i (w1 i hi).1 (w1 i hi).2).2]
   exact w2
  cases o with
  | none=>exact absurd hw (h1 _ hi)
  | some v =>
   refine ⟨v,rfl,?_⟩
   have:=h1.2.2.2.2 _ hi hw
   rwa [List.length_map] at this
open PySem L2
theorem Quo (M:Tb):eqO (Qr M) (Qr M) = some true:=by
 have ok:Qm 50 (Qr M) = true:=by
  show (M.map Qi).all (Qm 49) = true
  rw [List.all_eq_true]
  intro t ht
  obtain ⟨r,_,rfl⟩:=List.mem_map.mp ht
  show (r.map T.int).all (Qm 48) = true
  rw [List.all_eq_true]
  intro u hu
  obtain ⟨i,_,rfl⟩:=List.mem_map.mp hu
  rfl
 show (if _ then _ else _) = _
 rw [if_pos ⟨ok,ok⟩,Qk9 50 _ ok]
theorem Qmy (xs:List T) (k:Nat):Qdz xs none (some (k:Int)) = xs.take k:=by
 unfold Qdz
 rw [HT.sIx_none,HT.sIx_nat,List.drop_zero,Nat.sub_zero]
 by_cases h:k ≤ xs.length
 ·rw [Nat.min_eq_left h]
 ·rw [Nat.min_eq_right (by omega),List.take_length,List.take_of_length_le (by omega)]
theorem Tabs.cut {n:Nat} {A:List Tb} (h:Tabs n A) {k:Nat} (hk:1 ≤ k):Tabs n (A.take k):=by
 have m1:=h.m1
 have m4:=h.m4
 exact ⟨h.n1,h.n4,by rw [List.length_take]; omega,by rw [List.length_take]; omega,fun M hM=>h.sq M (List.mem_of_mem_take hM)⟩
theorem Q2i (xs:List T) (i:Nat):Qdz xs (some ((i:Int) + 1)) none = xs.drop (i + 1):=by
 unfold Qdz
 rw [show ((i:Int) + 1) = ((i + 1:Nat):Int) by omega,HT.sIx_none,HT.sIx_nat]
 by_cases h:i + 1 ≤ xs.length
 ·rw [Nat.min_eq_left h,List.take_of_length_le (by rw [List.length_drop]; omega)]
 ·rw [Nat.min_eq_right (by omega),List.drop_eq_nil_of_le (Nat.le_refl _),List.drop_eq_nil_of_le (by omega),List.take_nil]
theorem Qabb {Ms:List Tb} {a:Int} {o:Nat} (a0:0 ≤ a) (a1:a < (Ms.length:Int)):pwd Ms a o = (ltr Ms a o).map Qr:=by
 obtain ⟨i,rfl⟩:=Int.eq_ofNat_of_zero_le a0
 unfold pwd ltr
 rw [Qmy,Q2i,Int.toNat_natCast,List.set_eq_take_append_cons_drop,if_pos (by omega),List.map_append,List.map_cons,List.map_take,List.map_drop,List.append_assoc]
 rfl
noncomputable def mdl (l:Nat) (w:List Int):List Int:=w.map fun x=>x % (l:Int)
noncomputable def pls (l:Nat) (w:List Int):List Int:=w.map fun x=>x + (l:Int)
noncomputable def iv:T → Int
 | .int i=>i
 | _=>0
theorem Q2j {cf:CF} {i j:Nat} {ρ:En} {w:List Int} {Ms:List Tb} (hw:evW cf (.seq (.var i)) ρ = .ok (w.map T.int,none) ρ) (hcap:Qde [none,some j] ρ = .un :: [.fz (Qh Ms)]) (hap:Qb5 [none,some j] = true) (h1:1 ≤ Ms.length) (hz:w.length ≤ 1000) :
  evE cf (.comp (.seq (.var i)) [none,some j] (.nm 0) .nil (.bin .mod (.var 0) (.bi .len (.cons (.var 1) .nil)))) ρ = .ok (.ow (.lst ((mdl Ms.length w).map T.int))) ρ:=by
 have m0:(0:Int) < (Ms.length:Int):=by omega
 have em:(mdl Ms.length w).map T.int = (w.map T.int).map fun x=>T.int (iv x % (Ms.length:Int)):=by
  unfold mdl
  rw [List.map_map,List.map_map]
  rfl
 rw [em]
 exact Qbf (rest:=[.fz (Qh Ms)]) hw hcap rfl hap (fun x hx=>by
   obtain ⟨v,_,rfl⟩:=List.mem_map.mp hx
   refine ⟨.fz (.int (v % (Ms.length:Int))),?_,rfl⟩
   simp only [Qet,Qq,Qaf,Qd,Q6,Qek,Qbg,Qo,Qe,yC1,Qt,yC2,yBi,Qbd,Qaa,cont,Out.opt,ub1,List.length_map,Qej,Qei,uo8,m0,if_true]) (by rw [List.length_map]; omega)
theorem Qafc {cf:CF} {i j:Nat} {ρ:En} {w:List Int} {Ms:List Tb} (hw:evW cf (.seq (.var i)) ρ = .ok (w.map T.int,none) ρ) (hcap:Qde [none,some j] ρ = .un :: [.fz (Qh Ms)]) (hap:Qb5 [none,some j] = true) (hz:w.length ≤ 1000) :
  evE cf (.comp (.seq (.var i)) [none,some j] (.nm 0) .nil (.bin .add (.var 0) (.bi .len (.cons (.var 1) .nil)))) ρ = .ok (.ow (.lst ((pls Ms.length w).map T.int))) ρ:=by
 have em:(pls Ms.length w).map T.int = (w.map T.int).map fun x=>T.int (iv x + (Ms.length:Int)):=by
  unfold pls
  rw [List.map_map,List.map_map]
  rfl
 rw [em]
 exact Qbf (rest:=[.fz (Qh Ms)]) hw hcap rfl hap (fun x hx=>by
   obtain ⟨v,_,rfl⟩:=List.mem_map.mp hx
   refine ⟨.fz (.int (v + (Ms.length:Int))),?_,rfl⟩
   simp only [Qet,Qq,Qaf,Qd,Q6,Qek,Qbg,Qo,Qe,yC1,Qt,yC2,yBi,Qbd,Qaa,cont,Out.opt,ub1,List.length_map,Qej,Qei,uo1]) (by rw [List.length_map]; omega)
theorem Qqu {l:Nat} (h1:1 ≤ l) (w:List Int):InR l (mdl l w):=fun x hx=>by
 unfold mdl at hx
 obtain ⟨v,_,rfl⟩:=List.mem_map.mp hx
 exact ⟨Int.emod_nonneg _ (by omega),Int.emod_lt_of_pos _ (by omega)⟩
theorem Qmz {l:Nat} {w:List Int} (h:w ≠ []):mdl l w ≠ []:=fun z=>h (List.map_eq_nil_iff.mp z)
theorem Qhp (l:Nat) (w:List Int):(mdl l w).length = w.length:=List.length_map _
theorem Tabs.app {n:Nat} {A B:List Tb} (hA:Tabs n A) (hB:Tabs n B) (hs:A.length + B.length ≤ 4):Tabs n (A ++ B):=by
 have m1:=hA.m1
 refine ⟨hA.n1,hA.n4,by rw [List.length_append]; omega,by rw [List.length_append]; omega,fun M hM=>?_⟩
 rcases List.mem_append.mp hM with z | z
 ·exact hA.sq M z
 ·exact hB.sq M z
noncomputable abbrev jr_t:S:=.ite (.and (.cmp .isnn (.var 7) .non) (.or (.cmp .isn (.var 6) .non) (.cmp .gt (.bi .len (.cons (.var 6) .nil)) (.bi .len (.cons (.var 7) .nil))))) (.ret (.bl false)) .nil
theorem Qwl {cf:CF} {o p:Option (List Int)} (h:match p with | none=>True | some w=>∃ v,o = some v ∧ v.length ≤ w.length) {a b c d e f:Slot}:exS cf jr_t [a,b,c,d,e,f,.fz (Qkm o),.fz (Qkm p)] = .nx [a,b,c,d,e,f,.fz (Qkm o),.fz (Qkm p)]:=by
 cases p with
 | none=>simp only [Qkm,Qck,Ql6,Qb8,Qq,Qaf,Qe,Qd,Q6,Qb1,Qon,Qb0,Qbz,cont,Qby,uc8,Qeq,Bool.not_true,Qai,yBl,Qrx,Qa0,yIf,Qc5]
 | some w =>
  obtain ⟨v,rfl,hl⟩:=h
  have c1:¬ (w.length:Int) < (v.length:Int):=by omega
  simp only [Qkm,Qck,Ql6,Qb8,Qq,Qaf,Qe,Qd,Q6,Qb1,Qon,Qb0,Qbz,cont,Qby,uc8,Qeq,Bool.not_false,Qai,yBl,Qrx,Qry,uc7,yOr,Qbg,Qo,yC1,Qt,yC2,yBi,Qbd,Qaa,Out.opt,ub2,List.length_map,uc5,c1,decide_false,yB,Qa0,yIf,Qc5]
theorem Q5i {cf:CF} {o p q:Option (List Int)} (h1:match p with | none=>True | some w=>∃ v,o = some v ∧ v.length ≤ w.length) (h2:match q with | none=>True | some w=>∃ v,o = some v ∧ v.length ≤ w.length) {a b c d e f:Slot}:∃ s,Qdf (.nm 7) (exS cf jr_t) [Qkm p,Qkm q] [a,b,c,d,e,f,.fz (Qkm o),.un] = .nx [a,b,c,d,e,f,.fz (Qkm o),s]:=by
 refine ⟨.fz (Qkm q),?_⟩
 unfold Qdf
 simp only [Qfc,Qbs,Qd,Qe,List.length_cons,List.length_nil,Nat.reduceAdd,Nat.reduceLT,if_true,List.set,Qwl h1]
 unfold Qdf
 simp only [Qfc,Qbs,Qd,Qe,List.length_cons,List.length_nil,Nat.reduceAdd,Nat.reduceLT,if_true,List.set,Qwl h2]
 unfold Qdf
 rfl
theorem Qm0 (k:Nat) {n:Nat} {A B:List Tb} (hA:Tabs n A) (hB:Tabs n B) (hs:A.length + B.length ≤ 4) {w:List Int} (hne:w ≠ []) (hz:w.length ≤ 80):cfn (k + 8) 36 [.fz (Qh A),.fz (Qh B),.fz (Qi w)] = .ok (.fz (.bl true)) [.non,.non,.non]:=by
 have hC:=hA.app hB hs
 have a1:=hA.m1
 have b1:=hB.m1
 have lC:(A ++ B).length = A.length + B.length:=List.length_append
 have e1:=Q19 (k + 1) hA hB rfl hs
 rw [show T.lst (A.map Qr ++ B.map Qr) = Qh (A ++ B) from by unfold Qh; rw [List.map_append]] at e1
 have i1:=Qqu a1 w
 have i2:=Qqu b1 w
 have iA:InR (A ++ B).length (mdl A.length w):=fun x hx=>by have:=i1 x hx; omega
 have iB:InR (A ++ B).length (pls A.length (mdl B.length w)):=fun x hx=>by
  unfold pls at hx
  obtain ⟨v,hv,rfl⟩:=List.mem_map.mp hx
  have:=i2 v hv
  omega
 have ea1:=Qgg (k + 1) hC (Qmz hne) iA (by rw [Qhp]; exact hz)
 have ea2:=Qgg (k + 1) hA (Qmz hne) i1 (by rw [Qhp]; exact hz)
 have ea3:=Qgg (k + 1) hC (w:=pls A.length (mdl B.length w)) (fun z=>Qmz hne (List.map_eq_nil_iff.mp z)) iB (by unfold pls; rw [List.length_map,Qhp]; exact hz)
 have ea4:=Qgg (k + 1) hB (Qmz hne) i2 (by rw [Qhp]; exact hz)
 rw [Q2g (Ns:=A) fun p hp=>Qsu (i1 p hp).1 (i1 p hp).2] at ea1
 rw [show wlk (A ++ B) (pls A.length (mdl B.length w)) = wlk B (mdl B.length w) from Qx0 (fun x=>x + (A.length:Int)) fun p hp=>Qsv (i2 p hp).1] at ea3
 have q1:=Quo (wlk A (mdl A.length w))
 have q2:=Quo (wlk B (mdl B.length w))
 obtain ⟨o,so,es⟩:=Qms k hC
 obtain ⟨o1,so1,es1⟩:=Qms k hA
 obtain ⟨o2,so2,es2⟩:=Qms k hB
 have c1:=Q61 so so1 id fun i i0 i1=>⟨⟨i0,by show i < _; omega⟩,Qsu i0 i1⟩
 have c2:=Q61 so so2 (fun x=>x + (A.length:Int)) fun i i0 i1=>⟨⟨by omega,by omega⟩,Qsv i0⟩
 obtain ⟨s7,el⟩:=Q5i (cf:=cfn (k + 7)) c1 c2 (a:=.fz (Qh A)) (b:=.fz (Qh B)) (c:=.fz (Qi w)) (d:=.fz (Qh (A ++ B))) (e:=.fz (Qi (mdl A.length w))) (f:=.fz (Qi (mdl B.length w)))
 have m1:=Q2j (cf:=cfn (k + 7)) (i:=2) (j:=0) (ρ:=[.fz (Qh A),.fz (Qh B),.fz (Qi w),.fz (Qh (A ++ B)),.un,.un,.un,.un]) (w:=w) (Ms:=A) rfl rfl rfl a1 (by omega)
 have m2:=Q2j (cf:=cfn (k + 7)) (i:=2) (j:=1) (ρ:=[.fz (Qh A),.fz (Qh B),.fz (Qi w),.fz (Qh (A ++ B)),.fz (Qi (mdl A.length w)),.un,.un,.un]) (w:=w) (Ms:=B) rfl rfl rfl b1 (by omega)
 have m3:=Qafc (cf:=cfn (k + 7)) (i:=5) (j:=0) (ρ:=[.fz (Qh A),.fz (Qh B),.fz (Qi w),.fz (Qh (A ++ B)),.fz (Qi (mdl A.length w)),.fz (Qi (mdl B.length w)),.un,.un]) (w:=mdl B.length w) (Ms:=A) rfl rfl rfl (by rw [Qhp]; omega)
 have z2:(2:Nat) ≤ 100000:=by decide
 show Qa7 (cfn (k + 7)) ⟨3,8,Qcp⟩ _ = _
 rw [Qaz rfl]
 show Qbr _ (exS _ Qcp [.fz (Qh A),.fz (Qh B),.fz (Qi w),.un,.un,.un,.un,.un]) = _
 simp only [Qbh,Qbq,Qaj,Qo,Qq,Qaf,Qd,Q6,yC1,Qe,Qt,yC2,Q2,Qv,Qac,Qy,Qas,Qab,e1,Qa4,Qn,Q0,L2.Qj,Option.map,if_true,Qa0,Qcv,Qbp,frz,Qau,Qbs,List.length_cons,List.length_nil,Nat.reduceAdd,Nat.reduceLT,List.set,Qc4,Qbg,m1,yBi,Qbd,Qaa,cont,Out.opt,ub9,m2,Qck,Qb8,ea1,Qb1,ea2,Qb0,Qbz,Qby,uc2,q1,Bool.not_true,Qai,yBl,yIf,Qc5,m3,ea3,ea4,q2,es,Qg2,Qop,Ql4,es1,es2,Qrw,Qdv,z2,Qtt,Ql8,Ql7,Qgi,Qjw,Qkj,el,Qc6,Qa5,x_bl,Qcc,Qan,Qa1,Qat,Qar,Qw]
open PySem L2
theorem Qm1 (k:Nat) {n:Nat} {A:List Tb} (hA:Tabs n A) (b20:∀ M ∈ A,Bn 20 M) {a:Int} (a0:0 ≤ a) (a1:a < (A.length:Int)) {o:Nat} (h1:1 ≤ o) (h4:o ≤ 4) {w:List Int} (hne:w ≠ []) (hw:InR A.length w) (hz:w.length ≤ 18):cfn (k + 8) 37 [.fz (Qh A),.fz (.int a),.fz (.int o),.fz (Qi w)] = .ok (.fz (.bl true)) [.non,.non,.non,.non]:=by
 have bm:Bn 20 (A.getD a.toNat []):=b20 _ (by
  rw [List.getD_eq_getElem?_getD,List.getElem?_eq_getElem (show a.toNat < A.length by omega),Option.getD_some]
  exact List.getElem_mem _)
 have hL:=Q2e hA a0 a1 bm h4
 have n1:=hA.n1
 have n4:=hA.n4
 have e1:=Qxy (k + 1) hA a0 a1 bm h1 h4
 rw [Qabb a0 a1] at e1
 have e1:cfn (k + 7) 27 [.fz (Qh A),.fz (.int a),.fz (.int o)] = .ok (.ow (Qh (ltr A a o))) [.non,.non,.non]:=e1
 have wp:1 ≤ w.length:=List.length_pos_iff.mpr hne
 have e2:=Qst (k + 1) hA a0 a1 h1 (show o ≤ 6 by omega) hw wp (by omega)
 have l4:=Qmw (a:=a) h4 w
 have e3:=Qgg (k + 1) hA (Q2f h1 hne) (Qwk (a:=a) (o:=o) hw) (by omega)
 have e4:=Qgg (k + 1) hL hne (by rw [Qjr]; exact hw) (by omega)
 rw [Qmv hA a0 a1 h1 hne hw] at e3
 have q1:=Quo (wlk (ltr A a o) w)
 have lc:=Qj4 (a:=a) h1 w
 have lc':((lng a o w).length:Int) = (w.length:Int) + ((o:Int) - 1) * ((w.count a:Nat):Int):=by
  rw [lc]
  obtain ⟨i,rfl⟩:∃ i,o = i + 1:=⟨o - 1,by omega⟩
  rw [Nat.add_sub_cancel,Int.natCast_add,Int.natCast_mul,show ((i + 1:Nat):Int) - 1 = (i:Int) by omega]
 have mo:Qcy ((o:Int) - 1) ((w.count a:Nat):Int) = true:=by
  unfold Qcy
  simp only [Bool.or_eq_true,decide_eq_true_eq]
  exact .inl (by omega)
 have il:=intL_mp w
 obtain ⟨s,ss,es⟩:=Qms k hL
 have ef:evE (cfn (k + 7)) (.bin .add (.bi .len (.cons (.var 3) .nil)) (.bin .mul (.bin .sub (.var 2) (.int 1)) (.cnt (.var 3) (.var 1)))) [.fz (Qh A),.fz (.int a),.fz (.int o),.fz (Qi w),.fz (Qh (ltr A a o)),.fz (Qi (lng a o w)),.un] = .ok (.fz (.int ((lng a o w).length:Int))) [.fz (Qh A),.fz (.int a),.fz (.int o),.fz (Qi w),.fz (Qh (ltr A a o)),.fz (Qi (lng a o w)),.un]:=by
  rw [lc']
  simp only [Qet,Qbg,Qo,Qq,Qaf,Qe,Qd,Q6,yC1,Qt,yC2,yBi,Qbd,Qaa,cont,Out.opt,ub2,List.length_map,Qek,Qcu,Qej,Qei,uo4,Qael,Q6o,Q6n,Q6m,il,uo5,mo,if_true,uo1]
 show Qa7 (cfn (k + 7)) ⟨4,7,Qcr⟩ _ = _
 rw [Qaz rfl]
 show Qbr _ (exS _ Qcr [.fz (Qh A),.fz (.int a),.fz (.int o),.fz (Qi w),.un,.un,.un]) = _
 cases s with
 | none =>
  have es:cfn (k + 7) 32 [.fz (Qh (ltr A a o))] = .ok (.fz .non) [.non]:=es
  simp only [Qbh,Qbq,Qaj,Qo,Qq,Qaf,Qd,Q6,yC1,Qe,Qt,yC2,Q2,Qv,Qac,Qy,Qas,Qab,e1,Qa4,Qn,Q0,L2.Qj,Option.map,if_true,Qa0,Qcv,Qbp,frz,Qau,Qbs,List.length_cons,List.length_nil,Nat.reduceAdd,Nat.reduceLT,List.set,Qc4,e2,Qck,Qry,Qb8,e3,Qb1,e4,Qb0,Qbz,cont,Qby,uc2,q1,Bool.not_true,Qai,yBl,yOr,Qbg,yBi,Qbd,Qaa,Out.opt,ub2,List.length_map,ef,Qcl,decide_true,yB,yIf,Qc5,es,Qon,uc7,Qeq,Qa5,x_bl,Qcc,z_rt,Qan,Qa1,Qat,Qar,Qw]
 | some v =>
  have es:cfn (k + 7) 32 [.fz (Qh (ltr A a o))] = .ok (.fz (Qi v)) [.non]:=es
  obtain ⟨vne,v1,v2,v18,_⟩:=ss
  rw [Qjr] at v1
  have vp:1 ≤ v.length:=List.length_pos_iff.mpr vne
  have e5:=Qst (k + 1) hA a0 a1 h1 (show o ≤ 6 by omega) v1 vp (by omega)
  have l5:=Qmw (a:=a) h4 v
  have i5:=Qwk (a:=a) (o:=o) v1
  have ne5:=Q2f (a:=a) h1 vne
  have e6:=Qgg (k + 1) hA ne5 i5 (by omega)
  have sw:=Qmv hA a0 a1 h1 vne v1
  have zr:(∀ r ∈ wlk (ltr A a o) v,∀ x ∈ r,x = 0) ∧ Shp n (wlk (ltr A a o) v):=by
   cases v with
   | nil=>exact absurd rfl vne
   | cons x xs =>
    obtain ⟨su,sh⟩:=Qv7 hL (w:=x) (ws:=xs) (by rw [Qjr]; exact v1)
    exact ⟨(su.nil sh).mp v2,sh⟩
  have en:=Qum (k + 2) zr.2 n1 n4 zr.1
  have wn:wa A n (lng a o v) = []:=by
   cases hl:lng a o v with
   | nil=>exact absurd hl ne5
   | cons x xs =>
    rw [hl] at i5 sw
    obtain ⟨su,sh⟩:=Qv7 hA i5
    rw [sw] at su sh
    exact (su.nil sh).mpr zr.1
  obtain ⟨t,st,et⟩:=Qms k hA
  rw [sw] at e6
  cases t with
  | none=>exact absurd wn (st _ i5)
  | some u =>
   have et:cfn (k + 7) 32 [.fz (Qh A)] = .ok (.fz (Qi u)) [.non]:=et
   have ul:=st.2.2.2.2 _ i5 wn
   have ul':(u.length:Int) ≤ ((lng a o v).length:Int):=by omega
   simp only [Qbh,Qbq,Qaj,Qo,Qq,Qaf,Qd,Q6,yC1,Qe,Qt,yC2,Q2,Qv,Qac,Qy,Qas,Qab,e1,Qa4,Qn,Q0,L2.Qj,Option.map,if_true,Qa0,Qcv,Qbp,frz,Qau,Qbs,List.length_cons,List.length_nil,Nat.reduceAdd,Nat.reduceLT,List.set,Qc4,e2,Qck,Qry,Qb8,e3,Qb1,e4,Qb0,Qbz,cont,Qby,uc2,q1,Bool.not_true,Qai,yBl,yOr,Qbg,yBi,Qbd,Qaa,Out.opt,ub2,List.length_map,ef,Qcl,decide_true,yB,yIf,Qc5,es,Qon,uc7,Qeq,e5,Qh3,e6,en,Ql5,Qa5,Ql6,et,uc8,Bool.not_false,Qrx,uc4,ul',Qcc,Qan,Qa1,Qat,Qar,Qw]
noncomputable def Q62 (n:Nat) (_ y:T):Prop:=∃ v:Int,y = .int v ∧ 0 ≤ v ∧ v < (n:Int)
theorem Qup {n:Nat} {xs ys:List T} (h:All2 (Q62 n) xs ys):∃ r:List Int,ys = r.map T.int ∧ r.length = xs.length ∧ InR n r:=by
 induction h with
 | nil=>exact ⟨[],rfl,rfl,fun v hv=>(nomatch hv)⟩
 | cons f _ ih =>
  obtain ⟨v,rfl,hv⟩:=f
  obtain ⟨r,rfl,hl,hr⟩:=ih
  refine ⟨v :: r,rfl,by rw [List.length_cons,List.length_cons,hl],fun w hw=>?_⟩
  rcases List.mem_cons.mp hw with rfl | hw
  ·exact hv
  ·exact hr w hw
noncomputable abbrev Q2k:E:=.call 34 (.cons (.var 1) (.cons (.int 4) .nil))
theorem Qafe {r:Int} (r0:1 ≤ r) (r9:r < 9) {q:T} (hq:Qhf q) {a c d f:Slot}:∃ (w:List Int) (q':T),w ≠ [] ∧ w.length ≤ 8 ∧ Qhf q' ∧ evE (cfn 14) (.comp (.rng1 (.var 6)) [none,some 2] (.nm 0) .nil Q2k) [.un,a,.ow q,c,d,f,.fz (.int r),.un,.un,.un] =
  .ok (.ow (.lst (w.map T.int))) [.un,a,.ow q',c,d,f,.fz (.int r),.un,.un,.un]:=by
 have hw:evW (cfn 14) (.rng1 (.var 6)) [.un,a,.ow q,c,d,f,.fz (.int r),.un,.un,.un] = .ok (Q5 0 r.toNat,none) [.un,a,.ow q,c,d,f,.fz (.int r),.un,.un,.un]:=by
  have c:r ≤ 100000:=by omega
  simp only [Qdh,Qq,Qaf,Qe,Qd,Q6,rngI (show 0 ≤ r by omega) c]
 obtain ⟨ys,q',e,p,f⟩:=Q0v (cf:=cfn 14) (P:=Qhf) (F:=Q62 4) (rest:=fun q=>[.ml q]) (w:=.rng1 (.var 6)) (js:=[none,some 2]) (e:=Q2k) (ρ:=[.un,a,.ow q,c,d,f,.fz (.int r),.un,.un,.un])
  (ρ':=fun q'=>[.un,a,.ow q',c,d,f,.fz (.int r),.un,.un,.un]) hq hw rfl (fun s q'=>rfl) rfl (fun s q' _=>rfl) (fun x hx q hq=>by
   obtain ⟨r1,q1,a0,a1,p1,e1⟩:=Qe8 13 (m:=4) (by decide) (by decide) hq
   refine ⟨.fz (.int r1),_,q1,?_,rfl,p1,_,rfl,a0,a1⟩
   simp only [Qaj,Qo,Qq,Qaf,Qe,Qd,Q6,yC1,Qcu,Qt,yC2,Q2,Qv,List.all_cons,List.all_nil,Bool.and_true,Qac,Qy,Qas,Qab,e1,Qa4,Qn,Q0,L2.Qj,reduceCtorEq,Option.map,if_false,Nat.reduceAdd,if_true,List.getElem?_cons_zero,Slot.put]) (by rw [Q8]; omega)
 obtain ⟨ws,rfl,hl,hr⟩:=Qup f
 rw [Q8] at hl
 exact ⟨ws,q',fun z=>by rw [z,List.length_nil] at hl; omega,by omega,p,e⟩
theorem Q2l:∀ m:Int,∃ ρ',exS (cfn 14) Qt9 ((uns 10).set 1 (.fz (.int m))) = .nx ρ' ∧ ρ'.length = 10:=by
 intro m
 obtain ⟨q,hq,e0⟩:=Qae9 13 m
 obtain ⟨r,q1,r0,r4,p1,e1⟩:=Qe8 13 (m:=4) (by decide) (by decide) hq
 obtain ⟨n,hn⟩:=Int.eq_ofNat_of_zero_le (show 0 ≤ 1 + r by omega)
 obtain ⟨A',q2,hA',bA',p2,e2⟩:=Qvx 12 (show 1 ≤ n by omega) (show n ≤ 4 by omega) p1
 obtain ⟨B',q3,hB',bB',p3,e3⟩:=Qvx 12 (show 1 ≤ n by omega) (show n ≤ 4 by omega) p2
 have hA:=hA'.cut (k:=2) (by decide)
 have hB:=hB'.cut (k:=2) (by decide)
 have bA:∀ M ∈ A'.take 2,Bn 20 M:=fun M hM=>bA' M (List.mem_of_mem_take hM)
 have lA:(A'.take 2).length ≤ 2:=by rw [List.length_take]; omega
 have lB:(B'.take 2).length ≤ 2:=by rw [List.length_take]; omega
 have cA:Qdz (A'.map Qr) none (some 2) = (A'.take 2).map Qr:=by rw [show (2:Int) = ((2:Nat):Int) from rfl,Qmy,List.map_take]
 have cB:Qdz (B'.map Qr) none (some 2) = (B'.take 2).map Qr:=by rw [show (2:Int) = ((2:Nat):Int) from rfl,Qmy,List.map_take]
 have sA:Qxd (Qh A') none (some 2) = some (.ow (Qh (A'.take 2))):=by show some (PV.ow (.lst (Qdz (A'.map Qr) none (some 2)))) = _; rw [cA]
 have sB:Qxd (Qh B') none (some 2) = some (.ow (Qh (B'.take 2))):=by show some (PV.ow (.lst (Qdz (B'.map Qr) none (some 2)))) = _; rw [cB]
 generalize A'.take 2 = A at *
 generalize B'.take 2 = B at *
 obtain ⟨v,q4,v0,v6,p4,e4⟩:=Qe8 13 (m:=6) (by decide) (by decide) p3
 obtain ⟨w,q5,wne,wl,p5,e5⟩:=Qafe (r:=1 + v) (by omega) (by omega) p4 (a:=.fz (.int m)) (c:=.fz (.int n)) (d:=.fz (Qh A)) (f:=.fz (Qh B))
 have m1:=hA.m1
 obtain ⟨a,q6,a0,a1,p6,e6⟩:=Qe8 13 (m:=(A.length:Int)) (by omega) (by omega) p5
 have e7:=Q2j (cf:=cfn 14) (i:=7) (j:=4) (ρ:=[.un,.fz (.int m),.ow q6,.fz (.int n),.fz (Qh A),.fz (Qh B),.fz (.int (1 + v)),.fz (Qi w),.fz (.int a),.un]) (w:=w) (Ms:=A) rfl rfl rfl m1 (by omega)
 obtain ⟨u,q7,u0,u4,p7,e8⟩:=Qe8 13 (m:=4) (by decide) (by decide) p6
 obtain ⟨o,ho⟩:=Int.eq_ofNat_of_zero_le (show 0 ≤ 1 + u by omega)
 have e9:=Qm0 6 hA hB (by omega) wne (by omega)
 have e10:=Qm1 6 hA bA a0 a1 (show 1 ≤ o by omega) (show o ≤ 4 by omega) (Qmz (l:=A.length) wne) (Qqu m1 w) (by rw [Qhp]; omega)
 refine ⟨[.un,.fz (.int m),.ow q7,.fz (.int n),.fz (Qh A),.fz (Qh B),.fz (.int (1 + v)),.fz (Qi w),.fz (.int a),.fz (Qi (mdl A.length w))],?_,rfl⟩
 show exS (cfn 14) Qt9 [.un,.fz (.int m),.un,.un,.un,.un,.un,.un,.un,.un] = _
 simp only [Qbh,Qvq,Qaj,Qo,Qq,Qaf,Qe,Qd,Q6,yC1,Qt,yC2,Q2,Qv,Qac,Qy,Qas,Qab,e0,Qa4,Qn,Q0,L2.Qj,Option.map,if_true,Qa0,Qtg,Qau,Qbs,List.length_cons,List.length_nil,Nat.reduceAdd,Nat.reduceLT,List.set,Qc4,Qbq,Qet,Qcu,Qek,List.all_cons,List.all_nil,Bool.and_true,e1,reduceCtorEq,if_false,Nat.reduceEqDiff,List.getElem?_cons_zero,Slot.put,Qej,Qei,cont,Out.opt,uo1,hn,Qcv,Qbp,frz,Q0q,e2,Q4u,Q4t,Qvp,Qlg,Q4s,Qvo,Q4r,sA,e3,sB,e4,Qbg,e5,yBi,Qbd,Qaa,ub9,ub1,List.length_map,e6,e7,Qck,Qry,Qh3,e9,Qai,yBl,Ql5,Bool.not_true,yOr,e8,ho,e10,yB,yIf,Qc5]
open PySem L2
section
variable {P:Program} {w:World} {K:PySem.W.Frag} {mg:Str → Option Value} {base:Heap}
theorem ok_q {x:Str} {st:Stmt} {f:Addr} {fd:FuncData} {N ps:List Str} {k:Nat} {sp:Sp} (F:Fun K x x st f fd) (S:FnScope N ps (Qg st)) (len:∀ vs H Q E,sp vs H Q E → vs.length = ps.length)
  (hbody:∀ (cdv:Value) (A:Around) (outer:List Env) (s:Shared) (H:Hp) (vs:List V) (Q:VK) (E:XK),Room k (A.deeper (PyProof.Rows.envOfC x (Qg st) s.heap.objs.size f cdv)) → sp vs H Q E →
   ∃ t,QB (Qhq (fun _=>true) CX0 P w K mg base N x (Qg st) f cdv A outer s H E).nox (Qa9 st) t ∧ t { nx:=fun _ H'=>Q .non H',rt:=Q } (Qbk N vs) H):FnOk P w K mg base CX0 (k + 1) f fd ps sp :=
 F.ok S len fun cdv A outer s H vs Q E hr hs=>let ⟨t,a,b⟩:=hbody cdv A outer s H vs Q E hr hs; ⟨t,a.h,b⟩
theorem Q7 {h:Heap} {x:Str} {st:Stmt} {f:Addr} {oc:Value} {od an:Option Addr} {osl:Array (Option Value)} {kV doc pm cdv ct:Value} (X:K.In h) (G:h.Ns mainGlobals mg) (a:PySem.W.nsIn K mainGlobals x = some (some (.ref f)))
  (l:K.lookup f = some ⟨oc,od,.func (PySem.W.fnOf x x (Qdj st) (Qa9 st) (Qg st) .none kV doc pm an cdv ct),osl⟩) (c:PySem.W.codeIn K cdv x = true) (k:PySem.W.keepIn K (.ref f) = true):Dfn K mg x st:=⟨⟨f,_,Q8b l c k,PySem.W.mg_of X G a⟩⟩
theorem Quq {h:Heap} {x:Str} {i:Int} {t:Tok} (X:K.In h) (G:h.Ns mainGlobals mg) (a:PySem.W.nsIn K mainGlobals x = some (some (.int i t))):∃ u,mg x = some u ∧ RelV (.int i) u:=⟨_,PySem.W.mg_of X G a,t,rfl⟩
theorem Q5j {lf:Addr} {lfd:FuncData} (F:Fun K "law" "law" Qkc lf lfd) (s:Shared) (v:Value):BindsTo s lfd ⟨[v],[]⟩ [("_law_script",v)]:=by
 obtain ⟨oc,od,kV,doc,pm,an,cdv,ct,osl,rfl,lk,hcd⟩:=F.ex
 exact .of_eq (Qaar _ _ _ _ _ _ [v] rfl)
theorem Qae {xs:List Df} {d:Df} (i:Nat) (h:xs[i]? = some d):d ∈ xs:=List.mem_of_getElem? h
theorem Q5k {k:Nat} {l:LamT} (h:Qcw.lookup k = some l):k = 38 ∧ l = Qo3:=by
 unfold Qcw at h
 rw [List.lookup_cons] at h
 by_cases e:k = 38
 ·subst e; simp at h; exact ⟨rfl,h.symm⟩
 ·rw [beq_eq_false_iff_ne.mpr e] at h; cases h
theorem Qabc {l:PySem.W.OpenLaw} {fa:Addr} (hfa:mg "law" = some (.ref fa)) (tx:Txt K mg) (dl:Dfn K mg "law" Qkc) (dc:Dfn K mg "_law_cell" Qem) (D:∀ d ∈ ds,Dfn K mg d.x d.st) :
  ∃ fd:FuncData,(∀ (s:Shared) (v:Value),BindsTo s fd ⟨[v],[]⟩ [("_law_script",v)]) ∧ ∀ base:Heap,K.In base → base.Ns mainGlobals mg → FnOk l.prog w K mg base CX0 15 fa fd ["_law_script"] (Qtr K):=by
 obtain ⟨f,fd,F,m⟩:=dl.ex
 have e:=hfa.symm.trans m
 cases e
 refine ⟨fd,Q5j F,fun base _ _=>?_⟩
 have A:AllQ (fun d=>DfOk K mg d ∧ Qu l.prog w K mg base ds d) ds:=⟨⟨⟨D _ (Qae 0 rfl),Qr1,Qr2,rfl,rfl⟩,Qt3 tx⟩,⟨⟨D _ (Qae 1 rfl),Qxk,Qxl,rfl,rfl⟩,Q03 tx⟩,⟨⟨D _ (Qae 2 rfl),Qtw,Qtx,rfl,rfl⟩,Qxr tx⟩,⟨⟨D _ (Qae 3 rfl),Qe5,Qm8,rfl,rfl⟩,Qp1 tx⟩,⟨⟨D _ (Qae 4 rfl),Qm9,Qna,rfl,rfl⟩,Qp2 tx⟩,⟨⟨D _ (Qae 5 rfl),Qkb,Qr3,rfl,rfl⟩,Qt4 tx⟩,⟨⟨D _ (Qae 6 rfl),Qr4,Qr5,rfl,rfl⟩,Qt5 tx⟩,⟨⟨D _ (Qae 7 rfl),Qnb,Qnc,rfl,rfl⟩,Qp3 tx⟩,⟨⟨D _ (Qae 8 rfl),Qxm,Qxn,rfl,rfl⟩,Q04 tx⟩,⟨⟨D _ (Qae 9 rfl),Qnd,Qne,rfl,rfl⟩,Qp4 tx⟩,⟨⟨D _ (Qae 10 rfl),Qg3,Qmd,rfl,rfl⟩,Qnq tx⟩,⟨⟨D _ (Qae 11 rfl),Qr6,Qr7,rfl,rfl⟩,Qt6 tx⟩,⟨⟨D _ (Qae 12 rfl),Qnf,Qng,rfl,rfl⟩,Qp5 tx⟩,⟨⟨D _ (Qae 13 rfl),Qel,Qie,rfl,rfl⟩,Qjm tx⟩,⟨⟨D _ (Qae 14 rfl),Qc7,Qpm,rfl,rfl⟩,Qse tx⟩,⟨⟨D _ (Qae 15 rfl),Qdo,Qnh,rfl,rfl⟩,Qp6 tx⟩,⟨⟨D _ (Qae 16 rfl),Qpn,Qpo,rfl,rfl⟩,Qsf tx⟩,⟨⟨D _ (Qae 17 rfl),Qni,Qnj,rfl,rfl⟩,Qp7 tx⟩,⟨⟨D _ (Qae 18 rfl),Qhs,Qht,rfl,rfl⟩,Qik tx⟩,⟨⟨D _ (Qae 19 rfl),Qg4,Qg5,rfl,rfl⟩,Qhw tx⟩,⟨⟨D _ (Qae 20 rfl),Qr8,Q0z,rfl,rfl⟩,Q42 tx⟩,⟨⟨D _ (Qae 21 rfl),Qjh,Q00,rfl,rfl⟩,Q43 tx⟩,⟨⟨D _ (Qae 22 rfl),Qpp,Qpq,rfl,rfl⟩,Qsg tx⟩,⟨⟨D _ (Qae 23 rfl),Qpr,Qps,rfl,rfl⟩,Qsh tx⟩,⟨⟨D _ (Qae 24 rfl),Qnk,Qnl,rfl,rfl⟩,Qp8 tx⟩,⟨⟨D _ (Qae 25 rfl),Qor,Qxo,rfl,rfl⟩,Q05 tx⟩,⟨⟨D _ (Qae 26 rfl),Qjj,Q01,rfl,rfl⟩,Q44 tx⟩,⟨⟨D _ (Qae 27 rfl),Qty,Qtz,rfl,rfl⟩,Qxs tx⟩,⟨⟨D _ (Qae 28 rfl),Qhk,Qxp,rfl,rfl⟩,Q06 tx⟩,⟨⟨D _ (Qae 29 rfl),Qnm,Qnn,rfl,rfl⟩,Qp9 tx⟩,⟨⟨D _ (Qae 30 rfl),Qno,Qnp,rfl,rfl⟩,Qqa tx⟩,⟨⟨D _ (Qae 31 rfl),Qkk,Qkl,rfl,rfl⟩,Qmn tx⟩,⟨⟨D _ (Qae 32 rfl),Qr9,Qsa,rfl,rfl⟩,Qt7 tx⟩,⟨⟨D _ (Qae 33 rfl),Qme,Qt0,rfl,rfl⟩,Qxt tx⟩,⟨⟨D _ (Qae 34 rfl),Qdu,Qsd,rfl,rfl⟩,Qt8 tx⟩,⟨⟨D _ (Qae 35 rfl),Qbi,Qpt,rfl,rfl⟩,Qsi tx⟩,⟨⟨D _ (Qae 36 rfl),Qax,Qhu,rfl,rfl⟩,Qil tx⟩,⟨⟨D _ (Qae 37 rfl),Qa8,Qhv,rfl,rfl⟩,Qim tx⟩,trivial⟩
 have hc:=(Qlx (ls:=ls) (Q0o A) (fun k l h=>by
  obtain ⟨rfl,rfl⟩:=Q5k h
  exact ⟨rfl,Q46,Qmm,rfl,Q45 tx⟩) 14).1
 refine ok_q (k:=14) F Qe6 (fun vs H Q E h=>?_) (fun cdv A outer s H vs Q E hr h=>?_)
 ·obtain ⟨a,ns,rfl,_⟩:=h
  rfl
 ·exact ⟨_,Qae8 tx hc (Qqb dc tx) hr,Q4z h (by decide) (by decide)  Q2l⟩
end
end My
def PySem.W.Fast.tw10352225385594145911:Unit:=()
def PySem.W.Fast.tw9981882384053859623:Unit:=()
def PySem.W.Fast.tw8681893911584224226:Unit:=()
def PySem.W.Fast.tw8423725131542363721:Unit:=()
def PySem.W.Fast.tw8467837016076022291:Unit:=()
def PySem.W.Fast.tw9383468717969441412:Unit:=()
def PySem.W.Fast.tw12990057237794327754:Unit:=()
def PySem.W.Fast.tw7490091009686894009:Unit:=()
def PySem.W.Fast.tw5582747149961706067:Unit:=()
def PySem.W.Fast.tw9650663587312431271:Unit:=()
def PySem.W.Fast.tw7845718082461763610:Unit:=()
def PySem.W.Fast.tw10107391962064849742:Unit:=()
def PySem.W.Fast.tw2867966420673909321:Unit:=()
def PySem.W.Fast.tw1632145665511958209:Unit:=()
def PySem.W.Fast.tw6985612362674167553:Unit:=()
def PySem.W.Fast.tw16719752287138132932:Unit:=()
def PySem.W.Fast.tw9580275196046859605:Unit:=()
def PySem.W.Fast.tw12667817496010607821:Unit:=()
def PySem.W.Fast.tw1663611114112736333:Unit:=()
def PySem.W.Fast.tw16107837859575674516:Unit:=()
def PySem.W.Fast.tw167508342928350664:Unit:=()
def PySem.W.Fast.tw3883991245425044548:Unit:=()
def PySem.W.Fast.tw2313091132352205368:Unit:=()
def PySem.W.Fast.tw3443878436950110358:Unit:=()
def PySem.W.Fast.tw5559017052923981227:Unit:=()
def PySem.W.Fast.tw8542655704100756053:Unit:=()
def PySem.W.Fast.tw12247420651604648660:Unit:=()
def PySem.W.Fast.tw16774005121483811638:Unit:=()
def PySem.W.Fast.tw8661864730654830181:Unit:=()
def PySem.W.Fast.tw4804594653810985223:Unit:=()
def PySem.W.Fast.tw12681068384908091766:Unit:=()
def PySem.W.Fast.tw12367518165646802560:Unit:=()
def PySem.W.Fast.tw16222841958294039949:Unit:=()
def PySem.W.Fast.tw6694244214934361093:Unit:=()
def PySem.W.Fast.tw17568588994561781276:Unit:=()
def PySem.W.Fast.tw9174477085427543997:Unit:=()
def PySem.W.Fast.tw3137229416881541443:Unit:=()
def PySem.W.Fast.tw2800612146887035181:Unit:=()
def PySem.W.Fast.tw15162744394172816341:Unit:=()
def PySem.W.Fast.tw5332500476107476781:Unit:=()
def PySem.W.Fast.tw609114270541143767:Unit:=()
def PySem.W.Fast.tw3548573828231368053:Unit:=()
def PySem.W.Fast.tw13126977743513404496:Unit:=()
def PySem.W.Fast.tw4226696338818830705:Unit:=()
def PySem.W.Fast.tw279408736978179096:Unit:=()
def PySem.W.Fast.tw3963030275471520657:Unit:=()
def PySem.W.Fast.tw15373353538623919144:Unit:=()
def PySem.W.Fast.tw8182540250401906090:Unit:=()
def PySem.W.Fast.tw156097639267520626:Unit:=()
def PySem.W.Fast.tw1883060806772163895:Unit:=()
def PySem.W.Fast.tw2584745012600782242:Unit:=()
def PySem.W.Fast.tw6985804633130508842:Unit:=()
def PySem.W.Fast.tw14613359622180585106:Unit:=()
def PySem.W.Fast.tw14654411804445551236:Unit:=()
def PySem.W.Fast.tw14928454379986199223:Unit:=()
def PySem.W.Fast.tw6024408889811071312:Unit:=()
def PySem.W.Fast.tw10743510878573715862:Unit:=()
def PySem.W.Fast.tw8381665775987035451:Unit:=()
def PySem.W.Fast.tw6730833872617837686:Unit:=()
def PySem.W.Fast.tw16669268626395179958:Unit:=()
def PySem.W.Fast.tw10031697858261813635:Unit:=()
def PySem.W.Fast.tw16980470478154264913:Unit:=()
def PySem.W.Fast.tw9880161843095826364:Unit:=()
def PySem.W.Fast.tw11876756753118805379:Unit:=()
def PySem.W.Fast.tw6483370884834059178:Unit:=()
def PySem.W.Fast.tw12682703343634962551:Unit:=()
def PySem.W.Fast.tw16961700286766324993:Unit:=()
def PySem.W.Fast.tw6220244568262263755:Unit:=()
def PySem.W.Fast.tw8746422370453677592:Unit:=()
def PySem.W.Fast.tw4870931630162328961:Unit:=()
def PySem.W.Fast.tw6358026912543552573:Unit:=()
def PySem.W.Fast.tw17800223425714461390:Unit:=()
def PySem.W.Fast.tw8728932319046640779:Unit:=()
def PySem.W.Fast.tw10108940584547381455:Unit:=()
def PySem.W.Fast.tw9333858570181475500:Unit:=()
def PySem.W.Fast.tw7369996664480489184:Unit:=()
def PySem.W.Fast.tw6615532926782459989:Unit:=()
def PySem.W.Fast.tw5249674331395923104:Unit:=()
def PySem.W.Fast.tw9942199318976118184:Unit:=()
def PySem.W.Fast.tw4732492579623624063:Unit:=()
def PySem.W.Fast.tw12537347350944048291:Unit:=()
def PySem.W.Fast.tw5456007525780838369:Unit:=()
def PySem.W.Fast.tw7699705540817958683:Unit:=()
def PySem.W.Fast.tw534522017920899425:Unit:=()
def PySem.W.Fast.tw18235456792690754380:Unit:=()
def PySem.W.Fast.tw746039646551372985:Unit:=()
def PySem.W.Fast.tw9162351751484016108:Unit:=()
def PySem.W.Fast.tw1603008252026731871:Unit:=()
def PySem.W.Fast.tw17266549438802725652:Unit:=()
def PySem.W.Fast.tw11620308306275054343:Unit:=()
def PySem.W.Fast.tw2074210591618540172:Unit:=()
def PySem.W.Fast.tw15405753931951076411:Unit:=()
def PySem.W.Fast.tw17675704558469186635:Unit:=()
def PySem.W.Fast.tw2590570221301098026:Unit:=()
def PySem.W.Fast.tw2335707165197797867:Unit:=()
def PySem.W.Fast.tw15949452555274838276:Unit:=()
def PySem.W.Fast.tw14871525544273473864:Unit:=()
def PySem.W.Fast.tw626387239011810073:Unit:=()
def PySem.W.Fast.tw14346404121482708468:Unit:=()
def PySem.W.Fast.tw9335244137170888732:Unit:=()
def PySem.W.Fast.tw16100419724155874441:Unit:=()
def PySem.W.Fast.tw8846375216988082405:Unit:=()
def PySem.W.Fast.tw11217142371479362889:Unit:=()
def PySem.W.Fast.tw10137859976284825419:Unit:=()
def PySem.W.Fast.tw7980707317175621436:Unit:=()
def PySem.W.Fast.tw7114104485717830825:Unit:=()
def PySem.W.Fast.tw15468509476919531011:Unit:=()
def PySem.W.Fast.tw9074269676645263622:Unit:=()
def PySem.W.Fast.tw16743359113476542762:Unit:=()
def PySem.W.Fast.tw16205868129461200661:Unit:=()
def PySem.W.Fast.tw524078597428684952:Unit:=()
def PySem.W.Fast.tw12204793933678744040:Unit:=()
def PySem.W.Fast.tw468043464428936023:Unit:=()
def PySem.W.Fast.tw6433723593131294275:Unit:=()
def PySem.W.Fast.tw13468441152420434262:Unit:=()
def PySem.W.Fast.tw3514220097514251727:Unit:=()
def PySem.W.Fast.tw9318258568888597064:Unit:=()
def PySem.W.Fast.tw4284543750174095084:Unit:=()
def PySem.W.Fast.tw16521080653988691307:Unit:=()
def PySem.W.Fast.tw4826682435965615191:Unit:=()
def PySem.W.Fast.tw16120894195178831946:Unit:=()
def PySem.W.Fast.tw15440852563451808224:Unit:=()
def PySem.W.Fast.tw8327758274700284015:Unit:=()
def PySem.W.Fast.tw12033144808096908132:Unit:=()
def PySem.W.Fast.tw6792945347501804438:Unit:=()
def PySem.W.Fast.tw13626468610008053432:Unit:=()
def PySem.W.Fast.tw21744686010193072:Unit:=()
def PySem.W.Fast.tw7678268172306850287:Unit:=()
def PySem.W.Fast.tw4081451169240296847:Unit:=()
def PySem.W.Fast.tw7492689796258874279:Unit:=()
def PySem.W.Fast.tw13046404924394679080:Unit:=()
def PySem.W.Fast.tw8609049995084641928:Unit:=()
def PySem.W.Fast.tw193323966781381013:Unit:=()
def PySem.W.Fast.tw10557460245393336716:Unit:=()
def PySem.W.Fast.tw11173326084277662985:Unit:=()
def PySem.W.Fast.tw7071787315836356776:Unit:=()
def PySem.W.Fast.tw16076822156003049031:Unit:=()
def PySem.W.Fast.tw16915342827622013355:Unit:=()
def PySem.W.Fast.tw3327790958314372588:Unit:=()
def PySem.W.Fast.tw17883351635651187977:Unit:=()
def PySem.W.Fast.tw2981461006428731225:Unit:=()
def PySem.W.Fast.tw8922123036105895027:Unit:=()
def PySem.W.Fast.tw9674767107525041584:Unit:=()
def PySem.W.Fast.tw6833223501055066863:Unit:=()
def PySem.W.Fast.tw13971608881773012883:Unit:=()
def PySem.W.Fast.tw9562558423671073516:Unit:=()
def PySem.W.Fast.tw5343981079709920213:Unit:=()
def PySem.W.Fast.tw7531892597126380948:Unit:=()
def PySem.W.Fast.tw14165960325186801553:Unit:=()
def PySem.W.Fast.tw10161772646662076619:Unit:=()
def PySem.W.Fast.tw17056709707680490953:Unit:=()
def PySem.W.Fast.tw15724982149805033909:Unit:=()
def PySem.W.Fast.tw7040158607823219022:Unit:=()
def PySem.W.Fast.tw16223826343187032409:Unit:=()
def PySem.W.Fast.tw17847036228148718090:Unit:=()
def PySem.W.Fast.tw14418336754284816975:Unit:=()
def PySem.W.Fast.tw5610769725037636233:Unit:=()
def PySem.W.Fast.tw16938883649492254223:Unit:=()
def PySem.W.Fast.tw2081797487912285318:Unit:=()
def PySem.W.Fast.tw17165017620627747970:Unit:=()
def PySem.W.Fast.tw1473631889886391439:Unit:=()
def PySem.W.Fast.tw8118369394482761845:Unit:=()
def PySem.W.Fast.tw3498815155897217521:Unit:=()
def PySem.W.Fast.tw7505272295719972876:Unit:=()
def PySem.W.Fast.tw3310646490147646516:Unit:=()
def PySem.W.Fast.tw893678863862786769:Unit:=()
def PySem.W.Fast.tw9703556487971884048:Unit:=()
def PySem.W.Fast.tw2243661064588153969:Unit:=()
def PySem.W.Fast.tw14523280688215994237:Unit:=()
def PySem.W.Fast.tw3877033662880607406:Unit:=()
def PySem.W.Fast.tw5832452714421000913:Unit:=()
def PySem.W.Fast.tw15069575901567736511:Unit:=()
def PySem.W.Fast.tw17357053355837322135:Unit:=()
def PySem.W.Fast.tw15468334018350407135:Unit:=()
def PySem.W.Fast.tw14377104984259289423:Unit:=()
def PySem.W.Fast.tw3079417527281307627:Unit:=()
def PySem.W.Fast.tw10720690338210772257:Unit:=()
def PySem.W.Fast.tw13284941814337369505:Unit:=()
def PySem.W.Fast.tw17112442342591247590:Unit:=()
def PySem.W.Fast.tw9341404604276397755:Unit:=()
def PySem.W.Fast.tw15380250100256294575:Unit:=()
def PySem.W.Fast.tw962905989332081152:Unit:=()
def PySem.W.Fast.tw17744256220817630669:Unit:=()
def PySem.W.Fast.tw5180727083581530240:Unit:=()
def PySem.W.Fast.tw3302918244361141609:Unit:=()
def PySem.W.Fast.tw12624105044331452773:Unit:=()
def PySem.W.Fast.tw5195461148985166697:Unit:=()
def PySem.W.Fast.tw17219611992066246565:Unit:=()
def PySem.W.Fast.tw2316793054557242272:Unit:=()
def PySem.W.Fast.tw10686533920931665059:Unit:=()
def PySem.W.Fast.tw16129960836316976027:Unit:=()
def PySem.W.Fast.tw16457706682219001686:Unit:=()
def PySem.W.Fast.tw16993388322025687155:Unit:=()
def PySem.W.Fast.tw14115885409706332862:Unit:=()
def PySem.W.Fast.tw8339845043276091696:Unit:=()
def PySem.W.Fast.tw6734586365758099236:Unit:=()
def PySem.W.Fast.tw4798802104087518900:Unit:=()
def PySem.W.Fast.tw9055164038192150294:Unit:=()
def PySem.W.Fast.tw18317734014677761003:Unit:=()
def PySem.W.Fast.tw5538126604851034368:Unit:=()
def PySem.W.Fast.tw9900247196232747232:Unit:=()
def PySem.W.Fast.tw5442521036156474172:Unit:=()
def PySem.W.Fast.tw4596940092068416287:Unit:=()
def PySem.W.Fast.tw18353292748068148966:Unit:=()
def PySem.W.Fast.tw619337523242091787:Unit:=()
def PySem.W.Fast.tw6061779467401931605:Unit:=()
def PySem.W.Fast.tw10568873511216334608:Unit:=()
def PySem.W.Fast.tw16227537083155612149:Unit:=()
def PySem.W.Fast.tw16899249805629238804:Unit:=()
def PySem.W.Fast.tw14283559306015991313:Unit:=()
def PySem.W.Fast.tw10425894729118962670:Unit:=()
def PySem.W.Fast.tw5351752949485404527:Unit:=()
def PySem.W.Fast.tw13271830473232430702:Unit:=()
def PySem.W.Fast.tw12047180706812718738:Unit:=()
def PySem.W.Fast.tw10035619874244250398:Unit:=()
def PySem.W.Fast.tw6642076103555448757:Unit:=()
def PySem.W.Fast.tw11113066944985934455:Unit:=()
open PySem PySem.W PyProof.Rows
set_option maxRecDepth 100000 in
set_option maxHeartbeats 0 in
theorem PySem.Challenge.cw_noughtways_k65_whole_ways_joined_and_spr_holds : PySem.Challenge.rw_noughtways_k65_whole_ways_joined_and_spr.Holds := by
 w_on; o_law; k_head; (case hw=>w_witness2)
 k_fill
 refine L2.Q0l (qn:=L2.Qo3.qual) (mf := "ways_to_sets") (l:=PySem.Challenge.rw_noughtways_k65_whole_ways_joined_and_spr) (n:=63) (k:=15) (x := "_law_script") (CX:=L2.CX0) (sp:=L2.Qtr) rfl (by decide) rfl ⟨rfl,by decide,by decide,rfl⟩ (fun w h Y=>⟨PySem.W.km_in_of Y,PySem.W.km_tabs_of Y⟩) ?F ?S ?C
 case F =>
  intro w mg fa h KX G hmg
  have d0:L2.Dfn (L2.KOf KX) mg "law" My.Qkc:=by
   dsimp only [L2.KOf]
   refine' My.Q7 KX G ?a ?l ?c ?k
   (case a=>k_is); (case l=>k_is); (case c=>k_is); (case k=>k_is)
  have d1:L2.Dfn (L2.KOf KX) mg "_law_cell" My.Qem:=by
   dsimp only [L2.KOf]
   refine' My.Q7 KX G ?a ?l ?c ?k
   (case a=>k_is); (case l=>k_is); (case c=>k_is); (case k=>k_is)
  have d2:L2.Dfn (L2.KOf KX) mg "is_whole" My.Qfp:=by
   dsimp only [L2.KOf]
   refine' My.Q7 KX G ?a ?l ?c ?k
   (case a=>k_is); (case l=>k_is); (case c=>k_is); (case k=>k_is)
  have d3:L2.Dfn (L2.KOf KX) mg "is_row" My.Qjf:=by
   dsimp only [L2.KOf]
   refine' My.Q7 KX G ?a ?l ?c ?k
   (case a=>k_is); (case l=>k_is); (case c=>k_is); (case k=>k_is)
  have d4:L2.Dfn (L2.KOf KX) mg "is_grid" My.Qhi:=by
   dsimp only [L2.KOf]
   refine' My.Q7 KX G ?a ?l ?c ?k
   (case a=>k_is); (case l=>k_is); (case c=>k_is); (case k=>k_is)
  have d5:L2.Dfn (L2.KOf KX) mg "numbers_of" My.Qd3:=by
   dsimp only [L2.KOf]
   refine' My.Q7 KX G ?a ?l ?c ?k
   (case a=>k_is); (case l=>k_is); (case c=>k_is); (case k=>k_is)
  have d6:L2.Dfn (L2.KOf KX) mg "is_bounded" My.Qd4:=by
   dsimp only [L2.KOf]
   refine' My.Q7 KX G ?a ?l ?c ?k
   (case a=>k_is); (case l=>k_is); (case c=>k_is); (case k=>k_is)
  have d7:L2.Dfn (L2.KOf KX) mg "wrong_at" My.Qfq:=by
   dsimp only [L2.KOf]
   refine' My.Q7 KX G ?a ?l ?c ?k
   (case a=>k_is); (case l=>k_is); (case c=>k_is); (case k=>k_is)
  have d8:L2.Dfn (L2.KOf KX) mg "is_place" My.Qfr:=by
   dsimp only [L2.KOf]
   refine' My.Q7 KX G ?a ?l ?c ?k
   (case a=>k_is); (case l=>k_is); (case c=>k_is); (case k=>k_is)
  have d9:L2.Dfn (L2.KOf KX) mg "are_places" My.Qd5:=by
   dsimp only [L2.KOf]
   refine' My.Q7 KX G ?a ?l ?c ?k
   (case a=>k_is); (case l=>k_is); (case c=>k_is); (case k=>k_is)
  have d10:L2.Dfn (L2.KOf KX) mg "is_way" My.Qjg:=by
   dsimp only [L2.KOf]
   refine' My.Q7 KX G ?a ?l ?c ?k
   (case a=>k_is); (case l=>k_is); (case c=>k_is); (case k=>k_is)
  have d11:L2.Dfn (L2.KOf KX) mg "need_table" My.Qd6:=by
   dsimp only [L2.KOf]
   refine' My.Q7 KX G ?a ?l ?c ?k
   (case a=>k_is); (case l=>k_is); (case c=>k_is); (case k=>k_is)
  have d12:L2.Dfn (L2.KOf KX) mg "need_tables" My.Qdn:=by
   dsimp only [L2.KOf]
   refine' My.Q7 KX G ?a ?l ?c ?k
   (case a=>k_is); (case l=>k_is); (case c=>k_is); (case k=>k_is)
  have d13:L2.Dfn (L2.KOf KX) mg "need_way" My.Qfs:=by
   dsimp only [L2.KOf]
   refine' My.Q7 KX G ?a ?l ?c ?k
   (case a=>k_is); (case l=>k_is); (case c=>k_is); (case k=>k_is)
  have d14:L2.Dfn (L2.KOf KX) mg "need_place" My.Qd7:=by
   dsimp only [L2.KOf]
   refine' My.Q7 KX G ?a ?l ?c ?k
   (case a=>k_is); (case l=>k_is); (case c=>k_is); (case k=>k_is)
  have d15:L2.Dfn (L2.KOf KX) mg "need_none_below" My.Qb9:=by
   dsimp only [L2.KOf]
   refine' My.Q7 KX G ?a ?l ?c ?k
   (case a=>k_is); (case l=>k_is); (case c=>k_is); (case k=>k_is)
  have d16:L2.Dfn (L2.KOf KX) mg "walked_on" My.Qeu:=by
   dsimp only [L2.KOf]
   refine' My.Q7 KX G ?a ?l ?c ?k
   (case a=>k_is); (case l=>k_is); (case c=>k_is); (case k=>k_is)
  have d17:L2.Dfn (L2.KOf KX) mg "first_ways" My.Qd8:=by
   dsimp only [L2.KOf]
   refine' My.Q7 KX G ?a ?l ?c ?k
   (case a=>k_is); (case l=>k_is); (case c=>k_is); (case k=>k_is)
  have d18:L2.Dfn (L2.KOf KX) mg "column_at" My.Qev:=by
   dsimp only [L2.KOf]
   refine' My.Q7 KX G ?a ?l ?c ?k
   (case a=>k_is); (case l=>k_is); (case c=>k_is); (case k=>k_is)
  have d19:L2.Dfn (L2.KOf KX) mg "columns_of" My.Qd9:=by
   dsimp only [L2.KOf]
   refine' My.Q7 KX G ?a ?l ?c ?k
   (case a=>k_is); (case l=>k_is); (case c=>k_is); (case k=>k_is)
  have d20:L2.Dfn (L2.KOf KX) mg "row_times_column" My.Qbv:=by
   dsimp only [L2.KOf]
   refine' My.Q7 KX G ?a ?l ?c ?k
   (case a=>k_is); (case l=>k_is); (case c=>k_is); (case k=>k_is)
  have d21:L2.Dfn (L2.KOf KX) mg "row_times_columns" My.Qbl:=by
   dsimp only [L2.KOf]
   refine' My.Q7 KX G ?a ?l ?c ?k
   (case a=>k_is); (case l=>k_is); (case c=>k_is); (case k=>k_is)
  have d22:L2.Dfn (L2.KOf KX) mg "times" My.Qkr:=by
   dsimp only [L2.KOf]
   refine' My.Q7 KX G ?a ?l ?c ?k
   (case a=>k_is); (case l=>k_is); (case c=>k_is); (case k=>k_is)
  have d23:L2.Dfn (L2.KOf KX) mg "along" My.Qks:=by
   dsimp only [L2.KOf]
   refine' My.Q7 KX G ?a ?l ?c ?k
   (case a=>k_is); (case l=>k_is); (case c=>k_is); (case k=>k_is)
  have d24:L2.Dfn (L2.KOf KX) mg "is_nought" My.Qew:=by
   dsimp only [L2.KOf]
   refine' My.Q7 KX G ?a ?l ?c ?k
   (case a=>k_is); (case l=>k_is); (case c=>k_is); (case k=>k_is)
  have d25:L2.Dfn (L2.KOf KX) mg "unit_line" My.Qex:=by
   dsimp only [L2.KOf]
   refine' My.Q7 KX G ?a ?l ?c ?k
   (case a=>k_is); (case l=>k_is); (case c=>k_is); (case k=>k_is)
  have d26:L2.Dfn (L2.KOf KX) mg "unit_lines" My.Qea:=by
   dsimp only [L2.KOf]
   refine' My.Q7 KX G ?a ?l ?c ?k
   (case a=>k_is); (case l=>k_is); (case c=>k_is); (case k=>k_is)
  have d27:L2.Dfn (L2.KOf KX) mg "joined" My.Qji:=by
   dsimp only [L2.KOf]
   refine' My.Q7 KX G ?a ?l ?c ?k
   (case a=>k_is); (case l=>k_is); (case c=>k_is); (case k=>k_is)
  have d28:L2.Dfn (L2.KOf KX) mg "power" My.Qkt:=by
   dsimp only [L2.KOf]
   refine' My.Q7 KX G ?a ?l ?c ?k
   (case a=>k_is); (case l=>k_is); (case c=>k_is); (case k=>k_is)
  have d29:L2.Dfn (L2.KOf KX) mg "powered" My.Qhj:=by
   dsimp only [L2.KOf]
   refine' My.Q7 KX G ?a ?l ?c ?k
   (case a=>k_is); (case l=>k_is); (case c=>k_is); (case k=>k_is)
  have d30:L2.Dfn (L2.KOf KX) mg "spread" My.Qjk:=by
   dsimp only [L2.KOf]
   refine' My.Q7 KX G ?a ?l ?c ?k
   (case a=>k_is); (case l=>k_is); (case c=>k_is); (case k=>k_is)
  have d31:L2.Dfn (L2.KOf KX) mg "set_behind" My.Qeb:=by
   dsimp only [L2.KOf]
   refine' My.Q7 KX G ?a ?l ?c ?k
   (case a=>k_is); (case l=>k_is); (case c=>k_is); (case k=>k_is)
  have d32:L2.Dfn (L2.KOf KX) mg "all_places" My.Qec:=by
   dsimp only [L2.KOf]
   refine' My.Q7 KX G ?a ?l ?c ?k
   (case a=>k_is); (case l=>k_is); (case c=>k_is); (case k=>k_is)
  have d33:L2.Dfn (L2.KOf KX) mg "ways_to_sets" My.Qc8:=by
   dsimp only [L2.KOf]
   refine' My.Q7 KX G ?a ?l ?c ?k
   (case a=>k_is); (case l=>k_is); (case c=>k_is); (case k=>k_is)
  have d34:L2.Dfn (L2.KOf KX) mg "sign_way" My.Qft:=by
   dsimp only [L2.KOf]
   refine' My.Q7 KX G ?a ?l ?c ?k
   (case a=>k_is); (case l=>k_is); (case c=>k_is); (case k=>k_is)
  have d35:L2.Dfn (L2.KOf KX) mg "_law_pen" My.Qhl:=by
   dsimp only [L2.KOf]
   refine' My.Q7 KX G ?a ?l ?c ?k
   (case a=>k_is); (case l=>k_is); (case c=>k_is); (case k=>k_is)
  have d36:L2.Dfn (L2.KOf KX) mg "_law_draw" My.Qfu:=by
   dsimp only [L2.KOf]
   refine' My.Q7 KX G ?a ?l ?c ?k
   (case a=>k_is); (case l=>k_is); (case c=>k_is); (case k=>k_is)
  have d37:L2.Dfn (L2.KOf KX) mg "_law_marks" My.Qey:=by
   dsimp only [L2.KOf]
   refine' My.Q7 KX G ?a ?l ?c ?k
   (case a=>k_is); (case l=>k_is); (case c=>k_is); (case k=>k_is)
  have d38:L2.Dfn (L2.KOf KX) mg "_law_joined_right" My.Qbw:=by
   dsimp only [L2.KOf]
   refine' My.Q7 KX G ?a ?l ?c ?k
   (case a=>k_is); (case l=>k_is); (case c=>k_is); (case k=>k_is)
  have d39:L2.Dfn (L2.KOf KX) mg "_law_spread_right" My.Qbx:=by
   dsimp only [L2.KOf]
   refine' My.Q7 KX G ?a ?l ?c ?k
   (case a=>k_is); (case l=>k_is); (case c=>k_is); (case k=>k_is)
  have z0:mg "abs" = none:=by
   have q:PySem.W.nsIn (L2.KOf KX) mainGlobals "abs" = some none:=by
    dsimp only [L2.KOf]
    k_is
   exact PySem.W.mg_none_of KX G q
  have z1:mg "all" = none:=by
   have q:PySem.W.nsIn (L2.KOf KX) mainGlobals "all" = some none:=by
    dsimp only [L2.KOf]
    k_is
   exact PySem.W.mg_none_of KX G q
  have z2:mg "any" = none:=by
   have q:PySem.W.nsIn (L2.KOf KX) mainGlobals "any" = some none:=by
    dsimp only [L2.KOf]
    k_is
   exact PySem.W.mg_none_of KX G q
  have z3:mg "bool" = none:=by
   have q:PySem.W.nsIn (L2.KOf KX) mainGlobals "bool" = some none:=by
    dsimp only [L2.KOf]
    k_is
   exact PySem.W.mg_none_of KX G q
  have z4:mg "dict" = none:=by
   have q:PySem.W.nsIn (L2.KOf KX) mainGlobals "dict" = some none:=by
    dsimp only [L2.KOf]
    k_is
   exact PySem.W.mg_none_of KX G q
  have z5:mg "divmod" = none:=by
   have q:PySem.W.nsIn (L2.KOf KX) mainGlobals "divmod" = some none:=by
    dsimp only [L2.KOf]
    k_is
   exact PySem.W.mg_none_of KX G q
  have z6:mg "int" = none:=by
   have q:PySem.W.nsIn (L2.KOf KX) mainGlobals "int" = some none:=by
    dsimp only [L2.KOf]
    k_is
   exact PySem.W.mg_none_of KX G q
  have z7:mg "isinstance" = none:=by
   have q:PySem.W.nsIn (L2.KOf KX) mainGlobals "isinstance" = some none:=by
    dsimp only [L2.KOf]
    k_is
   exact PySem.W.mg_none_of KX G q
  have z8:mg "len" = none:=by
   have q:PySem.W.nsIn (L2.KOf KX) mainGlobals "len" = some none:=by
    dsimp only [L2.KOf]
    k_is
   exact PySem.W.mg_none_of KX G q
  have z9:mg "list" = none:=by
   have q:PySem.W.nsIn (L2.KOf KX) mainGlobals "list" = some none:=by
    dsimp only [L2.KOf]
    k_is
   exact PySem.W.mg_none_of KX G q
  have z10:mg "max" = none:=by
   have q:PySem.W.nsIn (L2.KOf KX) mainGlobals "max" = some none:=by
    dsimp only [L2.KOf]
    k_is
   exact PySem.W.mg_none_of KX G q
  have z11:mg "range" = none:=by
   have q:PySem.W.nsIn (L2.KOf KX) mainGlobals "range" = some none:=by
    dsimp only [L2.KOf]
    k_is
   exact PySem.W.mg_none_of KX G q
  have z12:mg "sum" = none:=by
   have q:PySem.W.nsIn (L2.KOf KX) mainGlobals "sum" = some none:=by
    dsimp only [L2.KOf]
    k_is
   exact PySem.W.mg_none_of KX G q
  have z13:mg "tuple" = none:=by
   have q:PySem.W.nsIn (L2.KOf KX) mainGlobals "tuple" = some none:=by
    dsimp only [L2.KOf]
    k_is
   exact PySem.W.mg_none_of KX G q
  have y0:∃ u,mg "MOST_PLACES" = some u ∧ L2.RelV (L2.V.int (200)) u:=by
   refine' My.Quq (K:=L2.KOf KX) KX G ?a
   (case a=>(try dsimp only [L2.KOf]); k_is)
  have y1:∃ u,mg "MOST_ROWS" = some u ∧ L2.RelV (L2.V.int (4)) u:=by
   refine' My.Quq (K:=L2.KOf KX) KX G ?a
   (case a=>(try dsimp only [L2.KOf]); k_is)
  have y2:∃ u,mg "MOST_TABLES" = some u ∧ L2.RelV (L2.V.int (4)) u:=by
   refine' My.Quq (K:=L2.KOf KX) KX G ?a
   (case a=>(try dsimp only [L2.KOf]); k_is)
  refine' ⟨_,_,⟨?m,L2.MakesL.mk' (PySem.W.mg_of KX G ?a) ?l ?c ?o ?h1 ?h2 ?h3 ?h4 ?h5 ?h6 ?h7 ?h8 ?t⟩,fun mk=>?r⟩
  (case a=>k_is); (case l=>k_is); (case c=>exact rfl); (case o=>k_is); (case h1=>exact rfl); (case h2=>exact rfl); (case h3=>exact rfl); (case h4=>exact rfl); (case h5=>exact rfl); (case h6=>exact rfl); (case h7=>exact rfl); (case h8=>exact rfl); (case t=>(first | kernel_rfl | exact rfl)); (case m=>exact List.mem_singleton.mpr rfl)
  have tx:My.Txt (L2.Qct (L2.KOf KX) _ L2.Qo3.qual) mg:=⟨z0,z1,z2,z3,z4,z5,z6,z7,z8,z9,z10,z11,z12,z13,y0,y1,y2,mk.mark⟩
  refine My.Qabc hmg tx (d0.mark mk.tab) (d1.mark mk.tab) fun d hd=>?_
  simp only [My.ds,List.mem_cons,List.not_mem_nil,or_false] at hd
  rcases hd with rfl | rfl | rfl | rfl | rfl | rfl | rfl | rfl | rfl | rfl | rfl | rfl | rfl | rfl | rfl | rfl | rfl | rfl | rfl | rfl | rfl | rfl | rfl | rfl | rfl | rfl | rfl | rfl | rfl | rfl | rfl | rfl | rfl | rfl | rfl | rfl | rfl | rfl
  ·exact d2.mark mk.tab
  ·exact d3.mark mk.tab
  ·exact d4.mark mk.tab
  ·exact d5.mark mk.tab
  ·exact d6.mark mk.tab
  ·exact d7.mark mk.tab
  ·exact d8.mark mk.tab
  ·exact d9.mark mk.tab
  ·exact d10.mark mk.tab
  ·exact d11.mark mk.tab
  ·exact d12.mark mk.tab
  ·exact d13.mark mk.tab
  ·exact d14.mark mk.tab
  ·exact d15.mark mk.tab
  ·exact d16.mark mk.tab
  ·exact d17.mark mk.tab
  ·exact d18.mark mk.tab
  ·exact d19.mark mk.tab
  ·exact d20.mark mk.tab
  ·exact d21.mark mk.tab
  ·exact d22.mark mk.tab
  ·exact d23.mark mk.tab
  ·exact d24.mark mk.tab
  ·exact d25.mark mk.tab
  ·exact d26.mark mk.tab
  ·exact d27.mark mk.tab
  ·exact d28.mark mk.tab
  ·exact d29.mark mk.tab
  ·exact d30.mark mk.tab
  ·exact d31.mark mk.tab
  ·exact d32.mark mk.tab
  ·exact d33.mark mk.tab
  ·exact d34.mark mk.tab
  ·exact d35.mark mk.tab
  ·exact d36.mark mk.tab
  ·exact d37.mark mk.tab
  ·exact d38.mark mk.tab
  ·exact d39.mark mk.tab
 case S=>exact fun K H a ns hl hS=>⟨a,ns,rfl,hS,hl,fun _=>rfl⟩
 case C=>exact fun _ _ _ _ z=>z
