import PyProof.Rows.All
import Wide.All
import OpenK.AllK
import Wide.FinOn
import PyProof.TupleKey
import PyProof.DictKinds
import PyProof.DictFindH
import PyProof.DictRoadsH
import Lean
import PyProof.EqAt
import PyProof.EqKinds
import PyProof.TupleCall
import PySem.Challenge.RW_noughtways_k26_shortest_ways_by_rests
import KE.KStateDown
import PyProof.NeKinds
import PyProof.ListRange
import PyProof.TupleOfSeq
import KE.KSortTup
import PyProof.Rows.SetFrom
import PyProof.SetRoads
import KE.KDictList
import KE.KDictOf
import PyProof.AttrMiss
import PyProof.IsiH_list
import PyProof.AutoListH
set_option Elab.async false
set_option linter.all false
set_option maxRecDepth 100000
set_option compiler.extract_closed false
set_option bootstrap.genMatcherCode false
namespace PySem
section
variable {prog:Program} {w:World}
noncomputable abbrev rowK (prog:Program) (w:World):KeyKind prog w Int:=intKind prog w
inductive RowsAre (prog:Program) (w:World) (h:Heap):List (List Int) → List Value → Prop
 | nil:RowsAre prog w h [] []
 | cons {k:List Int} {a:Addr} {ks:List (List Int)} {vs:List Value}:IsTupleKey (rowK prog w) h k a → RowsAre prog w h ks vs → RowsAre prog w h (k :: ks) (.ref a :: vs)
noncomputable def IsNest (prog:Program) (w:World) (h:Heap) (ks:List (List Int)) (a:Addr):Prop:=∃ o items n,h.get? a = some o ∧ o.cls = .type "tuple" ∧ o.data = .seq items n ∧ RowsAre prog w h ks items.toList
theorem RowsAre.inj {h:Heap} {x y:List (List Int)} {vs:List Value} (hx:RowsAre prog w h x vs) (hy:RowsAre prog w h y vs):x = y:=by
 induction hx generalizing y with
 | nil=>cases hy; rfl
 | cons h1 _ ih =>
  cases hy with
  | cons h2 t2=>rw [h1.inj h2,ih t2]
theorem IsNest.typeIs {s:Shared} {ks:List (List Int)} {a:Addr} (x:IsNest prog w s.heap ks a):s.TypeIs (.ref a) "tuple" := let ⟨o,_,_,ho,hc,_⟩:=x; ⟨o,ho,hc⟩
theorem IsNest.inj {h:Heap} {a:Addr} {x y:List (List Int)} (hx:IsNest prog w h x a) (hy:IsNest prog w h y a):x = y:=by
 obtain ⟨o,items,n,ho,_,hd,hi⟩:=hx
 obtain ⟨o',items',n',ho',_,hd',hi'⟩:=hy
 obtain rfl:o = o':=Option.some.inj (ho.symm.trans ho')
 rw [hd] at hd'
 injection hd' with h1 _
 subst h1
 exact hi.inj hi'
theorem RowsAre.keeps {h h':Heap} {d:Addr} {o:Obj} {es ep} (ho:h.get? d = some o) (hd:o.data = .dict es ep) (hs:Heap.SameBut d h h') {ks:List (List Int)} {vs:List Value} (x:RowsAre prog w h ks vs):RowsAre prog w h' ks vs:=by
 induction x with
 | nil=>exact .nil
 | cons h1 _ ih=>exact .cons (h1.keeps ho hd hs) ih
theorem IsNest.keeps {h h':Heap} {ks:List (List Int)} {a d:Addr} {o:Obj} {es ep} (x:IsNest prog w h ks a) (ho:h.get? d = some o) (hd:o.data = .dict es ep) (hs:Heap.SameBut d h h'):IsNest prog w h' ks a:=by
 obtain ⟨o',items,n,ho',hc,hd',hi⟩:=x
 have hne:a ≠ d:=by
  rintro rfl
  obtain rfl:o' = o:=Option.some.inj (ho'.symm.trans ho)
  rw [hd] at hd'; exact nomatch hd'
 exact ⟨o',items,n,(hs.2 a hne).trans ho',hc,hd',hi.keeps ho hd hs⟩
noncomputable def nestHash (prog:Program) (w:World) (ks:List (List Int)):Int:=reduceHash (Builtin.Tuple.tupleHashOf (ks.map (tupleKeyHash (rowK prog w))))
noncomputable def nestDraws:List (List Int) → Nat
 | []=>0
 | k :: ks=>(k.length + 1) + nestDraws ks
theorem nestDraws_app:∀ (a b:List (List Int)),nestDraws (a ++ b) = nestDraws a + nestDraws b
 | [],b=>by simp [nestDraws]
 | k :: a,b=>by rw [List.cons_append,nestDraws,nestDraws,nestDraws_app a b]; omega
variable {A:Around} {E:Value → Shared → Prop} {s:Shared}
theorem wpAny_pyHash_nest {ks:List (List Int)} {a:Addr} {Q:Int → Shared → Prop} (hu:A.units + 1 < cLine) (hk:IsNest prog w s.heap ks a) (h:Q (nestHash prog w ks) { s with toks:=s.toks + (nestDraws ks + 1) }) :
  wpAny (model prog w) A (pyHash (.ref a)) Q E s:=by
 have hT:=hk.typeIs
 obtain ⟨o,items,n,ho,_,hd,hi⟩:=hk
 unfold pyHash
 first | unfold pyHashByItsType | skip
 first | refine wpAny_bind (wpAny_cRoomFor_or (.inr (by omega)) ?_) | skip
 refine wpAny_bind (wpAny_specialOf hT F.slot_tuple_hash.lookup ?_)
 show wpAny _ _ (if (some (Value.builtin "tuple.__hash__") == some Value.none) = true then _ else _) Q E s
 rw [if_neg (by rw [beq_builtin_none]; exact Bool.false_ne_true)]
 refine wpAny_bind (wpAny_specialOf hT F.slot_tuple_hash.lookup ?_)
 show wpAny _ _ (callSpecialIfBoundUnlessNone? (.ref a) "__hash__" _ >>= _) Q E s
 refine wpAny_bind (wpAny_callSpecialIfBoundUnlessNone?_slot hT F.slot_tuple_hash (wpAny_call_entry F.slot_tuple_hash hT F.entry_tuple_hash ?_ (F.args_tuple_hash_1 _)))
 show wpAny _ _ (Builtin.Tuple.tupleItemsOf (.ref a) >>= _) _ _ s
 refine wpAny_bind (wpAny_tupleItemsOf ho hd ?_)
 refine wpAny_bind ?_
 rw [← Array.forIn_toList]
 refine wpAny_forIn_list _
  (fun rest (b:Array Int) s'=>∃ done left,ks = done ++ left ∧ RowsAre prog w s.heap left rest ∧ b.toList = done.map (tupleKeyHash (rowK prog w)) ∧ s' = { s with toks:=s.toks + nestDraws done })
  _ ?_ ?_ _ _ ⟨[],ks,rfl,hi,rfl,rfl⟩
 ·rintro x rest b s' ⟨done,left,rfl,hl,hb,rfl⟩
  cases hl with
  | @cons k c ks' _ h1 hl' =>
   refine wpAny_bind (wpAny_pyHash_tuple (knd:=rowK prog w) (show A.in1.units < cLine from hu) h1 ?_)
   have fin:∃ d l,done ++ k :: ks' = d ++ l ∧ RowsAre prog w s.heap l rest ∧ (b.push (tupleKeyHash (rowK prog w) k)).toList = d.map (tupleKeyHash (rowK prog w)) ∧ ({ s with toks:=s.toks + nestDraws done + (k.length + 1) }:Shared) = { s with toks:=s.toks + nestDraws d } :=
    ⟨done ++ [k],ks',by simp,hl',by simp [hb],by rw [nestDraws_app]; simp [nestDraws,Nat.add_assoc]⟩
   first
    | exact wpAny_pure fin
    | exact wpAny_bind (wpAny_pure (wpAny_pure fin))
 ·rintro b s' ⟨done,left,rfl,hl,hb,rfl⟩
  cases hl
  rw [List.append_nil] at h
  show wpAny _ _ (retInt (Builtin.Tuple.tupleHashOf b.toList)) _ _ _
  rw [hb]
  refine wpAny_ret_mkInt ?_
  show wpAny _ _ (if (decide (-(2:Int) ^ 63 ≤ Builtin.Tuple.tupleHashOf (done.map (tupleKeyHash (rowK prog w)))) && decide (Builtin.Tuple.tupleHashOf (done.map (tupleKeyHash (rowK prog w))) < 2 ^ 63)) = true then _ else _) Q E _
  unfold nestHash reduceHash at h
  by_cases hr:(decide (-(2:Int) ^ 63 ≤ Builtin.Tuple.tupleHashOf (done.map (tupleKeyHash (rowK prog w)))) && decide (Builtin.Tuple.tupleHashOf (done.map (tupleKeyHash (rowK prog w))) < 2 ^ 63)) = true
  ·rw [if_pos hr]
   rw [if_pos hr] at h
   exact wpAny_pure (by simpa [Nat.add_assoc] using h)
  ·rw [if_neg hr]
   rw [if_neg hr] at h
   exact wpAny_bind (wpAny_rule (wpAny_pure (by simpa [Nat.add_assoc] using h)))
theorem nest_eq_tree {x y:List (List Int)} {a b:Addr} {P:Fin → Shared → Prop} (hu:A.units < cLine) (hx:IsNest prog w s.heap x a) (hy:IsNest prog w s.heap y b) (h:P (.done (.ret (.bool (decide (x = y))))) s) :
  wpAny (model prog w) A (Builtin.«tuple.__eq__» ⟨[.ref a,.ref b],[]⟩) P E s:=by
 have hTb:=hy.typeIs
 obtain ⟨oa,xs,na,hoa,_,hda,hia⟩:=hx
 obtain ⟨ob,ys,nb,hob,_,hdb,hib⟩:=hy
 show wpAny _ _ (isInstance (.ref b) (.type "tuple") >>= _) _ _ s
 refine wpAny_bind (wpAny_isInstance hTb isSubtype_tuple_tuple ?_)
 simp only [Bool.not_true,Bool.false_eq_true,if_false]
 refine wpAny_bind (wpAny_tupleItemsOf hoa hda ?_)
 refine wpAny_bind (wpAny_tupleItemsOf hob hdb ?_)
 refine wpAny_bind ?_
 refine wpAny_forIn_list _
  (fun rest r s'=>r.1 = none ∧ s' = s ∧ ∃ x' y' xs' ys',rest = List.zip xs' ys' ∧ RowsAre prog w s.heap x' xs' ∧ RowsAre prog w s.heap y' ys' ∧ decide (x' = y') = decide (x = y) ∧ (xs'.length == ys'.length) = (xs.size == ys.size))
  _ ?_ ?_ _ _ ⟨rfl,rfl,x,y,xs.toList,ys.toList,rfl,hia,hib,rfl,by simp⟩
 ·rintro ⟨u,v⟩ rest r s' ⟨hr,rfl,x',y',xs',ys',hz,hx',hy',hdec,hlen⟩
  cases hx' with
  | nil=>simp at hz
  | @cons k1 u' x'' xs'' h1 hx'' =>
   cases hy' with
   | nil=>simp at hz
   | @cons k2 v' y'' ys'' h2 hy'' =>
    simp only [List.zip_cons_cons,List.cons.injEq,Prod.mk.injEq] at hz
    obtain ⟨⟨rfl,rfl⟩,rfl⟩:=hz
    refine wpAny_bind (wpAny_eqBool_tuple (knd:=rowK prog w) hu h1 h2 ?_)
    by_cases hk:k1 = k2
    ·subst hk
     rw [decide_eq_true rfl]
     simp only [Bool.not_true,Bool.false_eq_true,if_false]
     refine wpAny_pure ⟨rfl,rfl,x'',y'',xs'',ys'',rfl,hx'',hy'',?_,by simpa using hlen⟩
     rw [← hdec]
     by_cases hxy:x'' = y''
     ·simp [hxy]
     ·simp [hxy]
    ·rw [decide_eq_false hk]
     simp only [Bool.not_false,if_true]
     have hf:decide (x = y) = false:=by rw [← hdec]; simp [hk]
     rw [hf] at h
     exact wpAny_bind (wpAny_pure (wpAny_pure (wpAny_pure h)))
 ·rintro ⟨r1,r2⟩ s' ⟨hr,rfl,x',y',xs',ys',hz,hx',hy',hdec,hlen⟩
  simp only at hr
  subst hr
  refine wpAny_pure ?_
  have hfin:(xs.size == ys.size) = decide (x = y):=by
   rw [← hdec,← hlen]
   cases hx' with
   | nil =>
    cases hy' with
    | nil=>simp
    | cons _ _=>simp
   | cons _ _ =>
    cases hy' with
    | nil=>simp
    | cons _ _=>simp at hz
  show P (.done (.ret (.bool (xs.size == ys.size)))) s'
  rw [hfin]; exact h
theorem wpAny_eqBool_nest {x y:List (List Int)} {a b:Addr} {Q:Bool → Shared → Prop} (hu:A.units + 1 < cLine) (hx:IsNest prog w s.heap x a) (hy:IsNest prog w s.heap y b) (h:Q (decide (x = y)) s) :
  wpAny (model prog w) A (eqBool (.ref a) (.ref b)) Q E s:=by
 unfold eqBool
 try with_reducible refine wpAny_holding ?_
 show wpAny _ _ (if (Value.ref a == Value.ref b) = true then _ else _) Q E s
 by_cases hab:(Value.ref a == Value.ref b) = true
 ·rw [if_pos hab]
  have e:a = b:=by have:=eq_of_beq hab; injection this
  subst e
  obtain rfl:=hx.inj hy
  exact wpAny_bind (wpAny_rule (wpAny_pure (by simpa using h)))
 ·rw [if_neg hab]
  exact wpAny_bind (wpAny_richCompare_same_room (op:=.Eq) hx.typeIs hy.typeIs F.slot_tuple_eq
   (wpAny_call_entry F.slot_tuple_eq hx.typeIs F.entry_tuple_eq (nest_eq_tree (show A.in1.units < cLine from hu) hx hy ⟨_,rfl,(fun e=>nomatch e),wpAny_truthy_bool h⟩) (F.args_tuple_eq_2 _ _)) (by omega))
theorem wpAny_quietN_tuple (m:Nat) {ks:List Int} {a:Addr} {Q:Bool → Shared → Prop} (hk:IsTupleKey (rowK prog w) s.heap ks a) (h:Q true s):wpAny (model prog w) A (eqIsQuiet (m + 1) (.ref a)) Q E s:=by
 have hT:=hk.typeIs
 obtain ⟨o,items,n,ho,_,hd,hi⟩:=hk
 unfold eqIsQuiet
 refine wpAny_bind (wpAny_specialOf hT F.slot_tuple_eq.lookup ?_)
 show wpAny _ _ (isInstance (.ref a) (.type "tuple") >>= _) _ _ s
 refine wpAny_bind (wpAny_isInstance hT isSubtype_tuple_tuple ?_)
 simp only [Bool.not_true,Bool.false_eq_true,if_false]
 refine wpAny_bind (wpAny_seqItems ho hd ?_)
 refine wpAny_bind ?_
 show wpAny _ _ (forIn items _ _) _ _ s
 rw [← Array.forIn_toList]
 refine wpAny_forIn_list _ (fun rest r s'=>r.1 = none ∧ s' = s ∧ ∀ v ∈ rest,carriedByValue v = true) _ ?_ ?_ _ _ ⟨rfl,rfl,hi.byValue⟩
 ·rintro v rest r s' ⟨hr,rfl,hall⟩
  rw [eqIsQuiet_byValue _ (hall v List.mem_cons_self)]
  refine wpAny_bind (wpAny_pure ?_)
  simp only [Bool.not_true,Bool.false_eq_true,if_false]
  exact wpAny_pure ⟨rfl,rfl,fun u hu'=>hall u (List.mem_cons_of_mem _ hu')⟩
 ·rintro ⟨r1,r2⟩ s' ⟨hr,rfl,_⟩
  simp only at hr
  subst hr
  exact wpAny_pure h
theorem wpAny_quiet_nest {ks:List (List Int)} {a:Addr} {Q:Bool → Shared → Prop} (hk:IsNest prog w s.heap ks a) (h:Q true s):wpAny (model prog w) A (eqIsQuiet 8 (.ref a)) Q E s:=by
 have hT:=hk.typeIs
 obtain ⟨o,items,n,ho,_,hd,hi⟩:=hk
 unfold eqIsQuiet
 refine wpAny_bind (wpAny_specialOf hT F.slot_tuple_eq.lookup ?_)
 show wpAny _ _ (isInstance (.ref a) (.type "tuple") >>= _) _ _ s
 refine wpAny_bind (wpAny_isInstance hT isSubtype_tuple_tuple ?_)
 simp only [Bool.not_true,Bool.false_eq_true,if_false]
 refine wpAny_bind (wpAny_seqItems ho hd ?_)
 refine wpAny_bind ?_
 show wpAny _ _ (forIn items _ _) _ _ s
 rw [← Array.forIn_toList]
 refine wpAny_forIn_list _ (fun rest r s'=>r.1 = none ∧ s' = s ∧ ∃ l,RowsAre prog w s.heap l rest) _ ?_ ?_ _ _ ⟨rfl,rfl,_,hi⟩
 ·rintro v rest r s' ⟨hr,rfl,l,hall⟩
  cases hall with
  | cons h1 h2 =>
   refine wpAny_bind (wpAny_quietN_tuple 6 h1 ?_)
   simp only [Bool.not_true,Bool.false_eq_true,if_false]
   exact wpAny_pure ⟨rfl,rfl,_,h2⟩
 ·rintro ⟨r1,r2⟩ s' ⟨hr,rfl,_⟩
  simp only at hr
  subst hr
  exact wpAny_pure h
end
noncomputable def nestKind (prog:Program) (w:World):HeapKind prog w (List (List Int)) where
 is:=IsNest prog w
 hash:=nestHash prog w
 draws:=fun ks=>nestDraws ks + 1
 room:=fun A=>A.units + 1 < cLine
 inj:=fun hx hy=>hx.inj hy
 keeps:=fun x ho hd hs=>x.keeps ho hd hs
 pyHash:=fun hu hk h=>wpAny_pyHash_nest hu hk h
 eqBool:=fun hu hx hy h=>wpAny_eqBool_nest hu hx hy h
 quiet:=fun hk h=>wpAny_quiet_nest hk h
end PySem
namespace L2
open PySem
section
variable {prog:Program} {w:World} {K:Type} [DecidableEq K] {knd:HeapKind prog w K} {A:Around} {E:Value → Shared → Prop} {s:Shared}
end
open PySem PySem.Spec PyProof.Rows
noncomputable abbrev Key:=Sum Int Str
noncomputable def Qnn:Key → Value → Bool
 | .inl k,v=>Value.isInt k v
 | .inr x,v=>Value.isStrOf x v
noncomputable def keyH (w:World):Key → Int
 | .inl k=>hashInt k
 | .inr x=>hashStr w x
theorem Qba:∀ {k:Key} {v:Value},Qnn k v = true → (∃ i t,k = Sum.inl i ∧ v = Value.int i t) ∨ (∃ x t,k = Sum.inr x ∧ v = Value.str x t)
 | .inl i,v,h=>by
  obtain ⟨t,e⟩:=Value.isInt_shape (k:=i) (v:=v) h
  exact .inl ⟨i,t,rfl,e⟩
 | .inr x,v,h=>by
  obtain ⟨t,e⟩:=Value.isStrOf_shape (x:=x) (v:=v) h
  exact .inr ⟨x,t,rfl,e⟩
theorem Qvw (i:Int) (t:Tok):Qnn (.inl i) (.int i t) = true:=by simp [Qnn,Value.isInt]
theorem Qvx (x:Str) (t:Tok):Qnn (.inr x) (.str x t) = true:=by simp [Qnn,Value.isStrOf]
theorem Q5w (a b:Int):decide ((Sum.inl a:Key) = Sum.inl b) = (a == b):=by
 by_cases e:a = b
 ·subst e; simp
 ·have h:¬ (Sum.inl a:Key) = Sum.inl b:=fun q=>e (Sum.inl.inj q)
  rw [decide_eq_false h]
  exact (beq_eq_false_iff_ne.mpr e).symm
theorem Q5x (a b:Str):decide ((Sum.inr a:Key) = Sum.inr b) = decide (a = b):=by
 by_cases e:a = b
 ·subst e; simp
 ·have h:¬ (Sum.inr a:Key) = Sum.inr b:=fun q=>e (Sum.inr.inj q)
  rw [decide_eq_false h,decide_eq_false e]
theorem Q5y (a:Int) (b:Str):decide ((Sum.inl a:Key) = Sum.inr b) = false:=decide_eq_false (fun q=>nomatch q)
theorem Q5z (a:Str) (b:Int):decide ((Sum.inr a:Key) = Sum.inl b) = false:=decide_eq_false (fun q=>nomatch q)
noncomputable def Qd4 (prog:Program) (w:World):PySem.KeyKind prog w Key where
 is:=Qnn
 hash:=keyH w
 inj:=fun v a b ha hb=>by
  rcases Qba ha with ⟨i,t,rfl,rfl⟩ | ⟨x,t,rfl,rfl⟩
  ·rcases Qba hb with ⟨j,u,rfl,e⟩ | ⟨y,u,rfl,e⟩
   ·injection e with e1 _; rw [e1]
   ·exact nomatch e
  ·rcases Qba hb with ⟨j,u,rfl,e⟩ | ⟨y,u,rfl,e⟩
   ·exact nomatch e
   ·injection e with e1 _; rw [e1]
 byValue:=fun k v h=>by
  rcases Qba h with ⟨i,t,rfl,rfl⟩ | ⟨x,t,rfl,rfl⟩ <;> rfl
 pyHash:=fun hv h=>by
  rcases Qba hv with ⟨i,t,rfl,rfl⟩ | ⟨x,t,rfl,rfl⟩
  ·exact wpAny_pyHash_int h
  ·exact wpAny_pyHash_str h
 eqBool:=fun hu hv h=>by
  rcases Qba hu with ⟨i,t,rfl,rfl⟩ | ⟨x,t,rfl,rfl⟩
  ·rcases Qba hv with ⟨j,u,rfl,rfl⟩ | ⟨y,u,rfl,rfl⟩
   ·rw [Q5w] at h; exact wpAny_eqBool_int h
   ·rw [Q5y] at h; exact SeqAt.EqAt.int_str i t y u _ _ _ _ h
  ·rcases Qba hv with ⟨j,u,rfl,rfl⟩ | ⟨y,u,rfl,rfl⟩
   ·rw [Q5z] at h; exact SeqAt.EqAt.str_int x t j u _ _ _ _ h
   ·rw [Q5x] at h; exact wpAny_eqBool_str h
 «strs»:=fun k x t v h=>by
  rcases Qba h with ⟨i,u,rfl,e⟩ | ⟨y,u,rfl,e⟩
  ·exact nomatch e
  ·injection e with e1 _
   subst e1
   cases v <;> rfl
theorem Qqn (prog:Program) (w:World) (i:Int) (t:Tok):(Qd4 prog w).is (.inl i) (.int i t) = true:=Qvw i t
theorem Qqo (prog:Program) (w:World) (x:Str) (t:Tok):(Qd4 prog w).is (.inr x) (.str x t) = true:=Qvx x t
inductive V where
 | non | bl (b:Bool) | int (i:Int) | str (x:Str) | byt (b:Array UInt8) | flt (b:UInt64) | ref (a:Addr) | ty (n:String)
 deriving DecidableEq
noncomputable def RelV:V → Value → Prop
 | .non,u=>u = Value.none
 | .bl b,u=>u = Value.bool b
 | .int i,u=>∃ t,u = Value.int i t
 | .str x,u=>∃ t,u = Value.str x t
 | .byt b,u=>∃ t,u = Value.bytes b t
 | .flt b,u=>∃ t,u = Value.float b t
 | .ref a,u=>u = Value.ref a
 | .ty n,u=>u = Value.type n
noncomputable abbrev Vals:List V → List Value → Prop:=Paired RelV
theorem Vals.length {xs:List V} {us:List Value} (r:Vals xs us):xs.length = us.length:=Paired.length r
theorem Vals.get:∀ {xs:List V} {us:List Value} {i:Nat} {x:V},Vals xs us → xs[i]? = some x → ∃ u,us[i]? = some u ∧ RelV x u
 | _,_,_,_,.nil,e=>by simp at e
 | _,_,0,_,.cons r _,e=>by simp at e; subst e; exact ⟨_,rfl,r⟩
 | _,_,i + 1,x,.cons _ t,e=>by
  obtain ⟨u,h1,h2⟩:=Vals.get (i:=i) (x:=x) t (by simpa using e)
  exact ⟨u,by simpa using h1,h2⟩
theorem Vals.set {x:V} {u:Value} (r:RelV x u):∀ {xs:List V} {us:List Value} (i:Nat),Vals xs us → Vals (xs.set i x) (us.set i u)
 | _,_,_,.nil=>.nil
 | _,_,0,.cons _ t=>.cons r t
 | _,_,i + 1,.cons q t=>.cons q (Vals.set r i t)
theorem Vals.append:∀ {xs ys:List V} {us ws:List Value},Vals xs us → Vals ys ws → Vals (xs ++ ys) (us ++ ws)
 | _,_,_,_,.nil,s=>s
 | _,_,_,_,.cons r t,s=>.cons r (Vals.append t s)
theorem Vals.take:∀ {xs:List V} {us:List Value} (n:Nat),Vals xs us → Vals (xs.take n) (us.take n)
 | _,_,0,_=>.nil
 | _,_,_ + 1,.nil=>.nil
 | _,_,n + 1,.cons r t=>.cons r (Vals.take n t)
theorem Vals.drop:∀ {xs:List V} {us:List Value} (n:Nat),Vals xs us → Vals (xs.drop n) (us.drop n)
 | _,_,0,r=>r
 | _,_,_ + 1,.nil=>.nil
 | _,_,n + 1,.cons _ t=>Vals.drop n t
noncomputable def RelO:Option V → Option Value → Prop
 | some v,some u=>RelV v u
 | none,none=>True
 | _,_=>False
noncomputable def KV {κ:Type}:List (κ × V) → List (κ × Value) → Prop:=Paired fun (p:κ × V) (q:κ × Value)=>p.1 = q.1 ∧ RelV p.2 q.2
noncomputable def kV:Key → V
 | .inl i=>.int i
 | .inr x=>.str x
inductive HO where
  | lst (xs:List V)
  | tup (xs:List V)
  | dK (kvs:List (Key × V)) | dT (kvs:List (List (List Int) × V))
  | set (S:Int → Bool) (n:Nat)
  | ins (C dx:Addr) (fs:List (Str × V))
  | own (x:Addr)
  | xd (fs:List (Str × V))
  | met (f x:Addr)
  | rng (lo hi:Int)
  | frz (o:Obj) (u:HO)
  | tbl (q:Str)
 | cod (q:Str)
  | ext (φ:Heap → Prop)
noncomputable abbrev Hp:=Addr → Option HO
noncomputable def KAt (H:Hp) (k:List (List Int)) (a:Addr):Prop:=∃ bs:List Addr,H a = some (.tup (bs.map V.ref)) ∧ Paired (fun (r:List Int) (b:Addr)=>H b = some (.tup (r.map V.int))) k bs
theorem KAt.keeps {H H':Hp} {k:List (List Int)} {a:Addr} (h:KAt H k a) (ht:∀ b ys,H b = some (.tup ys) → H' b = some (.tup ys)):KAt H' k a:=by
 obtain ⟨bs,e,p⟩:=h
 refine ⟨bs,ht _ _ e,?_⟩
 clear e
 induction p with
 | nil=>exact .nil
 | cons x _ ih=>exact .cons (ht _ _ x) ih
noncomputable def upd (H:Hp) (a:Addr) (o:HO):Hp:=fun b=>if b = a then some o else H b
theorem Qo {H:Hp} {a:Addr} {o:HO}:upd H a o a = some o:=by unfold upd; rw [if_pos rfl]
theorem Q3 {H:Hp} {a b:Addr} {o:HO} (h:b ≠ a):upd H a o b = H b:=by unfold upd; rw [if_neg h]
theorem Q90 {H:Hp} {a b:Addr} {o u:HO} (h:H a = some o) (h':H b = some u) (d:o ≠ u):a ≠ b:=by
 intro e; subst e; rw [h] at h'; exact d (Option.some.inj h')
theorem Qbj {H:Hp} {a b:Addr} {o:HO} (h:H a = some o) (h':H b = none):a ≠ b:=by
 intro e; subst e; rw [h] at h'; cases h'
noncomputable def IsTupD (h:Heap) (a:Addr) (its:Array Value):Prop:=∃ o,h.get? a = some o ∧ o.cls = .type "tuple" ∧ ∃ n,o.data = .seq its n ∧ o.dict = none
theorem IsTupD.tup {h:Heap} {a:Addr} {its:Array Value} (x:IsTupD h a its):IsTup h a its:=let ⟨o,e,c,n,d,_⟩:=x; ⟨o,e,c,n,d⟩
theorem IsTupD.new (h:Heap) (its:Array Value):IsTupD (h.push { cls:=.type "tuple",data:=.seq its }) h.objs.size its:=⟨_,Heap.get?_push_size _ rfl,rfl,_,rfl,rfl⟩
section
variable (P:Program) (w:World)
noncomputable def ObjOk (H:Hp) (h:Heap) (a:Addr):HO → Prop
 | .lst xs=>xs.length ≤ sizeLine ∧ ∃ (its:List Value) (n:Nat),Vals xs its ∧ h.get? a = some { cls:=.type "list",data:=.seq its.toArray n }
 | .tup xs=>xs.length ≤ sizeLine ∧ ∃ its:List Value,Vals xs its ∧ IsTupD h a its.toArray
 | .dK kvs=>kvs.length ≤ sizeLine ∧ (a == sysModules) = false ∧ ∃ vs,KV kvs vs ∧ h.DictOf (Qd4 P w) a vs
 | .dT kvs=>kvs.length ≤ sizeLine ∧ (a == sysModules) = false ∧ ∃ xs:List (List (List Int) × Addr × Value),
   Paired (fun (p:List (List Int) × V) (q:List (List Int) × Addr × Value)=>p.1 = q.1 ∧ KAt H p.1 q.2.1 ∧ RelV p.2 q.2.2) kvs xs ∧
   ∃ o es ep,h.get? a = some o ∧ o.ExactDict ∧ o.data = .dict es ep ∧ es.toList = xs.map (entryOfKey (nestKind P w)) ∧ (xs.map (·.1)).Nodup
 | .set S n=>h.SetOf (intKind P w) a S n
 | .ins C dx fs=>H dx = some (.own a) ∧ fs.length ≤ 1000 ∧ dx ≠ a ∧ h.get? a = some (PySem.W.instObj C dx) ∧
   ∃ mA,h.Ns1 dx mA ∧ (∀ f,RelO (fs.lookup f) (mA f)) ∧ PySem.Within mA (fs.map (·.1))
 | .own _=>∃ o,h.get? a = some o
 | .xd fs=>∃ mA,h.Ns1 a mA ∧ ∀ f,RelO (fs.lookup f) (mA f)
 | .rng lo hi=>∃ t u v,h.get? a = some { cls:=.type "range",data:=.fields #[.int lo t,.int hi u,.int 1 v] }
 | .frz o u=>h.get? a = some o ∧ ObjOk H h a u
 | .tbl q=>∃ ps:Array Value,h.get? a = some { cls:=.none,data:=.fields ps } ∧ TriplesOk ps.toList ∧ ∀ pos cv,codeAmong pos ps.toList = some cv → ∃ c,cv = .ref c ∧ H c = some (.cod q)
 | .cod q=>h.CodeRec (.ref a) q
 | .met f x=>h.get? a = some (PySem.W.methodObj (.ref f) (.ref x))
 | .ext φ=>φ h ∧ (∃ o,h.get? a = some o) ∧ ∀ h1 h2:Heap,φ h1 → (∀ o,h1.get? a = some o → h2.get? a = some o) → φ h2
noncomputable def HOk (H:Hp) (h:Heap):Prop:=∀ a o,H a = some o → ObjOk P w H h a o
end
section
variable {P:Program} {w:World} {H H':Hp} {h h':Heap} {a:Addr} {o:HO}
theorem ObjOk.lt (x:ObjOk P w H h a o):a < h.objs.size:=by
 cases o with
 | lst xs=>obtain ⟨_,_,_,_,e⟩:=x; exact Heap.lt_size e
 | tup xs=>obtain ⟨_,_,_,p⟩:=x; exact p.tup.lt
 | dK kvs=>obtain ⟨_,_,_,_,o,_,_,e,_⟩:=x; exact Heap.lt_size e
 | dT kvs=>obtain ⟨_,_,_,_,o,_,_,e,_⟩:=x; exact Heap.lt_size e
 | set S n=>obtain ⟨o,_,_,_,e,_⟩:=x; exact Heap.lt_size e
 | ins C dx fs=>obtain ⟨_,_,_,e,_⟩:=x; exact Heap.lt_size e
 | own y=>obtain ⟨_,e⟩:=x; exact Heap.lt_size e
 | xd fs=>obtain ⟨_,⟨_,_,_,e,_⟩,_⟩:=x; exact Heap.lt_size e
 | rng lo hi=>obtain ⟨_,_,_,e⟩:=x; exact Heap.lt_size e
 | frz ob u=>obtain ⟨e,_⟩:=x; exact Heap.lt_size e
 | tbl q=>obtain ⟨_,e,_⟩:=x; exact Heap.lt_size e
 | cod q=>obtain ⟨_,_,_,_,e,e1,_⟩:=x; cases e; exact Heap.lt_size e1
 | met f y=>exact Heap.lt_size (show h.get? a = some _ from x)
 | ext φ=>obtain ⟨_,⟨_,e⟩,_⟩:=x; exact Heap.lt_size e
theorem Paired.mapP {α β:Type} {F G:α → β → Prop}:∀ {l₁:List α} {l₂:List β},Paired F l₁ l₂ → (∀ a b,F a b → G a b) → Paired G l₁ l₂
 | _,_,.nil,_=>.nil
 | _,_,.cons r t,f=>.cons (f _ _ r) (Paired.mapP t f)
theorem ObjOk.stay (x:ObjOk P w H h a o) (k:∀ b u,(b = a ∨ H b = some (.own a)) → h.get? b = some u → h'.get? b = some u)
  (ho:∀ b,H b = some (.own a) → H' b = some (.own a)) (ht:∀ b xs,H b = some (.tup xs) → H' b = some (.tup xs)) (hcod:∀ b q,H b = some (.cod q) → H' b = some (.cod q):=by exact fun _ _ q=>q):ObjOk P w H' h' a o:=by
 induction o with
 | lst xs=>obtain ⟨z,its,n,r,e⟩:=x; exact ⟨z,its,n,r,k _ _ (.inl rfl) e⟩
 | tup xs=>obtain ⟨z,its,r,ob,e,c⟩:=x; exact ⟨z,its,r,ob,k _ _ (.inl rfl) e,c⟩
 | dK kvs=>obtain ⟨z,y,vs,r,ob,es,ep,e,c⟩:=x; exact ⟨z,y,vs,r,ob,es,ep,k _ _ (.inl rfl) e,c⟩
 | dT kvs =>
  obtain ⟨z,y,xs,r,ob,es,ep,e,c⟩:=x
  exact ⟨z,y,xs,Paired.mapP r fun p q z=>⟨z.1,z.2.1.keeps ht,z.2.2⟩,ob,es,ep,k _ _ (.inl rfl) e,c⟩
 | set S n=>obtain ⟨ob,es,ep,t,e,c⟩:=x; exact ⟨ob,es,ep,t,k _ _ (.inl rfl) e,c⟩
 | ins C dx fs =>
  obtain ⟨d,z,ne,e,mA,⟨od,es,ep,e2,c⟩,r⟩:=x
  exact ⟨ho _ d,z,ne,k _ _ (.inl rfl) e,mA,⟨od,es,ep,k _ _ (.inr d) e2,c⟩,r⟩
 | own y=>obtain ⟨ob,e⟩:=x; exact ⟨ob,k _ _ (.inl rfl) e⟩
 | xd fs=>obtain ⟨mA,⟨od,es,ep,e,c⟩,r⟩:=x; exact ⟨mA,⟨od,es,ep,k _ _ (.inl rfl) e,c⟩,r⟩
 | rng lo hi=>obtain ⟨t,u,v,e⟩:=x; exact ⟨t,u,v,k _ _ (.inl rfl) e⟩
 | frz ob u ih=>obtain ⟨e,q⟩:=x; exact ⟨k _ _ (.inl rfl) e,ih q⟩
 | tbl q =>
  obtain ⟨ps,e,tr,al⟩:=x
  refine ⟨ps,k _ _ (.inl rfl) e,tr,fun pos cv hc=>?_⟩
  obtain ⟨c,ec,hH⟩:=al pos cv hc
  exact ⟨c,ec,hcod _ _ hH⟩
 | cod q =>
  obtain ⟨c,o,vs,t,e,e1,r⟩:=x
  cases e
  exact ⟨_,o,vs,t,rfl,k _ _ (.inl rfl) e1,r⟩
 | met f y =>
  have e:h.get? a = some (PySem.W.methodObj (.ref f) (.ref y)):=x
  show h'.get? a = some (PySem.W.methodObj (.ref f) (.ref y))
  exact k a _ (.inl rfl) e
 | ext φ=>obtain ⟨p,⟨o,e⟩,st⟩:=x; exact ⟨st _ _ p fun o q=>k _ _ (.inl rfl) q,⟨o,k _ _ (.inl rfl) e⟩,st⟩
theorem HOk.lt (x:HOk P w H h) (e:H a = some o):a < h.objs.size:=(x a o e).lt
theorem HOk.fresh (x:HOk P w H h) (e:h.objs.size ≤ a):H a = none:=by
 cases q:H a with
 | none=>rfl
 | some u=>exact absurd (Nat.lt_of_lt_of_le (x.lt q) e) (Nat.lt_irrefl _)
theorem HOk.kept (x:HOk P w H h) (k:∀ b u,h.get? b = some u → h'.get? b = some u):HOk P w H h':=fun a o e =>
 (x a o e).stay (fun b u _ q=>k b u q) (fun _ q=>q) fun _ _ q=>q
theorem HOk.laid (x:HOk P w H h) (k:∀ b u,h.get? b = some u → h'.get? b = some u) (hp:h.objs.size ≤ a) (new:ObjOk P w (upd H a o) h' a o):HOk P w (upd H a o) h':=fun b u e=>by
 have hn:=x.fresh hp
 by_cases hb:b = a
 ·subst hb; rw [Qo] at e; cases e; exact new
 ·rw [Q3 hb] at e
  exact (x b u e).stay (fun c v _ q=>k c v q) (fun c q=>by rw [Q3 (Qbj q hn)]; exact q) (fun c xs q=>by rw [Q3 (Qbj q hn)]; exact q) fun c xs q=>by rw [Q3 (Qbj q hn)]; exact q
end
noncomputable def Rd (H:Hp) (a:Addr) (u:HO):Prop:=H a = some u ∨ ∃ o,H a = some (.frz o u)
theorem Rd.ok {P:Program} {w:World} {H:Hp} {h:Heap} {a:Addr} {u:HO} (r:Rd H a u) (x:HOk P w H h):ObjOk P w H h a u:=by
 rcases r with r | ⟨o,r⟩
 ·exact x a u r
 ·obtain ⟨_,q⟩:=x a _ r
  exact q
noncomputable def Mut:Option HO → Prop
 | some (.lst _)=>True
 | some (.dK _)=>True
 | some (.dT _)=>True
 | some (.set _ _)=>True
 | some (.ins _ _ _)=>True
 | some (.ext _)=>True
 | _=>False
section
variable {P:Program} {w:World} {H:Hp} {h h':Heap} {x e:Addr} {o':HO}
theorem HOk.write (ok:HOk P w H h) (mu:Mut (H x)) (he:e = x ∨ H e = some (.own x)) (k:∀ b u,b ≠ e → h.get? b = some u → h'.get? b = some u) (heo:∃ u,h'.get? e = some u)
  (new:ObjOk P w (upd H x o') h' x o'):HOk P w (upd H x o') h':=fun b u q=>by
 have nown:∀ c y,H c = some (.own y) → c ≠ x:=fun c y r z=>by subst z; rw [r] at mu; exact mu
 have ntup:∀ c xs,H c = some (.tup xs) → c ≠ x:=fun c xs r z=>by subst z; rw [r] at mu; exact mu
 by_cases hb:b = x
 ·subst hb; rw [Qo] at q; cases q; exact new
 ·rw [Q3 hb] at q
  by_cases hbe:b = e
  ·have q':H b = some (.own x):=by
    rcases he with z | z
    ·exact absurd (hbe.trans z) hb
    ·rw [hbe]; exact z
   rw [q] at q'; cases q'
   obtain ⟨v,hv⟩:=heo
   exact ⟨v,by rw [hbe]; exact hv⟩
  ·refine (ok b u q).stay (fun c v hc r=>k c v ?_ r) (fun c r=>by rw [Q3 (nown c b r)]; exact r) (fun c xs r=>by rw [Q3 (ntup c xs r)]; exact r) fun c y r=>by rw [Q3 (fun z=>by subst z; rw [r] at mu; exact mu)]; exact r
   rcases hc with rfl | hc
   ·exact hbe
   ·rintro rfl
    rcases he with z | z
    ·exact nown c b hc z
    ·rw [hc] at z; cases z; exact hb rfl
end
structure Un (fs ex:List Addr) (H H':Hp) (h h':Heap):Prop where
 keep:∀ b o,h.get? b = some o → H b = none → b ∉ fs → b ∉ ex → h'.get? b = some o
 slot:∀ b o,h.get? b = some o → H b = none → b ∈ fs → b ∉ ex → ∃ sl,h'.get? b = some { o with slots:=sl }
 free:∀ b o,h.get? b = some o → H b = none → b ∉ ex → H' b = none
 there:∀ b o,h.get? b = some o → b ∉ ex → ∃ o',h'.get? b = some o'
 tups:∀ b xs,H b = some (.tup xs) → H' b = some (.tup xs)
 frzs:∀ b o u,H b = some (.frz o u) → H' b = some (.frz o u)
 tbls:∀ b q,H b = some (.tbl q) → H' b = some (.tbl q)
section
variable {fs fs' ex ex':List Addr} {H H1 H2:Hp} {h h1 h2 h':Heap} {a x e:Addr} {o:HO}
theorem Un.any (u:Un fs ex H H1 h h1) {b:Addr} {ob:Obj} (q:h.get? b = some ob) (n:H b = none) (hx:b ∉ ex):∃ sl,h1.get? b = some { ob with slots:=sl }:=by
 by_cases hb:b ∈ fs
 ·exact u.slot b ob q n hb hx
 ·exact ⟨ob.slots,u.keep b ob q n hb hx⟩
theorem Un.kept (k:∀ b u,h.get? b = some u → h'.get? b = some u):Un fs ex H H h h' :=
 ⟨fun b ob q _ _ _=>k b ob q,fun b ob q _ _ _=>⟨ob.slots,k b ob q⟩,fun _ _ _ n _=>n,fun b ob q _=>⟨ob,k b ob q⟩,fun _ _ q=>q,fun _ _ _ q=>q,fun _ _ q=>q⟩
theorem Un.refl:Un fs ex H H h h:=Un.kept fun _ _ q=>q
theorem Un.laid (k:∀ b u,h.get? b = some u → h'.get? b = some u) (hp:h.objs.size ≤ a) (hn:H a = none):Un fs ex H (upd H a o) h h' where
 keep:=fun b u q _ _ _=>k b u q
 slot:=fun b u q _ _ _=>⟨u.slots,k b u q⟩
 free:=fun b u q n _=>by rw [Q3 (Nat.ne_of_lt (Nat.lt_of_lt_of_le (Heap.lt_size q) hp))]; exact n
 there:=fun b u q _=>⟨u,k b u q⟩
 tups:=fun b xs q=>by rw [Q3 (Qbj q hn)]; exact q
 frzs:=fun b u xs q=>by rw [Q3 (Qbj q hn)]; exact q
 tbls:=fun b ps q=>by rw [Q3 (Qbj q hn)]; exact q
theorem Un.write (mu:Mut (H x)) (he:e = x ∨ H e = some (.own x)) (k:∀ b u,b ≠ e → h.get? b = some u → h'.get? b = some u) (heo:∃ u,h'.get? e = some u):Un fs ex H (upd H x o) h h':=by
 have hx:∀ b,H b = none → b ≠ x:=fun b n z=>by subst z; rw [n] at mu; exact mu
 have hb:∀ b,H b = none → b ≠ e:=fun b n z=>by
  subst z
  rcases he with r | r
  ·exact hx b n r
  ·rw [n] at r; cases r
 have hm:∀ b u,H b = some u → ¬ Mut (some u) → b ≠ x:=fun b u q nm z=>by subst z; rw [q] at mu; exact nm mu
 refine ⟨fun b u q n _ _=>k b u (hb b n) q,fun b u q n _ _=>⟨u.slots,k b u (hb b n) q⟩,fun b u q n _=>by rw [Q3 (hx b n)]; exact n,fun b u q _=>?_,
  fun b xs q=>by rw [Q3 (hm b _ q fun z=>z)]; exact q,fun b u xs q=>by rw [Q3 (hm b _ q fun z=>z)]; exact q,fun b ps q=>by rw [Q3 (hm b _ q fun z=>z)]; exact q⟩
 by_cases hbe:b = e
 ·subst hbe; exact heo
 ·exact ⟨u,k b u hbe q⟩
end
noncomputable def trk (h:Heap) (H:Hp):List Addr:=(List.range h.objs.size).filter fun a=>(H a).isSome
noncomputable def Qom (h:Heap) (H:Hp):Heap:=PySem.W.hideAll h (trk h H)
theorem Qvy (h:Heap) (H:Hp):(Qom h H).objs.size = h.objs.size:=PySem.W.hideAll_size _ _
theorem Qxb {h:Heap} {H:Hp} {b:Addr} {o:Obj} (e:h.get? b = some o) (n:H b = none):(Qom h H).get? b = some o :=
 PySem.W.hideAll_get _ e fun hm=>by
  have q:(H b).isSome = true:=(List.mem_filter.mp hm).2
  rw [n] at q; simp at q
theorem Q05 {h:Heap} {H:Hp} {b:Addr} {o:Obj} (e:(Qom h H).get? b = some o):h.get? b = some o ∧ H b = none:=by
 have e':h.get? b = some o:=PySem.W.of_hideAll (trk h H) e
 refine ⟨e',?_⟩
 cases q:H b with
 | none=>rfl
 | some x =>
  have hm:b ∈ trk h H:=List.mem_filter.mpr ⟨List.mem_range.mpr (Heap.lt_size e'),by simp [q]⟩
  have z:(Qom h H).get? b = none:=PySem.W.hideAll_none (trk h H) hm
  rw [z] at e; cases e
noncomputable def Q06 (g h:Heap) (L:Addr):List (Addr × Obj):=(List.range h.objs.size).filterMap fun a=>if a = L ∨ (g.get? a).isSome = true then none else (h.get? a).map fun o=>(a,o)
noncomputable def rest (g h:Heap) (L d:Addr):List (Addr × Obj):=(Q06 g h L).filter fun p=>decide (p.1 ≠ d)
structure Mod (K:PySem.W.Frag) (mg:Str → Option Value) (base:Heap):Prop where
 kin:K.In base
 glob:base.Ns mainGlobals mg
 blt:∃ mb,base.Ns builtinsNs mb ∧ ∀ x:Str,x ≠ "__name__" → mb x = bootBuiltins x
 nolimit:base.NoLimit
 bm:∃ bm ob,mg "__builtins__" = some (.ref bm) ∧ bm ≠ builtinsNs ∧ base.get? bm = some ob ∧ ob.cls = .type "module" ∧ ob.dict = some builtinsNs ∧ ob.data = .plain
noncomputable def Qsy (K:PySem.W.Frag) (a:Addr) (q:Str):Prop:=∃ b t,K.getLast? = some (b,{ cls:=.none,data:=.fields #[.ref a,.str q t] })
noncomputable def Qxc (K:PySem.W.Frag) (H:Hp):Prop:=∀ a q,Qsy K a q → H a = some (.tbl q)
structure Cx where
 prog:Program
 w:World
 K:PySem.W.Frag
 mg:Str → Option Value
 base:Heap
 A:Around
 N:List Str
 s₀:Shared
 H₀:Hp
 env:Env
 outer:List Env
 stack:List Env
 ex:List Addr
 fn:Str → Bool
 calm:Bool
 pn:List (Addr × Obj)
 xe:Value → Shared → Prop
noncomputable def frs (l:List Env):List Addr:=l.filterMap (·.frame)
noncomputable abbrev Cx.fs (X:Cx):List Addr:=frs X.outer
noncomputable def Vis (sc:Scope) (x:Str):Prop:=sc.names.lookup x = some .local ∨ sc.names.lookup x = some .cell ∨ sc.names.lookup x = some .free
noncomputable def Loc (sc:Scope) (x:Str):Prop:=sc.names.lookup x = some .local ∨ sc.names.lookup x = some .cell
noncomputable def Look (env:Env) (h:Heap) (m:Str → Option Value) (x:Str) (u:Value):Prop :=
 (env.kindOf x = some .local ∧ m x = some u) ∨ ((env.kindOf x = some .cell ∨ env.kindOf x = some .free) ∧ ∃ c,env.cells.lookup x = some c ∧ h.IsCell c (some u))
structure Cx.Ok (X:Cx):Prop where
 mod:Mod X.K X.mg X.base
 kind:X.env.scope.kind = .function
 glob:X.env.globals = mainGlobals
 blt:X.env.builtins = builtinsNs
 above:X.s₀.heap.objs.size ≤ X.env.locals
 inj:∀ x y c,X.env.cells.lookup x = some c → X.env.cells.lookup y = some c → x = y
 has:∀ x,(X.env.kindOf x = some .cell ∨ X.env.kindOf x = some .free) → ∃ c,X.env.cells.lookup x = some c
 cab:∀ x c,X.fn x = true → X.env.cells.lookup x = some c → X.s₀.heap.objs.size ≤ c
 hd:X.calm = true → X.A.handled = none
 frames:X.A.frames = some X.stack
 stk:X.stack = X.outer ∨ (X.stack = X.env :: X.outer ∧ X.env.frame = some X.env.locals)
 exf:∀ b ∈ X.ex,b ≠ X.env.locals ∧ ∀ x c,X.env.cells.lookup x = some c → c ≠ b
 bs:∀ b o,X.base.get? b = some o → X.s₀.heap.get? b = some o ∧ X.H₀ b = none
 bsz:X.base.objs.size ≤ X.s₀.heap.objs.size
 noex:∀ b o,X.base.get? b = some o → b ∉ X.ex
 exfs:∀ b ∈ X.ex,b ∉ X.fs
 funs:X.s₀.heap.FunFrames X.base X.outer
 frf:(∀ b ∈ X.fs,X.H₀ b = none) ∧ Qxc X.K X.H₀
structure Inv (X:Cx) (pins:List (Addr × Obj)) (σ:List (Option V)) (H:Hp) (s:Shared):Prop where
 ok:X.Ok
 os:s.os = X.s₀.os
 bare:AllBare s.gens
 base:Un X.fs X.ex X.H₀ H X.s₀.heap s.heap
 loc:∃ m,s.heap.Ns X.env.locals m ∧ ∀ (i:Nat) (x:Str) (v:V),X.N[i]? = some x → σ[i]? = some (some v) → Vis X.env.scope x → ∃ u,RelV v u ∧ Look X.env s.heap m x u
 cell:∀ x c,X.env.cells.lookup x = some c → ∃ v,s.heap.IsCell c v
 free:H X.env.locals = none
 freeC:∀ x c,X.env.cells.lookup x = some c → H c = none ∨ (X.fn x = false ∧ ∃ o u,H c = some (.frz o u))
 pin:∀ p ∈ X.pn ++ pins,s.heap.get? p.1 = some p.2 ∧ H p.1 = none ∧ p.1 ≠ X.env.locals ∧ p.1 ∉ X.fs ∧ ∀ v,p.2.data ≠ .cell v
 hok:HOk X.prog X.w H s.heap
 len:σ.length = X.N.length
section
variable {X:Cx} {pins:List (Addr × Obj)} {σ:List (Option V)} {H H':Hp} {s:Shared} {h':Heap}
theorem Cx.Ok.nofr (ok:X.Ok) {b:Addr} {o:Obj} (e:X.base.get? b = some o):b ∉ X.fs:=fun hb=>by
 have:=(ok.funs.mem hb).1
 rw [e] at this; cases this
theorem Inv.bs (I:Inv X pins σ H s):∀ b o,X.base.get? b = some o → s.heap.get? b = some o ∧ H b = none:=fun b o e =>
 ⟨I.base.keep b o (I.ok.bs b o e).1 (I.ok.bs b o e).2 (I.ok.nofr e) (I.ok.noex b o e),I.base.free b o (I.ok.bs b o e).1 (I.ok.bs b o e).2 (I.ok.noex b o e)⟩
theorem Inv.bk (I:Inv X pins σ H s):∀ b o,X.base.get? b = some o → s.heap.get? b = some o:=fun b o e=>(I.bs b o e).1
theorem Inv.mod (I:Inv X pins σ H s):Mod X.K X.mg X.base:=I.ok.mod
theorem Inv.kIn (I:Inv X pins σ H s):X.K.In s.heap:=I.ok.mod.kin.keeps I.bk
theorem Inv.lt (I:Inv X pins σ H s):X.env.locals < s.heap.objs.size:=let ⟨_,hn,_⟩:=I.loc; hn.lt
theorem Inv.sz (I:Inv X pins σ H s):X.s₀.heap.objs.size ≤ s.heap.objs.size:=Nat.le_trans I.ok.above (Nat.le_of_lt I.lt)
theorem Inv.nofs (I:Inv X pins σ H s) {a:Addr} (h:s.heap.objs.size ≤ a):a ∉ X.fs:=fun hb=>by
 obtain ⟨_,o,ho,_⟩:=I.ok.funs.mem hb
 exact absurd (Nat.lt_of_lt_of_le (Heap.lt_size ho) (Nat.le_trans I.sz h)) (Nat.lt_irrefl _)
theorem Inv.cne (I:Inv X pins σ H s):∀ x c,X.env.cells.lookup x = some c → c ≠ X.env.locals:=fun x c e z=>by
 obtain ⟨v,o,ho,hd⟩:=I.cell x c e
 obtain ⟨m,⟨o',es,ep,ho',hd',_⟩,_⟩:=I.loc
 rw [z,ho'] at ho; cases ho; rw [hd'] at hd; cases hd
theorem Inv.funs (I:Inv X pins σ H s):s.heap.FunFrames X.base X.outer:=by
 have all:∀ (l:List Env),(∀ b ∈ frs l,b ∈ X.fs) → X.s₀.heap.FunFrames X.base l → s.heap.FunFrames X.base l:=by
  intro l
  induction l with
  | nil=>intro _ _; trivial
  | cons env r ih =>
   intro hs hl
   obtain ⟨hk,⟨L,o,hf,hn,ho,hd⟩,hr⟩:=hl
   have hL:L ∈ X.fs:=hs L (by unfold frs; rw [List.filterMap_cons,hf]; exact List.mem_cons_self)
   obtain ⟨sl,e⟩:=I.base.slot L o ho (I.ok.frf.1 L hL) hL fun z=>I.ok.exfs L z hL
   exact ⟨hk,⟨L,_,hf,hn,e,hd⟩,ih (fun b hb=>hs b (by unfold frs; rw [List.filterMap_cons,hf]; exact List.mem_cons_of_mem _ hb)) hr⟩
 exact all X.outer (fun _ hb=>hb) I.ok.funs
theorem Inv.stack (I:Inv X pins σ H s):s.heap.FunFrames X.base X.stack:=by
 rcases I.ok.stk with e | ⟨e,hf⟩
 ·rw [e]; exact I.funs
 ·rw [e]
  obtain ⟨m,hn,_⟩:=I.loc
  refine .cons (by rw [I.ok.kind]; decide) hf hn ?_ I.funs
  exact Heap.get?_none_of_le (Nat.le_trans I.ok.bsz I.ok.above)
theorem Inv.stkSub (I:Inv X pins σ H s):∀ b ∈ frs X.stack,b ∈ X.env.locals :: X.fs:=fun b hb=>by
 rcases I.ok.stk with e | ⟨e,hf⟩
 ·rw [e] at hb; exact List.mem_cons_of_mem _ hb
 ·rw [e] at hb
  unfold frs at hb
  rw [List.filterMap_cons,hf] at hb
  exact hb
theorem Inv.stkFree (I:Inv X pins σ H s):∀ b ∈ frs X.stack,H b = none:=fun b hb=>by
 rcases List.mem_cons.mp (I.stkSub b hb) with e | hb
 ·rw [e]; exact I.free
 ·obtain ⟨_,o,ho,_⟩:=I.ok.funs.mem hb
  exact I.base.free b o ho (I.ok.frf.1 b hb) fun z=>I.ok.exfs b z hb
theorem Inv.tab (I:Inv X pins σ H s):Qxc X.K H:=fun a q h=>I.base.tbls a q (I.ok.frf.2 a q h)
theorem Inv.step {g':Array GenState} {t':Nat} {d':Drawn} {ch:List Addr} (I:Inv X pins σ H s)
  (hch:∀ b ∈ ch,(b ∈ X.ex ∨ X.s₀.heap.objs.size ≤ b) ∧ b ≠ X.env.locals ∧ (∀ x c,X.env.cells.lookup x = some c → c ≠ b) ∧ ∀ p ∈ X.pn ++ pins,p.1 ≠ b)
  (keep:∀ b o,b ≠ X.env.locals → b ∉ X.fs → b ∉ ch → s.heap.get? b = some o → H b = none → h'.get? b = some o)
  (slot:∀ b o,b ≠ X.env.locals → b ∈ X.fs → b ∉ ch → s.heap.get? b = some o → H b = none → ∃ sl,h'.get? b = some { o with slots:=sl }) (free:∀ b o,b ∉ ch → s.heap.get? b = some o → H b = none → H' b = none)
  (there:∀ b o,b ∉ ch → s.heap.get? b = some o → ∃ o',h'.get? b = some o')
  (tups:∀ b xs,H b = some (.tup xs) → H' b = some (.tup xs)) (frzs:∀ b o u,H b = some (.frz o u) → H' b = some (.frz o u)) (tbls:∀ b q,H b = some (.tbl q) → H' b = some (.tbl q))
  (ns:∀ m,s.heap.Ns X.env.locals m → h'.Ns X.env.locals m) (hok:HOk X.prog X.w H' h') (hg:AllBare g') :
  Inv X pins σ H' { s with heap:=h',gens:=g',drawn:=d',toks:=t' }:=by
 have neL:∀ b o,X.s₀.heap.get? b = some o → b ≠ X.env.locals:=fun b o e=>Nat.ne_of_lt (Nat.lt_of_lt_of_le (Heap.lt_size e) I.ok.above)
 have neC:∀ b o,X.s₀.heap.get? b = some o → b ∉ X.ex → b ∉ ch:=fun b o e hx hb=>by
  rcases (hch b hb).1 with z | z
  ·exact hx z
  ·exact absurd (Nat.lt_of_lt_of_le (Heap.lt_size e) z) (Nat.lt_irrefl _)
 have cellK:∀ x c,X.env.cells.lookup x = some c → ∀ v,s.heap.IsCell c v → h'.IsCell c v:=fun x c e v zz1=>by
  obtain ⟨o,ho,hd⟩:=zz1
  have nch:c ∉ ch:=fun z=>(hch c z).2.2.1 x c e rfl
  rcases I.freeC x c e with fc | ⟨_,of,u,fc⟩
  ·by_cases hc:c ∈ X.fs
   ·obtain ⟨sl,q⟩:=slot c o (I.cne x c e) hc nch ho fc
    exact ⟨_,q,hd⟩
   ·exact ⟨o,keep c o (I.cne x c e) hc nch ho fc,hd⟩
  ·have e1:=(I.hok c _ fc).1
   rw [ho] at e1
   cases e1
   exact ⟨_,(hok c _ (frzs c _ _ fc)).1,hd⟩
 refine ⟨I.ok,I.os,hg,⟨fun b o e n hb hx=>?_,fun b o e n hb hx=>?_,fun b o e n hx=>?_,fun b o e hx=>?_,fun b xs e=>tups b xs (I.base.tups b xs e),fun b o xs e=>frzs b o xs (I.base.frzs b o xs e),fun b ps e=>?_⟩,?_,fun x c e=>?_,?_,fun x c e=>?_,fun p hp=>?_,hok,I.len⟩
 ·exact keep b o (neL b o e) hb (neC b o e hx) (I.base.keep b o e n hb hx) (I.base.free b o e n hx)
 ·obtain ⟨sl,e1⟩:=I.base.slot b o e n hb hx
  obtain ⟨sl',e2⟩:=slot b _ (neL b o e) hb (neC b o e hx) e1 (I.base.free b o e n hx)
  exact ⟨sl',e2⟩
 ·obtain ⟨o',e1⟩:=I.base.there b o e hx
  exact free b o' (neC b o e hx) e1 (I.base.free b o e n hx)
 ·obtain ⟨o',e1⟩:=I.base.there b o e hx
  exact there b o' (neC b o e hx) e1
 ·exact tbls b ps (I.base.tbls b ps e)
 ·obtain ⟨m,hn,hl⟩:=I.loc
  refine ⟨m,ns m hn,fun i x v e1 e2 e3=>?_⟩
  obtain ⟨u,r,l⟩:=hl i x v e1 e2 e3
  refine ⟨u,r,?_⟩
  rcases l with l | ⟨k,c,e,z⟩
  ·exact .inl l
  ·exact .inr ⟨k,c,e,cellK x c e _ z⟩
 ·obtain ⟨v,z⟩:=I.cell x c e
  exact ⟨v,cellK x c e v z⟩
 ·obtain ⟨m,⟨o,_,_,ho,_⟩,_⟩:=I.loc
  exact free _ o (fun z=>(hch _ z).2.1 rfl) ho I.free
 ·obtain ⟨v,o,ho,hd⟩:=I.cell x c e
  rcases I.freeC x c e with fc | ⟨fn,of,u,fc⟩
  ·exact .inl (free c o (fun z=>(hch c z).2.2.1 x c e rfl) ho fc)
  ·exact .inr ⟨fn,of,u,frzs c _ _ fc⟩
 ·obtain ⟨e,n,ne,nf,d⟩:=I.pin p hp
  have nch:p.1 ∉ ch:=fun z=>(hch p.1 z).2.2.2 p hp rfl
  exact ⟨keep p.1 p.2 ne nf nch e n,free p.1 p.2 nch e n,ne,nf,d⟩
theorem Inv.un {t':Nat} (I:Inv X pins σ H s) (u:Un X.fs [] H H' s.heap h') (hok:HOk X.prog X.w H' h'):Inv X pins σ H' { s with heap:=h',toks:=t' }:=by
 obtain ⟨m,⟨o,es,ep,ho,r⟩,_⟩:=id I.loc
 obtain ⟨sl,hL⟩:=u.any ho I.free (by simp)
 exact I.step (g':=s.gens) (d':=s.drawn) (ch:=[]) (fun _ z=>nomatch z) (fun b o _ hb _ e n=>u.keep b o e n hb (by simp)) (fun b o _ hb _ e n=>u.slot b o e n hb (by simp)) (fun b o _ e n=>u.free b o e n (by simp)) (fun b o _ e=>u.there b o e (by simp)) u.tups u.frzs u.tbls (fun m' hm=>by
  obtain ⟨o',es',ep',ho',r'⟩:=hm
  rw [ho] at ho'; cases ho'
  exact ⟨_,es',ep',hL,r'⟩) hok I.bare
theorem Inv.call {g':Array GenState} {t':Nat} {d':Drawn} {ch:List Addr} (I:Inv X pins σ H s) (u:Un (frs X.stack) ch H H' s.heap h') (hok:HOk X.prog X.w H' h') (hg:AllBare g')
  (hch:∀ b ∈ ch,(b ∈ X.ex ∨ X.s₀.heap.objs.size ≤ b) ∧ b ≠ X.env.locals ∧ (∀ x c,X.env.cells.lookup x = some c → c ≠ b) ∧ ∀ p ∈ X.pn ++ pins,p.1 ≠ b) :
  Inv X pins σ H' { s with heap:=h',gens:=g',drawn:=d',toks:=t' }:=by
 obtain ⟨m,⟨o,es,ep,ho,r⟩,_⟩:=id I.loc
 obtain ⟨sl,hL⟩:=u.any ho I.free fun z=>(hch _ z).2.1 rfl
 exact I.step (ch:=ch) hch (fun b o hL hb hc e n=>u.keep b o e n (fun z=>(List.mem_cons.mp (I.stkSub b z)).elim hL hb) hc) (fun b o _ _ hc e n=>u.any e n hc) (fun b o hc e n=>u.free b o e n hc) (fun b o hc e=>u.there b o e hc) u.tups u.frzs u.tbls (fun m' hm=>by
  obtain ⟨o',es',ep',ho',r'⟩:=hm
  rw [ho] at ho'; cases ho'
  exact ⟨_,es',ep',hL,r'⟩) hok hg
theorem Inv.turned {t':Nat} {it:Addr} (I:Inv X pins σ H s) (k:∀ b o,b ≠ it → s.heap.get? b = some o → h'.get? b = some o) (hn:H it = none) (hL:it ≠ X.env.locals)
  (h1:it ∈ X.ex ∨ X.s₀.heap.objs.size ≤ it) (h2:∀ x c,X.env.cells.lookup x = some c → c ≠ it) (h3:∀ p ∈ X.pn ++ pins,p.1 ≠ it):Inv X pins σ H { s with heap:=h',toks:=t' }:=by
 have nit:∀ b u,H b = some u → b ≠ it:=fun b u e z=>by rw [z,hn] at e; cases e
 refine I.step (g':=s.gens) (d':=s.drawn) (ch:=[it]) (fun b hb=>?_) (fun b o _ _ hc e _=>k b o (fun z=>hc (by simp [z])) e) (fun b o _ _ hc e _=>⟨o.slots,k b o (fun z=>hc (by simp [z])) e⟩) (fun _ _ _ _ n=>n)
  (fun b o hc e=>⟨o,k b o (fun z=>hc (by simp [z])) e⟩) (fun _ _ e=>e) (fun _ _ _ e=>e) (fun _ _ e=>e) (fun m hm=>?_) (fun b u e=>?_) I.bare
 ·have e:b = it:=by simpa using hb
  subst e
  exact ⟨h1,hL,h2,h3⟩
 ·obtain ⟨o,es,ep,ho,r⟩:=hm
  exact ⟨o,es,ep,k _ o (Ne.symm hL) ho,r⟩
 ·refine (I.hok b u e).stay (fun c v hc q=>k c v ?_ q) (fun _ q=>q) fun _ _ q=>q
  rcases hc with z | z
  ·rw [z]; exact nit b u e
  ·exact nit c _ z
theorem Inv.tok (I:Inv X pins σ H s) (t:Nat):Inv X pins σ H { s with toks:=t }:=I.un (h':=s.heap) (t':=t) Un.refl I.hok
theorem Inv.kept {t':Nat} (I:Inv X pins σ H s) (k:∀ b u,s.heap.get? b = some u → h'.get? b = some u):Inv X pins σ H { s with heap:=h',toks:=t' }:=I.un (Un.kept k) (I.hok.kept k)
theorem Inv.laid {a:Addr} {o:HO} {t':Nat} (I:Inv X pins σ H s) (k:∀ b u,s.heap.get? b = some u → h'.get? b = some u) (hp:s.heap.objs.size ≤ a) (new:ObjOk X.prog X.w (upd H a o) h' a o) :
  Inv X pins σ (upd H a o) { s with heap:=h',toks:=t' }:=I.un (Un.laid k hp (I.hok.fresh hp)) (I.hok.laid k hp new)
theorem Inv.write {x e:Addr} {o:HO} {t':Nat} (I:Inv X pins σ H s) (mu:Mut (H x)) (he:e = x ∨ H e = some (.own x)) (k:∀ b u,b ≠ e → s.heap.get? b = some u → h'.get? b = some u) (heo:∃ u,h'.get? e = some u)
  (new:ObjOk X.prog X.w (upd H x o) h' x o):Inv X pins σ (upd H x o) { s with heap:=h',toks:=t' }:=I.un (Un.write mu he k heo) (I.hok.write mu he k heo new)
theorem Inv.pins_of {pins':List (Addr × Obj)} (I:Inv X pins σ H s) (h:∀ p ∈ pins',s.heap.get? p.1 = some p.2 ∧ H p.1 = none ∧ p.1 ≠ X.env.locals ∧ p.1 ∉ X.fs ∧ ∀ v,p.2.data ≠ .cell v):Inv X pins' σ H s :=
 ⟨I.ok,I.os,I.bare,I.base,I.loc,I.cell,I.free,I.freeC,fun p hp=>(List.mem_append.mp hp).elim (fun z=>I.pin p (List.mem_append_left _ z)) (h p),I.hok,I.len⟩
theorem Qqp {N:List Str} (hN:N.Nodup) {i j:Nat} {x:Str} (a:N[i]? = some x) (b:N[j]? = some x):i = j:=by
 obtain ⟨h1,e1⟩:=List.getElem?_eq_some_iff.mp a
 obtain ⟨h2,e2⟩:=List.getElem?_eq_some_iff.mp b
 exact (List.getElem_inj hN).mp (e1.trans e2.symm)
theorem Qvz {M:Model} {A:Around} {E:Value → Shared → Prop} {i:Nat} {x:Str} {v:V} {u:Value} {Q:Unit → Shared → Prop} (I:Inv X pins σ H s) (hN:X.N.Nodup) (hi:X.N[i]? = some x) (hx:Loc X.env.scope x) (r:RelV v u)
  (h:∀ s',Inv X pins (σ.set i (some v)) H s' → (∃ a,Heap.SameBut a s.heap s'.heap ∧ (a = X.env.locals ∨ X.env.cells.lookup x = some a)) → Q () s') (hf:X.fn x = true ∨ X.env.scope.names.lookup x = some .local:=by first | exact .inl rfl | exact .inr rfl | assumption):wpAny M A (storeName X.env x u) Q E s:=by
 obtain ⟨m,hn,hl⟩:=id I.loc
 have hcls:(X.env.scope.kind == .class || (X.env.scope.kind == .module && X.env.locals != X.env.globals)) = false:=by rw [I.ok.kind]; rfl
 have hiσ:i < σ.length:=by rw [I.len]; exact (List.getElem?_eq_some_iff.mp hi).1
 have cne:=I.cne
 have tracked:∀ {a:Addr} {h':Heap},(∃ o,s.heap.get? a = some o ∧ H a = none) → Heap.SameBut a s.heap h' → HOk X.prog X.w H h':=fun {a h'} ha hs b ob e=>by
  obtain ⟨_,_,hfree⟩:=ha
  refine (I.hok b ob e).stay (fun c w' hc q=>(hs.2 c ?_).trans q) (fun _ q=>q) fun _ _ q=>q
  rintro rfl
  rcases hc with rfl | hc
  ·rw [hfree] at e; cases e
  ·rw [hfree] at hc; cases hc
 rcases hx with hk | hk
 ·refine wpAny_storeName_local hk hn (fun h' hn' hs=>?_) hcls
  obtain ⟨oL,_,_,hoL,_⟩:=id hn
  refine h _ ⟨I.ok,I.os,I.bare,⟨fun b o e n hb hx=>?_,fun b o e n hb hx=>?_,I.base.free,fun b o e hx=>?_,I.base.tups,I.base.frzs,I.base.tbls⟩,⟨_,hn',fun j y v' e1 e2 e3=>?_⟩,fun y c e=>?_,I.free,I.freeC,fun p hp=>?_,tracked ⟨oL,hoL,I.free⟩ hs,by simpa using I.len⟩ ⟨_,hs,.inl rfl⟩
  ·exact (hs.2 b (Nat.ne_of_lt (Nat.lt_of_lt_of_le (Heap.lt_size e) I.ok.above))).trans (I.base.keep b o e n hb hx)
  ·obtain ⟨sl,e1⟩:=I.base.slot b o e n hb hx
   exact ⟨sl,(hs.2 b (Nat.ne_of_lt (Nat.lt_of_lt_of_le (Heap.lt_size e) I.ok.above))).trans e1⟩
  ·obtain ⟨o',e1⟩:=I.base.there b o e hx
   exact ⟨o',(hs.2 b (Nat.ne_of_lt (Nat.lt_of_lt_of_le (Heap.lt_size e) I.ok.above))).trans e1⟩
  ·by_cases hj:j = i
   ·subst hj
    rw [hi] at e1; cases e1
    rw [List.getElem?_set_self hiσ] at e2
    cases e2
    exact ⟨u,r,.inl ⟨hk,by simp⟩⟩
   ·rw [List.getElem?_set_ne (Ne.symm hj)] at e2
    obtain ⟨u',r',q⟩:=hl j y v' e1 e2 e3
    refine ⟨u',r',?_⟩
    rcases q with ⟨k,e⟩ | ⟨k,c,e,z⟩
    ·refine .inl ⟨k,?_⟩
     have:y ≠ x:=fun e=>hj (Qqp hN e1 (e ▸ hi))
     simp [this,e]
    ·exact .inr ⟨k,c,e,z.sameBut hs (cne y c e)⟩
  ·obtain ⟨w',z⟩:=I.cell y c e
   exact ⟨w',z.sameBut hs (cne y c e)⟩
  ·obtain ⟨e,n,ne,nf,d⟩:=I.pin p hp
   exact ⟨(hs.2 p.1 ne).trans e,n,ne,nf,d⟩
 ·have hfn:X.fn x = true:=by
   rcases hf with z | z
   ·exact z
   ·rw [z] at hk; cases hk
  obtain ⟨c,hc⟩:=I.ok.has x (.inl hk)
  obtain ⟨w',z⟩:=I.cell x c hc
  refine wpAny_storeName_cell I.ok.kind hk hc z (fun h' hc' hs=>?_)
  obtain ⟨oc,hoc,hocd⟩:=id z
  refine h { s with heap:=h' } ⟨I.ok,I.os,I.bare,⟨fun b o e n hb hx=>?_,fun b o e n hb hx=>?_,I.base.free,fun b o e hx=>?_,I.base.tups,I.base.frzs,I.base.tbls⟩,⟨m,hn.sameBut hs (Ne.symm (cne x c hc)),fun j y v' e1 e2 e3=>?_⟩,fun y c' e=>?_,I.free,I.freeC,fun p hp=>?_,tracked ⟨oc,hoc,(I.freeC x c hc).resolve_right fun z=>by rw [hfn] at z; cases z.1⟩ hs,by simpa using I.len⟩ ⟨c,hs,.inr hc⟩
  ·exact (hs.2 b (Nat.ne_of_lt (Nat.lt_of_lt_of_le (Heap.lt_size e) (I.ok.cab x c hfn hc)))).trans (I.base.keep b o e n hb hx)
  ·obtain ⟨sl,e1⟩:=I.base.slot b o e n hb hx
   exact ⟨sl,(hs.2 b (Nat.ne_of_lt (Nat.lt_of_lt_of_le (Heap.lt_size e) (I.ok.cab x c hfn hc)))).trans e1⟩
  ·obtain ⟨o',e1⟩:=I.base.there b o e hx
   exact ⟨o',(hs.2 b (Nat.ne_of_lt (Nat.lt_of_lt_of_le (Heap.lt_size e) (I.ok.cab x c hfn hc)))).trans e1⟩
  ·by_cases hj:j = i
   ·subst hj
    rw [hi] at e1; cases e1
    rw [List.getElem?_set_self hiσ] at e2
    cases e2
    exact ⟨u,r,.inr ⟨.inl hk,c,hc,hc'⟩⟩
   ·rw [List.getElem?_set_ne (Ne.symm hj)] at e2
    obtain ⟨u',r',q⟩:=hl j y v' e1 e2 e3
    refine ⟨u',r',?_⟩
    rcases q with q | ⟨k,c',e,z'⟩
    ·exact .inl q
    ·refine .inr ⟨k,c',e,z'.sameBut hs ?_⟩
     rintro rfl
     exact hj (Qqp hN e1 (I.ok.inj _ _ _ e hc ▸ hi))
  ·by_cases hcc:c' = c
   ·subst hcc; exact ⟨_,hc'⟩
   ·obtain ⟨w2,z2⟩:=I.cell y c' e
    exact ⟨w2,z2.sameBut hs hcc⟩
  ·obtain ⟨e,n,ne,nf,d⟩:=I.pin p hp
   refine ⟨(hs.2 p.1 ?_).trans e,n,ne,nf,d⟩
   intro q
   rw [q,hoc] at e
   have q':oc = p.2:=Option.some.inj e
   exact d w' (by rw [← q']; exact hocd)
theorem Qqq {M:Model} {A:Around} {E:Value → Shared → Prop} {i:Nat} {x:Str} {v:V} {u:Value} {Q:Unit → Shared → Prop} (I:Inv X pins σ H s) (hN:X.N.Nodup) (hi:X.N[i]? = some x) (hx:Loc X.env.scope x) (r:RelV v u)
  (h:∀ s',Inv X pins (σ.set i (some v)) H s' → Q () s') (hf:X.fn x = true ∨ X.env.scope.names.lookup x = some .local:=by first | exact .inl rfl | exact .inr rfl | assumption):wpAny M A (storeName X.env x u) Q E s :=
 Qvz I hN hi hx r (fun s' I' _=>h s' I') hf
theorem Inv.call' {s':Shared} {ch:List Addr} (I:Inv X pins σ H s) (ho:s'.os = s.os) (u:Un (frs X.stack) ch H H' s.heap s'.heap) (hok:HOk X.prog X.w H' s'.heap) (hg:AllBare s'.gens)
  (hch:∀ b ∈ ch,(b ∈ X.ex ∨ X.s₀.heap.objs.size ≤ b) ∧ b ≠ X.env.locals ∧ (∀ x c,X.env.cells.lookup x = some c → c ≠ b) ∧ ∀ p ∈ X.pn ++ pins,p.1 ≠ b):Inv X pins σ H' s':=by
 obtain ⟨h',g',d',t',o'⟩:=s'
 have e:o' = s.os:=ho
 subst e
 exact I.call (g':=g') (t':=t') (d':=d') u hok hg hch
end
noncomputable abbrev XK:=Value → Option Addr → Hp → Prop
noncomputable abbrev St:=List (Option V)
noncomputable abbrev VK:=V → Hp → Prop
noncomputable abbrev TE:=St → Hp → VK → Prop
noncomputable abbrev TT:=St → Hp → (Bool → Hp → Prop) → Prop
noncomputable abbrev TA:=St → Hp → (List V → Hp → Prop) → Prop
structure Ends where
 nx:St → Hp → Prop
 rt:VK
 bk:St → Hp → Prop:=fun _ _=>False
 ct:St → Hp → Prop:=fun _ _=>False
noncomputable abbrev TS:=Ends → St → Hp → Prop
noncomputable def EP (X:Cx) (pins:List (Addr × Obj)) (σ:St) (Q:VK) (u:Value) (s':Shared):Prop:=∃ v H',Inv X pins σ H' s' ∧ RelV v u ∧ Q v H'
noncomputable def TP (X:Cx) (pins:List (Addr × Obj)) (σ:St) (Q:Bool → Hp → Prop) (b:Bool) (s':Shared):Prop:=∃ H',Inv X pins σ H' s' ∧ Q b H'
noncomputable def AP (X:Cx) (pins:List (Addr × Obj)) (σ:St) (Q:List V → Hp → Prop) (us:List Value) (s':Shared):Prop:=∃ vs H',Inv X pins σ H' s' ∧ Vals vs us ∧ Q vs H'
noncomputable def SP (X:Cx) (pins:List (Addr × Obj)) (D:Ends) (f:Flow) (s':Shared):Prop :=
 match f with
 | .next=>∃ σ' H',Inv X pins σ' H' s' ∧ D.nx σ' H'
 | .brk=>∃ σ' H',Inv X pins σ' H' s' ∧ D.bk σ' H'
 | .cont=>∃ σ' H',Inv X pins σ' H' s' ∧ D.ct σ' H'
 | .ret u=>∃ v σ' H',Inv X pins σ' H' s' ∧ RelV v u ∧ D.rt v H'
noncomputable def PE (X:Cx) (e:Expr) (t:TE):Prop :=
 ∀ (pins:List (Addr × Obj)) (s:Shared) (σ:St) (H:Hp) (Q:VK),Inv X pins σ H s → t σ H Q → wpAny (model X.prog X.w) X.A (eval e X.env) (EP X pins σ Q) X.xe s
noncomputable def PT (X:Cx) (e:Expr) (t:TT):Prop :=
 ∀ (pins:List (Addr × Obj)) (s:Shared) (σ:St) (H:Hp) (Q:Bool → Hp → Prop),Inv X pins σ H s → t σ H Q → wpAny (model X.prog X.w) X.A (isTrue e X.env (eval e X.env)) (TP X pins σ Q) X.xe s
noncomputable def PW (X:Cx) (e:Expr) (t:TT):Prop :=
 ∀ (whole:Sem Value) (pins:List (Addr × Obj)) (s:Shared) (σ:St) (H:Hp) (Q:Bool → Hp → Prop),Inv X pins σ H s → t σ H Q → wpAny (model X.prog X.w) X.A (isTrue e X.env whole) (TP X pins σ Q) X.xe s
theorem PW.pt {X:Cx} {e:Expr} {t:TT} (h:PW X e t):PT X e t:=h _
noncomputable def PA (X:Cx) (es:List Expr) (t:TA):Prop :=
 ∀ (pos:Pos) (pins:List (Addr × Obj)) (s:Shared) (σ:St) (H:Hp) (Q:List V → Hp → Prop),Inv X pins σ H s → t σ H Q → wpAny (model X.prog X.w) X.A (spliced (backTo pos (starEach es X.env))) (AP X pins σ Q) X.xe s
noncomputable def PS (X:Cx) (st:Stmt) (t:TS):Prop :=
 ∀ (pins:List (Addr × Obj)) (s:Shared) (σ:St) (H:Hp) (D:Ends),Inv X pins σ H s → t D σ H → wpAny (model X.prog X.w) X.A (exec st X.env) (SP X pins D) X.xe s
noncomputable def PSs (X:Cx) (st:List Stmt) (t:TS):Prop :=
 ∀ (pins:List (Addr × Obj)) (s:Shared) (σ:St) (H:Hp) (D:Ends),Inv X pins σ H s → t D σ H → wpAny (model X.prog X.w) X.A (execs st X.env) (SP X pins D) X.xe s
theorem thn {α:Type} {t:Sem α} {Q Q':α → Shared → Prop} {M:Model} {A:Around} {E:Value → Shared → Prop} {s:Shared} (h:wpAny M A t Q E s) (hQ:∀ a s,Q a s → Q' a s):wpAny M A t Q' E s:=wpAny_mono h hQ fun _ _ x=>x
section
variable {X:Cx}
theorem bin {a b:Expr} {ta tb:TE} (ha:PE X a ta) (hb:PE X b tb) {pins:List (Addr × Obj)} {s:Shared} {σ:St} {H:Hp} {R:V → V → Hp → Prop} (I:Inv X pins σ H s) (h:ta σ H fun x H1=>tb σ H1 fun y H2=>R x y H2)
  {α:Type} {Q:α → Shared → Prop} {f:Value → Value → Sem α}
  (hf:∀ v u s2 x y H2,Inv X pins σ H2 s2 → RelV x v → RelV y u → R x y H2 → wpAny (model X.prog X.w) X.A (f v u) Q X.xe s2) :
  wpAny (model X.prog X.w) X.A (eval a X.env) (fun v s₁=>wpAny (model X.prog X.w) X.A (eval b X.env) (fun u s₂=>wpAny (model X.prog X.w) X.A (f v u) Q X.xe s₂) X.xe s₁) X.xe s:=by
 refine thn (ha pins s σ H _ I h) fun v s1 ⟨x,H1,I1,r1,q1⟩=>?_
 refine thn (hb pins s1 σ H1 _ I1 q1) fun u s2 ⟨y,H2,I2,r2,q2⟩=>?_
 exact hf v u s2 x y H2 I2 r1 r2 q2
noncomputable abbrev Qon (i:Nat):TE:=fun σ H Q=>∃ v,σ[i]? = some (some v) ∧ Q v H
noncomputable abbrev tC (v:V):TE:=fun _ H Q=>Q v H
theorem Qxd {i:Nat} {x:Str} {pos:Pos} (hN:X.N[i]? = some x) (hv:Vis X.env.scope x) (hd:(x == ("__debug__" : Str)) = false:=by decide) (hcd:(x == ("__classdict__" : Str)) = false:=by decide):PE X (.Name x pos) (Qon i):=by
 intro pins s σ H Q I h
 obtain ⟨v,e,h⟩:=h
 obtain ⟨m,hn,hl⟩:=I.loc
 obtain ⟨u,r,l⟩:=hl i x v hN e hv
 have fin:EP X pins σ Q u s:=⟨v,H,I,r,h⟩
 rcases l with ⟨hk,hm⟩ | ⟨hk,c,hc,hcell⟩
 ·exact wpAny_Name (wpAny_loadName_local I.ok.kind hk hn hm fin) hd
 ·rcases hk with hk | hk
  ·exact wpAny_Name (wpAny_loadName_cell I.ok.kind hk hc hcell fin) hd
  ·exact wpAny_Name (wpAny_loadName_free I.ok.kind hk hc hcell fin hcd) hd
theorem Q50 {i j pos}:PE X (.Constant (.int i) j pos) (tC (.int i)):=fun _ _ _ H _ I h=>wpAny_Constant_int ⟨.int i,H,I.tok _,⟨_,rfl⟩,h⟩
theorem Q91 {b j pos}:PE X (.Constant (.bool b) j pos) (tC (.bl b)):=fun _ _ _ H _ I h=>Constant_bool ⟨.bl b,H,I,rfl,h⟩
theorem Q51 {j pos}:PE X (.Constant .none j pos) (tC .non):=fun _ _ _ H _ I h=>Constant_none ⟨.non,H,I,rfl,h⟩
noncomputable def Gl (X:Cx) (x:Str):Prop:=X.env.kindOf x = some .globalImplicit
theorem Qoo {E:Value → Shared → Prop} {pins:List (Addr × Obj)} {s:Shared} {σ:St} {H:Hp} {x:Str} {u:Value} {pos:Pos} {Q:Value → Shared → Prop} (I:Inv X pins σ H s) (hg:Gl X x) (hm:X.mg x = some u) (h:Q u s)
  (hd:(x == ("__debug__" : Str)) = false:=by decide):wpAny (model X.prog X.w) X.A (eval (.Name x pos) X.env) Q E s :=
 Calls.Name_function_global I.ok.kind hg (Calls.loadGlobal_global (by rw [I.ok.glob]; exact I.mod.glob.keeps I.bk) hm h) hd
theorem Qjq {E:Value → Shared → Prop} {pins:List (Addr × Obj)} {s:Shared} {σ:St} {H:Hp} {x:Str} {u:Value} {pos:Pos} {Q:Value → Shared → Prop} (I:Inv X pins σ H s) (hg:Gl X x) (hm:X.mg x = none) (hv:bootBuiltins x = some u) (h:Q u s)
  (hn:x ≠ "__name__" := by decide) (hd:(x == ("__debug__" : Str)) = false:=by decide):wpAny (model X.prog X.w) X.A (eval (.Name x pos) X.env) Q E s:=by
 obtain ⟨mb,h1,h2⟩:=I.mod.blt
 exact Calls.Name_function_global I.ok.kind hg (Calls.loadGlobal_builtin (by rw [I.ok.glob]; exact I.mod.glob.keeps I.bk) hm (by rw [I.ok.blt]; exact h1.keeps I.bk) ((h2 x hn).trans hv) h) hd
theorem Q07 {x:Str} {v:V} {u:Value} {pos:Pos} (hg:Gl X x) (hm:X.mg x = some u) (r:RelV v u) (hd:(x == ("__debug__" : Str)) = false:=by decide):PE X (.Name x pos) (tC v) :=
 fun _ _ _ H _ I h=>Qoo I hg hm ⟨v,H,I,r,h⟩ hd
theorem Q08 {x:Str} {v:V} {u:Value} {pos:Pos} (hg:Gl X x) (hm:X.mg x = none) (hv:bootBuiltins x = some u) (r:RelV v u) (hn:x ≠ "__name__" := by decide) (hd:(x == ("__debug__" : Str)) = false:=by decide):PE X (.Name x pos) (tC v) :=
 fun _ _ _ H _ I h=>Qjq I hg hm hv ⟨v,H,I,r,h⟩ hn hd
variable {a b:Expr} {ta tb:TE} {pos:Pos}
noncomputable def PC (X:Cx) (op:CmpOp) (a b:Expr) (t:TE):Prop :=
 ∀ (pins:List (Addr × Obj)) (s:Shared) (σ:St) (H:Hp) (Q:VK),Inv X pins σ H s → t σ H Q →
  wpAny (model X.prog X.w) X.A (eval a X.env) (fun v s₁=>wpAny (model X.prog X.w) X.A (eval b X.env) (fun u s₂=>wpAny (model X.prog X.w) X.A (compareOp op v u) (EP X pins σ Q) X.xe s₂) X.xe s₁) X.xe s
theorem Qxe (b:Expr) {op:CmpOp} (h:op ≠ .In) (h2:op ≠ .NotIn):behindInMarks op b = false:=by
 have e1:(op == CmpOp.In) = false:=by cases op <;> first | rfl | exact absurd rfl h
 have e2:(op == CmpOp.NotIn) = false:=by cases op <;> first | rfl | exact absurd rfl h2
 cases b <;> simp [behindInMarks,e1,e2]
noncomputable abbrev tB (t:TE):TT:=fun σ H Q=>t σ H fun x H1=>∃ c,x = .bl c ∧ Q c H1
theorem Q52 {op:CmpOp} {t:TE} (h:PC X op a b t) (h1:behindInMarks op b = false:=by first | exact Qxe _ (by decide) (by decide) | rfl):PT X (.Compare a [op] [b] pos) (tB t):=by
 intro pins s σ H Q I hw
 refine wpAny_isTrue_Compare1 (thn (h pins s σ H _ I hw) fun v s1 h1=>thn h1 fun u s2 h2=>thn h2 fun c s3 ⟨x,H1,I1,r1,q1⟩=>?_) h1
 obtain ⟨d,rfl,q⟩:=q1
 cases r1
 exact wpAny_truthy_bool ⟨H1,I1,q⟩
theorem Q53 {e:Expr} {t:TE} (h:PE X e t) (he:∀ whole,isTrue e X.env whole = (do let v ← whole; standAt e.pos; holding [v] (truthy v)):=by intro _; rfl):PT X e (tB t):=by
 intro pins s σ H Q I hw
 refine isTrue_plain (thn (h pins s σ H _ I hw) fun v s1 ⟨x,H1,I1,r1,q1⟩=>?_) (he _)
 obtain ⟨d,rfl,q⟩:=q1
 cases r1
 exact wpAny_truthy_bool ⟨H1,I1,q⟩
variable {tA tB':TT} {rest:List Expr}
noncomputable abbrev Q92 (t u:TT):TT:=fun σ H Q=>t σ H fun c H1=>if c = true then u σ H1 Q else Q false H1
noncomputable abbrev tOr (t u:TT):TT:=fun σ H Q=>t σ H fun c H1=>if c = true then Q true H1 else u σ H1 Q
noncomputable abbrev Q93 (t:TT):TT:=fun σ H Q=>t σ H fun c H1=>Q (!c) H1
theorem Q09 (ha:PT X a tA):PW X (.BoolOp .And [a] pos) tA:=by
 intro wh pins s σ H Q I h
 refine isTrue_and (thn (ha pins s σ H Q I h) fun c s1 e=>?_)
 cases c with
 | true=>exact isTrue_and_nil e
 | false=>exact e
theorem Q54 (ha:PT X a tA):PW X (.BoolOp .Or [a] pos) tA:=by
 intro wh pins s σ H Q I h
 refine isTrue_or (thn (ha pins s σ H Q I h) fun c s1 e=>?_)
 cases c with
 | false=>exact isTrue_or_nil e
 | true=>exact e
theorem Q55 (ha:PT X a tA) (hb:PW X (.BoolOp .And (b :: rest) pos) tB'):PW X (.BoolOp .And (a :: b :: rest) pos) (Q92 tA tB'):=by
 intro wh pins s σ H Q I h
 refine isTrue_and (thn (ha pins s σ H _ I h) fun c s1 ⟨H1,I1,q1⟩=>?_)
 cases c with
 | true=>exact hb wh pins s1 σ H1 Q I1 q1
 | false=>exact ⟨H1,I1,q1⟩
theorem Q94 (ha:PT X a tA) (hb:PW X (.BoolOp .Or (b :: rest) pos) tB'):PW X (.BoolOp .Or (a :: b :: rest) pos) (tOr tA tB'):=by
 intro wh pins s σ H Q I h
 refine isTrue_or (thn (ha pins s σ H _ I h) fun c s1 ⟨H1,I1,q1⟩=>?_)
 cases c with
 | true=>exact ⟨H1,I1,q1⟩
 | false=>exact hb wh pins s1 σ H1 Q I1 q1
theorem Q56 (ha:PT X a tA):PT X (.UnaryOp .Not a pos) (Q93 tA):=by
 intro pins s σ H Q I h
 exact isTrue_not (ha pins s σ H (fun c H1=>Q (!c) H1) I h)
noncomputable abbrev Q4f (ta tb:TE):TE:=fun σ H Q=>ta σ H fun x H1=>∃ c,x = .bl c ∧ if c = true then tb σ H1 Q else Q (.bl false) H1
noncomputable abbrev Q4g (ta:TE):TE:=fun σ H Q=>ta σ H fun x H1=>∃ c,x = .bl c ∧ Q (.bl (!c)) H1
theorem Q57 {op} {t:TE} (h:PE X a t):PE X (.BoolOp op [a] pos) t:=fun pins s σ H Q I hw=>BoolOp_one (h pins s σ H Q I hw)
theorem Q58 (ha:PE X a ta) (hb:PE X (.BoolOp .And (b :: rest) pos) tb):PE X (.BoolOp .And (a :: b :: rest) pos) (Q4f ta tb):=by
 intro pins s σ H Q I h
 refine BoolOp_and (thn (ha pins s σ H _ I h) fun v s1 ⟨x,H1,I1,r1,q1⟩=>?_)
 obtain ⟨c,rfl,q1⟩:=q1
 cases r1
 refine wpAny_truthy_bool ?_
 cases c with
 | true=>exact hb pins s1 σ H1 Q I1 q1
 | false=>exact ⟨.bl false,H1,I1,rfl,q1⟩
theorem Q59 (ha:PE X a ta):PE X (.UnaryOp .Not a pos) (Q4g ta):=by
 intro pins s σ H Q I h
 refine UnaryOp_ (thn (ha pins s σ H _ I h) fun v s1 ⟨x,H1,I1,r1,q1⟩=>?_)
 obtain ⟨c,rfl,q1⟩:=q1
 cases r1
 exact not_of (wpAny_truthy_bool ⟨.bl (!c),H1,I1,rfl,q1⟩)
end
noncomputable def SqL (K:PySem.W.Frag) (H:Hp) (a:Addr) (xs:List V):Prop :=
 Rd H a (.lst xs) ∨
  ∃ (o:Obj) (its:Array Value) (n:Nat),K.lookup a = some o ∧ o.cls = .type "list" ∧ o.dict = none ∧ o.data = .seq its n ∧ its.size ≤ sizeLine ∧ Vals xs its.toList
noncomputable def SqT (K:PySem.W.Frag) (H:Hp) (a:Addr) (xs:List V):Prop :=
 Rd H a (.tup xs) ∨
  ∃ (o:Obj) (its:Array Value) (n:Nat),K.lookup a = some o ∧ o.cls = .type "tuple" ∧ o.data = .seq its n ∧ its.size ≤ sizeLine ∧ Vals xs its.toList
noncomputable def absV:Value → Option V
 | .none=>some .non
 | .bool b=>some (.bl b)
 | .int i _=>some (.int i)
 | .str x _=>some (.str x)
 | .bytes b _=>some (.byt b)
 | .float b _=>some (.flt b)
 | .ref a=>some (.ref a)
 | .type n=>some (.ty n)
 | _=>none
theorem RelV.abs {x:V} {u:Value} (r:RelV x u):absV u = some x:=by
 cases x with
 | non=>cases r; rfl
 | bl _=>cases r; rfl
 | int _=>obtain ⟨t,rfl⟩:=r; rfl
 | str _=>obtain ⟨t,rfl⟩:=r; rfl
 | byt _=>obtain ⟨t,rfl⟩:=r; rfl
 | flt _=>obtain ⟨t,rfl⟩:=r; rfl
 | ref _=>cases r; rfl
 | ty _=>cases r; rfl
theorem RelV.inj {x y:V} {u:Value} (r:RelV x u) (q:RelV y u):x = y:=Option.some.inj (r.abs.symm.trans q.abs)
theorem Vals.inj:∀ {xs ys:List V} {us:List Value},Vals xs us → Vals ys us → xs = ys
 | _,_,_,.nil,.nil=>rfl
 | _,_,_,.cons r t,.cons r' t'=>by rw [r.inj r',Vals.inj t t']
section
variable {X:Cx} {pins:List (Addr × Obj)} {σ:St} {H:Hp} {s:Shared} {a:Addr} {xs ys:List V}
theorem SqL.of {K:PySem.W.Frag} (h:H a = some (.lst xs)):SqL K H a xs:=.inl (.inl h)
theorem SqT.of {K:PySem.W.Frag} (h:H a = some (.tup xs)):SqT K H a xs:=.inl (.inl h)
theorem Inv.list (I:Inv X pins σ H s) (h:SqL X.K H a xs):∃ its:List Value,Vals xs its ∧ PlainL s.heap a its.toArray ∧ xs.length ≤ sizeLine:=by
 rcases h with h | ⟨o,its,n,hk,hc,hd,hs,hz,r⟩
 ·obtain ⟨z,its,n,r,e⟩:=h.ok I.hok
  exact ⟨its,r,⟨_,n,e,rfl,rfl,rfl⟩,z⟩
 ·refine ⟨its.toList,r,⟨o,n,I.kIn a o hk,hc,hd,by simpa using hs⟩,?_⟩
  have e:=r.length
  simp only [Array.length_toList] at e
  omega
theorem Inv.tuple (I:Inv X pins σ H s) (h:SqT X.K H a xs):∃ its:List Value,Vals xs its ∧ IsTup s.heap a its.toArray ∧ xs.length ≤ sizeLine:=by
 rcases h with h | ⟨o,its,n,hk,hc,hs,hz,r⟩
 ·obtain ⟨z,its,r,p⟩:=h.ok I.hok
  exact ⟨its,r,p.tup,z⟩
 ·refine ⟨its.toList,r,⟨o,I.kIn a o hk,hc,n,by simpa using hs⟩,?_⟩
  have e:=r.length
  simp only [Array.length_toList] at e
  omega
theorem Inv.list_inj (I:Inv X pins σ H s) (h:SqL X.K H a xs) (h':SqL X.K H a ys):xs = ys:=by
 obtain ⟨its,r,⟨o,n,e,_,_,d⟩,_⟩:=I.list h
 obtain ⟨its',r',⟨o',n',e',_,_,d'⟩,_⟩:=I.list h'
 rw [e] at e'; cases e'
 rw [d] at d'
 injection d' with d1 _
 have:its = its':=by simpa using congrArg Array.toList d1
 subst this
 exact r.inj r'
theorem Inv.tuple_inj (I:Inv X pins σ H s) (h:SqT X.K H a xs) (h':SqT X.K H a ys):xs = ys:=by
 obtain ⟨its,r,⟨o,e,_,n,d⟩,_⟩:=I.tuple h
 obtain ⟨its',r',⟨o',e',_,n',d'⟩,_⟩:=I.tuple h'
 rw [e] at e'; cases e'
 rw [d] at d'
 injection d' with d1 _
 have:its = its':=by simpa using congrArg Array.toList d1
 subst this
 exact r.inj r'
end
noncomputable abbrev Cx.wish (X:Cx) (E:Value → Shared → Prop):Cx:={ X with xe:=E }
noncomputable abbrev Cx.nox (X:Cx):Cx:=X.wish fun _ _=>False
theorem Cx.Ok.wish {X:Cx} (ok:X.Ok) (E:Value → Shared → Prop):(X.wish E).Ok :=
 ⟨ok.mod,ok.kind,ok.glob,ok.blt,ok.above,ok.inj,ok.has,ok.cab,ok.hd,ok.frames,ok.stk,ok.exf,ok.bs,ok.bsz,ok.noex,ok.exfs,ok.funs,ok.frf⟩
theorem Cx.Ok.unwish {X:Cx} {E:Value → Shared → Prop} (ok:(X.wish E).Ok):X.Ok :=
 ⟨ok.mod,ok.kind,ok.glob,ok.blt,ok.above,ok.inj,ok.has,ok.cab,ok.hd,ok.frames,ok.stk,ok.exf,ok.bs,ok.bsz,ok.noex,ok.exfs,ok.funs,ok.frf⟩
section
variable {X:Cx} {pins:List (Addr × Obj)} {σ:St} {H:Hp} {s:Shared} {E:Value → Shared → Prop}
theorem Inv.wish (I:Inv X pins σ H s) (E:Value → Shared → Prop):Inv (X.wish E) pins σ H s:=⟨I.ok.wish E,I.os,I.bare,I.base,I.loc,I.cell,I.free,I.freeC,I.pin,I.hok,I.len⟩
theorem Inv.unwish (I:Inv (X.wish E) pins σ H s):Inv X pins σ H s:=⟨I.ok.unwish,I.os,I.bare,I.base,I.loc,I.cell,I.free,I.freeC,I.pin,I.hok,I.len⟩
theorem SP.unwish {D:Ends} {f:Flow} {s':Shared} (h:SP (X.wish E) pins D f s'):SP X pins D f s':=by
 cases f with
 | next=>obtain ⟨σ',H',I,q⟩:=h; exact ⟨σ',H',I.unwish,q⟩
 | brk=>obtain ⟨σ',H',I,q⟩:=h; exact ⟨σ',H',I.unwish,q⟩
 | cont=>obtain ⟨σ',H',I,q⟩:=h; exact ⟨σ',H',I.unwish,q⟩
 | ret u=>obtain ⟨v,σ',H',I,r,q⟩:=h; exact ⟨v,σ',H',I.unwish,r,q⟩
theorem PSs.nox {st:List Stmt} {t:TS} (h:PSs X.nox st t):PSs X st t:=fun pins s σ H D I hw =>
 wpAny_mono (h pins s σ H D (I.wish _) hw) (fun _ _ q=>q.unwish) fun _ _ z=>False.elim z
end
section
variable {X:Cx} {st:Stmt} {rest:List Stmt} {t u:TS} {e:Expr} {te:TE} {pos:Pos}
noncomputable abbrev Qxf:TS:=fun D σ H=>D.nx σ H
noncomputable abbrev Qxg (t u:TS):TS:=fun D σ H=>t { D with nx:=u D } σ H
theorem Q1a:PSs X [] Qxf:=fun _ _ σ H _ I h=>wpAny_execs_nil ⟨σ,H,I,h⟩
theorem Qxh (h1:PS X st t) (h2:PSs X rest u):PSs X (st :: rest) (Qxg t u):=by
 intro pins s σ H D I h
 refine wpAny_execs_cons (thn (h1 pins s σ H { D with nx:=u D } I h) fun f s1 q=>?_)
 cases f with
 | next =>
  obtain ⟨σ',H',I',q⟩:=q
  exact h2 pins s1 σ' H' D I' q
 | ret v=>exact q
 | brk=>exact q
 | cont=>exact q
theorem Q1b (h1:PS X st t):PSs X [st] t:=by
 intro pins s σ H D I h
 refine wpAny_execs_cons (thn (h1 pins s σ H D I h) fun f s1 q=>?_)
 cases f with
 | next=>exact wpAny_execs_nil q
 | ret v=>exact q
 | brk=>exact q
 | cont=>exact q
theorem Inv.quiet {pins:List (Addr × Obj)} {σ:St} {H:Hp} {s:Shared} (I:Inv X pins σ H s):interactive X.env = false:=by simp [interactive,I.ok.kind]
noncomputable abbrev Qui (te:TE):TS:=fun D σ H=>te σ H fun _ H1=>D.nx σ H1
theorem Q1c (he:PE X e te) (hs:swapsWith e none pos.line X.env = pure false:=by rfl):PS X (.Expr e pos) (Qui te):=by
 intro pins s σ H D I h
 exact wpAny_Expr_any (thn (he pins s σ H _ I h) fun v s1 ⟨x,H1,I1,r1,q1⟩=>⟨σ,H1,I1,q1⟩) I.quiet hs
noncomputable abbrev Q6a (te:TE):TS:=fun D σ H=>te σ H D.rt
theorem Q6b (he:PE X e te):PS X (.Return (some e) pos) (Q6a te):=by
 intro pins s σ H D I h
 exact wpAny_Return_some (thn (he pins s σ H _ I h) fun v s1 ⟨x,H1,I1,r1,q1⟩=>⟨x,σ,H1,I1,r1,q1⟩)
noncomputable abbrev Q6c (c:TT) (t u:TS):TS:=fun D σ H=>c σ H fun b H1=>if b = true then t D σ H1 else u D σ H1
theorem Q95 {c:Expr} {a b:List Stmt} {tc:TT} (hc:PT X c tc) (ha:PSs X a t) (hb:PSs X b u):PS X (.If c a b pos) (Q6c tc t u):=by
 intro pins s σ H D I h
 refine wpAny_If (thn (hc pins s σ H _ I h) fun d s1 ⟨H1,I1,q1⟩=>?_)
 cases d with
 | true=>exact ha pins s1 σ H1 D I1 q1
 | false=>exact hb pins s1 σ H1 D I1 q1
end
noncomputable abbrev TG:=V → St → Hp → (St → Hp → Prop) → Prop
noncomputable abbrev TGs:=List V → St → Hp → (St → Hp → Prop) → Prop
noncomputable def PG (X:Cx) (target:Expr) (t:TG):Prop :=
 ∀ (pins:List (Addr × Obj)) (s:Shared) (σ:St) (H:Hp) (v:V) (u:Value) (Q:St → Hp → Prop),Inv X pins σ H s → RelV v u → t v σ H Q →
  wpAny (model X.prog X.w) X.A (assign target X.env u) (fun _ s'=>∃ σ' H',Inv X pins σ' H' s' ∧ Q σ' H') X.xe s
noncomputable def PGs (X:Cx) (ts:List Expr) (t:TGs):Prop :=
 ∀ (pins:List (Addr × Obj)) (s:Shared) (σ:St) (H:Hp) (vs:List V) (us:List Value) (Q:St → Hp → Prop),Inv X pins σ H s → Vals vs us → t vs σ H Q →
  wpAny (model X.prog X.w) X.A (assignInOrder ((assignEach ts X.env).map (·.2)) us) (fun _ s'=>∃ σ' H',Inv X pins σ' H' s' ∧ Q σ' H') X.xe s
noncomputable abbrev Q6d:=V → V → V → Hp → (Hp → Prop) → Prop
noncomputable def Q96 (X:Cx) (t:Q6d):Prop :=
 ∀ (pins:List (Addr × Obj)) (s:Shared) (σ:St) (H:Hp) (o i v:V) (ov iv u:Value) (Q:Hp → Prop),Inv X pins σ H s → RelV o ov → RelV i iv → RelV v u → t o i v H Q →
  wpAny (model X.prog X.w) X.A (setItem ov iv u) (fun _ s'=>∃ H',Inv X pins σ H' s' ∧ Q H') X.xe s
section
variable {X:Cx} {pos:Pos}
noncomputable abbrev Qia (i:Nat):TG:=fun v σ H Q=>Q (σ.set i (some v)) H
theorem Q1d {i:Nat} {x:Str} (hN:X.N.Nodup) (hi:X.N[i]? = some x) (hx:Loc X.env.scope x) (hf:X.fn x = true ∨ X.env.scope.names.lookup x = some .local:=by first | exact .inl rfl | exact .inr rfl | assumption):PG X (.Name x pos) (Qia i):=by
 intro pins s σ H v u Q I r h
 exact wpAny_assign_Name (Qqq I hN hi hx r (fun s' I'=>⟨_,H,I',h⟩) hf)
noncomputable abbrev Q6e:TGs:=fun vs σ H Q=>vs = [] ∧ Q σ H
noncomputable abbrev Qxi (t:TG) (u:TGs):TGs:=fun vs σ H Q=>∃ v r,vs = v :: r ∧ t v σ H fun σ' H'=>u r σ' H' Q
theorem Q1e:PGs X [] Q6e:=by
 intro pins s σ H vs us Q I r h
 obtain ⟨e,h⟩:=h
 subst e
 cases r
 exact assignInOrder_nil ⟨σ,H,I,h⟩
theorem Qxj {e:Expr} {es:List Expr} {t:TG} {u:TGs} (h1:PG X e t) (h2:PGs X es u)
  (hs:(assignEach (e :: es) X.env).map (·.2) = assign e X.env :: (assignEach es X.env).map (·.2):=by rfl):PGs X (e :: es) (Qxi t u):=by
 intro pins s σ H vs us Q I r h
 obtain ⟨v,vr,e1,h⟩:=h
 subst e1
 cases r with
 | cons r rr =>
  rw [hs]
  refine assignInOrder_cons (thn (h1 pins s σ H _ _ _ I r h) fun _ s1 ⟨σ1,H1,I1,q1⟩=>?_)
  exact h2 pins s1 σ1 H1 _ _ Q I1 rr q1
noncomputable def Q1f (K:PySem.W.Frag) (n:Nat) (t:TGs):TG:=fun v σ H Q=>∃ a xs,v = .ref a ∧ SqT K H a xs ∧ xs.length = n ∧ t xs σ H Q
theorem Q6f {es:List Expr} {k:Nat} {t:TGs} {n:Nat} (hc:X.calm = true) (h:PGs X es t)
  (hn:(assignEach es X.env).length = n:=by rfl) (hst:(assignEach es X.env).findIdx? (·.1) = none:=by rfl):PG X (.Tuple es k pos) (Q1f X.K n t):=by
 intro pins s σ H v u Q I r hw
 obtain ⟨a,xs,e1,hq,hl,hw⟩:=hw
 subst e1
 cases r
 obtain ⟨its,rv,ht,hz⟩:=I.tuple hq
 refine assign_Tuple_tuple (I.ok.hd hc) ht (by simp [hn,← hl,rv.length]) hst fun h' hx=>?_
 have I1:Inv X pins σ H { s with heap:=h' }:=I.kept (t':=s.toks) fun b o e=>hx b o (Nat.ne_of_lt (Heap.lt_size e)) e
 exact h pins _ σ H xs _ Q I1 (by simpa using rv) hw
noncomputable abbrev Q6g (to ti:TE) (t:Q6d):TG:=fun v σ H Q=>to σ H fun o H1=>ti σ H1 fun i H2=>t o i v H2 fun H3=>Q σ H3
theorem Q6h {o i:Expr} {to ti:TE} {t:Q6d} (ho:PE X o to) (hi:PE X i ti) (hs:Q96 X t)
  (ha:∀ v,assign (.Subscript o i pos) X.env v = (do
   let ov ← holding [v] (eval o X.env)
   let iv ← holding [v,ov] (eval i X.env)
   standAt pos
   holding [v,ov,iv] (setItem ov iv v)
   release [v,ov,iv] []):=by intro _; rfl):PG X (.Subscript o i pos) (Q6g to ti t):=by
 intro pins s σ H v u Q I r h
 rw [ha]
 refine wpAny_bind (wpAny_holding (thn (ho pins s σ H _ I h) fun ov s1 ⟨x,H1,I1,r1,q1⟩=>?_))
 refine wpAny_bind (wpAny_holding (thn (hi pins s1 σ H1 _ I1 q1) fun iv s2 ⟨y,H2,I2,r2,q2⟩=>?_))
 refine wpAny_bind (wpAny_standAt (wpAny_bind (wpAny_holding (thn (hs pins s2 σ H2 x y v ov iv u _ I2 r1 r2 r q2) fun _ s3 ⟨H3,I3,q3⟩=>?_))))
 exact wpAny_release ⟨σ,H3,I3,q3⟩
noncomputable abbrev Qqr (te:TE) (g:TG):TS:=fun D σ H=>te σ H fun x H1=>g x σ H1 D.nx
theorem Q6i {tg e:Expr} {te:TE} {g:TG} (he:PE X e te) (hg:PG X tg g) (hs:swapsWithSole [tg] e pos.line X.env = pure false:=by rfl) (hw:swappedStores [tg] e X.env = pure none:=by rfl)
  (h1:(assignEach [tg] X.env).map (·.2) = [assign tg X.env]:=by rfl):PS X (.Assign [tg] e pos) (Qqr te g):=by
 intro pins s σ H D I h
 refine wpAny_Assign_stores (thn (he pins s σ H _ I h) fun v s1 ⟨x,H1,I1,r1,q1⟩=>?_) hs hw
 rw [h1]
 exact thn (hg pins s1 σ H1 x v _ I1 r1 q1) fun _ s2 q=>q
theorem Q6j {i:Nat} {x:Str} {e:Expr} {te:TE} {pos':Pos} (hN:X.N.Nodup) (hi:X.N[i]? = some x) (hx:Loc X.env.scope x) (he:PE X e te) (hs:swapsWith e (some (.Name x pos')) pos.line X.env = pure false:=by rfl) (hf:X.fn x = true ∨ X.env.scope.names.lookup x = some .local:=by first | exact .inl rfl | exact .inr rfl | assumption) :
  PS X (.Assign [.Name x pos'] e pos) (Qqr te (Qia i)):=by
 intro pins s σ H D I h
 refine wpAny_Assign_Name (thn (he pins s σ H _ I h) fun v s1 ⟨y,H1,I1,r1,q1⟩=>?_) hs
 exact Qqq I1 hN hi hx r1 (fun s2 I2=>⟨_,H1,I2,q1⟩) hf
end
section
variable {X:Cx} {pos:Pos}
noncomputable def Qxk (c:TT) (tb:TS):TS:=fun D σ H=>∃ W:Nat → St → Hp → Prop,(∃ m,W m σ H) ∧ ∀ m σ H,W m σ H →
 c σ H fun b H1=>if b = true then ∃ N:St → Hp → Prop,(∀ σ' H',N σ' H' → ∃ m',m' < m ∧ W m' σ' H') ∧ tb { D with nx:=N,ct:=N,bk:=D.nx } σ H1 else D.nx σ H1
theorem Qxl {c:Expr} {body:List Stmt} {tc:TT} {tb:TS} (hp:PassesOwn (model X.prog X.w) X.A X.env X.xe) (hc:PT X c tc) (hb:PSs X body tb):PS X (.While c body [] pos) (Qxk tc tb):=by
 intro pins s σ H D I h
 obtain ⟨W,⟨m0,w0⟩,turn⟩:=h
 refine wpAny_While (codeAny_whileLoop (fun n s'=>∃ σ' H',Inv X pins σ' H' s' ∧ W n σ' H') ?_ m0 ⟨σ,H,I,w0⟩)
 rintro n s1 ⟨σ1,H1,I1,w1⟩
 refine wpAny_passesOwn hp (thn (hc pins s1 σ1 H1 _ I1 (turn n σ1 H1 w1)) fun b s2 ⟨H2,I2,q2⟩=>?_)
 cases b with
 | true =>
  obtain ⟨N,hN,q2⟩:=q2
  rw [if_pos rfl]
  refine wpAny_passesOwn hp (thn (hb pins s2 σ1 H2 _ I2 q2) fun f s3 q3=>?_)
  cases f with
  | next =>
   obtain ⟨σ3,H3,I3,n3⟩:=q3
   obtain ⟨m',hm,w3⟩:=hN σ3 H3 n3
   exact ⟨m',hm,σ3,H3,I3,w3⟩
  | cont =>
   obtain ⟨σ3,H3,I3,n3⟩:=q3
   obtain ⟨m',hm,w3⟩:=hN σ3 H3 n3
   exact ⟨m',hm,σ3,H3,I3,w3⟩
  | brk=>exact q3
  | ret v=>exact q3
 | false =>
  rw [if_neg Bool.false_ne_true]
  exact wpAny_execs_nil ⟨σ1,H2,I2,q2⟩
end
structure It where
 go:Nat → Hp → Prop
 yld:Nat → Hp → V → Hp → Prop
 stop:Nat → Hp → Prop
noncomputable def Qih (X:Cx) (pins:List (Addr × Obj)) (H:Hp) (b:Addr):Prop :=
 H b = none ∧ b ≠ X.env.locals ∧ b ∉ X.fs ∧ (b ∈ X.ex ∨ X.s₀.heap.objs.size ≤ b) ∧ (∀ x c,X.env.cells.lookup x = some c → c ≠ b) ∧ ∀ p ∈ X.pn ++ pins,p.1 ≠ b
theorem Inv.fpOk {X:Cx} {pins:List (Addr × Obj)} {σ:St} {H H':Hp} {s:Shared} {b:Addr} (I:Inv X pins σ H s) (hb:s.heap.objs.size ≤ b) (hn:H' b = none):Qih X pins H' b:=by
 refine ⟨hn,Nat.ne_of_gt (Nat.lt_of_lt_of_le I.lt hb),I.nofs hb,.inr (Nat.le_trans I.sz hb),fun x c e z=>?_,fun p hp z=>?_⟩
 ·obtain ⟨v,q⟩:=I.cell x c e
  exact absurd (Nat.lt_of_lt_of_le q.lt (by rw [z]; exact hb)) (Nat.lt_irrefl _)
 ·exact absurd (Nat.lt_of_lt_of_le (Heap.lt_size (I.pin p hp).1) (by rw [z]; exact hb)) (Nat.lt_irrefl _)
structure Turn (P:Program) (w:World) (K:PySem.W.Frag) (tg:Expr) (J:It) (fp:List Addr) (it:Addr) (tn:Nat → Heap → Prop):Prop where
 mem:it ∈ fp
 obj:∀ i h,tn i h → ∀ b ∈ fp,∃ o,h.get? b = some o ∧ ∀ v,o.data ≠ .cell v
 keep:∀ i h h',tn i h → (∀ b ∈ fp,∀ o,h.get? b = some o → h'.get? b = some o) → tn i h'
 item:∀ (X:Cx),X.prog = P → X.w = w → X.K = K → X.calm = true → ∀ (i:Nat) (pins:List (Addr × Obj)) (s:Shared) (σ:St) (H:Hp) (E:Value → Shared → Prop),Inv X pins σ H s → (∀ b ∈ fp,Qih X pins H b) → tn i s.heap → J.go i H →
  wpAny (model P w) X.A (pyNext (.ref it)) (fun r s1=>∃ u,r = some u ∧
   wpAny (model P w) X.A (letOwnedTupleGo tg (.ref it) u) (fun _ s2=>∃ x H',Inv X pins σ H' s2 ∧ RelV x u ∧ J.yld i H x H' ∧ tn (i + 1) s2.heap ∧ ∀ b ∈ fp,H' b = none) E s1) E s
 done:∀ (X:Cx),X.prog = P → X.w = w → X.K = K → X.calm = true → ∀ (i:Nat) (pins:List (Addr × Obj)) (s:Shared) (σ:St) (H:Hp) (E:Value → Shared → Prop),Inv X pins σ H s → (∀ b ∈ fp,Qih X pins H b) → tn i s.heap → J.stop i H →
  wpAny (model P w) X.A (pyNext (.ref it)) (fun r s1=>r = none ∧ Inv X pins σ H s1) E s
 self:∀ (A:Around) (i:Nat) (s:Shared) (Q:Value → Shared → Prop) (E:Value → Shared → Prop),tn i s.heap → Q (.ref it) s → wpAny (model P w) A (pyIter (.ref it)) Q E s
noncomputable abbrev TI:=St → Hp → (It → Hp → Prop) → Prop
noncomputable def PIE (X:Cx) (pins:List (Addr × Obj)) (σ:St) (tg:Expr) (R:It → Hp → Prop) (itv:Value) (s2:Shared):Prop :=
 ∃ (it:Addr) (fp:List Addr) (tn:Nat → Heap → Prop) (J:It) (H':Hp),itv = .ref it ∧ Inv X pins σ H' s2 ∧ Turn X.prog X.w X.K tg J fp it tn ∧ tn 0 s2.heap ∧ (∀ b ∈ fp,Qih X pins H' b) ∧ R J H'
noncomputable def PI (X:Cx) (tg iter:Expr) (wi:TI):Prop :=
 ∀ (pins:List (Addr × Obj)) (s:Shared) (σ:St) (H:Hp) (R:It → Hp → Prop),Inv X pins σ H s → wi σ H R →
  wpAny (model X.prog X.w) X.A (eval iter X.env) (fun v s1=>wpAny (model X.prog X.w) X.A (pyIter v) (PIE X pins σ tg R) X.xe s1) X.xe s
theorem Qxm {M:Model} {A:Around} {E:Value → Shared → Prop} {s:Shared} {tg:Expr} {it:Addr} {u:Value} {o:Obj} {n:String} {vs:Array Value} {Q:Unit → Shared → Prop} (ho:s.heap.get? it = some o) (hc:o.cls = .type n) (hd:o.data = .fields vs)
  (hn:["enumerate","zip","dict_itemiterator","dict_reverseitemiterator","odict_iterator","itertools.zip_longest","itertools.pairwise"].contains n = false) (hQ:Q () s):wpAny M A (letOwnedTupleGo tg (.ref it) u) Q E s:=by
 unfold letOwnedTupleGo
 cases tg <;> first
  | exact wpAny_pure hQ
  | (cases u <;> first
    | exact wpAny_pure hQ
    | (refine wpAny_bind (wpAny_load ho ?_)
       rw [hc,hd]
       show wpAny M A (if (["enumerate","zip","dict_itemiterator","dict_reverseitemiterator","odict_iterator","itertools.zip_longest","itertools.pairwise"].contains n && vs[0]? == some (rawInt _)) = true then _ else _) Q E s
       rw [if_neg (by intro h; rw [hn,Bool.false_and] at h; cases h)]
       exact wpAny_pure hQ))
noncomputable def Itl (K:PySem.W.Frag) (a:Addr):It :=
 ⟨fun i H=>∃ xs x,SqL K H a xs ∧ xs[i]? = some x,fun i H x H'=>H' = H ∧ ∀ xs,SqL K H a xs → xs[i]? = some x,fun i H=>∃ xs,SqL K H a xs ∧ xs.length ≤ i⟩
noncomputable def Itt (K:PySem.W.Frag) (a:Addr):It :=
 ⟨fun i H=>∃ xs x,SqT K H a xs ∧ xs[i]? = some x,fun i H x H'=>H' = H ∧ ∀ xs,SqT K H a xs → xs[i]? = some x,fun i H=>∃ xs,SqT K H a xs ∧ xs.length ≤ i⟩
noncomputable def Itr (lo:Int) (n:Nat):It:=⟨fun i _=>i < n,fun i H x H'=>H' = H ∧ x = .int (lo + i),fun i _=>n ≤ i⟩
theorem Qv0 {P:Program} {w:World} {K:PySem.W.Frag} {tg:Expr} (a it:Addr):Turn P w K tg (Itl K a) [it] it (fun i h=>h.IsListIter it a i) where
 mem:=by simp
 obj:=fun i h st b hb=>by
  have e:b = it:=by simpa using hb
  subst e
  obtain ⟨o,e,c,d⟩:=st
  exact ⟨o,e,fun v z=>by rw [d] at z; cases z⟩
 keep:=fun i h h' st k=>st.at fun o e=>k it (by simp) o e
 item:=by
  intro X hP hw hK hc i pins s σ H E I hf st hg
  subst hP hw hK
  obtain ⟨xs,x,hq,hx⟩:=hg
  obtain ⟨its,rv,p,hz⟩:=I.list hq
  obtain ⟨u,hu,ru⟩:=rv.get hx
  obtain ⟨f0,f1,f2,f3,f4,f5⟩:=hf it (by simp)
  refine wpAny_pyNext_list_item st p.isList (x:=u) (by simpa using hu) fun h' st' sb=>?_
  have I1:Inv X pins σ H { s with heap:=h' }:=I.turned (t':=s.toks) (fun b o hb e=>(sb.2 b hb).trans e) f0 f1 f3 f4 f5
  obtain ⟨o,e,c,d⟩:=id st'
  exact ⟨u,rfl,Qxm (s:={ s with heap:=h' }) e c d (by decide) ⟨x,H,I1,ru,⟨rfl,fun ys hy=>by rw [I.list_inj hy hq]; exact hx⟩,st',fun b hb=>(hf b hb).1⟩⟩
 done:=by
  intro X hP hw hK hc i pins s σ H E I hf st hg
  subst hP hw hK
  obtain ⟨xs,hq,hx⟩:=hg
  obtain ⟨its,rv,p,hz⟩:=I.list hq
  obtain ⟨f0,f1,f2,f3,f4,f5⟩:=hf it (by simp)
  have hl:=rv.length
  exact wpAny_pyNext_list_end (I.ok.hd hc) st p.isList (by simp; omega) fun h' eb=>⟨rfl,I.turned (t':=s.toks) (fun b o hb e=>eb b o hb e) f0 f1 f3 f4 f5⟩
 self:=fun _ _ _ _ _ st h=>wpAny_pyIter_listiter st h
theorem Qsz {P:Program} {w:World} {K:PySem.W.Frag} {tg:Expr} (a it:Addr):Turn P w K tg (Itt K a) [it] it (fun i h=>h.IsTupleIter it a i) where
 mem:=by simp
 obj:=fun i h st b hb=>by
  have e:b = it:=by simpa using hb
  subst e
  obtain ⟨o,e,c,d⟩:=st
  exact ⟨o,e,fun v z=>by rw [d] at z; cases z⟩
 keep:=fun i h h' st k=>st.at fun o e=>k it (by simp) o e
 item:=by
  intro X hP hw hK hc i pins s σ H E I hf st hg
  subst hP hw hK
  obtain ⟨xs,x,hq,hx⟩:=hg
  obtain ⟨its,rv,p,hz⟩:=I.tuple hq
  obtain ⟨u,hu,ru⟩:=rv.get hx
  obtain ⟨f0,f1,f2,f3,f4,f5⟩:=hf it (by simp)
  refine wpAny_pyNext_tuple_item st (show s.heap.IsTuple a its.toArray from p) (x:=u) (by simpa using hu) fun h' st' sb=>?_
  have I1:Inv X pins σ H { s with heap:=h' }:=I.turned (t':=s.toks) (fun b o hb e=>(sb.2 b hb).trans e) f0 f1 f3 f4 f5
  obtain ⟨o,e,c,d⟩:=id st'
  exact ⟨u,rfl,Qxm (s:={ s with heap:=h' }) e c d (by decide) ⟨x,H,I1,ru,⟨rfl,fun ys hy=>by rw [I.tuple_inj hy hq]; exact hx⟩,st',fun b hb=>(hf b hb).1⟩⟩
 done:=by
  intro X hP hw hK hc i pins s σ H E I hf st hg
  subst hP hw hK
  obtain ⟨xs,hq,hx⟩:=hg
  obtain ⟨its,rv,p,hz⟩:=I.tuple hq
  obtain ⟨f0,f1,f2,f3,f4,f5⟩:=hf it (by simp)
  have hl:=rv.length
  exact wpAny_pyNext_tuple_end (I.ok.hd hc) st (show s.heap.IsTuple a its.toArray from p) (by simp; omega) fun h' eb=>⟨rfl,I.turned (t':=s.toks) (fun b o hb e=>eb b o hb e) f0 f1 f3 f4 f5⟩
 self:=fun _ _ _ _ _ st h=>wpAny_pyIter_tupleiter st h
theorem Qs0 {P:Program} {w:World} {K:PySem.W.Frag} {tg:Expr} (it:Addr) (lo:Int) (n:Nat):Turn P w K tg (Itr lo n) [it] it (fun i h=>IsRangeIter h it (lo + (i:Nat) * 1) ((n:Int) - (i:Nat)) 1) where
 mem:=by simp
 obj:=fun i h st b hb=>by
  have e:b = it:=by simpa using hb
  subst e
  exact ⟨_,st,fun v z=>by
   have z':Data.fields _ = Data.cell v:=z
   cases z'⟩
 keep:=fun i h h' st k=>k it (by simp) _ st
 item:=by
  intro X hP hw hK hc i pins s σ H E I hf st hg
  subst hP hw hK
  obtain ⟨f0,f1,f2,f3,f4,f5⟩:=hf it (by simp)
  have W:=Walks.range (prog:=X.prog) (w:=X.w) (I.ok.hd hc) it lo 1 n
  refine W.item i s _ _ hg st fun v h' tk hv st' kk=>?_
  obtain ⟨t,rfl⟩:=hv
  have I1:Inv X pins σ H { s with heap:=h',toks:=tk }:=I.turned (fun b o hb e=>kk b o (by simpa using hb) e) f0 f1 f3 f4 f5
  refine ⟨_,rfl,Qxm (s:={ s with heap:=h',toks:=tk }) (n := "range_iterator") st' rfl rfl (by decide) ⟨.int (lo + i),H,I1,⟨t,?_⟩,⟨rfl,rfl⟩,st',fun b hb=>(hf b hb).1⟩⟩
  rw [Int.mul_one]
 done:=by
  intro X hP hw hK hc i pins s σ H E I hf st hg
  subst hP hw hK
  obtain ⟨f0,f1,f2,f3,f4,f5⟩:=hf it (by simp)
  exact wpAny_pyNext_range_end (I.ok.hd hc) st (by have:n ≤ i:=hg; omega) fun h' eb=>⟨rfl,I.turned (t':=s.toks) (fun b o hb e=>eb b o hb e) f0 f1 f3 f4 f5⟩
 self:=fun _ _ _ _ _ st h=>wpAny_pyIter_rangeiter st h
section
variable {X:Cx} {tg:Expr}
theorem Qxn {pins:List (Addr × Obj)} {σ:St} {H:Hp} {s:Shared} {R:It → Hp → Prop} {E:Value → Shared → Prop} {lo hi:Int} {t u v:Tok} {tk:Nat} (I:Inv X pins σ H s) (h1:-(2 ^ 62) ≤ lo) (h2:lo < 2 ^ 62) (h3:-(2 ^ 62) ≤ hi) (h4:hi < 2 ^ 62)
  (q:R (Itr lo (hi - lo).toNat) H):wpAny (model X.prog X.w) X.A (pyIter (.ref s.heap.objs.size)) (PIE X pins σ tg R) E { s with heap:=s.heap.push { cls:=.type "range",data:=.fields #[.int lo t,.int hi u,.int 1 v] },toks:=tk }:=by
 refine wpAny_pyIter_range (IsRange.new ..) (small_one h1 h2 h3 h4) ?_
 have I1:Inv X pins σ H { s with heap:=s.heap.push { cls:=.type "range",data:=.fields #[.int lo t,.int hi u,.int 1 v] },toks:=tk }:=I.kept fun b o e=>Heap.get?_push_of_some _ e
 refine ⟨(s.heap.push { cls:=.type "range",data:=.fields #[.int lo t,.int hi u,.int 1 v] }).objs.size,[(s.heap.push { cls:=.type "range",data:=.fields #[.int lo t,.int hi u,.int 1 v] }).objs.size],_,_,H,rfl,
  I1.kept (t':=tk) fun b o e=>Heap.get?_push_of_some _ e,Qs0 _ lo (hi - lo).toNat,?_,fun b hb=>?_,q⟩
 ·have e1:lo + ((0:Nat):Int) * 1 = lo:=by simp
  have e2:(((hi - lo).toNat:Nat):Int) - ((0:Nat):Int) = Builtin.Range.rangeSize lo hi 1:=by rw [rangeSize_one]; split <;> omega
  show IsRangeIter _ _ (lo + ((0:Nat):Int) * 1) ((((hi - lo).toNat:Nat):Int) - ((0:Nat):Int)) 1
  rw [e1,e2]
  exact Heap.get?_push_size _ rfl
 ·have e:b = (s.heap.push { cls:=.type "range",data:=.fields #[.int lo t,.int hi u,.int 1 v] }).objs.size:=by simpa using hb
  subst e
  exact I1.fpOk (Nat.le_refl _) (I1.hok.fresh (Nat.le_refl _))
noncomputable def Q4h (ta:TA):TI:=fun σ H R=>ta σ H fun vs H1=>∃ j:Int,vs = [.int j] ∧ -(2 ^ 62) ≤ j ∧ j < 2 ^ 62 ∧ R (Itr 0 j.toNat) H1
theorem Qv1 {a:Expr} {ta:TA} {p pos:Pos} (hg:Gl X "range") (hm:X.mg "range" = none) (ha:PA X [a] ta) (hs:starEach [a] X.env = [(false,eval a X.env)]:=by rfl):PI X tg (.Call (.Name "range" p) [a] [] pos) (Q4h ta):=by
 intro pins s σ H R I h
 refine Call_ (Qjq I hg hm boot_range (PyProof.Rows.callWith_type1 (thn (ha pos pins s σ H _ I h) fun us s1 ⟨vs,H1,I1,r1,q1⟩=>?_) hs rfl))
 obtain ⟨j,e,q1,q2,q⟩:=q1
 subst e
 cases r1 with
 | cons r rr =>
  cases rr
  obtain ⟨t,rfl⟩:=r
  exact call_range_1 (Qxn I1 (by omega) (by omega) q1 q2 (by simpa using q))
noncomputable def Qxo (wi:TI) (g:TG) (tb:TS):TS:=fun D σ H=>wi σ H fun J H1=>∃ W:Nat → Nat → St → Hp → Prop,(∃ m,W 0 m σ H1) ∧ ∀ i m σ H,W i m σ H →
 (J.stop i H ∧ D.nx σ H) ∨ (J.go i H ∧ ∃ N:St → Hp → Prop,(∀ σ' H',N σ' H' → ∃ m',m' < m ∧ W (i + 1) m' σ' H') ∧ ∀ x H',J.yld i H x H' → g x σ H' fun σ2 H2=>tb { D with nx:=N,ct:=N,bk:=D.nx } σ2 H2)
noncomputable def Qlc (fp:List Addr) (h:Heap):List (Addr × Obj):=fp.filterMap fun b=>(h.get? b).map fun o=>(b,o)
theorem Qfl {fp:List Addr} {h:Heap} {b:Addr} {o:Obj} (hb:b ∈ fp) (e:h.get? b = some o):(b,o) ∈ Qlc fp h:=List.mem_filterMap.mpr ⟨b,hb,by rw [e]; rfl⟩
theorem Qv2 {fp:List Addr} {h:Heap} {p:Addr × Obj} (hp:p ∈ Qlc fp h):p.1 ∈ fp ∧ h.get? p.1 = some p.2:=by
 obtain ⟨b,hb,e⟩:=List.mem_filterMap.mp hp
 cases q:h.get? b with
 | none=>rw [q] at e; cases e
 | some o =>
  rw [q] at e
  have e':(b,o) = p:=Option.some.inj e
  subst e'
  exact ⟨hb,q⟩
theorem Inv.pinned {pins:List (Addr × Obj)} {σ:St} {H:Hp} {s:Shared} {fp:List Addr} (I:Inv X pins σ H s) (hf:∀ b ∈ fp,Qih X pins H b) (ho:∀ b ∈ fp,∃ o,s.heap.get? b = some o ∧ ∀ v,o.data ≠ .cell v):Inv X (pins ++ Qlc fp s.heap) σ H s :=
 I.pins_of fun p hp=>(List.mem_append.mp hp).elim (fun z=>I.pin p (List.mem_append_right _ z)) fun z=>by
  obtain ⟨hb,e⟩:=Qv2 z
  obtain ⟨f0,f1,f2,_⟩:=hf p.1 hb
  obtain ⟨o,e',d⟩:=ho p.1 hb
  rw [e] at e'; cases e'
  exact ⟨e,f0,f1,f2,d⟩
theorem Inv.unpinned {pins pl:List (Addr × Obj)} {σ:St} {H:Hp} {s:Shared} (I:Inv X (pins ++ pl) σ H s):Inv X pins σ H s:=I.pins_of fun p hp=>I.pin p (List.mem_append_right _ (List.mem_append_left _ hp))
theorem Q6k {iter:Expr} {body:List Stmt} {wi:TI} {g:TG} {tb:TS} {pos:Pos} (hp:PassesOwn (model X.prog X.w) X.A X.env X.xe) (hc:X.calm = true) (hi:PI X tg iter wi) (hg:PG X tg g) (hb:PSs X body tb)
  (hs:∀ x,foldedSetIterable iter X.env x = pure x:=by intro _; rfl):PS X (.For tg iter body [] pos) (Qxo wi g tb):=by
 intro pins s σ H D I h
 refine wpAny_For (thn (hi pins s σ H _ I h) fun v s1 h1=>thn h1 fun itv s2 h2=>?_) hs
 obtain ⟨it,fp,tn,J,H2,e,I2,T,st2,f2,W,⟨m0,w0⟩,turn⟩:=h2
 subst e
 -- what stays true of the iterator's objects through the loop
 have stat:∀ {H':Hp},(∀ b ∈ fp,H' b = none) → ∀ b ∈ fp,Qih X pins H' b:=fun hn b hb=>⟨hn b hb,(f2 b hb).2⟩
 refine codeAny_forLoop_any (fun n s'=>∃ i σ' H',Inv X pins σ' H' s' ∧ tn i s'.heap ∧ (∀ b ∈ fp,H' b = none) ∧ W i n σ' H') ?_ m0 ⟨0,σ,H2,I2,st2,fun b hb=>(f2 b hb).1,w0⟩
 rintro n s3 ⟨i,σ3,H3,I3,st3,fr3,w3⟩
 rcases turn i n σ3 H3 w3 with ⟨stop,qn⟩ | ⟨go,N,hN,step⟩
 ·refine wpAny_passesOwn hp (thn (T.done X rfl rfl rfl hc i pins s3 σ3 H3 X.xe I3 (stat fr3) st3 stop) fun r s4 ⟨hr,I4⟩=>?_)
  subst hr
  exact wpAny_execs_nil ⟨σ3,H3,I4,qn⟩
 ·refine wpAny_passesOwn hp (thn (T.item X rfl rfl rfl hc i pins s3 σ3 H3 X.xe I3 (stat fr3) st3 go) fun r s4 ⟨u,hr,h4⟩=>?_)
  subst hr
  refine wpAny_passesOwn hp (thn h4 fun _ s5 ⟨x,H5,I5,r5,y5,st5,fr5⟩=>?_)
  have I5':=I5.pinned (stat fr5) (T.obj _ _ st5)
  refine wpAny_passesOwn hp (thn (hg _ s5 σ3 H5 x u _ I5' r5 (step x H5 y5)) fun _ s6 ⟨σ6,H6,I6,q6⟩=>?_)
  refine wpAny_passesOwn hp (thn (hb _ s6 σ6 H6 _ I6 q6) fun f s7 q7=>?_)
  have again:∀ {σ7:St} {H7:Hp},Inv X (pins ++ Qlc fp s5.heap) σ7 H7 s7 → N σ7 H7 → ∃ m,m < n ∧ ∃ i σ' H',Inv X pins σ' H' s7 ∧ tn i s7.heap ∧ (∀ b ∈ fp,H' b = none) ∧ W i m σ' H':=fun {σ7 H7} I7 n7=>by
   obtain ⟨m',hm,w7⟩:=hN σ7 H7 n7
   refine ⟨m',hm,i + 1,σ7,H7,I7.unpinned,T.keep _ _ _ st5 fun b hb o e=>(I7.pin (b,o) (List.mem_append_right _ (List.mem_append_right _ (Qfl hb e)))).1,fun b hb=>?_,w7⟩
   obtain ⟨o,e,d⟩:=T.obj _ _ st5 b hb
   exact (I7.pin (b,o) (List.mem_append_right _ (List.mem_append_right _ (Qfl hb e)))).2.1
  cases f with
  | next=>obtain ⟨σ7,H7,I7,n7⟩:=q7; exact again I7 n7
  | cont=>obtain ⟨σ7,H7,I7,n7⟩:=q7; exact again I7 n7
  | brk=>obtain ⟨σ7,H7,I7,q7⟩:=q7; exact ⟨σ7,H7,I7.unpinned,q7⟩
  | ret v=>obtain ⟨x7,σ7,H7,I7,r7,q7⟩:=q7; exact ⟨x7,σ7,H7,I7.unpinned,r7,q7⟩
end
theorem Qxp {K:PySem.W.Frag} {a:Addr} {xs:List V} {g:TG} {tb:TS} {D:Ends} {σ:St} {H:Hp} (Pv:Nat → St → Hp → Prop) (h0:Pv 0 σ H) (hl:∀ i σ H,i ≤ xs.length → Pv i σ H → SqL K H a xs)
  (hs:∀ i x σ H,xs[i]? = some x → Pv i σ H → g x σ H fun σ2 H2=>tb { D with nx:=Pv (i + 1),ct:=Pv (i + 1),bk:=D.nx } σ2 H2) (hd:∀ σ H,Pv xs.length σ H → D.nx σ H) :
  ∃ W:Nat → Nat → St → Hp → Prop,(∃ m,W 0 m σ H) ∧ ∀ i m σ H,W i m σ H →
   ((Itl K a).stop i H ∧ D.nx σ H) ∨ ((Itl K a).go i H ∧ ∃ N:St → Hp → Prop,(∀ σ' H',N σ' H' → ∃ m',m' < m ∧ W (i + 1) m' σ' H') ∧ ∀ x H',(Itl K a).yld i H x H' → g x σ H' fun σ2 H2=>tb { D with nx:=N,ct:=N,bk:=D.nx } σ2 H2):=by
 refine ⟨fun i m σ H=>m = xs.length - i ∧ i ≤ xs.length ∧ Pv i σ H,⟨xs.length,by simp,Nat.zero_le _,h0⟩,?_⟩
 rintro i m σ H ⟨rfl,hi,p⟩
 have q:=hl i σ H hi p
 by_cases hlt:i < xs.length
 ·refine .inr ⟨⟨xs,xs[i],q,by simp [hlt]⟩,Pv (i + 1),fun σ' H' p'=>⟨xs.length - (i + 1),by omega,rfl,hlt,p'⟩,fun x H' y=>?_⟩
  obtain ⟨e,y⟩:=y
  subst e
  exact hs i x σ _ (y xs q) p
 ·have e:i = xs.length:=by omega
  subst e
  exact .inl ⟨⟨xs,q,Nat.le_refl _⟩,hd σ H p⟩
noncomputable abbrev R2:=V → V → Hp → VK → Prop
noncomputable def OpR (X:Cx) (f:Value → Value → Sem Value) (r:R2):Prop :=
 ∀ (pins:List (Addr × Obj)) (s:Shared) (σ:St) (H:Hp) (x y:V) (v u:Value) (Q:VK),Inv X pins σ H s → RelV x v → RelV y u → r x y H Q →
  wpAny (model X.prog X.w) X.A (f v u) (EP X pins σ Q) X.xe s
noncomputable def UnR (X:Cx) (f:Value → Sem Value) (r:V → Hp → VK → Prop):Prop :=
 ∀ (pins:List (Addr × Obj)) (s:Shared) (σ:St) (H:Hp) (x:V) (v:Value) (Q:VK),Inv X pins σ H s → RelV x v → r x H Q →
  wpAny (model X.prog X.w) X.A (f v) (EP X pins σ Q) X.xe s
noncomputable def CallR (X:Cx) (f:Value) (r:List V → Hp → VK → Prop):Prop :=
 ∀ (pins:List (Addr × Obj)) (s:Shared) (σ:St) (H:Hp) (xs:List V) (us:List Value) (Q:VK),Inv X pins σ H s → Vals xs us → r xs H Q →
  wpAny (model X.prog X.w) X.A (call f us) (EP X pins σ Q) X.xe s
noncomputable abbrev tOp (r:R2) (ta tb:TE):TE:=fun σ H Q=>ta σ H fun x H1=>tb σ H1 fun y H2=>r x y H2 Q
noncomputable abbrev tUn (r:V → Hp → VK → Prop) (ta:TE):TE:=fun σ H Q=>ta σ H fun x H1=>r x H1 Q
noncomputable def rI (C:Int → Int → Prop) (g:Int → Int → V):R2:=fun x y H Q=>∃ i j,x = .int i ∧ y = .int j ∧ C i j ∧ Q (g i j) H
noncomputable def rI0 (g:Int → Int → V):R2:=fun x y H Q=>∃ i j,x = .int i ∧ y = .int j ∧ Q (g i j) H
noncomputable def rU (g:Int → V):V → Hp → VK → Prop:=fun x H Q=>∃ i,x = .int i ∧ Q (g i) H
section
variable {X:Cx} {a b c:Expr} {ta tb tc:TE} {pos:Pos}
theorem Q6l (ha:PE X a ta) (hb:PE X b tb) {pins:List (Addr × Obj)} {s:Shared} {σ:St} {H:Hp} {R:V → V → Hp → Prop} (I:Inv X pins σ H s)
  (h:ta σ H fun x H1=>tb σ H1 fun y H2=>R x y H2) {Q:Value → Shared → Prop} {f:Value → Value → Sem Value}
  (hf:∀ v u s2 x y H2,Inv X pins σ H2 s2 → RelV x v → RelV y u → R x y H2 → wpAny (model X.prog X.w) X.A (f v u) Q X.xe s2) :
  wpAny (model X.prog X.w) X.A (eval a X.env) (fun v s₁=>wpAny (model X.prog X.w) X.A (eval b X.env) (fun u s₂=>wpAny (model X.prog X.w) X.A (f v u) Q X.xe s₂) X.xe s₁) X.xe s:=by
 refine thn (ha pins s σ H _ I h) fun v s1 ⟨x,H1,I1,r1,q1⟩=>?_
 refine thn (hb pins s1 σ H1 _ I1 q1) fun u s2 ⟨y,H2,I2,r2,q2⟩=>?_
 exact hf v u s2 x y H2 I2 r1 r2 q2
theorem Q97 {op:Operator} {r:R2} (ho:OpR X (binaryOp op) r) (ha:PE X a ta) (hb:PE X b tb):PE X (.BinOp a op b pos) (tOp r ta tb):=by
 intro pins s σ H Q I h
 exact wpAny_BinOp (Q6l ha hb I h fun v u s2 x y H2 I2 rx ry q=>ho pins s2 σ H2 x y v u Q I2 rx ry q)
theorem Q98 {op:UnaryOp} {r:V → Hp → VK → Prop} (ho:UnR X (unaryOp op) r) (ha:PE X a ta):PE X (.UnaryOp op a pos) (tUn r ta):=by
 intro pins s σ H Q I h
 exact UnaryOp_ (thn (ha pins s σ H _ I h) fun v s1 ⟨x,H1,I1,r1,q1⟩=>ho pins s1 σ H1 x v Q I1 r1 q1)
theorem opI {f:Value → Value → Sem Value} {C:Int → Int → Prop} {g:Int → Int → Int}
  (rule:∀ (i j:Int) (t u:Tok) (s:Shared) (Q:Value → Shared → Prop) (E:Value → Shared → Prop),C i j → Q (.int (g i j) s.toks) { s with toks:=s.toks + 1 } → wpAny (model X.prog X.w) X.A (f (.int i t) (.int j u)) Q E s) :
  OpR X f (rI C fun i j=>.int (g i j)):=by
 intro pins s σ H x y v u Q I rx ry h
 obtain ⟨i,j,rfl,rfl,hc,q⟩:=h
 obtain ⟨t,rfl⟩:=rx
 obtain ⟨t',rfl⟩:=ry
 exact rule i j t t' s _ _ hc ⟨.int (g i j),H,I.tok _,⟨_,rfl⟩,q⟩
theorem Q99 {f:Value → Value → Sem Value} {g:Int → Int → Int}
  (rule:∀ (i j:Int) (t u:Tok) (s:Shared) (Q:Value → Shared → Prop) (E:Value → Shared → Prop),Q (.int (g i j) s.toks) { s with toks:=s.toks + 1 } → wpAny (model X.prog X.w) X.A (f (.int i t) (.int j u)) Q E s) :
  OpR X f (rI0 fun i j=>.int (g i j)):=by
 intro pins s σ H x y v u Q I rx ry h
 obtain ⟨i,j,rfl,rfl,q⟩:=h
 obtain ⟨t,rfl⟩:=rx
 obtain ⟨t',rfl⟩:=ry
 exact rule i j t t' s _ _ ⟨.int (g i j),H,I.tok _,⟨_,rfl⟩,q⟩
theorem Q6m {f:Value → Value → Sem Value} {g:Int → Int → Bool}
  (rule:∀ (i j:Int) (t u:Tok) (s:Shared) (Q:Value → Shared → Prop) (E:Value → Shared → Prop),Q (.bool (g i j)) s → wpAny (model X.prog X.w) X.A (f (.int i t) (.int j u)) Q E s) :
  OpR X f (rI0 fun i j=>.bl (g i j)):=by
 intro pins s σ H x y v u Q I rx ry h
 obtain ⟨i,j,rfl,rfl,q⟩:=h
 obtain ⟨t,rfl⟩:=rx
 obtain ⟨t',rfl⟩:=ry
 exact rule i j t t' s _ _ ⟨.bl (g i j),H,I,rfl,q⟩
noncomputable def Q6n (i j:Int):Prop:=0 ≤ j ∧ j ≤ 1000000 ∧ i.natAbs < 2 ^ 64
noncomputable def CMul (i j:Int):Prop:=(-(2 ^ 64) < i ∧ i < 2 ^ 64) ∨ (-(2 ^ 64) < j ∧ j < 2 ^ 64)
theorem CMul.ok {i j:Int} (h:CMul i j):IntMulOk i j:=by
 rcases h with ⟨h1,h2⟩ | ⟨h1,h2⟩
 ·exact .of_left (intBits_le_64 h1 h2)
 ·exact .of_right (intBits_le_64 h1 h2)
theorem Q6o:OpR X (binaryOp .Add) (rI0 fun i j=>.int (i + j)):=Q99 fun _ _ _ _ _ _ _ q=>add_int q
theorem Q6p:OpR X (binaryOp .Sub) (rI0 fun i j=>.int (i - j)):=Q99 fun _ _ _ _ _ _ _ q=>sub_int q
theorem Q6q:OpR X (binaryOp .Mult) (rI CMul fun i j=>.int (i * j)):=opI fun _ _ _ _ _ _ _ hc q=>mul_int q hc.ok
theorem Q1g:OpR X (binaryOp .Mod) (rI (fun _ j=>j ≠ 0) fun i j=>.int (i.fmod j)):=opI fun _ _ _ _ _ _ _ hc q=>mod_int' hc q
theorem Q6r:OpR X (binaryOp .Pow) (rI Q6n fun i j=>.int (i ^ j.toNat)):=opI fun _ _ _ _ _ _ _ hc q=>pow_int_small hc.1 hc.2.1 hc.2.2 q
theorem unI {f:Value → Sem Value} {g:Int → Int}
  (rule:∀ (i:Int) (t:Tok) (s:Shared) (Q:Value → Shared → Prop) (E:Value → Shared → Prop),Q (.int (g i) s.toks) { s with toks:=s.toks + 1 } → wpAny (model X.prog X.w) X.A (f (.int i t)) Q E s) :
  UnR X f (rU fun i=>.int (g i)):=by
 intro pins s σ H x v Q I rx h
 obtain ⟨i,rfl,q⟩:=h
 obtain ⟨t,rfl⟩:=rx
 exact rule i t s _ _ ⟨.int (g i),H,I.tok _,⟨_,rfl⟩,q⟩
theorem Q6s:UnR X (unaryOp .USub) (rU fun i=>.int (-i)):=unI fun _ _ _ _ _ q=>neg_int q
end
noncomputable def Q6t:V → V → Bool
 | .non,.non=>true | .non,.int _=>true | .int _,.non=>true | .non,.bl _=>true | .bl _,.non=>true | .non,.str _=>true | .str _,.non=>true
 | .int _,.int _=>true | .bl _,.bl _=>true | .str _,.str _=>true | .byt _,.byt _=>true
 | .int _,.str _=>true | .str _,.int _=>true | .bl _,.str _=>true | .str _,.bl _=>true
 | _,_=>false
noncomputable def rEq:R2:=fun x y H Q=>Q6t x y = true ∧ Q (.bl (decide (x = y))) H
noncomputable def rNe:R2:=fun x y H Q=>Q6t x y = true ∧ Q (.bl (!decide (x = y))) H
theorem Quj {i j:Int}:decide (V.int i = V.int j) = (i == j):=by
 rw [Bool.eq_iff_iff]
 simp
theorem Qxq {i j:Bool}:decide (V.bl i = V.bl j) = (i == j):=by
 rw [Bool.eq_iff_iff]
 simp
theorem Quk {i j:Str}:decide (V.str i = V.str j) = (i == j):=by
 rw [Bool.eq_iff_iff]
 simp
theorem Qul {i j:Array UInt8}:decide (V.byt i = V.byt j) = (i.toList == j.toList):=by
 rw [Bool.eq_iff_iff]
 cases i
 cases j
 simp
section
variable {X:Cx} {a b c:Expr} {ta tb tc:TE} {pos:Pos}
theorem Qak {pins:List (Addr × Obj)} {σ:St} {H:Hp} {s:Shared} {Q:VK} {k k':Bool} (I:Inv X pins σ H s) (q:Q (.bl k) H) (e:k = k'):EP X pins σ Q (.bool k') s:=by
 subst e
 exact ⟨.bl k,H,I,rfl,q⟩
theorem Qaaa:OpR X (compareOp .Eq) rEq:=by
 intro pins s σ H x y v u Q I rx ry h
 obtain ⟨hs,q⟩:=h
 cases x with
 | non =>
  cases rx
  cases y with
  | non=>cases ry; exact PySem.EqNone.eq_none_none (Qak I q (by simp))
  | bl j=>cases ry; exact PySem.EqNone.eq_none_bool (Qak I q (by simp))
  | int j=>obtain ⟨t',rfl⟩:=ry; exact PySem.EqNone.eq_none_int (Qak I q (by simp))
  | str j=>obtain ⟨t',rfl⟩:=ry; exact PySem.EqNone.eq_none_str (Qak I q (by simp))
  | _=>exact absurd (show false = true from hs) Bool.false_ne_true
 | bl i =>
  cases rx
  cases y with
  | non=>cases ry; exact PySem.EqNone.eq_bool_none (Qak I q (by simp))
  | bl j=>cases ry; exact eq_bool (Qak I q Qxq)
  | str j=>obtain ⟨t',rfl⟩:=ry; exact PySem.EqMixed.eq_bool_str (Qak I q (by simp))
  | _=>exact absurd (show false = true from hs) Bool.false_ne_true
 | int i =>
  obtain ⟨t,rfl⟩:=rx
  cases y with
  | non=>cases ry; exact PySem.EqNone.eq_int_none (Qak I q (by simp))
  | int j=>obtain ⟨t',rfl⟩:=ry; exact eq_int (Qak I q Quj)
  | str j=>obtain ⟨t',rfl⟩:=ry; exact PySem.EqMixed.eq_int_str (Qak I q (by simp))
  | _=>exact absurd (show false = true from hs) Bool.false_ne_true
 | str i =>
  obtain ⟨t,rfl⟩:=rx
  cases y with
  | non=>cases ry; exact PySem.EqNone.eq_str_none (Qak I q (by simp))
  | bl j=>cases ry; exact PySem.EqMixed.eq_str_bool (Qak I q (by simp))
  | int j=>obtain ⟨t',rfl⟩:=ry; exact PySem.EqMixed.eq_str_int (Qak I q (by simp))
  | str j=>obtain ⟨t',rfl⟩:=ry; exact eq_str (Qak I q Quk)
  | _=>exact absurd (show false = true from hs) Bool.false_ne_true
 | byt i =>
  obtain ⟨t,rfl⟩:=rx
  cases y with
  | byt j=>obtain ⟨t',rfl⟩:=ry; exact PySem.W.eq_bytes (Qak I q Qul)
  | _=>exact absurd (show false = true from hs) Bool.false_ne_true
 | _=>cases y <;> exact absurd (show false = true from hs) Bool.false_ne_true
theorem Qaab:OpR X (compareOp .NotEq) rNe:=by
 intro pins s σ H x y v u Q I rx ry h
 obtain ⟨hs,q⟩:=h
 cases x with
 | non =>
  cases rx
  cases y with
  | non=>cases ry; exact PySem.EqNone.ne_none_none (Qak I q (by simp))
  | bl j=>cases ry; exact PySem.EqNone.ne_none_bool (Qak I q (by simp))
  | int j=>obtain ⟨t',rfl⟩:=ry; exact PySem.EqNone.ne_none_int (Qak I q (by simp))
  | str j=>obtain ⟨t',rfl⟩:=ry; exact PySem.EqNone.ne_none_str (Qak I q (by simp))
  | _=>exact absurd (show false = true from hs) Bool.false_ne_true
 | bl i =>
  cases rx
  cases y with
  | non=>cases ry; exact PySem.EqNone.ne_bool_none (Qak I q (by simp))
  | bl j=>cases ry; exact ne_bool (Qak I q (congrArg not Qxq))
  | str j=>obtain ⟨t',rfl⟩:=ry; exact PySem.EqMixed.ne_bool_str (Qak I q (by simp))
  | _=>exact absurd (show false = true from hs) Bool.false_ne_true
 | int i =>
  obtain ⟨t,rfl⟩:=rx
  cases y with
  | non=>cases ry; exact PySem.EqNone.ne_int_none (Qak I q (by simp))
  | int j=>obtain ⟨t',rfl⟩:=ry; exact ne_int (Qak I q (congrArg not Quj))
  | str j=>obtain ⟨t',rfl⟩:=ry; exact PySem.EqMixed.ne_int_str (Qak I q (by simp))
  | _=>exact absurd (show false = true from hs) Bool.false_ne_true
 | str i =>
  obtain ⟨t,rfl⟩:=rx
  cases y with
  | non=>cases ry; exact PySem.EqNone.ne_str_none (Qak I q (by simp))
  | bl j=>cases ry; exact PySem.EqMixed.ne_str_bool (Qak I q (by simp))
  | int j=>obtain ⟨t',rfl⟩:=ry; exact PySem.EqMixed.ne_str_int (Qak I q (by simp))
  | str j=>obtain ⟨t',rfl⟩:=ry; exact ne_str (Qak I q (congrArg not Quk))
  | _=>exact absurd (show false = true from hs) Bool.false_ne_true
 | byt i =>
  obtain ⟨t,rfl⟩:=rx
  cases y with
  | byt j=>obtain ⟨t',rfl⟩:=ry; exact PySem.W.ne_bytes (Qak I q (congrArg not Qul))
  | _=>exact absurd (show false = true from hs) Bool.false_ne_true
 | _=>cases y <;> exact absurd (show false = true from hs) Bool.false_ne_true
theorem Qaac:OpR X (compareOp .Lt) (rI0 fun i j=>.bl (decide (i < j))):=Q6m fun _ _ _ _ _ _ _ q=>lt_int q
theorem Qaad:OpR X (compareOp .Gt) (rI0 fun i j=>.bl (decide (j < i))):=Q6m fun _ _ _ _ _ _ _ q=>gt_int q
theorem Qaae:OpR X (compareOp .GtE) (rI0 fun i j=>.bl (decide (j ≤ i))):=Q6m fun _ _ _ _ _ _ _ q=>ge_int q
theorem Q6u:OpR X (compareOp .Is) (fun x y H Q=>y = .non ∧ Q (.bl (decide (x = .non))) H):=by
 intro pins s σ H x y v u Q I rx ry h
 obtain ⟨rfl,q⟩:=h
 cases ry
 refine is_none_gen (Qak I q ?_)
 cases x <;> first
  | (cases rx; rfl)
  | (obtain ⟨t,rfl⟩:=rx; rfl)
theorem Q1h:OpR X (compareOp .IsNot) (fun x y H Q=>y = .non ∧ Q (.bl (!decide (x = .non))) H):=by
 intro pins s σ H x y v u Q I rx ry h
 obtain ⟨rfl,q⟩:=h
 cases ry
 refine isnot_none_gen (Qak I q ?_)
 cases x <;> first
  | (cases rx; rfl)
  | (obtain ⟨t,rfl⟩:=rx; rfl)
theorem OpR.or {f:Value → Value → Sem Value} {r r':R2} (h:OpR X f r) (h':OpR X f r'):OpR X f (fun x y H Q=>r x y H Q ∨ r' x y H Q):=by
 intro pins s σ H x y v u Q I rx ry q
 rcases q with q | q
 ·exact h pins s σ H x y v u Q I rx ry q
 ·exact h' pins s σ H x y v u Q I rx ry q
theorem Q6v (b:Expr) {op:CmpOp} (h:op ≠ .In:=by decide) (h2:op ≠ .NotIn:=by decide):behindInMarks op b = false:=by
 have e1:(op == CmpOp.In) = false:=by cases op <;> first | rfl | exact absurd rfl h
 have e2:(op == CmpOp.NotIn) = false:=by cases op <;> first | rfl | exact absurd rfl h2
 cases b <;> simp [behindInMarks,e1,e2]
theorem Q1i {op:CmpOp} {r:R2} (ho:OpR X (compareOp op) r) (ha:PE X a ta) (hb:PE X b tb) (hm:behindInMarks op b = false):PE X (.Compare a [op] [b] pos) (tOp r ta tb):=by
 intro pins s σ H Q I h
 exact wpAny_Compare1 (Q6l ha hb I h fun v u s2 x y H2 I2 rx ry q=>ho pins s2 σ H2 x y v u Q I2 rx ry q) hm
noncomputable abbrev Q4i (t:TE):TT:=fun σ H Q=>t σ H fun x H'=>∃ k,x = .bl k ∧ Q k H'
theorem Q1j {op:CmpOp} {r:R2} (ho:OpR X (compareOp op) r) (ha:PE X a ta) (hb:PE X b tb) (hm:behindInMarks op b = false):PT X (.Compare a [op] [b] pos) (Q4i (tOp r ta tb)):=by
 intro pins s σ H Q I h
 refine wpAny_isTrue_Compare1 (thn (ha pins s σ H _ I h) fun v s1 ⟨x,H1,I1,r1,q1⟩=>thn (hb pins s1 σ H1 _ I1 q1) fun u s2 ⟨y,H2,I2,r2,q2⟩ =>
  thn (ho pins s2 σ H2 x y v u _ I2 r1 r2 q2) fun c s3 ⟨z,H3,I3,r3,k,e,q3⟩=>?_) hm
 subst e
 cases r3
 exact wpAny_truthy_bool ⟨H3,I3,q3⟩
theorem Qld:(sizeLine:Nat) < 2 ^ 63:=by rw [sizeLine_eq]; decide
theorem Qib {x:V} {us:List Value} (r:Vals [x] us):∃ u,us = [u] ∧ RelV x u:=by
 cases r with
 | cons r1 r2=>cases r2; exact ⟨_,rfl,r1⟩
theorem Qxr {x y:V} {us:List Value} (r:Vals [x,y] us):∃ u w',us = [u,w'] ∧ RelV x u ∧ RelV y w':=by
 cases r with
 | cons r1 r2 =>
  cases r2 with
  | cons r3 r4=>cases r4; exact ⟨_,_,rfl,r1,r3⟩
theorem Qxs:CallR X (.builtin "abs") (fun xs H Q=>∃ i,xs = [.int i] ∧ Q (.int (if i < 0 then -i else i)) H):=by
 intro pins s σ H xs us Q I r h
 obtain ⟨i,rfl,q⟩:=h
 obtain ⟨u,rfl,t,rfl⟩:=Qib r
 exact call_abs_int fun u tk=>⟨.int (if i < 0 then -i else i),H,I.tok _,⟨_,rfl⟩,q⟩
theorem Qv3 (hc:X.calm = true):CallR X (.builtin "max") (fun xs H Q=>∃ i j,xs = [.int i,.int j] ∧ Q (.int (if j > i then j else i)) H):=by
 intro pins s σ H xs us Q I r h
 obtain ⟨i,j,rfl,q⟩:=h
 obtain ⟨u,w',rfl,⟨t,rfl⟩,⟨t',rfl⟩⟩:=Qxr r
 refine max_two_ints (I.ok.hd hc) fun h' tk k=>⟨_,H,I.kept k,?_,q⟩
 by_cases hj:j > i
 ·rw [if_pos hj,if_pos hj]; exact ⟨_,rfl⟩
 ·rw [if_neg hj,if_neg hj]; exact ⟨_,rfl⟩
theorem Qv4:CallR X (.type "int") (fun xs H Q=>(∃ i,xs = [.int i] ∧ Q (.int i) H) ∨ ∃ k,xs = [.bl k] ∧ Q (.int (if k then 1 else 0)) H):=by
 intro pins s σ H xs us Q I r h
 rcases h with ⟨i,rfl,q⟩ | ⟨k,rfl,q⟩
 ·obtain ⟨u,rfl,t,rfl⟩:=Qib r
  exact call_int_int ⟨.int i,H,I,⟨_,rfl⟩,q⟩
 ·obtain ⟨u,rfl,r1⟩:=Qib r
  cases r1
  exact call_int_bool ⟨.int (if k then 1 else 0),H,I.tok _,⟨_,rfl⟩,q⟩
end
structure ObjM (h:Heap) (x dx C:Addr) (mA:Str → Option Value):Prop where
 obj:h.get? x = some (PySem.W.instObj C dx)
 ns:h.Ns1 dx mA
 ne:dx ≠ x
theorem Qv5 {h:Heap} {dx:Addr} {mA:Str → Option Value} (n:h.Ns1 dx mA):∃ od,h.get? dx = some od ∧ ∀ name,PySem.W.lookIn name od = some (mA name):=by
 obtain ⟨o,es,ep,ho,hd,hk,_,hm⟩:=n
 refine ⟨o,ho,fun name=>?_⟩
 have e:=hm name
 unfold nsFind findBy at e
 rw [← Array.find?_toList] at e
 unfold PySem.W.lookIn
 rw [hd]
 dsimp only
 split
 ·rename_i y q
  rw [q] at e
  exact congrArg some e
 ·rename_i q
  rw [q] at e
  have a:es.toList.any (·.refKey) = false:=by
   rw [List.any_eq_false]
   intro y hy
   obtain ⟨z,t,hkey⟩:=hk y (Array.mem_toList_iff.mp hy)
   simp [DictEntry.refKey,hkey]
  have a':¬ es.toList.any (·.refKey) = true:=by rw [a]; exact Bool.false_ne_true
  rw [if_neg a']
  exact congrArg some e
theorem ObjM.look {h:Heap} {x dx C:Addr} {mA:Str → Option Value} (I:ObjM h x dx C mA):∃ od,PySem.W.InstAt h x (PySem.W.instObj C dx) C (some od) ∧ ∀ name,PySem.W.lookIn name od = some (mA name) :=
 let ⟨od,ho,hl⟩:=Qv5 I.ns
 ⟨od,⟨I.obj,rfl,rfl,ho⟩,hl⟩
section
variable {prog:Program} {w:World} {A:Around} {E:Value → Shared → Prop} {s:Shared} {K:PySem.W.Frag} {x dx C f:Addr} {mA:Str → Option Value} {name:Str} {v:Value}
end
theorem RelO.some_of {v:V} {o:Option Value} (r:RelO (some v) o):∃ u,o = some u ∧ RelV v u:=by
 cases o with
 | none=>exact (show False from r).elim
 | some u=>exact ⟨u,rfl,r⟩
section
variable {P:Program} {w:World} {H H':Hp} {h h':Heap} {a C dx:Addr} {fs fs':List (Str × V)}
theorem Q1k (hok:HOk P w H h) (e:H a = some (.ins C dx fs)):∃ mA,ObjM h a dx C mA ∧ (∀ f,RelO (fs.lookup f) (mA f)) ∧ PySem.Within mA (fs.map (·.1)) ∧ fs.length ≤ 1000 ∧ H dx = some (.own a):=by
 obtain ⟨d,z,ne,ob,mA,n,r,q⟩:=(show ObjOk P w H h a (.ins C dx fs) from hok a _ e)
 exact ⟨mA,⟨ob,n,ne⟩,r,q,z,d⟩
end
structure Cls (K:PySem.W.Frag) (C:Addr):Prop where
 pg:PySem.W.plainGet K C Str.empty = true
 hd:PySem.W.hasDictIn K C = true
 po:PySem.W.plainOver K C = true
 sa:PySem.W.findIn K (.ref C) "__setattr__" = some (some (.builtin "object.__setattr__"))
theorem Cls.get {K:PySem.W.Frag} {C:Addr} (c:Cls K C) (f:Str):PySem.W.plainGet K C f = true:=c.pg
structure Con (K:PySem.W.Frag) (C:Addr) (f:Str) (v:V) (u:Value):Prop where
 at_:PySem.W.findIn K (.ref C) f = some (some u)
 rel:RelV v u
 get:PySem.W.specialIn K u "__get__" = some none
 cp:PySem.W.copiedNames.contains f = false
structure Meth (K:PySem.W.Frag) (C:Addr) (m:Str) (f:Addr):Prop where
 at_:PySem.W.findIn K (.ref C) m = some (some (.ref f))
 fn:PySem.W.isFn K (.ref f) = true
 kp:PySem.W.keepIn K (.ref f) = true
section
variable {X:Cx} {pins:List (Addr × Obj)} {σ:St} {H:Hp} {s:Shared} {a C dx:Addr} {fs:List (Str × V)} {f:Str} {v:V} {A:Around} {E:Value → Shared → Prop}
end
section
variable {X:Cx} {o e value:Expr} {f:Str} {pos pos' tpos:Pos} {ta tv:TE}
end
section
variable {X:Cx} {pins:List (Addr × Obj)} {σ:St} {H:Hp} {s:Shared} {A:Around} {E:Value → Shared → Prop} {Q:Value → Shared → Prop} {c:Value} {b:Bool}
inductive TyOf (K:PySem.W.Frag) (H:Hp):V → Value → Prop where
 | non:TyOf K H .non (.type "NoneType")
 | bl (x:Bool):TyOf K H (.bl x) (.type "bool")
 | int (i:Int):TyOf K H (.int i) (.type "int")
 | str (x:Str):TyOf K H (.str x) (.type "str")
 | flt (x:UInt64):TyOf K H (.flt x) (.type "float")
 | lst {a:Addr} {xs:List V} (e:H a = some (.lst xs)):TyOf K H (.ref a) (.type "list")
 | frz {a:Addr} {o:Obj} {xs:List V} (e:H a = some (.frz o (.lst xs))):TyOf K H (.ref a) (.type "list")
 | tup {a:Addr} {xs:List V} (e:H a = some (.tup xs)):TyOf K H (.ref a) (.type "tuple")
 | dK {a:Addr} {kvs:List (Key × V)} (e:H a = some (.dK kvs)):TyOf K H (.ref a) (.type "dict")
 | dT {a:Addr} {kvs:List (List (List Int) × V)} (e:H a = some (.dT kvs)):TyOf K H (.ref a) (.type "dict")
 | ins {a C dx:Addr} {fs:List (Str × V)} (e:H a = some (.ins C dx fs)) (cl:Cls K C) (ha:PySem.W.findIn K (.ref C) "__class__" = some (some (.builtin "object.__class__")))
   (hn:PySem.W.specialIn K (.builtin "object.__class__") "__get__" = some (some (.builtin "getset_descriptor.__get__"))) (htk:PySem.W.takesIn K (.builtin "object.__class__") = some true)
   (hm:PySem.W.mroIn K C (.type "object") = some true):TyOf K H (.ref a) (.ref C)
theorem Qv6 {x:V} {u t:Value} (I:Inv X pins σ H s) (rx:RelV x u) (ty:TyOf X.K H x t) (e:PySem.W.kitOne X.K t c = some b) (h:∀ tk,Q (.bool b) { s with toks:=tk }) :
  wpAny (model X.prog X.w) A (call (.builtin "isinstance") [u,c]) Q E s:=by
 cases ty with
 | non=>cases (show u = Value.none from rx); exact PySem.W.kia_one PySem.W.kitx_none I.kIn True.intro e (fun z=>nomatch z) h
 | bl y=>cases (show u = Value.bool y from rx); exact PySem.W.kia_one PySem.W.kitx_bool I.kIn True.intro e (fun z=>nomatch z) h
 | int i=>obtain ⟨t,q⟩:=(show ∃ t,u = Value.int i t from rx); cases q; exact PySem.W.kia_one PySem.W.kitx_int I.kIn True.intro e (fun z=>nomatch z) h
 | str y=>obtain ⟨t,q⟩:=(show ∃ t,u = Value.str y t from rx); cases q; exact PySem.W.kia_one PySem.W.kitx_str I.kIn True.intro e (fun z=>nomatch z) h
 | flt y=>obtain ⟨t,q⟩:=(show ∃ t,u = Value.float y t from rx); cases q; exact PySem.W.kia_one PySem.W.kitx_float I.kIn True.intro e (fun z=>nomatch z) h
 | @lst a xs ea =>
  cases (show u = Value.ref a from rx)
  obtain ⟨_,_,n,_,h1⟩:=(show ObjOk X.prog X.w H s.heap a (.lst xs) from I.hok a _ ea)
  exact PySem.W.kia_one PySem.W.kitx_list I.kIn ⟨_,h1,rfl⟩ e (fun z=>nomatch z) h
 | @frz a ob xs ea =>
  cases (show u = Value.ref a from rx)
  obtain ⟨_,_,_,n,_,h1⟩:=(show ObjOk X.prog X.w H s.heap a (.frz ob (.lst xs)) from I.hok a _ ea)
  exact PySem.W.kia_one PySem.W.kitx_list I.kIn ⟨_,h1,rfl⟩ e (fun z=>nomatch z) h
 | @tup a xs ea =>
  cases (show u = Value.ref a from rx)
  obtain ⟨_,_,_,p⟩:=(show ObjOk X.prog X.w H s.heap a (.tup xs) from I.hok a _ ea)
  obtain ⟨o,h1,h2,_⟩:=p
  exact PySem.W.kia_one PySem.W.kitx_tuple I.kIn ⟨o,h1,h2⟩ e (fun z=>nomatch z) h
 | @dK a kvs ea =>
  cases (show u = Value.ref a from rx)
  obtain ⟨_,_,vs,_,p⟩:=(show ObjOk X.prog X.w H s.heap a (.dK kvs) from I.hok a _ ea)
  obtain ⟨o,es,ep,h1,h2,_⟩:=p
  exact PySem.W.kia_one PySem.W.kitx_dict I.kIn ⟨o,h1,h2.1⟩ e (fun z=>nomatch z) h
 | @dT a kvs ea =>
  cases (show u = Value.ref a from rx)
  obtain ⟨_,_,xs,_,o,es,ep,h1,h2,_⟩:=(show ObjOk X.prog X.w H s.heap a (.dT kvs) from I.hok a _ ea)
  exact PySem.W.kia_one PySem.W.kitx_dict I.kIn ⟨o,h1,h2.1⟩ e (fun z=>nomatch z) h
 | @ins a C dx fs ea cl ha hn htk hm =>
  cases (show u = Value.ref a from rx)
  obtain ⟨mA,O,_⟩:=Q1k I.hok ea
  obtain ⟨od,J,_⟩:=O.look
  exact PySem.W.kia_one (PySem.W.kitx_own (cl.get _) cl.hd ha hn htk hm) I.kIn J e (fun z=>nomatch z) h
end
structure Room (k:Nat) (A:Around):Prop where
 hd:A.handled = none
 dp:A.depth + 3 * k + 5 < recursionLimit
 un:A.units + 16 * k + 200 < cLine
 gd:A.guards = some []
theorem Room.mono {j k:Nat} {A:Around} (r:Room k A) (h:j ≤ k):Room j A:=⟨r.hd,by have:=r.dp; omega,by have:=r.un; omega,r.gd⟩
theorem Room.deeper {k:Nat} {A:Around} (r:Room (k + 1) A) (env:Env):Room k (A.deeper env) :=
 ⟨r.hd,by have:=r.dp; show A.depth + 1 + 3 * k + 5 < _; omega,by have:=r.un; show A.units + 3 + 16 * k + 200 < _; omega,r.gd⟩
theorem Room.depth {k:Nat} {A:Around} (r:Room k A):A.depth < recursionLimit:=by have:=r.dp; omega
theorem Room.units {k:Nat} {A:Around} (r:Room k A):A.units + 64 < cLine:=by have:=r.un; omega
noncomputable abbrev Qv7:TA:=fun _ H Q=>Q [] H
noncomputable abbrev Qkd (ta:TE) (tr:TA):TA:=fun σ H Q=>ta σ H fun x H1=>tr σ H1 fun xs H2=>Q (x :: xs) H2
section
variable {X:Cx} {e:Expr} {es:List Expr} {te:TE} {t:TA} {pos:Pos}
theorem Q6w:PA X [] Qv7:=fun _ _ _ _ H Q I h=>Calls.spliced_nil ⟨[],H,I,.nil,h⟩
theorem Q1l (ha:PE X e te) (hr:PA X es t) (hs:starEach (e :: es) X.env = (false,eval e X.env) :: starEach es X.env:=by rfl):PA X (e :: es) (Qkd te t):=by
 intro pos pins s σ H Q I h
 rw [hs]
 show wpAny _ _ (spliced ((false,eval e X.env) :: backTo pos (starEach es X.env))) _ _ s
 refine Calls.spliced_cons (thn (ha pins s σ H _ I h) fun u s1 ⟨x,H1,I1,r1,q1⟩=>?_)
 exact thn (hr pos pins s1 σ H1 _ I1 q1) fun us s2 ⟨xs,H2,I2,r2,q2⟩=>⟨x :: xs,H2,I2,.cons r1 r2,q2⟩
noncomputable abbrev tTup (t:TA):TE:=fun σ H Q=>t σ H fun xs H1=>xs.length ≤ sizeLine ∧ ∀ p,H1 p = none → Q (.ref p) (upd H1 p (.tup xs))
noncomputable abbrev tLst (t:TA):TE:=fun σ H Q=>t σ H fun xs H1=>xs.length ≤ sizeLine ∧ ∀ p,H1 p = none → Q (.ref p) (upd H1 p (.lst xs))
theorem Q6x {x1} (h:PA X es t):PE X (.Tuple es x1 pos) (tTup t):=by
 intro pins s σ H Q I hq
 refine wpAny_Tuple_spliced (thn (h pos pins s σ H _ I hq) fun us s1 ⟨xs,H1,I1,r,z,q⟩=>⟨by rw [← r.length]; exact z,?_⟩)
 have hf:H1 s1.heap.objs.size = none:=I1.hok.fresh (Nat.le_refl _)
 refine ⟨.ref s1.heap.objs.size,upd H1 s1.heap.objs.size (.tup xs),I1.laid (t':=s1.toks) (fun b u e=>Heap.get?_push_of_some _ e) (Nat.le_refl _) ?_,rfl,q _ hf⟩
 exact ⟨z,us,r,⟨_,Heap.get?_push_size _ rfl,rfl,_,rfl,rfl⟩⟩
theorem Q6y (h:PA X es t):PE X (.List es pos) (tLst t):=by
 intro pins s σ H Q I hq
 refine wpAny_List_spliced (thn (h pos pins s σ H _ I hq) fun us s1 ⟨xs,H1,I1,r,z,q⟩=>⟨by rw [← r.length]; exact z,?_⟩)
 have hf:H1 s1.heap.objs.size = none:=I1.hok.fresh (Nat.le_refl _)
 refine ⟨.ref s1.heap.objs.size,upd H1 s1.heap.objs.size (.lst xs),I1.laid (t':=s1.toks) (fun b u e=>Heap.get?_push_of_some _ e) (Nat.le_refl _) ?_,rfl,q _ hf⟩
 exact ⟨z,us,0,r,Heap.get?_push_size _ rfl⟩
end
noncomputable abbrev Sp:=List V → Hp → VK → XK → Prop
noncomputable abbrev CXT:=List Env → Hp → Shared → XK → Value → Shared → Prop
structure Env0 (P:Program) (w:World) (K:PySem.W.Frag) (mg:Str → Option Value) (base:Heap) (A:Around) (outer:List Env) (s:Shared) (H:Hp):Prop where
 frames:A.frames = some outer
 mod:Mod K mg base
 bs:∀ b o,base.get? b = some o → s.heap.get? b = some o ∧ H b = none
 bsz:base.objs.size ≤ s.heap.objs.size
 funs:s.heap.FunFrames base outer
 frf:(∀ b ∈ frs outer,H b = none) ∧ Qxc K H
 hok:HOk P w H s.heap
 bare:AllBare s.gens
noncomputable def CE (outer:List Env) (P:Program) (w:World) (H:Hp) (s:Shared) (Q:VK) (u:Value) (s':Shared):Prop :=
 ∃ v H',s'.os = s.os ∧ AllBare s'.gens ∧ Un (frs outer) [] H H' s.heap s'.heap ∧ HOk P w H' s'.heap ∧ RelV v u ∧ Q v H'
noncomputable def CR (CX:CXT) (outer:List Env) (P:Program) (w:World) (H:Hp) (s:Shared) (Q:VK) (E:XK) (r:Result) (s':Shared):Prop :=
 match r with
 | .ok (.ret u)=>CE outer P w H s Q u s'
 | .ok _=>False
 | .error e=>CX outer H s E e s'
structure FnOk (P:Program) (w:World) (K:PySem.W.Frag) (mg:Str → Option Value) (base:Heap) (CX:CXT) (k:Nat) (f:Addr) (fd:FuncData) (ps:List Str) (sp:Sp):Prop where
 len:∀ vs H Q E,sp vs H Q E → vs.length = ps.length
 run:∀ (A:Around) (outer:List Env) (s:Shared) (H:Hp) (args:Args) (us:List Value) (vs:List V) (Q:VK) (E:XK),Room k A → Env0 P w K mg base A outer s H → BindsTo s fd args (ps.zip us) → Vals vs us → sp vs H Q E →
  codeAny (model P w) A (.call (.ref f) args) (CR CX outer P w H s Q E) s
section
variable {X:Cx} {pins:List (Addr × Obj)} {σ:St} {H:Hp} {s s':Shared}
theorem Inv.env0 (I:Inv X pins σ H s):Env0 X.prog X.w X.K X.mg X.base X.A X.stack s H :=
 ⟨I.ok.frames,I.ok.mod,I.bs,Nat.le_trans I.ok.bsz I.sz,I.stack,⟨I.stkFree,I.tab⟩,I.hok,I.bare⟩
theorem Inv.after {Q:VK} {u:Value} (I:Inv X pins σ H s) (h:CE X.stack X.prog X.w H s Q u s'):EP X pins σ Q u s':=by
 obtain ⟨v,H',os,bare,un,hok,r,q⟩:=h
 obtain ⟨hh,g,d,t,os'⟩:=s'
 obtain rfl:os' = s.os:=os
 exact ⟨v,H',I.call (h':=hh) (g':=g) (d':=d) (t':=t) (ch:=[]) un hok bare (fun b z=>absurd z (by simp)),r,q⟩
end
noncomputable abbrev Qum (sp:Sp) (dvs:List V) (E:XK) (t:TA):TE:=fun σ H Q=>t σ H fun vs H1=>sp (vs ++ dvs) H1 Q E
noncomputable def Binds (K:PySem.W.Frag) (fd:FuncData) (ps:List Str) (ds:List Value):Prop :=
 ∀ (s:Shared) (us:List Value),K.In s.heap → (us ++ ds).length = ps.length → BindsTo s fd ⟨us,[]⟩ (ps.zip (us ++ ds))
theorem Binds.all {K:PySem.W.Frag} {fd:FuncData} {ps:List Str} (h:∀ us:List Value,us.length = ps.length → bindArgs fd ⟨us,[]⟩ = pure (ps.zip us)):Binds K fd ps []:=fun s us _ hl=>by
 rw [List.append_nil] at hl ⊢
 exact .of_eq (h us hl)
noncomputable def Qs1 (CX:CXT) (X:Cx) (E:XK):Prop:=∀ (pins:List (Addr × Obj)) (σ:St) (H:Hp) (s:Shared) (e:Value) (s':Shared),Inv X pins σ H s → CX X.stack H s E e s' → X.xe e s'
section
variable {X:Cx} {CX:CXT} {k:Nat} {f C:Addr} {fd:FuncData} {ps:List Str} {sp:Sp} {dvs:List V} {ds:List Value} {E:XK} {x m:Str} {p pos apos:Pos} {e o:Expr} {es:List Expr} {ta:TE} {t:TA}
theorem Q6z {pins:List (Addr × Obj)} {σ:St} {H:Hp} {s:Shared} {Q:VK} {us:List Value} {vs:List V} (F:FnOk X.prog X.w X.K X.mg X.base CX k f fd ps sp) (hr:Room k X.A) (hb:Binds X.K fd ps ds) (hd:Vals dvs ds) (hx:Qs1 CX X E)
  (I:Inv X pins σ H s) (r:Vals vs us) (h:sp (vs ++ dvs) H Q E):wpAny (model X.prog X.w) X.A (call (.ref f) us) (EP X pins σ Q) X.xe s:=by
 have r2:Vals (vs ++ dvs) (us ++ ds):=r.append hd
 have hl:(us ++ ds).length = ps.length:=by rw [← r2.length]; exact F.len _ _ _ _ h
 refine wpAny_call (codeAny_mono (F.run X.A X.stack s H ⟨us,[]⟩ (us ++ ds) (vs ++ dvs) Q E hr I.env0 (hb s us I.kIn hl) r2 h) fun r s' hq=>?_)
 cases r with
 | error e=>exact hx pins σ H s e s' I hq
 | ok fl =>
  cases fl with
  | ret u=>exact I.after hq
  | next=>exact False.elim hq
  | brk=>exact False.elim hq
  | cont=>exact False.elim hq
theorem Q1m (F:FnOk X.prog X.w X.K X.mg X.base CX k f fd ps sp) (hr:Room k X.A) (hg:Gl X x) (hm:X.mg x = some (.ref f)) (hk:PySem.W.keepIn X.K (.ref f) = true) (hb:Binds X.K fd ps ds) (hd:Vals dvs ds) (hx:Qs1 CX X E)
  (ha:PA X (e :: es) t) (hdb:(x == ("__debug__" : Str)) = false:=by decide) (he:starEach (e :: es) X.env = (false,eval e X.env) :: starEach es X.env:=by rfl) (hpl:(backTo pos (starEach es X.env)).any (·.1) = false:=by rfl) :
  PE X (.Call (.Name x p) (e :: es) [] pos) (Qum sp dvs E t):=by
 intro pins s σ H Q I h
 refine wpAny_Call_Name_kw (Qoo I hg hm ?_ hdb)
 refine PySem.W.callWith_K (h₀:=X.base) I.ok.mod.kin hk (thn (ha pos pins s σ H _ I h) fun us s1 ⟨vs,H1,I1,r,q⟩=>⟨I1.kIn,?_⟩) he hpl
 exact Q6z F hr hb hd hx I1 r q
structure Mk (K:PySem.W.Frag) (C f:Addr):Prop where
 makes:PySem.W.makesIn K C = true
 init:PySem.W.findIn K (.ref C) "__init__" = some (some (.ref f))
 fn:PySem.W.isFn K (.ref f) = true
 kp:PySem.W.keepIn K (.ref C) = true
end
section
variable {X:Cx} {CX:CXT} {k:Nat} {f C:Addr} {fd:FuncData} {ps ks:List Str} {sp:Sp} {E:XK} {x m:Str} {p pos apos kpos:Pos} {e o:Expr} {es:List Expr} {kws:List Keyword} {te ta:TE} {t tk:TA} {nm:Option Str}
structure KBinds (K:PySem.W.Frag) (fd:FuncData) (ps ks:List Str) (g:List Value → List Value → List Value) (gV:List V → List V → List V):Prop where
 to:∀ (s:Shared) (us ws:List Value),K.In s.heap → (g us ws).length = ps.length → BindsTo s fd ⟨us,ks.zip ws⟩ (ps.zip (g us ws))
 rel:∀ {vs:List V} {us:List Value} {zs:List V} {ws:List Value},Vals vs us → Vals zs ws → Vals (gV vs zs) (g us ws)
variable {g:List Value → List Value → List Value} {gV:List V → List V → List V}
end
structure FnScope (N P:List Str) (sc:Scope):Prop where
 kind:sc.kind = .function
 co:sc.isCoroutine = false
 gen:sc.isGenerator = false
 nd:N.Nodup
 pre:N.take P.length = P
 par:∀ x ∈ P,sc.names.lookup x = some .local ∨ sc.names.lookup x = some .cell
 nofree:∀ y ∈ sc.names,y.2 ≠ .free
theorem Qno {kindOf:Str → Option NameKind} {x:Str}:∀ {binds:List (Str × Value)} {m:Str → Option Value},(∀ v,(x,v) ∉ binds) → bindL kindOf binds m x = m x
 | [],_,_=>rfl
 | (n,v) :: r,m,h=>by
  unfold bindL
  rw [Qno fun w hw=>h w (List.mem_cons_of_mem _ hw)]
  split
  ·have:x ≠ n:=by rintro rfl; exact h v List.mem_cons_self
   simp [this]
  ·rfl
theorem Qnp {kindOf:Str → Option NameKind} {x:Str}:∀ {binds:List (Str × Value)} {m:Str → Option Value},(∀ v,(x,v) ∉ binds) → bindC kindOf binds m x = m x
 | [],_,_=>rfl
 | (n,v) :: r,m,h=>by
  unfold bindC
  rw [Qnp fun w hw=>h w (List.mem_cons_of_mem _ hw)]
  split
  ·rfl
  ·have:x ≠ n:=by rintro rfl; exact h v List.mem_cons_self
   simp [this]
theorem Qnq {kindOf:Str → Option NameKind} {x:Str} {v:Value}:∀ {P:List Str} {vs:List Value} {i:Nat} {m:Str → Option Value},P.Nodup → P[i]? = some x → vs[i]? = some v → kindOf x = some .local →
  bindL kindOf (P.zip vs) m x = some v
 | [],_,_,_,_,h,_,_=>by simp at h
 | _ :: _,[],_,_,_,_,h,_=>by simp at h
 | p :: P,w :: vs,0,m,nd,h1,h2,hk=>by
  simp at h1 h2; subst h1; subst h2
  show bindL kindOf ((p,w) :: P.zip vs) m p = _
  unfold bindL
  rw [Qno fun v hv=>(List.nodup_cons.mp nd).1 (List.of_mem_zip hv).1,if_pos hk]
  simp
 | p :: P,w :: vs,i + 1,m,nd,h1,h2,hk=>by
  show bindL kindOf ((p,w) :: P.zip vs) m x = _
  unfold bindL
  exact Qnq (i:=i) (List.nodup_cons.mp nd).2 (by simpa using h1) (by simpa using h2) hk
theorem Qnr {kindOf:Str → Option NameKind} {x:Str} {v:Value}:∀ {P:List Str} {vs:List Value} {i:Nat} {m:Str → Option Value},P.Nodup → P[i]? = some x → vs[i]? = some v → kindOf x ≠ some .local →
  bindC kindOf (P.zip vs) m x = some v
 | [],_,_,_,_,h,_,_=>by simp at h
 | _ :: _,[],_,_,_,_,h,_=>by simp at h
 | p :: P,w :: vs,0,m,nd,h1,h2,hk=>by
  simp at h1 h2; subst h1; subst h2
  show bindC kindOf ((p,w) :: P.zip vs) m p = _
  unfold bindC
  rw [Qnp fun v hv=>(List.nodup_cons.mp nd).1 (List.of_mem_zip hv).1,if_neg hk]
  simp
 | p :: P,w :: vs,i + 1,m,nd,h1,h2,hk=>by
  show bindC kindOf ((p,w) :: P.zip vs) m x = _
  unfold bindC
  exact Qnr (i:=i) (List.nodup_cons.mp nd).2 (by simpa using h1) (by simpa using h2) hk
noncomputable def Qbd (N:List Str) (vs:List V):St:=vs.map some ++ List.replicate (N.length - vs.length) none
noncomputable def Qh1 (g:Str → Bool) (CX:CXT) (P:Program) (w:World) (K:PySem.W.Frag) (mg:Str → Option Value) (base:Heap) (N:List Str) (qual:Str) (scope:Scope) (f:Addr) (cd:Value) (A:Around) (outer:List Env) (s:Shared) (H:Hp) (E:XK):Cx where
 prog:=P
 w:=w
 K:=K
 mg:=mg
 base:=base
 A:=A.deeper (envOfC qual scope s.heap.objs.size f cd)
 N:=N
 s₀:=s
 H₀:=H
 env:=envOfC qual scope s.heap.objs.size f cd
 outer:=outer
 stack:=envOfC qual scope s.heap.objs.size f cd :: outer
 ex:=[]
 calm:=true
 fn:=g
 pn:=[]
 xe:=fun e s'=>wpAny (model P w) (A.deeper (envOfC qual scope s.heap.objs.size f cd)) (leaving (envOfC qual scope s.heap.objs.size f cd) e) (fun _ s''=>CX outer H s E e s'') (fun e' s''=>CX outer H s E e' s'') s'
theorem Qqs {sc:Scope} {n:Nat} {x:Str} (h:sc.names.lookup x = some .cell):∃ c,(cellsFrom n sc.names []).lookup x = some c:=by
 have q:=PySem.W.cellsFrom_some sc.names n [] (.inl h)
 exact Option.isSome_iff_exists.mp q
theorem Qns {g:Str → Bool} {CX:CXT} {P:Program} {w:World} {K:PySem.W.Frag} {mg:Str → Option Value} {base:Heap} {N ps:List Str} {qual:Str} {scope:Scope} {f:Addr} {cd:Value} {A:Around} {outer:List Env} {s s1:Shared} {H:Hp} {E:XK} {us:List Value} {vs:List V}
  (S:FnScope N ps scope) (hd:A.handled = none) (e0:Env0 P w K mg base A outer s H) (hl:vs.length = ps.length) (r:Vals vs us)
  (x:InCallC s s.heap.objs.size (bindL (envOfC qual scope s.heap.objs.size f cd).kindOf (ps.zip us) fun _=>none) (cellsFrom (s.heap.objs.size + 1) scope.names []) (bindC (envOfC qual scope s.heap.objs.size f cd).kindOf (ps.zip us) fun _=>none) s1) :
  Inv (Qh1 g CX P w K mg base N qual scope f cd A outer s H E) [] (Qbd N vs) H s1:=by
 have hpl:ps.length ≤ N.length:=by have:=congrArg List.length S.pre; rw [List.length_take] at this; omega
 obtain ⟨h1,tk,rfl,hk⟩:=x.done
 have noA:∀ b:Addr,b ∉ (Qh1 g CX P w K mg base N qual scope f cd A outer s H E).ex:=fun b z=>absurd (show b ∈ ([]:List Addr) from z) (by simp)
 refine ⟨⟨e0.mod,S.kind,rfl,rfl,Nat.le_refl _,fun y z c h1 h2=>?_,fun y hy=>?_,fun y c _ h=>?_,fun _=>hd,Around.frames_deeper e0.frames,.inr ⟨rfl,rfl⟩,fun b z=>absurd z (noA b),e0.bs,e0.bsz,fun b _ _=>noA b,fun b z=>absurd z (noA b),e0.funs,e0.frf⟩,
  rfl,e0.bare,Un.kept hk,⟨_,x.toInCall.ns,fun i y v h1 h2 h3=>?_⟩,fun y c h=>⟨_,x.cell y c h⟩,e0.hok.fresh (Nat.le_refl _),fun y c h=>?_,fun p hp=>absurd (show p ∈ ([]:List (Addr × Obj)) from hp) (by simp),e0.hok.kept hk,?_⟩
 ·exact name_of_addr x.apart (PySem.mem_of_lookup h1) (PySem.mem_of_lookup h2)
 ·have hy:scope.names.lookup y = some .cell ∨ scope.names.lookup y = some .free:=hy
  rcases hy with hy | hy
  ·exact Qqs hy
  ·exact absurd rfl (S.nofree _ (PySem.mem_of_lookup hy))
 ·exact Nat.le_of_lt (x.above y c (PySem.mem_of_lookup h))
 ·have hi:i < vs.length:=by
   unfold Qbd at h2
   by_cases hi:i < vs.length
   ·exact hi
   ·rw [List.getElem?_append_right (by simpa using hi)] at h2
    rw [List.getElem?_replicate] at h2
    split at h2 <;> cases h2
  have ha:vs[i]? = some v:=by
   unfold Qbd at h2
   rw [List.getElem?_append_left (by simpa using hi),List.getElem?_map] at h2
   cases e:vs[i]? with
   | none=>rw [e] at h2; cases h2
   | some a=>rw [e] at h2; cases h2; rfl
  obtain ⟨u,hu,rv⟩:=r.get ha
  have hp:ps[i]? = some y:=by
   rw [← S.pre,List.getElem?_take_of_lt (by omega)]; exact h1
  have ndP:ps.Nodup:=by rw [← S.pre]; exact S.nd.sublist (List.take_sublist _ _)
  refine ⟨u,rv,?_⟩
  rcases S.par y (List.mem_of_getElem? hp) with k | k
  ·exact .inl ⟨k,Qnq ndP hp hu k⟩
  ·obtain ⟨c,e⟩:=Qqs (n:=s.heap.objs.size + 1) k
   refine .inr ⟨.inl k,c,e,?_⟩
   have q:=x.cell y c e
   rw [Qnr ndP hp hu (by show scope.names.lookup y ≠ _; rw [k]; decide)] at q
   exact q
 ·exact .inl (e0.hok.fresh (Nat.le_of_lt (x.above y c (PySem.mem_of_lookup h))))
 ·unfold Qbd
  show _ = N.length
  rw [List.length_append,List.length_map,List.length_replicate]
  omega
theorem Qaaf {g:Str → Bool} {CX:CXT} {P:Program} {w:World} {K:PySem.W.Frag} {mg:Str → Option Value} {base:Heap} {k:Nat} {f:Addr} {name qual:Str} {params:Arguments} {body:List Stmt} {scope:Scope} {dV kV doc pm cdv ct oc:Value} {an od:Option Addr}
  {osl:Array (Option Value)} {N ps:List Str} {sp:Sp} (lk:K.lookup f = some ⟨oc,od,.func (PySem.W.fnOf name qual params body scope dV kV doc pm an cdv ct),osl⟩) (hcd:PySem.W.codeIn K cdv qual = true) (S:FnScope N ps scope)
  (len:∀ vs H Q E,sp vs H Q E → vs.length = ps.length)
  (hbody:∀ (A:Around) (outer:List Env) (s:Shared) (H:Hp) (vs:List V) (Q:VK) (E:XK),Room k (A.deeper (envOfC qual scope s.heap.objs.size f cdv)) → sp vs H Q E →
   ∃ t,PSs (Qh1 g CX P w K mg base N qual scope f cdv A outer s H E) body t ∧ t { nx:=fun _ H'=>Q .non H',rt:=Q } (Qbd N vs) H) :
  FnOk P w K mg base CX (k + 1) f (PySem.W.fnOf name qual params body scope dV kV doc pm an cdv ct) ps sp:=by
 refine ⟨len,fun A outer s H args us vs Q E hr e0 hb r hsp=>?_⟩
 have hl:=len _ _ _ _ hsp
 have KX:K.In s.heap:=e0.mod.kin.keeps fun b o e=>(e0.bs b o e).1
 have lim:s.heap.NoLimit:=e0.mod.nolimit.keeps fun b o e=>(e0.bs b o e).1
 have hkind:∀ y ∈ ps.zip us,scope.names.lookup y.1 = some .local ∨ (scope.names.lookup y.1 = some .cell ∧ ((cellsFrom (s.heap.objs.size + 1) scope.names []).lookup y.1).isSome = true):=fun zz1 hy=>by
  obtain ⟨n,v⟩:=zz1
  rcases S.par n (List.of_mem_zip hy).1 with q | q
  ·exact .inl q
  ·exact .inr ⟨q,PySem.W.cellsFrom_some _ _ _ (.inl q)⟩
 refine codeAny_call_function hr.depth (KX _ _ lk) rfl S.co S.gen rfl (PySem.W.codeRec_of KX hcd) (hb _ _ _ _ ?_)
 refine wpAny_newFunctionEnv_cells S.kind hkind fun env he s1 x=>?_
 subst he
 refine ⟨lim.keeps x.toInCall.keep,codeAny_func ?_⟩
 obtain ⟨t,ht,hq⟩:=hbody A outer s H vs Q E (hr.deeper _) hsp
 have I:Inv (Qh1 g CX P w K mg base N qual scope f cdv A outer s H E) [] (Qbd N vs) H s1:=Qns S hr.hd e0 hl r x
 refine wpAny_mono (ht [] s1 (Qbd N vs) H _ I hq) (fun fl s' hs=>?_) fun e s' hs=>hs
 have fin:∀ {σ':St} {H':Hp} {v:V} {u:Value},Inv (Qh1 g CX P w K mg base N qual scope f cdv A outer s H E) [] σ' H' s' → RelV v u → Q v H' → CE outer P w H s Q u s' :=
  fun {σ' H' v u} J rv q=>⟨v,H',J.os,J.bare,J.base,J.hok,rv,q⟩
 cases fl with
 | ret u =>
  obtain ⟨v,σ',H',J,rv,q⟩:=hs
  exact fin J rv q
 | next =>
  obtain ⟨σ',H',J,q⟩:=hs
  exact fin (v:=V.non) (u:=Value.none) J rfl q
 | brk =>
  obtain ⟨_,_,_,q⟩:=hs
  exact False.elim q
 | cont =>
  obtain ⟨_,_,_,q⟩:=hs
  exact False.elim q
section
variable {X:Cx} {x:Str} {p pos:Pos} {e:Expr} {es:List Expr} {t:TA} {id T:String} {r:List V → Hp → VK → Prop}
noncomputable abbrev tCB (r:List V → Hp → VK → Prop) (t:TA):TE:=fun σ H Q=>t σ H fun vs H1=>r vs H1 Q
theorem Qxt (hc:CallR X (.builtin id) r) (hg:Gl X x) (hm:X.mg x = none) (hv:bootBuiltins x = some (.builtin id)) (ha:PA X (e :: es) t) (hn:x ≠ "__name__" := by decide) (hdb:(x == ("__debug__" : Str)) = false:=by decide)
  (he:starEach (e :: es) X.env = (false,eval e X.env) :: starEach es X.env:=by rfl) (hpl:(backTo pos (starEach es X.env)).any (·.1) = false:=by rfl):PE X (.Call (.Name x p) (e :: es) [] pos) (tCB r t):=by
 intro pins s σ H Q I h
 refine wpAny_Call_Name_kw (Qjq I hg hm hv ?_ hn hdb)
 exact PyProof.Rows.callWith_builtin1 (thn (ha pos pins s σ H _ I h) fun us s1 ⟨vs,H1,I1,r1,q1⟩=>hc pins s1 σ H1 vs us Q I1 r1 q1) he hpl
theorem Qv8 (hc:CallR X (.type T) r) (hg:Gl X x) (hm:X.mg x = none) (hv:bootBuiltins x = some (.type T)) (ha:PA X (e :: es) t) (hn:x ≠ "__name__" := by decide) (hdb:(x == ("__debug__" : Str)) = false:=by decide)
  (he:starEach (e :: es) X.env = (false,eval e X.env) :: starEach es X.env:=by rfl) (hpl:(backTo pos (starEach es X.env)).any (·.1) = false:=by rfl):PE X (.Call (.Name x p) (e :: es) [] pos) (tCB r t):=by
 intro pins s σ H Q I h
 refine wpAny_Call_Name_kw (Qjq I hg hm hv ?_ hn hdb)
 exact PyProof.Rows.callWith_type1 (thn (ha pos pins s σ H _ I h) fun us s1 ⟨vs,H1,I1,r1,q1⟩=>hc pins s1 σ H1 vs us Q I1 r1 q1) he hpl
end
end L2
namespace HT
open PySem PyProof.Rows
section
open PySem.SeqAt
open PySem.AutoSeq1 (wpAny_loadPart')
open PySem.MeetsSeq PySem.MeetsSeq2 PySem.MeetsSeq3
end
section
variable {prog:Program} {w:World} {A:Around} {E:Value → Shared → Prop} {s:Shared}
theorem cat_tup {t b:Addr} {vs ws:List Value} {Q:Value → Shared → Prop} (ht:IsTup s.heap t vs.toArray) (hb:IsTup s.heap b ws.toArray) (hv:vs ≠ [])
  (h1:ws = [] → Q (.ref t) s) (h2:ws ≠ [] → Q (.ref s.heap.objs.size) { s with heap:=s.heap.push { cls:=.type "tuple",data:=.seq (vs ++ ws).toArray } })
  (hsz:vs.length + ws.length ≤ sizeLine):wpAny (model prog w) A (binaryOp .Add (.ref t) (.ref b)) Q E s:=by
 obtain ⟨⟨cls,dd,data,sl⟩,ho,hc,n,hd⟩:=id ht
 obtain ⟨⟨cls2,dd2,data2,sl2⟩,ho2,hc2,n2,hd2⟩:=id hb
 simp only at hc hd hc2 hd2
 subst hc hd hc2 hd2
 have e:vs.toArray ++ ws.toArray = (vs ++ ws).toArray:=by simp
 by_cases hw:ws = []
 ·exact concat_meets ⟨_,ho,rfl⟩ ⟨_,ho2,rfl⟩ noFill_tuple_add seq_tuple_add PySem.F.slot_tuple_add PySem.F.entry_tuple_add (PySem.F.args_tuple_add_2 _ _)
   (tuple_addW1 t b vs.toArray ws.toArray n n2 dd dd2 sl sl2 (by simpa using hv) (by simp [hw])) ⟨ho,ho2,h1 hw⟩
 ·refine concat_meets ⟨_,ho,rfl⟩ ⟨_,ho2,rfl⟩ noFill_tuple_add seq_tuple_add PySem.F.slot_tuple_add PySem.F.entry_tuple_add (PySem.F.args_tuple_add_2 _ _)
   (tuple_addW2 t b vs.toArray ws.toArray n n2 dd dd2 sl sl2 (by simpa using hv) (by simpa using hw) (by rw [List.size_toArray,List.size_toArray]; exact hsz)) ⟨ho,ho2,?_⟩
  rw [e]
  exact h2 hw
noncomputable def sIx (n d:Nat):Option Int → Nat
 | none=>d
 | some v=>if v < 0 then (v + (n:Int)).toNat else min v.toNat n
theorem sIx_le (n d:Nat) (hd:d ≤ n) (o:Option Int):sIx n d o ≤ n:=by
 cases o with
 | none=>exact hd
 | some v =>
  show (if v < 0 then (v + (n:Int)).toNat else min v.toNat n) ≤ n
  by_cases hv:v < 0
  ·rw [if_pos hv]; omega
  ·rw [if_neg hv]; exact Nat.min_le_right _ _
theorem clip_eq (v:Int) (n d:Nat):(if v < 0 then max (v + (n:Int)) 0 else min v (n:Int)) = ((sIx n d (some v):Nat):Int):=by
 show (if v < 0 then max (v + (n:Int)) 0 else min v (n:Int)) = (((if v < 0 then (v + (n:Int)).toNat else min v.toNat n):Nat):Int)
 by_cases hv:v < 0
 ·simp only [if_pos hv]; omega
 ·simp only [if_neg hv]; omega
theorem adjust_gen (lo hi:Option Int) (n:Nat):Builtin.Slice.sliceAdjust lo hi 1 (n:Int) = (((sIx n 0 lo:Nat):Int),((sIx n n hi:Nat):Int)):=by
 have h1:¬ ((1:Int) < 0):=by omega
 unfold Builtin.Slice.sliceAdjust
 simp only [h1,if_false]
 refine Prod.ext ?_ ?_
 ·cases lo with
  | none=>rfl
  | some v=>exact clip_eq v n 0
 ·cases hi with
  | none=>rfl
  | some v=>exact clip_eq v n n
theorem places_gen (i j:Nat):Builtin.Slice.slicePlaces (i:Int) (j:Int) 1 = j - i:=by
 unfold Builtin.Slice.slicePlaces
 have h1:(1:Int) > 0:=by omega
 simp only [h1,if_true,Int.ediv_one]
 split <;> omega
theorem slicePart_ {v:Value} {o:Option Int} {Q:Option Int → Shared → Prop} (p:IsPart v o) (h:Q o s):wpAny (model prog w) A (Builtin.Slice.slicePartIndex v) Q E s:=by
 cases p with
 | none=>exact slicePart_none h
 | int i t=>exact slicePart_int h
theorem sliceApplied_gen {sl:Addr} {vl vu:Value} {lo hi:Option Int} {n:Nat} {Q:Int × Int × Nat → Shared → Prop} (hs:s.heap.IsSliceOf sl vl vu .none) (pl:IsPart vl lo) (pu:IsPart vu hi)
  (h:Q (((sIx n 0 lo:Nat):Int),1,sIx n n hi - sIx n 0 lo) s):wpAny (model prog w) A (Builtin.Slice.sliceApplied (.ref sl) (pure (n:Int))) Q E s:=by
 obtain ⟨os,hos,hcs,hds⟩:=id hs
 unfold Builtin.Slice.sliceApplied Builtin.Slice.sliceFields
 refine wpAny_bind (wpAny_bind (wpAny_field hos hds (x:=vl) rfl (wpAny_bind (wpAny_field hos hds (x:=vu) rfl (wpAny_bind (wpAny_field hos hds (x:=.none) rfl (wpAny_pure ?_)))))))
 refine wpAny_bind (slicePart_none ?_)
 show wpAny _ _ (if ((1:Int) == 0) = true then _ else _) _ _ s
 rw [if_neg (by decide)]
 refine wpAny_bind (slicePart_ pl (wpAny_bind (slicePart_ pu (wpAny_bind (wpAny_pure ?_)))))
 show wpAny _ _ (match Builtin.Slice.sliceAdjust lo hi 1 (n:Int) with | (lo,hi)=>pure (lo,(1:Int),Builtin.Slice.slicePlaces lo hi 1)) _ _ s
 rw [adjust_gen lo hi n]
 show wpAny _ _ (pure (((sIx n 0 lo:Nat):Int),(1:Int),Builtin.Slice.slicePlaces ((sIx n 0 lo:Nat):Int) ((sIx n n hi:Nat):Int) 1)) _ _ s
 rw [places_gen]
 exact wpAny_pure h
theorem pick_gen (xs:Array Value) (i k:Nat):((List.range k).filterMap fun (m:Nat)=>xs[((i:Int) + (m:Int) * 1).toNat]?).toArray = ((xs.toList.drop i).take k).toArray:=by
 have e:(fun (m:Nat)=>xs[((i:Int) + (m:Int) * 1).toNat]?) = fun m=>xs[i + m]?:=by
  funext m
  have:((i:Int) + (m:Int) * 1).toNat = i + m:=by omega
  rw [this]
 rw [e]
 have:=pick_run xs i k
 rw [List.filterMap_map] at this
 have e2:((fun x=>xs[x]?) ∘ fun x=>i + x) = fun m=>xs[i + m]?:=rfl
 rw [e2] at this
 rw [this]
theorem getItem_tuple_cut {t sl:Addr} {items:Array Value} {vl vu:Value} {lo hi:Option Int} {Q:Value → Shared → Prop} (ht:IsTup s.heap t items) (hs:s.heap.IsSliceOf sl vl vu .none) (pl:IsPart vl lo) (pu:IsPart vu hi)
  (hw:¬ (sIx items.size 0 lo = 0 ∧ sIx items.size items.size hi = items.size))
  (h:Q (.ref s.heap.objs.size) { s with heap:=s.heap.push { cls:=.type "tuple",data:=.seq ((items.toList.drop (sIx items.size 0 lo)).take (sIx items.size items.size hi - sIx items.size 0 lo)).toArray } })
  (hsz:items.size ≤ sizeLine):wpAny (model prog w) A (getItem (.ref t) (.ref sl)) Q E s:=by
 have htake:sizeOk (.seq ((items.toList.drop (sIx items.size 0 lo)).take (sIx items.size items.size hi - sIx items.size 0 lo)).toArray):=by
  show ((items.toList.drop (sIx items.size 0 lo)).take (sIx items.size items.size hi - sIx items.size 0 lo)).toArray.size ≤ sizeLine
  rw [List.size_toArray,List.length_take,List.length_drop,Array.length_toList]
  omega
 have hj:sIx items.size items.size hi ≤ items.size:=sIx_le _ _ (Nat.le_refl _) hi
 obtain ⟨os,hos,hcs,hds⟩:=id hs
 have hTs:s.TypeIs (.ref sl) "slice" := ⟨os,hos,hcs⟩
 unfold getItem
 try with_reducible refine wpAny_holding ?_
 first | refine wpAny_bind (wpAny_pure ?_) | skip
 refine wpAny_bind (wpAny_sequenceKey ht.typeIs (by decide) ?_)
 refine wpAny_bind (wpAny_callSpecial?_slot (name:=Str.ofString "__getitem__") ht.typeIs PyProof.Rows.slot_tuple_getitem
  (wpAny_call_entry PyProof.Rows.slot_tuple_getitem ht.typeIs entry_tuple_getitem ?_ (args_tuple_getitem _ _)))
 show wpAny _ _ (Builtin.Tuple.tupleItemsOf (.ref t) >>= _) _ _ s
 refine wpAny_bind (tupleItemsOf_ ht ?_)
 refine wpAny_bind (wpAny_typeOf hTs ?_)
 rw [if_pos (by decide)]
 refine wpAny_bind (sliceApplied_gen hs pl pu ?_)
 have hno:¬ ((((sIx items.size 0 lo:Nat):Int) == 0 && (1:Int) == 1 && (sIx items.size items.size hi - sIx items.size 0 lo) == items.size) = true):=by
  intro q
  rw [Bool.and_eq_true,Bool.and_eq_true] at q
  have q1:((sIx items.size 0 lo:Nat):Int) = 0:=eq_of_beq q.1.1
  have q2:sIx items.size items.size hi - sIx items.size 0 lo = items.size:=eq_of_beq q.2
  exact hw ⟨by omega,by omega⟩
 show wpAny _ _ (if (((sIx items.size 0 lo:Nat):Int) == 0 && (1:Int) == 1 && (sIx items.size items.size hi - sIx items.size 0 lo) == items.size) = true then _ else _) _ _ s
 rw [if_neg hno,pick_gen]
 first
  | exact wpAny_bind (m:=Builtin.Tuple.tupleExact _) (wpAny_newObj_type (wpAny_pure ⟨_,rfl,wpAny_pure h⟩) htake)
  | exact wpAny_bind (m:=Builtin.Tuple.tupleExact _) (wpAny_newObj_type (wpAny_bind (wpAny_pure (wpAny_pure ⟨_,rfl,wpAny_pure h⟩))) htake)
  | exact wpAny_bind (wpAny_bind (m:=Builtin.Tuple.tupleExact _) (wpAny_newObj_type (wpAny_pure (wpAny_pure ⟨_,rfl,wpAny_pure h⟩)) htake))
  | exact wpAny_bind (wpAny_bind (m:=Builtin.Tuple.tupleExact _) (wpAny_newObj_type (wpAny_pure ⟨_,rfl,wpAny_pure h⟩) htake))
end
end HT
namespace L2
open PySem PySem.Spec PyProof.Rows
noncomputable abbrev TO:=St → Hp → (Option Int → Hp → Prop) → Prop
noncomputable def PO (X:Cx) (e:Option Expr) (t:TO):Prop :=
 ∀ (pins:List (Addr × Obj)) (s:Shared) (σ:St) (H:Hp) (Q:Option Int → Hp → Prop),Inv X pins σ H s → t σ H Q →
  wpAny (model X.prog X.w) X.A (evalPart e X.env) (fun u s'=>∃ o H',Inv X pins σ H' s' ∧ IsPart u o ∧ Q o H') X.xe s
noncomputable abbrev Qun:TO:=fun _ H Q=>Q none H
noncomputable abbrev Quo (t:TE):TO:=fun σ H Q=>t σ H fun x H1=>∃ i,x = .int i ∧ Q (some i) H1
theorem Qle {ns:List Int}:∀ {us:List Value},Vals (ns.map V.int) us → IntsAre us ns:=by
 induction ns with
 | nil=>intro us r; rw [List.map_nil] at r; cases r; exact .nil
 | cons n ns ih =>
  intro us r
  rw [List.map_cons] at r
  cases r with
  | cons r1 r2 =>
   obtain ⟨t,e⟩:=r1
   subst e
   exact .cons n t (ih r2)
section
variable {X:Cx} {e:Expr} {te:TE} {lo hi:Option Expr} {tl th:TO} {pos p2:Pos}
theorem Q1n:PO X none Qun:=by
 intro pins s σ H Q I h
 rw [evalPart_none]
 exact wpAny_pure ⟨none,H,I,.none,h⟩
theorem Q1o (h:PE X e te):PO X (some e) (Quo te):=by
 intro pins s σ H Q I hw
 rw [evalPart_some]
 refine thn (h pins s σ H _ I hw) fun u s1 ⟨x,H1,I1,r1,q1⟩=>?_
 obtain ⟨i,rfl,q⟩:=q1
 obtain ⟨t,rfl⟩:=r1
 exact ⟨some i,H1,I1,.int i t,q⟩
noncomputable def SlR (X:Cx) (r:V → Option Int → Option Int → Hp → VK → Prop):Prop :=
 ∀ (pins:List (Addr × Obj)) (s:Shared) (σ:St) (H:Hp) (x:V) (v vl vu:Value) (lo hi:Option Int) (sl:Addr) (Q:VK),Inv X pins σ H s → RelV x v → s.heap.IsSliceOf sl vl vu .none → IsPart vl lo → IsPart vu hi → r x lo hi H Q →
  ∃ T id,typeLookup (.type T) "__getitem__" = pure (some (.builtin id)) ∧ s.TypeIs v T ∧ wpAny (model X.prog X.w) X.A (getItem v (.ref sl)) (EP X pins σ Q) X.xe s
theorem SlR.or {r r':V → Option Int → Option Int → Hp → VK → Prop} (h:SlR X r) (h':SlR X r'):SlR X (fun x lo hi H Q=>r x lo hi H Q ∨ r' x lo hi H Q):=by
 intro pins s σ H x v vl vu lo hi sl Q I rx hs pl pu q
 rcases q with q | q
 ·exact h pins s σ H x v vl vu lo hi sl Q I rx hs pl pu q
 ·exact h' pins s σ H x v vl vu lo hi sl Q I rx hs pl pu q
noncomputable abbrev tSl (r:V → Option Int → Option Int → Hp → VK → Prop) (te:TE) (tl th:TO):TE:=fun σ H Q=>te σ H fun x H1=>tl σ H1 fun l H2=>th σ H2 fun u H3=>r x l u H3 Q
theorem Qxu {r:V → Option Int → Option Int → Hp → VK → Prop} (hr:SlR X r) (he:PE X e te) (hl:PO X lo tl) (hu:PO X hi th):PE X (.Subscript e (.Slice lo hi none p2) pos) (tSl r te tl th):=by
 intro pins s σ H Q I h
 refine Subscript_ (thn (he pins s σ H _ I h) fun v s1 ⟨x,H1,I1,r1,q1⟩=>?_)
 refine wpAny_Slice (thn (hl pins s1 σ H1 _ I1 q1) fun vl s2 ⟨l,H2,I2,pl,q2⟩=>thn (hu pins s2 σ H2 _ I2 q2) fun vu s3 ⟨u,H3,I3,pu,q3⟩=>?_)
 rw [evalPart_none]
 refine wpAny_pure ?_
 have I4:Inv X pins σ H3 { s3 with heap:=s3.heap.push { cls:=.type "slice",data:=.fields #[vl,vu,.none] } }:=I3.kept (t':=s3.toks) fun b ob q=>Heap.get?_push_of_some _ q
 obtain ⟨T,id,hT,ht,hg⟩:=hr pins { s3 with heap:=s3.heap.push { cls:=.type "slice",data:=.fields #[vl,vu,.none] } } σ H3 x v vl vu l u s3.heap.objs.size Q I4 r1 (Heap.IsSliceOf.new ..) pl pu q3
 show wpAny (model X.prog X.w) X.A (subscriptTail e (.Slice lo hi none p2) v (.ref s3.heap.objs.size)) (EP X pins σ Q) X.xe { s3 with heap:=s3.heap.push { cls:=.type "slice",data:=.fields #[vl,vu,.none] } }
 exact tail_any (ops:=[.ref s3.heap.objs.size,v]) ht hT hg (by with_unfolding_all rfl)
noncomputable def Qgx (xs:List V) (lo hi:Option Int):List V:=(xs.drop (HT.sIx xs.length 0 lo)).take (HT.sIx xs.length xs.length hi - HT.sIx xs.length 0 lo)
theorem Qgy (xs:List V) (lo hi:Option Int):(Qgx xs lo hi).length ≤ xs.length:=by
 unfold Qgx
 rw [List.length_take,List.length_drop]
 omega
noncomputable def rSlT (K:PySem.W.Frag):V → Option Int → Option Int → Hp → VK → Prop:=fun x lo hi H Q=>∃ a xs,x = .ref a ∧ SqT K H a xs ∧
 ¬ (HT.sIx xs.length 0 lo = 0 ∧ HT.sIx xs.length xs.length hi = xs.length) ∧ ∀ p,H p = none → Q (.ref p) (upd H p (.tup (Qgx xs lo hi)))
theorem Q60:SlR X (rSlT X.K):=by
 intro pins s σ H x v vl vu lo hi sl Q I rx hs pl pu h
 obtain ⟨a,xs,rfl,hx,hw,q⟩:=h
 cases rx
 obtain ⟨its,r,ht,hz⟩:=I.tuple hx
 have hlen:its.toArray.size = xs.length:=by rw [List.size_toArray]; exact r.length.symm
 refine ⟨"tuple",_,PyProof.Rows.slot_tuple_getitem.lookup,ht.typeIs,?_⟩
 refine HT.getItem_tuple_cut ht hs pl pu (by rw [hlen]; exact hw) ?_ (by rw [hlen]; exact hz)
 rw [hlen]
 refine ⟨.ref s.heap.objs.size,_,I.laid (t':=s.toks) (o:=.tup (Qgx xs lo hi)) (fun b ob q=>Heap.get?_push_of_some _ q) (Nat.le_refl _) ?_,rfl,q _ (I.hok.fresh (Nat.le_refl _))⟩
 exact ⟨Nat.le_trans (Qgy xs lo hi) hz,_,(r.drop (HT.sIx xs.length 0 lo)).take (HT.sIx xs.length xs.length hi - HT.sIx xs.length 0 lo),IsTupD.new _ _⟩
noncomputable def Qaag (K:PySem.W.Frag):R2:=fun x y H Q=>∃ a b xs ys,x = .ref a ∧ y = .ref b ∧ SqT K H a xs ∧ SqT K H b ys ∧ xs ≠ [] ∧ xs.length + ys.length ≤ sizeLine ∧
 (ys = [] → Q (.ref a) H) ∧ (ys ≠ [] → ∀ p,H p = none → Q (.ref p) (upd H p (.tup (xs ++ ys))))
theorem Vals.nil_iff {xs:List V} {us:List Value} (r:Vals xs us):us = [] ↔ xs = []:=by
 cases r with
 | nil=>simp
 | cons _ _=>simp
theorem Q1p:OpR X (binaryOp .Add) (Qaag X.K):=by
 intro pins s σ H x y v u Q I rx ry h
 obtain ⟨a,b,xs,ys,rfl,rfl,ha,hb,hx,hz,q1,q2⟩:=h
 cases rx
 cases ry
 obtain ⟨its,r1,p1,_⟩:=I.tuple ha
 obtain ⟨its2,r2,p2,_⟩:=I.tuple hb
 refine HT.cat_tup p1 p2 (fun z=>hx (r1.nil_iff.mp z)) (fun z=>⟨.ref a,H,I,rfl,q1 (r2.nil_iff.mp z)⟩) (fun z=>?_) (by rw [← r1.length,← r2.length]; exact hz)
 refine ⟨.ref s.heap.objs.size,_,I.laid (t':=s.toks) (o:=.tup (xs ++ ys)) (fun b ob q=>Heap.get?_push_of_some _ q) (Nat.le_refl _) ?_,rfl,q2 (fun w=>z (r2.nil_iff.mpr w)) _ (I.hok.fresh (Nat.le_refl _))⟩
 exact ⟨by rw [List.length_append]; exact hz,_,r1.append r2,IsTupD.new _ _⟩
end
noncomputable def ixN (n:Nat) (i:Int):Option Nat:=if 0 ≤ i then (if i < n then some i.toNat else none) else if -(n:Int) ≤ i then some (i + n).toNat else none
noncomputable def atI {α:Type} (xs:List α) (i:Int):Option α:=(ixN xs.length i).bind fun j=>xs[j]?
theorem Qup {n:Nat} {i:Int} {j:Nat} (h:ixN n i = some j):seqIndex? i n = some j ∧ j < n ∧ -(n:Int) ≤ i ∧ i < n:=by
 unfold ixN at h
 by_cases h0:0 ≤ i
 ·rw [if_pos h0] at h
  by_cases h1:i < n
  ·rw [if_pos h1] at h
   have e:i.toNat = j:=Option.some.inj h
   exact ⟨by rw [seqIndex_of h0 h1,e],by omega,by omega,h1⟩
  ·rw [if_neg h1] at h; cases h
 ·rw [if_neg h0] at h
  by_cases h1:-(n:Int) ≤ i
  ·rw [if_pos h1] at h
   have e:(i + n).toNat = j:=Option.some.inj h
   exact ⟨by rw [seqIndex_neg (by omega) h1,e],by omega,h1,by omega⟩
  ·rw [if_neg h1] at h; cases h
theorem Qop {α:Type} {xs:List α} {i:Int} {v:α} (h:atI xs i = some v):∃ j,seqIndex? i xs.length = some j ∧ xs[j]? = some v ∧ j < xs.length ∧ -(xs.length:Int) ≤ i ∧ i < xs.length:=by
 unfold atI at h
 cases e:ixN xs.length i with
 | none=>rw [e] at h; cases h
 | some j =>
  rw [e] at h
  obtain ⟨h1,h2,h3,h4⟩:=Qup e
  exact ⟨j,h1,h,h2,h3,h4⟩
theorem Qan {α:Type} {xs:List α} {j:Nat} {v:α} (h:xs[j]? = some v):atI xs (j:Int) = some v:=by
 have hj:j < xs.length:=(List.getElem?_eq_some_iff.mp h).1
 have e:ixN xs.length (j:Int) = some j:=by
  unfold ixN
  rw [if_pos (by omega),if_pos (by omega)]; simp
 unfold atI; rw [e]; exact h
noncomputable def Qk1 (b:Expr):Prop:=∀ o i,subscripted b false o i = operate [o,i] (getItem o i)
noncomputable def IxR (X:Cx) (r:R2):Prop :=
 ∀ (value slice:Expr) (pins:List (Addr × Obj)) (s:Shared) (σ:St) (H:Hp) (x y:V) (v u:Value) (Q:VK),Inv X pins σ H s → RelV x v → RelV y u → r x y H Q →
  subscripted slice false v u = operate [v,u] (getItem v u) → wpAny (model X.prog X.w) X.A (subscriptTail value slice v u) (EP X pins σ Q) X.xe s
noncomputable def MtR (X:Cx) (id:String) (r:V → List V → Hp → VK → Prop):Prop :=
 ∀ (pins:List (Addr × Obj)) (s:Shared) (σ:St) (H:Hp) (x:V) (xs:List V) (v:Value) (us:List Value) (Q:VK),Inv X pins σ H s → RelV x v → Vals xs us → r x xs H Q →
  wpAny (model X.prog X.w) X.A (call (.builtin id) (v :: us)) (EP X pins σ Q) X.xe s
section
variable {X:Cx} {a b:Expr} {ta tb:TE} {pos:Pos}
theorem IxR.or {r r':R2} (h:IxR X r) (h':IxR X r'):IxR X (fun x y H Q=>r x y H Q ∨ r' x y H Q):=by
 intro value slice pins s σ H x y v u Q I rx ry q hs
 rcases q with q | q
 ·exact h value slice pins s σ H x y v u Q I rx ry q hs
 ·exact h' value slice pins s σ H x y v u Q I rx ry q hs
theorem Qaah {r:R2} (hr:IxR X r) (ha:PE X a ta) (hb:PE X b tb) (hs:Qk1 b):PE X (.Subscript a b pos) (tOp r ta tb):=by
 intro pins s σ H Q I h
 exact Subscript_ (Q6l ha hb I h fun v u s2 x y H2 I2 rx ry q=>hr a b pins s2 σ H2 x y v u Q I2 rx ry q (hs _ _))
noncomputable def rIxL (K:PySem.W.Frag):R2:=fun x y H Q=>∃ p xs i v,x = .ref p ∧ y = .int i ∧ SqL K H p xs ∧ atI xs i = some v ∧ Q v H
noncomputable def rIxT (K:PySem.W.Frag):R2:=fun x y H Q=>∃ p xs i v,x = .ref p ∧ y = .int i ∧ SqT K H p xs ∧ atI xs i = some v ∧ Q v H
noncomputable def rIxS:R2:=fun x y H Q=>∃ z i c,x = .str z ∧ y = .int i ∧ z.length ≤ sizeLine ∧ atI z.cps.toList i = some c ∧ Q (.str ⟨#[c]⟩) H
theorem Q1q:IxR X (rIxL X.K):=by
 intro value slice pins s σ H x y v u Q I rx ry h hs
 obtain ⟨p,xs,i,z,rfl,rfl,hq,he,q⟩:=h
 cases rx
 obtain ⟨t,rfl⟩:=ry
 obtain ⟨its,r,pl,hz⟩:=I.list hq
 obtain ⟨j,h1,h2,h3,h4,h5⟩:=Qop he
 obtain ⟨w,ew,rw'⟩:=r.get h2
 have hl:=r.length
 have hn:=Qld
 have fin:EP X pins σ Q w s:=⟨z,H,I,rw',q⟩
 by_cases h0:0 ≤ i
 ·have hj:i.toNat = j:=by
   rw [seqIndex_of h0 h5] at h1
   exact Option.some.inj h1
  exact item_listR pl.isList h0 (by omega) (by rw [hj]; simpa using ew) fin hs
 ·have hj:(i + (its.toArray.size:Int)).toNat = j:=by
   rw [seqIndex_neg (by omega) h4] at h1
   rw [List.size_toArray,← hl]
   exact Option.some.inj h1
  exact subscriptTail_builtinR (x:=w) pl.isList.typeIs slot_list_getitem.lookup
   (wpAny_getItem_list_neg (Q:=fun r s'=>r = w ∧ EP X pins σ Q r s') pl.isList (by omega) (by rw [List.size_toArray] <;> omega) (by omega) (by rw [hj]; simpa using ew) ⟨rfl,fin⟩) hs
theorem Q61:IxR X (rIxT X.K):=by
 intro value slice pins s σ H x y v u Q I rx ry h hs
 obtain ⟨p,xs,i,z,rfl,rfl,hq,he,q⟩:=h
 cases rx
 obtain ⟨t,rfl⟩:=ry
 obtain ⟨its,r,pl,hz⟩:=I.tuple hq
 obtain ⟨j,h1,h2,h3,h4,h5⟩:=Qop he
 obtain ⟨w,ew,rw'⟩:=r.get h2
 have hl:=r.length
 have hn:=Qld
 have fin:EP X pins σ Q w s:=⟨z,H,I,rw',q⟩
 exact subscriptTail_builtinR (x:=w) pl.typeIs slot_tuple_getitem.lookup
  (getItem_tuple (j:=j) (Q:=fun r s'=>r = w ∧ EP X pins σ Q r s') pl (by omega) (by omega) (by rw [List.size_toArray,← hl]; exact h1) (by simpa using ew) ⟨rfl,fin⟩) hs
theorem Q62:IxR X rIxS:=by
 intro value slice pins s σ H x y v u Q I rx ry h hs
 obtain ⟨z,i,c,rfl,rfl,hz,he,q⟩:=h
 obtain ⟨t,rfl⟩:=rx
 obtain ⟨t',rfl⟩:=ry
 obtain ⟨j,h1,h2,h3,h4,h5⟩:=Qop he
 have hl:z.cps.toList.length = z.length:=by simp [Str.length]
 rw [hl] at h1 h4 h5
 have hn:=Qld
 exact tail_any (typeIs_str s z t) slot_str_getitem.lookup (getItem_str (c:=c) (by
  have e1:decide (i < -(2 ^ 63:Int)) = false:=decide_eq_false (by omega)
  have e2:decide (i ≥ 2 ^ 63) = false:=decide_eq_false (by omega)
  rw [e1,e2,Bool.or_false]) (by rw [h1]; simpa using h2) ⟨.str ⟨#[c]⟩,H,I.tok _,⟨_,rfl⟩,q⟩) hs
noncomputable def rIx (K:PySem.W.Frag):R2:=fun x y H Q=>rIxL K x y H Q ∨ rIxT K x y H Q ∨ rIxS x y H Q
theorem Q63:IxR X (rIx X.K):=Q1q.or (Q61.or Q62)
theorem Qs2 (its:List Value) (n j:Nat) (u:Value):Obj.mapSeq (·.setIfInBounds j u) { cls:=.type "list",data:=.seq its.toArray n } = { cls:=.type "list",data:=.seq (its.set j u).toArray n }:=by
 simp [Obj.mapSeq]
theorem Inv.lst {pins:List (Addr × Obj)} {σ:St} {H:Hp} {s:Shared} {p:Addr} {xs:List V} (I:Inv X pins σ H s) (h:H p = some (.lst xs)) :
  ∃ (its:List Value) (n:Nat),Vals xs its ∧ s.heap.get? p = some { cls:=.type "list",data:=.seq its.toArray n } ∧ xs.length ≤ sizeLine:=by
 obtain ⟨z,its,n,r,e⟩:=I.hok p _ h
 exact ⟨its,n,r,e,z⟩
theorem Inv.lstUpd {pins:List (Addr × Obj)} {σ:St} {H:Hp} {s:Shared} {p:Addr} {xs ys:List V} {its its':List Value} {n n':Nat} {f:Obj → Obj} (I:Inv X pins σ H s) (h:H p = some (.lst xs))
  (ho:s.heap.get? p = some { cls:=.type "list",data:=.seq its.toArray n }) (hf:f { cls:=.type "list",data:=.seq its.toArray n } = { cls:=.type "list",data:=.seq its'.toArray n' }) (r:Vals ys its') (hz:ys.length ≤ sizeLine) (t:Nat) :
  Inv X pins σ (upd H p (.lst ys)) { s with heap:=s.heap.update p f,toks:=t }:=by
 have e:(s.heap.update p f).get? p = some { cls:=.type "list",data:=.seq its'.toArray n' }:=by
  rw [Heap.get?_update_self f ho (by rw [hf] <;> rfl),hf]
 refine I.write (x:=p) (e:=p) (by rw [h]; trivial) (.inl rfl) (fun b u hb q=>(Heap.get?_update_other _ _ (Ne.symm hb)).trans q) ⟨_,e⟩ ?_
 exact ⟨hz,its',n',r,e⟩
noncomputable def Quq:V → V → V → Hp → (Hp → Prop) → Prop:=fun o i v H Q=>∃ p xs k j,o = .ref p ∧ i = .int k ∧ H p = some (.lst xs) ∧ ixN xs.length k = some j ∧ Q (upd H p (.lst (xs.set j v)))
theorem Qxv:Q96 X Quq:=by
 intro pins s σ H o i v ov iv u Q I ro ri rv h
 obtain ⟨p,xs,k,j,rfl,rfl,hp,hj,q⟩:=h
 cases ro
 obtain ⟨t,rfl⟩:=ri
 obtain ⟨its,n,r,ho,hz⟩:=I.lst hp
 obtain ⟨h1,h2,h3,h4⟩:=Qup hj
 have hl:=r.length
 have hn:=Qld
 have I':Inv X pins σ (upd H p (.lst (xs.set j v))) { s with heap:=s.heap.update p (Obj.mapSeq (·.setIfInBounds j u)) } :=
  I.lstUpd hp ho (Qs2 its n j u) (r.set rv j) (by rw [List.length_set]; exact hz) s.toks
 by_cases h0:0 ≤ k
 ·have hk:k.toNat = j:=by
   rw [seqIndex_of h0 h4] at h1
   exact Option.some.inj h1
  exact PySem.W.ki_setAt ho h0 (by omega) (by rw [List.size_toArray,← hl]; exact h4) (by rw [hk]; exact ⟨_,I',q⟩)
 ·have hk:(k + (its.toArray.size:Int)).toNat = j:=by
   rw [seqIndex_neg (by omega) h3] at h1
   rw [List.size_toArray,← hl]
   exact Option.some.inj h1
  exact PySem.W.ki_setBack ho (by omega) (by rw [List.size_toArray,← hl]; exact h3) (by omega) (by rw [hk]; exact ⟨_,I',q⟩)
theorem Qoq (lo hi:Option Int) (n:Nat):(sliceBounds lo hi none n).1 = ((HT.sIx n 0 lo:Nat):Int) ∧ (sliceBounds lo hi none n).2.1 = ((HT.sIx n n hi:Nat):Int) ∧ (sliceBounds lo hi none n).2.2 = 1:=by
 refine ⟨?_,?_,rfl⟩
 ·cases lo with
  | none=>simp [sliceBounds,HT.sIx]
  | some i =>
   simp only [sliceBounds,HT.sIx,Option.getD_none,show (1:Int) > 0 by decide,if_true]
   by_cases h:i < 0
   ·simp only [h,if_true] <;> omega
   ·simp only [h,if_false] <;> omega
 ·cases hi with
  | none=>simp [sliceBounds,HT.sIx]
  | some i =>
   simp only [sliceBounds,HT.sIx,Option.getD_none,show (1:Int) > 0 by decide,if_true]
   by_cases h:i < 0
   ·simp only [h,if_true] <;> omega
   ·simp only [h,if_false] <;> omega
theorem Qm0 (its:List Value) (lo hi:Option Int):slicePick its.toArray lo hi none = ((its.drop (HT.sIx its.length 0 lo)).take (HT.sIx its.length its.length hi - HT.sIx its.length 0 lo)).toArray:=by
 obtain ⟨h1,h2,h3⟩:=Qoq lo hi its.toArray.size
 unfold slicePick
 rw [h1,h2,h3]
 simp only [sliceRange_one,pick_run,List.size_toArray] <;> rfl
noncomputable def rSlL (K:PySem.W.Frag):V → Option Int → Option Int → Hp → VK → Prop:=fun x lo hi H Q=>∃ a xs,x = .ref a ∧ SqL K H a xs ∧ ∀ p,H p = none → Q (.ref p) (upd H p (.lst (Qgx xs lo hi)))
theorem Q1r:SlR X (rSlL X.K):=by
 intro pins s σ H x v vl vu lo hi sl Q I rx hs pl pu h
 obtain ⟨a,xs,rfl,hx,q⟩:=h
 cases rx
 obtain ⟨its,r,ht,hz⟩:=I.list hx
 have hlen:=r.length
 refine ⟨"list",_,slot_list_getitem.lookup,ht.isList.typeIs,?_⟩
 refine wpAny_getItem_list_slice ht.isList hs pl pu .none (by simp) ?_ (by rw [List.size_toArray] <;> omega)
 rw [Qm0,← hlen]
 refine ⟨.ref s.heap.objs.size,_,I.laid (t':=s.toks) (o:=.lst (Qgx xs lo hi)) (fun b ob q=>Heap.get?_push_of_some _ q) (Nat.le_refl _) ?_,rfl,q _ (I.hok.fresh (Nat.le_refl _))⟩
 exact ⟨Nat.le_trans (Qgy xs lo hi) hz,_,0,(r.drop (HT.sIx xs.length 0 lo)).take (HT.sIx xs.length xs.length hi - HT.sIx xs.length 0 lo),Heap.get?_push_size _ rfl⟩
theorem Qor:CallR X (.builtin "len") (fun xs H Q=>∃ p ys,xs = [.ref p] ∧ (SqL X.K H p ys ∨ SqT X.K H p ys) ∧ Q (.int ys.length) H):=by
 intro pins s σ H xs us Q I r h
 obtain ⟨p,ys,rfl,hq,q⟩:=h
 obtain ⟨u,rfl,rx⟩:=Qib r
 cases rx
 have hn:=Qld
 rcases hq with hq | hq
 ·obtain ⟨its,r',pl,hz⟩:=I.list hq
  have hlen:=r'.length
  exact Calls.call_len_list pl.isList (by simp only [List.size_toArray] <;> omega) ⟨.int ys.length,H,I.tok _,⟨s.toks + 1,by rw [List.size_toArray,hlen]⟩,q⟩
 ·obtain ⟨its,r',pl,hz⟩:=I.tuple hq
  have hlen:=r'.length
  exact len_tuple pl (by simp only [List.size_toArray] <;> omega) ⟨.int ys.length,H,I.tok _,⟨s.toks + 1,by rw [List.size_toArray,hlen]⟩,q⟩
theorem CallR.or {f:Value} {r r':List V → Hp → VK → Prop} (h:CallR X f r) (h':CallR X f r'):CallR X f (fun xs H Q=>r xs H Q ∨ r' xs H Q):=by
 intro pins s σ H xs us Q I rs q
 rcases q with q | q
 ·exact h pins s σ H xs us Q I rs q
 ·exact h' pins s σ H xs us Q I rs q
theorem Qm1:CallR X (.type "tuple") (fun xs H Q=>∃ p ys,xs = [.ref p] ∧ ((SqL X.K H p ys ∧ ∀ l,H l = none → Q (.ref l) (upd H l (.tup ys))) ∨ (SqT X.K H p ys ∧ Q (.ref p) H))):=by
 intro pins s σ H xs us Q I r h
 obtain ⟨p,ys,rfl,h⟩:=h
 obtain ⟨u,rfl,rx⟩:=Qib r
 cases rx
 rcases h with ⟨hq,q⟩ | ⟨hq,q⟩
 ·obtain ⟨its,r',pl,hz⟩:=I.list hq
  have hlen:=r'.length
  refine call_tuple_list pl.isList (fun h' kp=>?_) (by simp only [List.size_toArray] <;> omega)
  have I1:Inv X pins σ H { s with heap:=h' }:=I.kept (t':=s.toks) kp
  have I2:Inv X pins σ (upd H h'.objs.size (.tup ys)) { s with heap:=h'.push { cls:=.type "tuple",data:=.seq its.toArray } } :=
   I1.laid (t':=s.toks) (fun b o e=>Heap.get?_push_of_some _ e) (Nat.le_refl _) (show ObjOk X.prog X.w _ _ _ (.tup ys) from ⟨hz,its,r',IsTupD.new _ _⟩)
  exact ⟨.ref h'.objs.size,_,I2,rfl,q _ (I1.hok.fresh (Nat.le_refl _))⟩
 ·obtain ⟨its,r',pl,hz⟩:=I.tuple hq
  exact call_tuple_same pl ⟨.ref p,H,I,rfl,q⟩
noncomputable def tyV (K:PySem.W.Frag) (T:String) (x:V) (H:Hp):Prop:=match x with
 | .str _=>T = "str"
 | .int _=>T = "int"
 | .ref p=>(T = "list" ∧ ∃ xs,SqL K H p xs) ∨ (T = "tuple" ∧ ∃ o,K.lookup p = some o ∧ o.cls = .type "tuple" ∧ o.dict = none) ∨
   (T = "dict" ∧ ((∃ kvs,H p = some (.dK kvs)) ∨ ∃ kvs,H p = some (.dT kvs))) ∨ (T = "set" ∧ ∃ S n,H p = some (.set S n))
 | _=>False
theorem Q64 {pins:List (Addr × Obj)} {σ:St} {H:Hp} {s:Shared} {T:String} {x:V} {v:Value} (I:Inv X pins σ H s) (r:RelV x v) (ty:tyV X.K T x H) :
  s.TypeIs v T ∧ ∀ a,v = .ref a → ∃ ob,s.heap.get? a = some ob ∧ ob.dict = none:=by
 cases x with
 | str z =>
  obtain ⟨t,rfl⟩:=r
  cases (show T = "str" from ty)
  exact ⟨typeIs_str s z t,fun _ e=>nomatch e⟩
 | int i =>
  obtain ⟨t,rfl⟩:=r
  cases (show T = "int" from ty)
  exact ⟨typeIs_int s i t,fun _ e=>nomatch e⟩
 | ref p =>
  cases r
  rcases ty with ⟨rfl,xs,hq⟩ | ⟨rfl,o,hk,hc,hd⟩ | ⟨rfl,hk⟩ | ⟨rfl,S,n,hk⟩
  ·obtain ⟨its,_,pl,_⟩:=I.list hq
   refine ⟨pl.isList.typeIs,fun a e=>?_⟩
   cases e
   obtain ⟨o,n,e,c,hd,_⟩:=pl
   exact ⟨o,e,hd⟩
  ·refine ⟨⟨o,I.kIn p o hk,hc⟩,fun a e=>?_⟩
   cases e
   exact ⟨o,I.kIn _ o hk,hd⟩
  ·have z:∃ o,s.heap.get? p = some o ∧ o.ExactDict:=by
    rcases hk with ⟨kvs,hk⟩ | ⟨kvs,hk⟩
    ·obtain ⟨_,_,_,_,o,_,_,e,ex,_⟩:=I.hok p _ hk
     exact ⟨o,e,ex⟩
    ·obtain ⟨_,_,_,_,o,_,_,e,ex,_⟩:=I.hok p _ hk
     exact ⟨o,e,ex⟩
   obtain ⟨o,e,ex⟩:=z
   refine ⟨⟨o,e,ex.1⟩,fun a e2=>?_⟩
   cases e2
   exact ⟨o,e,ex.2.1⟩
  ·obtain ⟨o,_,_,_,e,ex,_⟩:=I.hok p _ hk
   refine ⟨⟨o,e,ex.1⟩,fun a e2=>?_⟩
   cases e2
   exact ⟨o,e,ex.2.1⟩
 | _=>exact False.elim ty
noncomputable abbrev tBM (K:PySem.W.Frag) (T:String) (r:V → List V → Hp → VK → Prop) (to:TE) (t:TA):TE:=fun σ H Q=>to σ H fun x H1=>tyV K T x H1 ∧ t σ H1 fun xs H2=>r x xs H2 Q
variable {o e:Expr} {es:List Expr} {to:TE} {t:TA} {name:Str} {apos cpos:Pos} {T id:String} {r:V → List V → Hp → VK → Prop}
theorem Qaam (pa:PlainAttrs T) (slot:Slot T name id) (hty:typeOf (.builtin id) = pure (.type "method_descriptor")) (hm:MtR X id r) (ho:PE X o to) (ha:PA X (e :: es) t)
  (hbase:attributeBase o name X.env (eval o X.env) = eval o X.env:=by rfl)
  (hfew:((backTo cpos (starEach (e :: es) X.env)).all (fun x=>!x.1) && (backToKw cpos (keywordEach [] X.env)).all (fun x=>x.1.isSome)
   && decide ((e :: es).length + ([]:List Keyword).length + (if ([]:List Keyword).isEmpty then 0 else 1) < 30)) = true:=by rfl)
  (hline:(apos.endLine == cpos.line) = true:=by rfl) (hs:starEach (e :: es) X.env = (false,eval e X.env) :: starEach es X.env:=by rfl) (hplain:(backTo cpos (starEach es X.env)).any (·.1) = false:=by rfl) :
  PE X (.Call (.Attribute o name apos) (e :: es) [] cpos) (tBM X.K T r to t):=by
 intro pins s σ H Q I h
 refine wpAny_Call_method_late hbase hfew hline rfl (thn (ho pins s σ H _ I h) fun v s1 ⟨x,H1,I1,r1,ty,q1⟩=>?_)
 obtain ⟨h1,h2⟩:=Q64 I1 r1 ty
 refine ⟨T,id,pa,slot,hty,h1,h2,?_⟩
 have hA:=ha cpos pins s1 σ H1 _ I1 q1
 rw [hs] at hA ⊢
 refine Calls.callWith_builtin (by show (false || (backTo cpos (starEach es X.env)).any (·.1)) = false; rw [hplain] <;> rfl) (Calls.evalArgs_plain ?_)
 exact thn hA fun us s2 ⟨vs,H2,I2,r2,q2⟩=>hm pins s2 σ H2 x vs v us Q I2 r1 r2 q2
end
noncomputable def MtM (X:Cx) (id:String) (r:V → List V → Hp → VK → Prop):Prop :=
 ∀ (pins:List (Addr × Obj)) (s:Shared) (σ:St) (H:Hp) (x:V) (xs:List V) (v:Value) (us:List Value) (Q:VK),Inv X pins σ H s → RelV x v → Vals xs us → r x xs H Q →
  wpAny (model X.prog X.w) X.A (call (.builtin id) (v :: us)) (EP X pins σ Q) X.xe s
theorem Vals.one:∀ {x:V} {us:List Value},Vals [x] us → ∃ u,us = [u] ∧ RelV x u
 | _,_,.cons r .nil=>⟨_,rfl,r⟩
theorem Vals.rep {xs:List V} {us:List Value} (h:Vals xs us):∀ k:Nat,Vals (List.replicate k xs).flatten (List.replicate k us).flatten
 | 0=>.nil
 | k + 1=>by
  rw [List.replicate_succ,List.replicate_succ,List.flatten_cons,List.flatten_cons]
  exact Vals.append h (Vals.rep h k)
theorem Qjr (its:List Value):∀ (k:Nat) (acc:List Value),
  List.foldl (fun x1 x2=>x1 ++ x2) acc.toArray (List.replicate k its.toArray) = (acc ++ (List.replicate k its).flatten).toArray
 | 0,acc=>by simp
 | k + 1,acc=>by
  have e:acc.toArray ++ its.toArray = (acc ++ its).toArray:=by simp
  have e2:(acc ++ its) ++ (List.replicate k its).flatten = acc ++ (List.replicate (k + 1) its).flatten:=by
   rw [List.replicate_succ,List.flatten_cons,List.append_assoc]
  rw [← e2,← Qjr its k (acc ++ its),← e,List.replicate_succ,List.foldl_cons]
section
variable {X:Cx} {pins:List (Addr × Obj)} {σ:St} {H:Hp} {s:Shared} {l b:Addr} {xs ys zs:List V}
theorem Inv.lset {its its':List Value} {n:Nat} {f:Array Value → Array Value} {t':Nat} (I:Inv X pins σ H s) (hH:H l = some (.lst xs))
  (e:s.heap.get? l = some { cls:=.type "list",data:=.seq its.toArray n }) (hf:f its.toArray = its'.toArray) (hv:Vals ys its') (hz:ys.length ≤ sizeLine) :
  Inv X pins σ (upd H l (.lst ys)) { s with heap:=s.heap.update l (Obj.mapSeq f),toks:=t' }:=by
 have q:=PySem.IsL.update e f
 rw [hf] at q
 refine I.write (x:=l) (e:=l) (by rw [hH]; exact trivial) (.inl rfl) (fun b' u hb hu=>(Heap.get?_update_other s.heap (Obj.mapSeq f) (Ne.symm hb)).trans hu) ⟨_,q⟩ ?_
 exact ⟨hz,its',_,hv,q⟩
theorem Inv.lnew {its:List Value} {t':Nat} (I:Inv X pins σ H s) (hv:Vals ys its) (hz:ys.length ≤ sizeLine) :
  Inv X pins σ (upd H s.heap.objs.size (.lst ys)) { s with heap:=s.heap.push { cls:=.type "list",data:=.seq its.toArray },toks:=t' } :=
 I.laid (fun _ _ q=>Heap.get?_push_of_some _ q) (Nat.le_refl _) ⟨hz,its,0,hv,Heap.get?_push_size _ rfl⟩
theorem Inv.fresh (I:Inv X pins σ H s):H s.heap.objs.size = none:=I.hok.fresh (Nat.le_refl _)
theorem Inv.lstM (I:Inv X pins σ H s) (hH:H l = some (.lst xs)):xs.length ≤ sizeLine ∧ ∃ (its:List Value) (n:Nat),Vals xs its ∧ xs.length = its.length ∧ s.heap.get? l = some { cls:=.type "list",data:=.seq its.toArray n }:=by
 obtain ⟨z,its,n,r,e⟩:=I.hok l _ hH
 exact ⟨z,its,n,r,r.length,e⟩
theorem Qqt {n:Nat} (h:n ≤ sizeLine):Builtin.List.listTooLong n = false:=by
 unfold Builtin.List.listTooLong
 exact decide_eq_false (by omega)
end
section
variable {X:Cx}
noncomputable def Qk2:V → List V → Hp → VK → Prop:=fun x vs H Q=>∃ l xs y,x = .ref l ∧ vs = [y] ∧ H l = some (.lst xs) ∧ xs.length < sizeLine ∧ Q .non (upd H l (.lst (xs ++ [y])))
theorem Qnt:MtM X "list.append" Qk2:=by
 intro pins s σ H x vs v us Q I rx rv h
 obtain ⟨l,xs,y,rfl,rfl,hH,hz,q⟩:=h
 cases rx
 obtain ⟨u,rfl,ru⟩:=rv.one
 obtain ⟨z,its,n,r,hl,e⟩:=I.lstM hH
 refine call_meets F.slot_list_append ⟨_,e,rfl⟩ F.entry_list_append (F.args_list_append_2 _ _) (PySem.list_append l its.toArray n u (by rw [List.size_toArray]; omega)) ⟨e,?_⟩
 refine ⟨.non,_,I.lset (its':=its ++ [u]) hH e (by simp) (r.append (.cons ru .nil)) ?_,rfl,q⟩
 rw [List.length_append,List.length_singleton]
 omega
noncomputable def rCat:R2:=fun x y H Q=>∃ l b xs zs,x = .ref l ∧ y = .ref b ∧ H l = some (.lst xs) ∧ H b = some (.lst zs) ∧ xs.length + zs.length ≤ sizeLine ∧ ∀ p,H p = none → Q (.ref p) (upd H p (.lst (xs ++ zs)))
theorem Q65:OpR X (binaryOp .Add) rCat:=by
 intro pins s σ H x y v u Q I rx ry h
 obtain ⟨l,b,xs,zs,rfl,rfl,hH,hB,hz,q⟩:=h
 cases rx
 cases ry
 obtain ⟨z,its,n,r,hl,e⟩:=I.lstM hH
 obtain ⟨z2,its2,n2,r2,hl2,e2⟩:=I.lstM hB
 refine PySem.P.add_list e e2 ?_ (by rw [List.size_toArray,List.size_toArray]; omega)
 have ea:its.toArray ++ its2.toArray = (its ++ its2).toArray:=by simp
 rw [ea]
 exact ⟨.ref _,_,I.lnew (t':=s.toks) (r.append r2) (by rw [List.length_append]; omega),rfl,q _ I.fresh⟩
noncomputable def rRep:R2:=fun x y H Q=>∃ l k xs,x = .ref l ∧ y = .int k ∧ H l = some (.lst xs) ∧ -(2 ^ 63) ≤ k ∧ k < 2 ^ 63 ∧ xs.length * k.toNat ≤ sizeLine ∧
 ∀ p,H p = none → Q (.ref p) (upd H p (.lst (List.replicate k.toNat xs).flatten))
theorem Qi1 {α:Type} (xs:List α) (k:Nat):(List.replicate k xs).flatten.length = k * xs.length:=by
 induction k with
 | zero=>simp
 | succ k ih=>rw [List.replicate_succ,List.flatten_cons,List.length_append,ih,Nat.succ_mul,Nat.add_comm]
theorem Q66:OpR X (binaryOp .Mult) rRep:=by
 intro pins s σ H x y v u Q I rx ry h
 obtain ⟨l,k,xs,rfl,rfl,hH,h1,h2,hz,q⟩:=h
 cases rx
 obtain ⟨t,rfl⟩:=ry
 obtain ⟨z,its,n,r,hl,e⟩:=I.lstM hH
 have hlen:its.toArray.size * k.toNat ≤ sizeLine:=by rw [List.size_toArray,← hl]; exact hz
 have hcap:¬ its.toArray.size * k.toNat > (2 ^ 63 - 1) / 8:=by
  have:(sizeLine:Nat) ≤ (2 ^ 63 - 1) / 8:=by decide
  omega
 have hfit:¬ (!Builtin.List.listFitsIndex k) = true:=by
  rw [fitsIndex_both h1 h2]
  exact Bool.false_ne_true
 have hlong:¬ Builtin.List.listTooLong (its.toArray.size * k.toNat) = true:=by
  rw [Qqt hlen]
  exact Bool.false_ne_true
 have hnew:List.foldl (fun x1 x2=>x1 ++ x2) #[] (List.replicate (if its.toArray.isEmpty = true then 0 else k.toNat) its.toArray) = (List.replicate k.toNat its).flatten.toArray:=by
  have f0:∀ m:Nat,List.foldl (fun x1 x2=>x1 ++ x2) #[] (List.replicate m its.toArray) = (List.replicate m its).flatten.toArray:=fun m=>by
   have:=Qjr its m []
   rw [List.nil_append] at this
   exact this
  rw [f0]
  cases its with
  | nil=>simp
  | cons a r'=>rw [if_neg (by simp)]
 refine wpAny_binaryOp_repeat_ref (T := "list") (U := "int") (by decide) ⟨_,e,rfl⟩ (fun s'=>typeIs_int s' k t) noFill_list_mul F.fills_int_mul F.slot_int_rmul repeat_list F.slot_int_index.lookup
  (call_meets F.slot_int_rmul (typeIs_int s k t) F.entry_int_rmul (F.args_int_rmul_2 _ _) (int___rmul___int_list k t l its.toArray n)
   ⟨e,rfl,⟨_,e,rfl⟩,call_meets F.slot_list_mul ⟨_,e,rfl⟩ F.entry_list_mul (F.args_list_mul_2 _ _) (AutoListH.list___mul___list_int_3 l its.toArray n k t hfit hcap hlong) ⟨e,?_⟩⟩)
 rw [hnew]
 exact ⟨.ref _,_,I.lnew (t':=s.toks) (r.rep k.toNat) (by rw [Qi1,Nat.mul_comm]; exact hz),rfl,q _ I.fresh⟩
end
section
variable {prog:Program} {w:World} {A:Around} {E:Value → Shared → Prop} {s:Shared}
end
section
variable {X:Cx}
end
end L2
namespace Att
open PySem PySem.W PySem.Calls PyProof.Rows
theorem ints_of_wellAll {P:Params} {h:Heap}:∀ (ns:List Int) (vs:List Value),WellAll P h vs (ns.map WData.int) → IntsAre vs ns:=by
 intro ns
 induction ns with
 | nil =>
  intro vs w
  rw [List.map_nil] at w
  cases w
  exact .nil
 | cons n ns ih =>
  intro vs w
  rw [List.map_cons] at w
  cases w with
  | cons a b =>
   cases a
   exact .cons _ _ (ih _ b)
theorem script_of {l:OpenLaw} {n:Nat} (hn:l.most = some n) {P:Params} {h:Heap} {args:List WData} {vals:List Value}
  (hpre:l.row.toRowW.claim.pre args = true) (hwl:WellAll P h vals args) :
  ∃ a vs ns,vals = [Value.ref a] ∧ args = [WData.list (ns.map WData.int)] ∧ h.get? a = some { cls:=.type "list",data:=.seq vs.toArray } ∧ IntsAre vs ns ∧ ns.length ≤ n:=by
 have hsh:WShape.hasAll [] args [.list .int] = true:=(pre_splitW hpre).1
 have hc:l.pre.holds [] { args:=args } = true:=(pre_splitW hpre).2
 obtain ⟨d,r,rfl,h1,h2⟩:=hasAllW_cons hsh
 obtain rfl:=hasAllW_nil h2
 obtain ⟨xs,rfl,h3⟩:=hasW_list h1
 obtain ⟨ns,rfl⟩:=items_int h3
 have hlen:ns.length ≤ n:=by
  unfold OpenLaw.pre at hc
  have h4:(WTm.not (.lt (.lit (.int (n:Int))) (.len (.arg 0)))).holds [] { args:=[.list (ns.map .int)] } = true:=by
   have h4:=(holds_andW hc).1
   rw [hn] at h4
   exact h4
  have h5:=condW_of h4 (w_not (w_lt w_lit (w_len_list (w_arg rfl))))
  rw [List.length_map] at h5
  refine Nat.le_of_not_lt fun q=>?_
  have q':(n:Int) < ((ns.length:Nat):Int):=by omega
  first
   | (rw [decide_eq_true q'] at h5; exact absurd h5 (by decide))
   | (simp at h5; omega)
 cases hwl with
 | cons w1 w2 =>
  cases w2
  cases w1 with
  | list ho hall=>exact ⟨_,_,ns,rfl,rfl,ho,ints_of_wellAll ns _ hall,hlen⟩
theorem post_true (l:OpenLaw) (args:List WData):l.row.toRowW.claim.post args (.bool true) args = true :=
 postW_of (r:=l.row.toRowW) (X:=(true == true))
  (show WShape.has [] (.bool true) .bool = true by first | rfl | decide | simp [WShape.has,WShape.arms,WShape.armsAll])
  (show (WTm.eq .res (.lit (.bool true))).value [] { args:=args,res:=some (.bool true),after:=args } = some (.bool (true == true)) from w_eq_bool (w_res rfl) w_lit) rfl
theorem attach_call {l:OpenLaw} {n:Nat} {q:Program} {loose:List Str} {XP:(Str → Option Value) → Heap → Prop} {YP:World → Heap → Prop} {d:DefRec}
  (hn:l.most = some n) (hdf:d.params.defaults = [])
  (call:∀ (w:World) (s₀ s₁:Shared) (mg mb:Str → Option Value) (fa:Addr) (o:Obj) (pm cd doc:Value) (a:Addr) (vs:List Value) (ns:List Int),
   Ground q loose [] XP w s₀ mg mb s₁.heap → YP w s₁.heap →
   s₁.heap.get? fa = some o → o.data = .func (docDef d.name d.params d.body d.scope pm cd doc) → s₁.heap.CodeRec cd d.name → mg d.name = some (.ref fa) →
   s₁.heap.get? a = some { cls:=.type "list",data:=.seq vs.toArray } → IntsAre vs ns → ns.length ≤ n → s₁.gens = #[] →
   codeAny (model l.prog w) callerA (.call (.ref fa) ⟨[.ref a],[]⟩) (fun r s'=>r = .ok (.ret (.bool true)) ∧ OldK s₁.heap s'.heap ∧ s'.os = s₁.os ∧ AllBare s'.gens) s₁) :
  WalkO q loose XP YP l.row.toRowW d [] (fun f vs=>PySem.call f vs):=by
 intro w s₀ s₁ mg mb G Y fa o pm cd doc dV kV ho hd hcd hD hmg hg args vals as hpre hlay hrd hwl hlo
 obtain rfl:dV = .none:=Dflts.none hD hdf
 obtain rfl:kV = .none:=Dflts.noKw hD
 obtain ⟨a,vs,ns,rfl,rfl,hobj,hints,hlen⟩:=script_of hn hpre hwl
 refine enter_call (codeAny_mono (call w s₀ s₁ mg mb fa o pm cd doc a vs ns G Y ho (fd_plain hd) hcd hmg hobj hints hlen hg) fun r s' hq=>?_)
 obtain ⟨rfl,h2,h3,h4⟩:=hq
 exact ⟨.inl ⟨.bool true,.bool true,[],rfl,fun _=>rfl,.bool true,post_true l _,fun _=>⟨List.Pairwise.nil,fun _ hm=>(nomatch hm)⟩⟩,h2,h3,h4⟩
section
variable {prog:Program} {w:World} {A:Around} {E:Value → Shared → Prop} {s:Shared} {K:Frag}
end
end Att
namespace L2
open PySem PySem.Spec PyProof.Rows
theorem Qnu:∀ {vs:List Value} {ns:List Int},IntsAre vs ns → Vals (ns.map V.int) vs
 | _,_,.nil=>.nil
 | _,_,.cons n t h=>.cons ⟨t,rfl⟩ (Qnu h)
noncomputable abbrev KOf {K:PySem.W.Frag} {h:Heap} (_:K.In h):PySem.W.Frag:=K
noncomputable def Qdh (s:Stmt):Arguments:=match s with
 | .FunctionDef _ a _ _ _ _ _ _ _ _=>a
 | _=>{ posonlyargs:=[],args:=[],vararg:=none,kwonlyargs:=[],kw_defaults:=[],kwarg:=none,defaults:=[] }
noncomputable def Qa1 (s:Stmt):List Stmt:=match s with
 | .FunctionDef _ _ b _ _ _ _ _ _ _=>b
 | _=>[]
noncomputable def Qf (s:Stmt):Scope:=match s with
 | .FunctionDef _ _ _ _ _ _ sc _ _ _=>sc
 | _=>{ kind:=.function,names:=[],isGenerator:=false,isCoroutine:=false }
noncomputable abbrev CX0:CXT:=fun _ _ _ _ _ _=>False
noncomputable abbrev E0:XK:=fun _ _ _=>False
theorem Qaap {X:Cx}:Qs1 CX0 X E0:=fun _ _ _ _ _ _ _ h=>h.elim
structure Fun (K:PySem.W.Frag) (x qual:Str) (st:Stmt) (f:Addr) (fd:FuncData):Prop where
 ex:∃ (oc:Value) (od:Option Addr) (kV doc pm:Value) (an:Option Addr) (cdv ct:Value) (osl:Array (Option Value)),
  fd = PySem.W.fnOf x qual (Qdh st) (Qa1 st) (Qf st) .none kV doc pm an cdv ct ∧ K.lookup f = some ⟨oc,od,.func fd,osl⟩ ∧ PySem.W.codeIn K cdv qual = true
 kp:PySem.W.keepIn K (.ref f) = true
section
variable {P:Program} {w:World} {K:PySem.W.Frag} {mg:Str → Option Value} {base:Heap}
theorem Fun.ok {x qual:Str} {st:Stmt} {f:Addr} {fd:FuncData} {N ps:List Str} {k:Nat} {sp:Sp} (F:Fun K x qual st f fd) (S:FnScope N ps (Qf st)) (len:∀ vs H Q E,sp vs H Q E → vs.length = ps.length)
  (hbody:∀ (cdv:Value) (A:Around) (outer:List Env) (s:Shared) (H:Hp) (vs:List V) (Q:VK) (E:XK),Room k (A.deeper (envOfC qual (Qf st) s.heap.objs.size f cdv)) → sp vs H Q E →
   ∃ t,PSs (Qh1 (fun _=>true) CX0 P w K mg base N qual (Qf st) f cdv A outer s H E).nox (Qa1 st) t ∧ t { nx:=fun _ H'=>Q .non H',rt:=Q } (Qbd N vs) H):FnOk P w K mg base CX0 (k + 1) f fd ps sp:=by
 obtain ⟨oc,od,kV,doc,pm,an,cdv,ct,osl,rfl,lk,hcd⟩:=F.ex
 refine Qaaf (g:=fun _=>true) lk hcd S len fun A outer s H vs Q E hr hsp=>?_
 obtain ⟨t,h,q⟩:=hbody cdv A outer s H vs Q E hr hsp
 exact ⟨t,h.nox,q⟩
theorem Fun.binds {x qual:Str} {st:Stmt} {f:Addr} {fd:FuncData} {ps:List Str} (F:Fun K x qual st f fd)
  (h:∀ (kV doc pm:Value) (an:Option Addr) (cdv ct:Value) (us:List Value),us.length = ps.length → bindArgs (PySem.W.fnOf x qual (Qdh st) (Qa1 st) (Qf st) .none kV doc pm an cdv ct) ⟨us,[]⟩ = pure (ps.zip us)):Binds K fd ps []:=by
 obtain ⟨oc,od,kV,doc,pm,an,cdv,ct,osl,rfl,lk,hcd⟩:=F.ex
 exact .all (h kV doc pm an cdv ct)
theorem Q67 {x qual:Str} {st:Stmt} {f:Addr} {oc:Value} {od an:Option Addr} {osl:Array (Option Value)} {kV doc pm cdv ct:Value} (l:K.lookup f = some ⟨oc,od,.func (PySem.W.fnOf x qual (Qdh st) (Qa1 st) (Qf st) .none kV doc pm an cdv ct),osl⟩)
  (c:PySem.W.codeIn K cdv qual = true) (k:PySem.W.keepIn K (.ref f) = true):Fun K x qual st f (PySem.W.fnOf x qual (Qdh st) (Qa1 st) (Qf st) .none kV doc pm an cdv ct):=⟨⟨oc,od,kV,doc,pm,an,cdv,ct,osl,rfl,l,c⟩,k⟩
end
section
variable {X:Cx}
theorem pv (i:Nat) {x:Str} {pos:Pos} (hN:X.N[i]? = some x:=by rfl) (hv:Vis X.env.scope x:=by first | exact Or.inl rfl | exact Or.inr (Or.inl rfl) | exact Or.inr (Or.inr rfl)) (hd:(x == ("__debug__" : Str)) = false:=by decide)
  (hcd:(x == ("__classdict__" : Str)) = false:=by decide):PE X (.Name x pos) (Qon i):=Qxd hN hv hd hcd
end
theorem iteF {A B:Prop} (h:B):if false = true then A else B:=by
 rw [if_neg Bool.false_ne_true]
 exact h
theorem ite2 {c A B:Prop} [Decidable c] (h1:c → A) (h2:¬ c → B):if c then A else B:=by
 by_cases h:c
 ·rw [if_pos h]
  exact h1 h
 ·rw [if_neg h]
  exact h2 h
noncomputable def Same (H H':Hp):Prop:=∀ b o,H b = some o → H' b = some o
theorem Same.refl (H:Hp):Same H H:=fun _ _ h=>h
theorem Same.trans {H H1 H2:Hp} (a:Same H H1) (b:Same H1 H2):Same H H2:=fun c o h=>b c o (a c o h)
theorem Same.seq {K:PySem.W.Frag} {H H':Hp} {a:Addr} {xs:List V} (e:Same H H') (h:SqL K H a xs):SqL K H' a xs:=by
 rcases h with (h | ⟨o,h⟩) | h
 ·exact .inl (.inl (e _ _ h))
 ·exact .inl (.inr ⟨o,e _ _ h⟩)
 ·exact .inr h
structure LamT where
 qual:Str
 params:Arguments
 body:Expr
 scope:Scope
 caps:List Str
 ps:List Str
noncomputable abbrev noE:Expr:=.Constant .none 0 ⟨0,0,0,0⟩
noncomputable def Qaaq:Stmt → Expr
 | .Assign _ e _=>e
 | .Return (some e) _=>e
 | _=>noE
noncomputable def Qaar (i:Nat):Expr → Expr
 | .Call _ as _ _=>as.getD i noE
 | _=>noE
noncomputable def Qaas (x:Str) (caps ps:List Str):Expr → LamT
 | .Lambda a b s _=>⟨x ++ ".<locals>." ++ "<lambda>",a,b,s,caps,ps⟩
 | _=>⟨x,{ posonlyargs:=[],args:=[],vararg:=none,kwonlyargs:=[],kw_defaults:=[],kwarg:=none,defaults:=[] },noE,{ kind:=.function,names:=[],isGenerator:=false,isCoroutine:=false,more:=[] },caps,ps⟩
noncomputable def Q68:Stmt:=PySem.Challenge.pw_noughtways_k26_shortest_ways_by_rests.main.body.getD 34 (.Pass ⟨0,0,0,0⟩)
noncomputable def Q69:Expr:=Qaar 1 (Qaaq ((Qa1 Q68).getD 3 (.Pass ⟨0,0,0,0⟩)))
noncomputable def Qos:LamT:=Qaas "ways_to_rests" ["rests","m"] ["table","at"] Q69
noncomputable def Qc0:List (Nat × LamT):=[(37,Qos)]
section
variable {κ:Type} [DecidableEq κ]
noncomputable def Qh2 (kvs:List (κ × V)) (k:κ):Option V:=(kvs.find? fun kv=>decide (kv.1 = k)).map (·.2)
noncomputable def Qii (kvs:List (κ × V)) (k:κ) (v:V):List (κ × V) :=
 if (kvs.any fun kv=>decide (kv.1 = k)) = true then kvs.map (fun kv=>if kv.1 = k then (kv.1,v) else kv) else kvs ++ [(k,v)]
theorem Qi2 {p:κ × V} {r:List (κ × V)} {k:κ} (e:p.1 = k):Qh2 (p :: r) k = some p.2:=by simp [Qh2,List.find?_cons,e]
theorem Qi3 {p:κ × V} {r:List (κ × V)} {k:κ} (e:¬ p.1 = k):Qh2 (p :: r) k = Qh2 r k:=by simp [Qh2,List.find?_cons,e]
theorem Qi4 (k:κ):∀ kvs:List (κ × V),(kvs.any fun kv=>decide (kv.1 = k)) = (Qh2 kvs k).isSome
 | []=>rfl
 | p :: r=>by
  rw [List.any_cons]
  by_cases e:p.1 = k
  ·simp only [Qi2 e,decide_eq_true e,Bool.true_or,Option.isSome_some]
  ·rw [Qi3 e,decide_eq_false e,Bool.false_or]; exact Qi4 k r
theorem Qke (kvs:List (κ × V)) (k:κ) (v:V):(Qii kvs k v).length ≤ kvs.length + 1:=by
 unfold Qii
 split
 ·rw [List.length_map]; omega
 ·rw [List.length_append,List.length_cons,List.length_nil]; omega
theorem Qxw {kvs:List (κ × V)} {k:κ} (v:V) (h:Qh2 kvs k = none):Qii kvs k v = kvs ++ [(k,v)]:=by
 unfold Qii
 rw [Qi4,h]
 exact if_neg (by decide)
theorem RelO.isSome_eq {o:Option V} {u:Option Value} (r:RelO o u):o.isSome = u.isSome:=by
 cases o with
 | none=>cases u with
  | none=>rfl
  | some _=>exact (show False from r).elim
 | some _=>cases u with
  | none=>exact (show False from r).elim
  | some _=>rfl
theorem RelO.getD {o:Option V} {u:Option Value} {d:V} {d':Value} (r:RelO o u) (rd:RelV d d'):RelV (o.getD d) (u.getD d'):=by
 cases o with
 | none=>cases u with
  | none=>exact rd
  | some _=>exact (show False from r).elim
 | some _=>cases u with
  | none=>exact (show False from r).elim
  | some _=>exact r
theorem KV.val {kvs:List (κ × V)} {vs:List (κ × Value)} (r:KV kvs vs) (k:κ):RelO (Qh2 kvs k) (valueAt vs k):=by
 unfold KV at r
 induction r with
 | nil=>exact True.intro
 | @cons p q ps qs h t ih =>
  obtain ⟨h1,h2⟩:=h
  by_cases e:p.1 = k
  ·have e':q.1 = k:=h1.symm.trans e
   have b:valueAt (q :: qs) k = some q.2:=by simp [valueAt,List.find?_cons,e']
   rw [Qi2 e,b]; exact h2
  ·have e':¬ q.1 = k:=fun z=>e (h1.trans z)
   have b:valueAt (q :: qs) k = valueAt qs k:=by simp [valueAt,List.find?_cons,e']
   rw [Qi3 e,b]; exact ih
theorem KV.any {kvs:List (κ × V)} {vs:List (κ × Value)} (r:KV kvs vs) (k:κ):(kvs.any fun kv=>decide (kv.1 = k)) = vs.any fun kv=>decide (kv.1 = k):=by
 unfold KV at r
 induction r with
 | nil=>rfl
 | cons h t ih=>rw [List.any_cons,List.any_cons,ih,h.1]
theorem KV.repl {kvs:List (κ × V)} {vs:List (κ × Value)} (r:KV kvs vs) (k:κ) {y:V} {u:Value} (ry:RelV y u) :
  KV (kvs.map fun kv=>if kv.1 = k then (kv.1,y) else kv) (vs.map fun kv=>if kv.1 = k then (kv.1,u) else kv):=by
 unfold KV at r ⊢
 induction r with
 | nil=>exact .nil
 | @cons p q ps qs h t ih =>
  rw [List.map_cons,List.map_cons]
  refine .cons ?_ ih
  obtain ⟨h1,h2⟩:=h
  by_cases e:p.1 = k
  ·rw [if_pos e,if_pos (h1.symm.trans e)]; exact ⟨h1,ry⟩
  ·rw [if_neg e,if_neg (fun z=>e (h1.trans z))]; exact ⟨h1,h2⟩
theorem KV.put {kvs:List (κ × V)} {vs:List (κ × Value)} (r:KV kvs vs) (k:κ) {y:V} {u:Value} (ry:RelV y u):KV (Qii kvs k y) (stored vs k u):=by
 unfold Qii stored
 rw [r.any k]
 by_cases e:(vs.any fun kv=>decide (kv.1 = k)) = true
 ·rw [if_pos e,if_pos e]; exact r.repl k ry
 ·rw [if_neg e,if_neg e]; exact Paired.snoc r ⟨rfl,ry⟩
theorem KV.length {kvs:List (κ × V)} {vs:List (κ × Value)} (r:KV kvs vs):kvs.length = vs.length:=Paired.length r
end
theorem Qur {P:Program} {w:World} {k:Key} {u:Value} (r:RelV (kV k) u):(Qd4 P w).is k u = true:=by
 cases k with
 | inl i=>obtain ⟨t,e⟩:=(show ∃ t,u = Value.int i t from r); subst e; exact Qqn P w i t
 | inr x=>obtain ⟨t,e⟩:=(show ∃ t,u = Value.str x t from r); subst e; exact Qqo P w x t
noncomputable abbrev KT (H:Hp):List (List (List Int) × V) → List (List (List Int) × Addr × Value) → Prop:=Paired fun p q=>p.1 = q.1 ∧ KAt H p.1 q.2.1 ∧ RelV p.2 q.2.2
theorem KT.val {H:Hp} {kvs:List (List (List Int) × V)} {xs:List (List (List Int) × Addr × Value)} (r:KT H kvs xs) (k:List (List Int)):RelO (Qh2 kvs k) ((atKey xs k).map (·.2)):=by
 induction r with
 | nil=>exact True.intro
 | @cons p q ps qs h t ih =>
  obtain ⟨h1,_,h2⟩:=h
  by_cases e:p.1 = k
  ·have e':q.1 = k:=h1.symm.trans e
   have b:atKey (q :: qs) k = some q.2:=by simp [atKey,List.find?_cons,e']
   rw [Qi2 e,b]; exact h2
  ·have e':¬ q.1 = k:=fun z=>e (h1.trans z)
   have b:atKey (q :: qs) k = atKey qs k:=by simp [atKey,List.find?_cons,e']
   rw [Qi3 e,b]; exact ih
theorem KT.repl {H:Hp} {kvs:List (List (List Int) × V)} {xs:List (List (List Int) × Addr × Value)} (r:KT H kvs xs) (k:List (List Int)) {y:V} {u:Value} (ry:RelV y u) :
  KT H (kvs.map fun kv=>if kv.1 = k then (kv.1,y) else kv) (xs.map (putAt k u)):=by
 induction r with
 | nil=>exact .nil
 | @cons p q ps qs h t ih =>
  rw [List.map_cons,List.map_cons]
  refine .cons ?_ ih
  obtain ⟨h1,h2,h3⟩:=h
  unfold putAt
  by_cases e:p.1 = k
  ·rw [if_pos e,if_pos (h1.symm.trans e)]; exact ⟨h1,h2,ry⟩
  ·rw [if_neg e,if_neg (fun z=>e (h1.trans z))]; exact ⟨h1,h2,h3⟩
theorem KT.put {H:Hp} {kvs:List (List (List Int) × V)} {xs:List (List (List Int) × Addr × Value)} (r:KT H kvs xs) (k:List (List Int)) {b:Addr} {y:V} {u:Value} (hb:KAt H k b) (ry:RelV y u) :
  KT H (Qii kvs k y) (storedH xs k b u):=by
 have e:(kvs.any fun kv=>decide (kv.1 = k)) = (atKey xs k).isSome:=by
  rw [Qi4,(r.val k).isSome_eq,Option.isSome_map]
 unfold Qii storedH
 rw [e]
 by_cases q:(atKey xs k).isSome = true
 ·rw [if_pos q,if_pos q]; exact r.repl k ry
 ·rw [if_neg q,if_neg q]; exact Paired.snoc r ⟨rfl,hb,ry⟩
theorem KT.keeps {H H':Hp} {kvs:List (List (List Int) × V)} {xs:List (List (List Int) × Addr × Value)} (r:KT H kvs xs) (ht:∀ b ys,H b = some (.tup ys) → H' b = some (.tup ys)):KT H' kvs xs :=
 Paired.mapP r fun _ _ z=>⟨z.1,z.2.1.keeps ht,z.2.2⟩
section
variable {P:Program} {w:World} {H:Hp} {h:Heap} {a:Addr}
theorem Q4j {u:HO} (ok:HOk P w H h) (e:Rd H a u):ObjOk P w H h a u:=e.ok ok
theorem Qnv {kvs:List (Key × V)} (ok:HOk P w H h) (e:Rd H a (.dK kvs)):kvs.length ≤ sizeLine ∧ (a == sysModules) = false ∧ ∃ vs,KV kvs vs ∧ h.DictOf (Qd4 P w) a vs :=
 show ObjOk P w H h a (.dK kvs) from Q4j ok e
theorem Qaat {kvs:List (Key × V)} (ok:HOk P w H h) (e:H a = some (.dK kvs)):kvs.length ≤ sizeLine ∧ (a == sysModules) = false ∧ ∃ vs,KV kvs vs ∧ h.DictOf (Qd4 P w) a vs:=Qnv ok (.inl e)
theorem Qic:∀ {bs:List Addr} {us:List Value},Vals (bs.map V.ref) us → us = bs.map Value.ref
 | [],_,r=>by cases r; rfl
 | b :: bs,_,r=>by
  rw [List.map_cons] at r
  cases r with
  | cons h t=>rw [Qic t]; cases h; rfl
theorem Qlf {P:Program} {w:World}:∀ {ks:List Int} {us:List Value},Vals (ks.map V.int) us → ItemsAre (PySem.intKind P w) ks us
 | [],_,r=>by rw [List.map_nil] at r; cases r; exact .nil
 | k :: ks,_,r=>by
  rw [List.map_cons] at r
  cases r with
  | cons h t=>obtain ⟨tk,rfl⟩:=h; exact .cons (PySem.intKind_is _ _ _ _) (Qlf t)
theorem Q7a {k:List Int} (ok:HOk P w H h) (e:H a = some (.tup (k.map V.int))):IsTupleKey (PySem.intKind P w) h k a:=by
 obtain ⟨_,its,r,o,h1,h2,n,h3,_⟩:=(show ObjOk P w H h a (.tup (k.map V.int)) from ok a _ e)
 exact ⟨o,its.toArray,n,h1,h2,h3,by simpa using Qlf r⟩
theorem Qlg {ks:List (List Int)} (ok:HOk P w H h) (e:KAt H ks a):(nestKind P w).is h ks a:=by
 obtain ⟨bs,e,p⟩:=e
 obtain ⟨zl,its,r,o,h1,h2,n,h3,_⟩:=(show ObjOk P w H h a (.tup (bs.map V.ref)) from ok a _ e)
 refine ⟨o,its.toArray,n,h1,h2,h3,?_⟩
 show RowsAre P w h ks its
 rw [Qic r]
 clear r h3 e zl
 induction p with
 | nil=>exact .nil
 | cons x _ ih=>exact .cons (Q7a ok x) ih
theorem Qnw {kvs:List (List (List Int) × V)} (ok:HOk P w H h) (e:Rd H a (.dT kvs)):kvs.length ≤ sizeLine ∧ (a == sysModules) = false ∧
  ∃ xs,KT H kvs xs ∧ h.DictOfH (nestKind P w) a xs:=by
 obtain ⟨z,y,xs,r,o,es,ep,h1,h2,h3,h4,h5⟩:=(show ObjOk P w H h a (.dT kvs) from Q4j ok e)
 refine ⟨z,y,xs,r,o,es,ep,h1,h2,h3,h4,fun x hx=>?_,h5⟩
 have all:∀ {l:List (List (List Int) × V)} {m:List (List (List Int) × Addr × Value)},KT H l m → ∀ x ∈ m,(nestKind P w).is h x.1 x.2.1:=by
  intro l m q
  induction q with
  | nil=>intro x hx; exact nomatch hx
  | @cons p q ps qs hq t ih =>
   intro x hx
   rcases List.mem_cons.mp hx with e | hx
   ·subst e
    exact Qlg ok (by rw [← hq.1]; exact hq.2.1)
   ·exact ih x hx
 exact all r x hx
theorem Qxx {kvs:List (List (List Int) × V)} (ok:HOk P w H h) (e:H a = some (.dT kvs)):kvs.length ≤ sizeLine ∧ (a == sysModules) = false ∧
  ∃ xs,KT H kvs xs ∧ h.DictOfH (nestKind P w) a xs:=Qnw ok (.inl e)
end
noncomputable def DGet (H:Hp) (a:Addr) (y:V) (r:Option V):Prop :=
 (∃ kvs k,Rd H a (.dK kvs) ∧ y = kV k ∧ r = Qh2 kvs k) ∨ ∃ kvs k b,Rd H a (.dT kvs) ∧ y = .ref b ∧ KAt H k b ∧ r = Qh2 kvs k
noncomputable def DPut (H:Hp) (a:Addr) (y v:V) (H':Hp):Prop :=
 (∃ kvs k,H a = some (.dK kvs) ∧ y = kV k ∧ kvs.length < sizeLine ∧ H' = upd H a (.dK (Qii kvs k v))) ∨
 ∃ kvs k b,H a = some (.dT kvs) ∧ y = .ref b ∧ KAt H k b ∧ kvs.length < sizeLine ∧ H' = upd H a (.dT (Qii kvs k v))
theorem DGet.t {H:Hp} {a b:Addr} {kvs:List (List (List Int) × V)} {k:List (List Int)} (e:H a = some (.dT kvs)) (eb:KAt H k b):DGet H a (.ref b) (Qh2 kvs k):=.inr ⟨kvs,k,b,.inl e,rfl,eb,rfl⟩
theorem DPut.t {H:Hp} {a b:Addr} {kvs:List (List (List Int) × V)} {k:List (List Int)} {v:V} (e:H a = some (.dT kvs)) (eb:KAt H k b) (hl:kvs.length < sizeLine) :
  DPut H a (.ref b) v (upd H a (.dT (Qii kvs k v))):=.inr ⟨kvs,k,b,e,rfl,eb,hl,rfl⟩
section
variable {X:Cx} {pins:List (Addr × Obj)} {σ:St} {H:Hp} {s:Shared} {a:Addr} {y v:V} {u r:Value} {o:Option V} {A:Around} {E:Value → Shared → Prop}
theorem Inv.big (I:Inv X pins σ H s):sysModules < s.heap.objs.size:=by
 have h:mainGlobals < s.heap.objs.size:=(I.mod.glob.keeps I.bk).lt
 exact Nat.lt_trans (by decide) h
theorem Qv9 {Q:Value → Shared → Prop} (hu:A.units + 2 < cLine) (I:Inv X pins σ H s) (g:DGet H a y (some v)) (ry:RelV y u) (h:∀ w' s',Inv X pins σ H s' → RelV v w' → Q w' s') :
  wpAny (model X.prog X.w) A (getItem (.ref a) u) Q E s:=by
 rcases g with ⟨kvs,k,e,ey,l⟩ | ⟨kvs,k,b,e,ey,eb,l⟩
 ·subst ey
  obtain ⟨z,hd,vs,rel,dd⟩:=Qnv I.hok e
  obtain ⟨w',hw,rw'⟩:=RelO.some_of (v:=v) (o:=valueAt vs k) (by rw [l]; exact rel.val k)
  exact wpAny_getItem_of (Qur ry) dd.mapOf hw (h w' _ (I.tok _) rw')
 ·subst ey
  cases (show u = Value.ref b from ry)
  obtain ⟨z,hd,xs,rel,dd⟩:=Qnw I.hok e
  obtain ⟨w',hw,rw'⟩:=RelO.some_of (v:=v) (o:=(atKey xs k).map (·.2)) (by rw [l]; exact rel.val k)
  obtain ⟨p,hp,hp2⟩:=Option.map_eq_some_iff.mp hw
  refine wpAny_getItem_heap (show _ from hu) (Qlg I.hok eb) dd hp ?_
  rw [hp2]
  exact h w' _ (I.tok _) rw'
theorem Q1s {Q:Value → Shared → Prop} (hu:A.units + 2 < cLine) (I:Inv X pins σ H s) (g:DGet H a y o) (ry:RelV y u) (h:∀ s',Inv X pins σ H s' → Q (.bool (!o.isSome)) s') :
  wpAny (model X.prog X.w) A (compareOp .NotIn u (.ref a)) Q E s:=by
 rcases g with ⟨kvs,k,e,ey,l⟩ | ⟨kvs,k,b,e,ey,eb,l⟩
 ·subst ey
  obtain ⟨z,hd,vs,rel,dd⟩:=Qnv I.hok e
  refine wpAny_notIn_of (Qur ry) hd dd.mapOf ?_
  rw [← (rel.val k).isSome_eq,← l]
  exact h _ (I.tok _)
 ·subst ey
  cases (show u = Value.ref b from ry)
  obtain ⟨z,hd,xs,rel,dd⟩:=Qnw I.hok e
  refine wpAny_notIn_heap (show _ from hu) (Qlg I.hok eb) hd dd ?_
  have q:=(rel.val k).isSome_eq
  rw [Option.isSome_map] at q
  rw [← q,← l]
  exact h _ (I.tok _)
theorem Qus {h':Heap} {t':Nat} {ob:HO} (I:Inv X pins σ H s) (mu:Mut (H a)) (hs:Heap.SameBut a s.heap h') (he:∃ q,h'.get? a = some q) (new:ObjOk X.prog X.w (upd H a ob) h' a ob) :
  Inv X pins σ (upd H a ob) { s with heap:=h',toks:=t' } :=
 I.write (x:=a) (e:=a) mu (.inl rfl) (fun b q hb z=>(hs.2 b hb).trans z) he new
theorem Q7b {P:Program} {w:World} {H':Hp} {h':Heap} {kvs:List (Key × V)} {vs:List (Key × Value)} (z:kvs.length ≤ sizeLine) (hd:(a == sysModules) = false) (rel:KV kvs vs) (dd:h'.DictOf (Qd4 P w) a vs) :
  ObjOk P w H' h' a (.dK kvs):=⟨z,hd,vs,rel,dd⟩
theorem Qwa {H':Hp} {Q:Unit → Shared → Prop} (hu:A.units + 2 < cLine) (I:Inv X pins σ H s) (g:DPut H a y v H') (ry:RelV y u) (rv:RelV v r) (h:∀ s',Inv X pins σ H' s' → Q () s') :
  wpAny (model X.prog X.w) A (setItem (.ref a) u r) Q E s:=by
 rcases g with ⟨kvs,k,e,ey,l,eH⟩ | ⟨kvs,k,b,e,ey,eb,l,eH⟩
 ·subst ey eH
  obtain ⟨z,hd,vs,rel,dd⟩:=Qaat I.hok e
  have hz:vs.length ≤ sizeLine:=by rw [← rel.length]; exact z
  have hl:(Qii kvs k v).length ≤ sizeLine:=by have:=Qke kvs k v; omega
  refine wpAny_setItem_pairs (hsz:=hz) (Qur ry) dd fun h' dd' hs=>h _ ?_
  have he:∃ q,h'.get? a = some q:=let ⟨q,_,_,hq,_⟩:=dd'; ⟨q,hq⟩
  exact Qus I (by rw [e]; exact True.intro) hs he (Q7b hl hd (rel.put k rv) dd')
 ·subst ey eH
  cases (show u = Value.ref b from ry)
  obtain ⟨z,hd,xs,rel,dd⟩:=Qxx I.hok e
  have hz:xs.length ≤ sizeLine:=by rw [← Paired.length rel]; exact z
  have hl:(Qii kvs k v).length ≤ sizeLine:=by have:=Qke kvs k v; omega
  refine wpAny_setItem_heap (hsz:=hz) (show _ from hu) (Qlg I.hok eb) dd fun h' dd' hs=>h _ ?_
  obtain ⟨q,es,ep,hq,h2,h3,h4,_,h5⟩:=dd'
  refine Qus I (by rw [e]; exact True.intro) hs ⟨q,hq⟩ ⟨hl,hd,_,(rel.put k eb rv).keeps fun c ys ec=>?_,q,es,ep,hq,h2,h3,h4,h5⟩
  rw [Q3 (Q90 ec e (fun z=>nomatch z))]
  exact ec
end
section
variable {X:Cx} {pins:List (Addr × Obj)} {σ:St} {H:Hp} {s:Shared} {a:Addr} {kvs:List (Key × V)} {k:Key} {u:Value} {A:Around} {E:Value → Shared → Prop}
end
noncomputable def Q7c (i:Expr):Prop:=∀ ov iv,subscripted i false ov iv = operate [ov,iv] (getItem ov iv)
theorem Q1t {prog:Program} {w:World} {A:Around} {E:Value → Shared → Prop} {s:Shared} {env:Env} {value slice:Expr} {pos:Pos} {T id:String} {Q:Value → Shared → Prop}
  (hl:typeLookup (.type T) "__getitem__" = pure (some (.builtin id))) (hs:Q7c slice)
  (h:wpAny (model prog w) A (eval value env) (fun o s₁=>wpAny (model prog w) A (eval slice env) (fun i s₂=>s₂.TypeIs o T ∧ wpAny (model prog w) A (getItem o i) Q E s₂) E s₁) E s) :
  wpAny (model prog w) A (eval (.Subscript value slice pos) env) Q E s:=by
 refine Subscript_ (wpAny_mono h (fun o s₁ h₁=>wpAny_mono h₁ (fun i s₂ h₂=>?_) fun _ _ x=>x) fun _ _ x=>x)
 obtain ⟨hT,h₂⟩:=h₂
 unfold subscriptTail
 refine wpAny_bind ?_
 rw [getitemInPython_of_ne hT.not_modules]
 refine wpAny_bind (wpAny_specialOf hT hl ?_)
 have fin:wpAny (model prog w) A (subscripted slice false o i) (fun r s₃=>wpAny (model prog w) A (letTemporaryGo value o r >>= fun _=>pure r) Q E s₃) E s₂:=by
  rw [hs o i]
  exact wpAny_operating (wpAny_mono h₂ (fun r s₃ h₃=>wpAny_bind (wpAny_letTemporaryGo (wpAny_pure h₃))) fun _ _ x=>x)
 first
  | exact wpAny_pure (wpAny_bind fin)
  | exact wpAny_bind (wpAny_pure (wpAny_bind fin))
  | exact wpAny_bind fin
theorem Qqu {X:Cx} {pins:List (Addr × Obj)} {σ:St} {H:Hp} {s:Shared} {a:Addr} {y:V} {o:Option V} (I:Inv X pins σ H s) (g:DGet H a y o):s.TypeIs (.ref a) "dict" := by
 rcases g with ⟨kvs,k,e,_,_⟩ | ⟨kvs,k,b,e,_,_,_⟩
 ·obtain ⟨_,_,vs,_,dd⟩:=Qnv I.hok e
  exact dd.typeIs
 ·obtain ⟨_,_,xs,_,dd⟩:=Qnw I.hok e
  exact dd.typeIs
noncomputable def Qaau (td ty:TE):TE:=fun σ H Q=>td σ H fun x H1=>ty σ H1 fun y H2=>∃ a v,x = .ref a ∧ DGet H2 a y (some v) ∧ Q v H2
noncomputable def Q1u (ty td:TE):TE:=fun σ H Q=>ty σ H fun y H1=>td σ H1 fun x H2=>∃ a o,x = .ref a ∧ DGet H2 a y o ∧ Q (.bl (!o.isSome)) H2
noncomputable def Qaav (td ty tv:TE):TS:=fun D σ H=>tv σ H fun v H1=>td σ H1 fun x H2=>ty σ H2 fun y H3=>∃ a H4,x = .ref a ∧ DPut H3 a y v H4 ∧ D.nx σ H4
section
variable {X:Cx} {o i e value:Expr} {pos pos' tpos:Pos} {td ty tv:TE}
theorem Q1v (hu:X.A.units + 2 < cLine) (ho:PE X o td) (hi:PE X i ty) (hs:Q7c i):PE X (.Subscript o i pos) (Qaau td ty):=by
 intro pins s σ H Q I h
 refine Q1t PySem.F.slot_dict_getitem.lookup hs (thn (ho pins s σ H _ I h) fun u s1 ⟨x,H1,I1,rx,q1⟩=>thn (hi pins s1 σ H1 _ I1 q1) fun iv s2 ⟨y,H2,I2,ry,a,v,ex,g,q2⟩=>?_)
 subst ex
 obtain rfl:u = Value.ref a:=rx
 exact ⟨Qqu I2 g,Qv9 hu I2 g ry fun w' s3 I3 rw'=>⟨v,H2,I3,rw',q2⟩⟩
theorem Qwb (hu:X.A.units + 2 < cLine) (hi:PE X i ty) (ho:PE X o td):PC X .NotIn i o (Q1u ty td):=by
 intro pins s σ H Q I h
 refine thn (hi pins s σ H _ I h) fun iv s1 ⟨y,H1,I1,ry,q1⟩=>thn (ho pins s1 σ H1 _ I1 q1) fun u s2 ⟨x,H2,I2,rx,a,ov,ex,g,q2⟩=>?_
 subst ex
 obtain rfl:u = Value.ref a:=rx
 exact Q1s hu I2 g ry fun s3 I3=>⟨.bl (!ov.isSome),H2,I3,rfl,q2⟩
theorem Q1w (hu:X.A.units + 2 < cLine) (ho:PE X o td) (hi:PE X i ty) (hv:PE X value tv) (hs:swapsWith value (some (.Subscript o i pos')) pos.line X.env = pure false) :
  PS X (.Assign [.Subscript o i pos'] value pos) (Qaav td ty tv):=by
 intro pins s σ H D I h
 refine wpAny_Assign_Subscript (thn (hv pins s σ H _ I h) fun r s1 ⟨v,H1,I1,rv,q1⟩=>thn (ho pins s1 σ H1 _ I1 q1) fun u s2 ⟨x,H2,I2,rx,q2⟩=>thn (hi pins s2 σ H2 _ I2 q2) fun iv s3 ⟨y,H3,I3,ry,a,H4,ex,g,q3⟩=>?_) hs
 subst ex
 obtain rfl:u = Value.ref a:=rx
 exact Qwa hu I3 g ry rv fun s4 I4=>⟨σ,H4,I4,q3⟩
end
theorem Qxy {P:Program} {w:World} {H:Hp} (h:Heap) (hb:sysModules < h.objs.size):ObjOk P w H (h.push { cls:=.type "dict",data:=.dict #[] }) h.objs.size (.dT []) :=
 ⟨Nat.zero_le _,beq_eq_false_iff_ne.mpr (Ne.symm (Nat.ne_of_lt hb)),[],.nil,_,#[],0,Heap.get?_push_size _ rfl,⟨rfl,rfl,rfl⟩,rfl,rfl,List.nodup_nil⟩
noncomputable def Q7d:TE:=fun _ H Q=>∀ p,H p = none → Q (.ref p) (upd H p (.dT []))
section
variable {X:Cx} {pos:Pos}
theorem Qxz:PE X (.Dict [] [] pos) Q7d:=fun pins s σ H Q I h =>
 wpAny_Dict_empty ⟨.ref s.heap.objs.size,_,I.laid (a:=s.heap.objs.size) (o:=.dT []) (t':=s.toks) (fun _ _ q=>Heap.get?_push_of_some _ q) (Nat.le_refl _) (Qxy s.heap I.big),rfl,h _ (I.hok.fresh (Nat.le_refl _))⟩
end
structure M1 (X:Cx) (o:Expr) (m:Str) (apos:Pos) (e:Expr) (cpos:Pos):Prop where
 base:attributeBase o m X.env (eval o X.env) = eval o X.env
 few:((backTo cpos (starEach [e] X.env)).all (fun x=>!x.1) && (backToKw cpos (keywordEach [] X.env)).all (fun x=>x.1.isSome)
  && decide (([e]:List Expr).length + ([]:List Keyword).length + (if ([]:List Keyword).isEmpty then 0 else 1) < 30)) = true
 line:(apos.endLine == cpos.line) = true
 trees:backTo cpos (starEach [e] X.env) = [(false,eval e X.env)]
structure M2 (X:Cx) (o:Expr) (m:Str) (apos:Pos) (e f:Expr) (cpos:Pos):Prop where
 base:attributeBase o m X.env (eval o X.env) = eval o X.env
 few:((backTo cpos (starEach [e,f] X.env)).all (fun x=>!x.1) && (backToKw cpos (keywordEach [] X.env)).all (fun x=>x.1.isSome)
  && decide (([e,f]:List Expr).length + ([]:List Keyword).length + (if ([]:List Keyword).isEmpty then 0 else 1) < 30)) = true
 line:(apos.endLine == cpos.line) = true
 trees:backTo cpos (starEach [e,f] X.env) = [(false,eval e X.env),(false,eval f X.env)]
noncomputable def IsD (H:Hp) (a:Addr):Prop:=(∃ kvs,Rd H a (.dK kvs)) ∨ ∃ kvs,Rd H a (.dT kvs)
theorem Q7e {X:Cx} {pins:List (Addr × Obj)} {σ:St} {H:Hp} {s:Shared} {a:Addr} (I:Inv X pins σ H s) (d:IsD H a) :
  s.TypeIs (.ref a) "dict" ∧ (∀ b,Value.ref a = .ref b → ∃ ob,s.heap.get? b = some ob ∧ ob.dict = none) ∧ (a == sysModules) = false:=by
 rcases d with ⟨kvs,e⟩ | ⟨kvs,e⟩
 ·obtain ⟨_,hd,vs,_,dd⟩:=Qnv I.hok e
  refine ⟨dd.typeIs,fun b q=>?_,hd⟩
  cases q
  obtain ⟨ob,_,_,h1,h2,_⟩:=dd
  exact ⟨ob,h1,h2.2.1⟩
 ·obtain ⟨_,hd,xs,_,dd⟩:=Qnw I.hok e
  refine ⟨dd.typeIs,fun b q=>?_,hd⟩
  cases q
  obtain ⟨ob,_,_,h1,h2,_⟩:=dd
  exact ⟨ob,h1,h2.2.1⟩
section
variable {X:Cx} {pins:List (Addr × Obj)} {σ:St} {H:Hp} {s:Shared} {a:Addr} {y d:V} {u r:Value} {o:Option V} {A:Around} {E:Value → Shared → Prop}
theorem Q7f {Q:Value → Shared → Prop} (hu:A.units + 2 < cLine) (I:Inv X pins σ H s) (g:DGet H a y o) (ry:RelV y u) (h:∀ w' s',Inv X pins σ H s' → RelV (o.getD .non) w' → Q w' s') :
  wpAny (model X.prog X.w) A (call (.builtin "dict.get") [.ref a,u]) Q E s:=by
 rcases g with ⟨kvs,k,e,ey,l⟩ | ⟨kvs,k,b,e,ey,eb,l⟩
 ·subst ey
  obtain ⟨z,hd,vs,rel,dd⟩:=Qnv I.hok e
  refine call_meetsIn PySem.F.slot_dict_get dd.typeIs PySem.F.entry_dict_get (PySem.F.args_dict_get_2 _ _) (meets_dict_get (Qd4 X.prog X.w) a (Qur ry) hd) ⟨_,dd.mapOf,h _ _ (I.tok _) ?_⟩
  rw [l]
  exact (rel.val k).getD rfl
 ·subst ey
  cases (show u = Value.ref b from ry)
  obtain ⟨z,hd,xs,rel,dd⟩:=Qnw I.hok e
  refine call_meetsIn PySem.F.slot_dict_get dd.typeIs PySem.F.entry_dict_get (PySem.F.args_dict_get_2 _ _) (meetsH_dict_get (nestKind X.prog X.w) a b hd) ⟨(show _ from hu),k,xs,Qlg I.hok eb,dd,h _ _ (I.tok _) ?_⟩
  rw [l]
  exact (rel.val k).getD rfl
end
noncomputable def Q7g (td ty:TE):TE:=fun σ H Q=>td σ H fun x H1=>∃ a,x = .ref a ∧ IsD H1 a ∧ ty σ H1 fun y H2=>∃ o,DGet H2 a y o ∧ Q (o.getD .non) H2
section
variable {X:Cx} {o e f:Expr} {apos cpos:Pos} {td ty tx:TE}
theorem Qx0 (hu:X.A.units + 2 < cLine) (ho:PE X o td) (he:PE X e ty) (m:M1 X o "get" apos e cpos):PE X (.Call (.Attribute o "get" apos) [e] [] cpos) (Q7g td ty):=by
 intro pins s σ H Q I h
 refine wpAny_Call_method m.base m.few m.line PySem.F.plainAttrs_dict PySem.F.slot_dict_get PySem.F.type_dict_get (thn (ho pins s σ H _ I h) fun u s1 ⟨x,H1,I1,rx,a,ex,d,q1⟩=>?_)
 subst ex
 obtain rfl:u = Value.ref a:=rx
 obtain ⟨t1,t2,_⟩:=Q7e I1 d
 refine ⟨t1,t2,?_⟩
 rw [m.trees]
 refine Calls.callWith_builtin rfl (Calls.evalArgs_plain (Calls.spliced_cons (thn (he pins s1 σ H1 _ I1 q1) fun iv s2 ⟨y,H2,I2,ry,ov,g,q2⟩=>Calls.spliced_nil ?_)))
 exact Q7f hu I2 g ry fun w' s3 I3 rw'=>⟨_,H2,I3,rw',q2⟩
end
section
variable {X:Cx} {pins:List (Addr × Obj)} {σ:St} {H:Hp} {s:Shared} {a:Addr} {kvs:List (Key × V)} {A:Around} {E:Value → Shared → Prop}
end
section
variable {X:Cx} {pins:List (Addr × Obj)} {σ:St} {H:Hp} {s:Shared} {a:Addr} {y:V} {u:Value} {A:Around} {E:Value → Shared → Prop}
end
noncomputable def Qi5 (env:Env):List (Str × NameKind) → List (Str × Addr) → List (Str × Addr)
 | [],acc=>acc
 | (n,k) :: r,acc=>if k == .free then Qi5 env r ((n,(env.cells.lookup n).getD 0) :: acc) else Qi5 env r acc
theorem Qij {env:Env}:∀ (names:List (Str × NameKind)) (acc:List (Str × Addr)),(∀ x ∈ names,x.2 = .free → ∃ c,env.cells.lookup x.1 = some c) →
  (forIn names acc (fun (x:Str × NameKind) (cs:List (Str × Addr))=>(if (x.2 == .free) = true then do let a ← cellOf env x.1; pure (ForInStep.yield ((x.1,a) :: cs)) else pure (ForInStep.yield cs):Sem (ForInStep (List (Str × Addr)))))) = (pure (Qi5 env names acc):Sem (List (Str × Addr)))
 | [],acc,_=>by rw [List.forIn_nil]; rfl
 | (n,k) :: r,acc,h=>by
  have hr:∀ x ∈ r,x.2 = .free → ∃ c,env.cells.lookup x.1 = some c:=fun x hx=>h x (List.mem_cons_of_mem _ hx)
  rw [List.forIn_cons]
  unfold Qi5
  by_cases hk:(k == NameKind.free) = true
  ·obtain ⟨c,hc⟩:=h (n,k) List.mem_cons_self (by simpa using hk)
   have hc':env.cells.lookup n = some c:=hc
   rw [if_pos hk]
   simp only [hk,if_true,cellOf,hc',pure_bind,Option.getD_some]
   exact Qij r _ hr
  ·rw [if_neg hk]
   simp only [hk,if_false,pure_bind,Bool.false_eq_true]
   exact Qij r _ hr
theorem Qs3 {env:Env} {scope:Scope} (h:∀ x ∈ scope.names,x.2 = .free → ∃ c,env.cells.lookup x.1 = some c):closureFor scope env = pure (Qi5 env scope.names []):=by
 have q:=Qij (env:=env) scope.names [] h
 unfold closureFor
 simp only [bind_pure_comp] at q ⊢
 have e:(fun (x:Str × NameKind) (r:List (Str × Addr))=>(if (x.2 == NameKind.free) = true then (fun a=>ForInStep.yield ((x.1,a) :: r)) <$> cellOf env x.1 else pure (ForInStep.yield r):Sem (ForInStep (List (Str × Addr))))) = (fun (x:Str × NameKind) (cs:List (Str × Addr))=>(match x with | (name,kind)=>if (kind == NameKind.free) = true then (fun a=>ForInStep.yield ((name,a) :: cs)) <$> cellOf env name else pure (ForInStep.yield cs):Sem (ForInStep (List (Str × Addr))))):=by
  funext x cs
  obtain ⟨n,k⟩:=x
  rfl
 rw [e] at q
 simpa using q
theorem Qbz {env:Env} {x:Str} {c:Addr}:∀ (names:List (Str × NameKind)) (acc:List (Str × Addr)),(∀ y ∈ names,y.2 = .free → ∃ c,env.cells.lookup y.1 = some c) → (Qi5 env names acc).lookup x = some c →
  acc.lookup x = some c ∨ env.cells.lookup x = some c
 | [],acc,_,h=>.inl h
 | (n,k) :: r,acc,hf,h=>by
  have hr:∀ x ∈ r,x.2 = .free → ∃ c,env.cells.lookup x.1 = some c:=fun x hx=>hf x (List.mem_cons_of_mem _ hx)
  unfold Qi5 at h
  by_cases hk:(k == NameKind.free) = true
  ·rw [if_pos hk] at h
   obtain ⟨d,hd⟩:=hf (n,k) List.mem_cons_self (by simpa using hk)
   have hd':env.cells.lookup n = some d:=hd
   rcases Qbz r _ hr h with q | q
   ·rw [List.lookup_cons,hd'] at q
    by_cases hx:(x == n) = true
    ·rw [hx] at q
     have e:x = n:=by simpa using hx
     subst e
     simp only [Option.getD_some] at q
     exact .inr (hd'.trans q)
    ·have hx':(x == n) = false:=by simpa using hx
     rw [hx'] at q
     exact .inl q
   ·exact .inr q
  ·rw [if_neg hk] at h
   exact Qbz r _ hr h
theorem Qi6 {env:Env} {x:Str}:∀ (names:List (Str × NameKind)) (acc:List (Str × Addr)),((x,NameKind.free) ∈ names ∨ ∃ c,acc.lookup x = some c) → ∃ c,(Qi5 env names acc).lookup x = some c
 | [],acc,h=>by
  rcases h with h | h
  ·cases h
  ·exact h
 | (n,k) :: r,acc,h=>by
  unfold Qi5
  by_cases hk:(k == NameKind.free) = true
  ·rw [if_pos hk]
   refine Qi6 r _ ?_
   by_cases hx:(x == n) = true
   ·exact .inr ⟨_,by rw [List.lookup_cons,hx]⟩
   ·have hx':(x == n) = false:=by simpa using hx
    rcases h with h | ⟨c,h⟩
    ·rcases List.mem_cons.mp h with e | h
     ·cases e; simp at hx
     ·exact .inl h
    ·exact .inr ⟨c,by rw [List.lookup_cons,hx']; exact h⟩
  ·rw [if_neg hk]
   refine Qi6 r _ ?_
   rcases h with h | h
   ·rcases List.mem_cons.mp h with e | h
    ·cases e; simp at hk
    ·exact .inl h
   ·exact .inr h
theorem Qb3 {x:Str} {c:Addr}:∀ (names:List (Str × NameKind)) (n:Nat) (acc:List (Str × Addr)),(cellsFrom n names acc).lookup x = some c → acc.lookup x = some c ∨ (n ≤ c ∧ (x,NameKind.cell) ∈ names)
 | [],_,_,h=>.inl h
 | (y,k) :: r,n,acc,h=>by
  unfold cellsFrom at h
  by_cases hk:(k == NameKind.cell) = true
  ·rw [if_pos hk] at h
   have hk':k = .cell:=by simpa using hk
   rcases Qb3 r _ _ h with q | ⟨q1,q2⟩
   ·rw [List.lookup_cons] at q
    by_cases hx:(x == y) = true
    ·rw [hx] at q
     cases q
     exact .inr ⟨Nat.le_refl _,by rw [show x = y by simpa using hx,hk']; exact List.mem_cons_self⟩
    ·rw [show (x == y) = false by simpa using hx] at q
     exact .inl q
   ·exact .inr ⟨by omega,List.mem_cons_of_mem _ q2⟩
  ·rw [if_neg hk] at h
   rcases Qb3 r _ _ h with q | ⟨q1,q2⟩
   ·exact .inl q
   ·exact .inr ⟨q1,List.mem_cons_of_mem _ q2⟩
theorem Qdi {x:Str} {c:Addr}:∀ (names:List (Str × NameKind)) (n:Nat) (acc:List (Str × Addr)),(x,NameKind.cell) ∈ names → (cellsFrom n names acc).lookup x = some c → n ≤ c
 | [],_,_,h,_=>by cases h
 | (y,k) :: r,n,acc,hm,h=>by
  unfold cellsFrom at h
  by_cases hk:(k == NameKind.cell) = true
  ·rw [if_pos hk] at h
   by_cases hx:(x == y) = true
   ·rcases Qb3 r _ _ h with q | ⟨q1,q2⟩
    ·rw [List.lookup_cons,hx] at q
     cases q
     exact Nat.le_refl _
    ·omega
   ·rcases List.mem_cons.mp hm with e | hm
    ·cases e; simp at hx
    ·have:=Qdi r _ _ hm h
     omega
  ·rw [if_neg hk] at h
   rcases List.mem_cons.mp hm with e | hm
   ·cases e; simp at hk
   ·exact Qdi r _ _ hm h
theorem Qe7:∀ (names:List (Str × NameKind)) (n:Nat) (acc:List (Str × Addr)),(∀ x c,acc.lookup x = some c → c < n) → (∀ x y c,acc.lookup x = some c → acc.lookup y = some c → x = y) →
  ∀ x y c,(cellsFrom n names acc).lookup x = some c → (cellsFrom n names acc).lookup y = some c → x = y
 | [],_,_,_,hi=>hi
 | (z,k) :: r,n,acc,hb,hi=>by
  unfold cellsFrom
  by_cases hk:(k == NameKind.cell) = true
  ·rw [if_pos hk]
   refine Qe7 r (n + 1) _ (fun x c h=>?_) (fun x y c h1 h2=>?_)
   ·rw [List.lookup_cons] at h
    by_cases hx:(x == z) = true
    ·rw [hx] at h; cases h; exact Nat.lt_succ_self _
    ·rw [show (x == z) = false by simpa using hx] at h
     exact Nat.lt_succ_of_lt (hb x c h)
   ·rw [List.lookup_cons] at h1 h2
    by_cases hx:(x == z) = true
    ·rw [hx] at h1; cases h1
     by_cases hy:(y == z) = true
     ·rw [show x = z by simpa using hx,show y = z by simpa using hy]
     ·rw [show (y == z) = false by simpa using hy] at h2
      exact absurd (hb y n h2) (Nat.lt_irrefl _)
    ·rw [show (x == z) = false by simpa using hx] at h1
     by_cases hy:(y == z) = true
     ·rw [hy] at h2; cases h2
      exact absurd (hb x n h1) (Nat.lt_irrefl _)
     ·rw [show (y == z) = false by simpa using hy] at h2
      exact hi x y c h1 h2
  ·rw [if_neg hk]
   exact Qe7 r n acc hb hi
theorem Qdd {names:List (Str × NameKind)}:∀ (names:List (Str × NameKind)) (h:Heap) (acc:List (Str × Addr)),(∀ x c,acc.lookup x = some c → ∃ v,h.IsCell c v) → ∀ x c,(cellsFrom h.objs.size names acc).lookup x = some c → ∃ v,(pushCells h names).IsCell c v
 | [],_,_,hi=>hi
 | (z,k) :: r,h,acc,hi=>by
  unfold cellsFrom pushCells
  by_cases hk:(k == NameKind.cell) = true
  ·rw [if_pos hk,if_pos hk]
   have q:=Qdd (names:=names) r (h.push { cls:=.type "cell",data:=.cell none }) ((z,h.objs.size) :: acc) (fun x c hx=>by
    rw [List.lookup_cons] at hx
    by_cases hz:(x == z) = true
    ·rw [hz] at hx; cases hx
     exact ⟨none,⟨_,Heap.get?_push_size _ rfl,rfl⟩⟩
    ·rw [show (x == z) = false by simpa using hz] at hx
     obtain ⟨v,w⟩:=hi x c hx
     exact ⟨v,w.keeps fun b o e=>Heap.get?_push_of_some _ e⟩)
   rwa [Heap.size_push] at q
  ·rw [if_neg hk,if_neg hk]
   exact Qdd (names:=names) r h acc hi
theorem Qqv {M:Model} {A:Around} {E:Value → Shared → Prop} {s:Shared} {scope:Scope} {globals:Addr} {cl:List (Str × Addr)} {qual:Str} {env:Env} {Q:Env → Shared → Prop}
  (hQ:Q { scope:=scope,locals:=s.heap.objs.size,globals:=globals,cells:=cellsFrom (s.heap.objs.size + 1) scope.names cl,qual:=qual,func:=none,code:=env.code,frame:=env.frame,builtins:=env.builtins } { s with heap:=pushCells (s.heap.push { cls:=.type "dict",data:=.dict #[] }) scope.names }) :
  wpAny M A (newFunctionEnv scope globals cl [] qual none .none (some env)) Q E s:=by
 simp only [newFunctionEnv,Option.isSome_some,if_true]
 refine wpAny_bind (wpAny_alloc ?_)
 refine wpAny_bind (wpAny_layCells _ (fun name kind cells=>by cases hkc:kind == NameKind.cell <;> simp [hkc]) _ _ _ _ ?_)
 rw [show ({ s with heap:=s.heap.push { cls:=.type "dict",data:=.dict #[] } }:Shared).heap.objs.size = s.heap.objs.size + 1 from Heap.size_push ..]
 simp only [List.forIn_nil,pure_bind]
 exact wpAny_pure hQ
theorem Qot {prog:Program} {w:World} {A:Around} {R:Result → Shared → Prop} {s:Shared} {elt target iter:Expr} {ifs:List Expr} {scope:Scope} {pos:Pos} {it acc:Value} {env:Env} (I:Nat → Shared → Prop)
  (turn:∀ n s,I n s → wpAny (model prog w) A (pyNext it) (fun r s1=>match r with
   | none=>R (.ok .next) s1
   | some v=>wpAny (model prog w) A (letOwnedTupleGo target it v) (fun _ s1'=>wpAny (model prog w) A (assign target env v) (fun _ s2 =>
     wpAny (model prog w) A (forIn ifs true fun c r=>if r = true then do let ok ← isTrue c env (eval c env); pure (ForInStep.yield ok) else pure (ForInStep.yield r)) (fun ok s3 =>
      if ok = true then wpAny (model prog w) A (eval elt env) (fun x s4 =>
       wpAny (model prog w) A (call (.builtin "list.append") [acc,x]) (fun _ s5=>∃ m,m < n ∧ I m s5) (fun _ _=>False) s4) (fun _ _=>False) s3
      else ∃ m,m < n ∧ I m s3) (fun _ _=>False) s2) (fun _ _=>False) s1') (fun _ _=>False) s1) (fun _ _=>False) s)
  (n:Nat) (h:I n s) :
  codeAny (model prog w) A (.compLoop (.ListComp elt [⟨target,iter,ifs,0⟩] scope pos) 0 it acc env) R s:=by
 refine codeAny_loop rfl I (fun n s hI=>?_) n h
 show wpAny _ A ((compTurn (.ListComp elt [⟨target,iter,ifs,0⟩] scope pos) 0 it acc env).onRaise (fun x=>do noteFrame x env; theTreesLotGoes x)) _ _ s
 refine wpAny_noted ?_
 rw [compTurn_list]
 refine wpAny_bind (wpAny_standAt (wpAny_bind (wpAny_mono (turn n s hI) (fun r s1 h1=>?_) fun _ _ h'=>h'.elim)))
 cases r with
 | none=>exact wpAny_pure h1
 | some v =>
  refine wpAny_bind (wpAny_mono h1 (fun _ s1' h1'=>wpAny_bind (wpAny_mono h1' (fun _ s2 h2=>wpAny_bind (wpAny_mono h2 (fun ok s3 h3=>?_) fun _ _ h'=>h'.elim)) fun _ _ h'=>h'.elim)) fun _ _ h'=>h'.elim)
  cases ok with
  | false=>exact wpAny_pure ⟨rfl,h3⟩
  | true =>
   exact wpAny_bind (wpAny_bind (wpAny_mono h3 (fun x s4 h4=>wpAny_bind (wpAny_mono h4 (fun _ s5 h5=>wpAny_pure (wpAny_pure ⟨rfl,h5⟩)) fun _ _ h'=>h'.elim)) fun _ _ h'=>h'.elim))
noncomputable def Qa7 (X:Cx) (scope:Scope) (N:List Str) (s:Shared) (H:Hp) (fp:List Addr):Cx where
 prog:=X.prog
 w:=X.w
 K:=X.K
 mg:=X.mg
 base:=X.base
 A:=X.A
 N:=N
 s₀:=s
 H₀:=H
 env:={ scope:=relabel scope X.env,locals:=s.heap.objs.size,globals:=X.env.globals,cells:=cellsFrom (s.heap.objs.size + 1) scope.names (Qi5 X.env scope.names []),qual:=X.env.qual,func:=none,code:=X.env.code,frame:=X.env.frame,builtins:=X.env.builtins }
 outer:=X.stack
 stack:=X.stack
 ex:=fp
 fn:=fun x=>decide ((x,NameKind.cell) ∈ scope.names)
 calm:=X.calm
 pn:=[]
 xe:=fun _ _=>False
noncomputable def Qfm (js:List (Option Nat)) (σ:St):St:=js.map fun o=>match o with | none=>none | some j=>(σ[j]?).join
noncomputable def Qnx (X:Cx) (scope:Scope) (N:List Str) (js:List (Option Nat)):Bool :=
 (N.length == js.length) && (N.zip js).all fun p=>match p.2 with
  | none=>true
  | some j=>X.N[j]? == some p.1 && (scope.names.lookup p.1 == some .free && (X.env.scope.names.lookup p.1 == some .cell || X.env.scope.names.lookup p.1 == some .free))
noncomputable def scOk (X:Cx) (scope:Scope):Bool :=
 scope.names.all fun p=>(p.2 != .free || (X.env.scope.names.lookup p.1 == some .cell || X.env.scope.names.lookup p.1 == some .free)) && scope.names.lookup p.1 == some p.2
section
variable {X:Cx} {pins:List (Addr × Obj)} {σ:St} {H:Hp} {s:Shared} {scope:Scope}
theorem scOk.get (h:scOk X scope = true) {p:Str × NameKind} (hp:p ∈ scope.names):(p.2 = .free → X.env.scope.names.lookup p.1 = some .cell ∨ X.env.scope.names.lookup p.1 = some .free) ∧ scope.names.lookup p.1 = some p.2:=by
 have q:=List.all_eq_true.mp h p hp
 rw [Bool.and_eq_true] at q
 refine ⟨fun e=>?_,by simpa using q.2⟩
 have q1:=q.1
 rw [e] at q1
 simpa using q1
theorem scOk.cells (I:Inv X pins σ H s) (h:scOk X scope = true):∀ x ∈ scope.names,x.2 = .free → ∃ c,X.env.cells.lookup x.1 = some c:=fun x hx e=>I.ok.has x.1 ((scOk.get h hx).1 e)
theorem scOk.one (h:scOk X scope = true) {x:Str} {k j:NameKind} (e:(x,k) ∈ scope.names) (e':(x,j) ∈ scope.names):k = j:=by
 have q1:=(scOk.get h e).2
 have q2:=(scOk.get h e').2
 exact Option.some.inj (q1.symm.trans q2)
theorem Qjs (I:Inv X pins σ H s) (h:scOk X scope = true) {n:Nat} {x:Str} {c:Addr} (e:(cellsFrom n scope.names (Qi5 X.env scope.names [])).lookup x = some c):X.env.cells.lookup x = some c ∨ (n ≤ c ∧ (x,NameKind.cell) ∈ scope.names):=by
 rcases Qb3 _ _ _ e with q | q
 ·rcases Qbz _ _ (scOk.cells I h) q with z | z
  ·cases z
  ·exact .inl z
 ·exact .inr q
theorem Qc1 {env:Env} {x:Str} {k:NameKind}:∀ {names:List (Str × NameKind)},(names.map fun (n,k)=>if (k == NameKind.free && env.scope.kind == .function && env.kindOf n == some .cell) then (n,NameKind.cell) else (n,k)).lookup x = some k →
  names.lookup x = some k ∨ (k = .cell ∧ names.lookup x = some .free)
 | [],h=>by cases h
 | (n,j) :: r,h=>by
  rw [List.map_cons] at h
  replace h:List.lookup x ((if (j == NameKind.free && env.scope.kind == .function && env.kindOf n == some .cell) = true then (n,NameKind.cell) else (n,j)) :: _) = some k:=h
  by_cases hc:(j == NameKind.free && env.scope.kind == .function && env.kindOf n == some .cell) = true
  ·rw [if_pos hc,List.lookup_cons] at h
   rw [List.lookup_cons]
   by_cases hx:(x == n) = true
   ·rw [hx] at h ⊢
    cases h
    simp only [Bool.and_eq_true] at hc
    exact .inr ⟨rfl,by rw [show j = .free by simpa using hc.1.1]⟩
   ·rw [show (x == n) = false by simpa using hx] at h ⊢
    exact Qc1 h
  ·rw [if_neg hc,List.lookup_cons] at h
   rw [List.lookup_cons]
   by_cases hx:(x == n) = true
   ·rw [hx] at h ⊢
    exact .inl h
   ·rw [show (x == n) = false by simpa using hx] at h ⊢
    exact Qc1 h
theorem Qfn {env:Env} {x:Str}:∀ {names:List (Str × NameKind)},names.lookup x = some .free →
  (names.map fun (n,k)=>if (k == NameKind.free && env.scope.kind == .function && env.kindOf n == some .cell) then (n,NameKind.cell) else (n,k)).lookup x = some .cell ∨
  (names.map fun (n,k)=>if (k == NameKind.free && env.scope.kind == .function && env.kindOf n == some .cell) then (n,NameKind.cell) else (n,k)).lookup x = some .free
 | [],h=>by cases h
 | (n,j) :: r,h=>by
  rw [List.map_cons]
  show List.lookup x ((if (j == NameKind.free && env.scope.kind == .function && env.kindOf n == some .cell) = true then (n,NameKind.cell) else (n,j)) :: _) = some .cell ∨ List.lookup x ((if (j == NameKind.free && env.scope.kind == .function && env.kindOf n == some .cell) = true then (n,NameKind.cell) else (n,j)) :: _) = some .free
  rw [List.lookup_cons] at h
  by_cases hx:(x == n) = true
  ·rw [hx] at h
   cases h
   by_cases hc:(NameKind.free == NameKind.free && env.scope.kind == .function && env.kindOf n == some .cell) = true
   ·rw [if_pos hc,List.lookup_cons,hx]; exact .inl rfl
   ·rw [if_neg hc,List.lookup_cons,hx]; exact .inr rfl
  ·rw [show (x == n) = false by simpa using hx] at h
   by_cases hc:(j == NameKind.free && env.scope.kind == .function && env.kindOf n == some .cell) = true
   ·rw [if_pos hc,List.lookup_cons,show (x == n) = false by simpa using hx]; exact Qfn h
   ·rw [if_neg hc,List.lookup_cons,show (x == n) = false by simpa using hx]; exact Qfn h
theorem Q1x {N:List Str} {fp:List Addr} (I:Inv X pins σ H s) (hk:scope.kind = .function) (h:scOk X scope = true) (hf:∀ b ∈ fp,Qih X pins H b) (ho:∀ b ∈ fp,∃ o,s.heap.get? b = some o ∧ ∀ v,o.data ≠ .cell v):(Qa7 X scope N s H fp).Ok where
 mod:=I.ok.mod
 kind:=hk
 glob:=I.ok.glob
 blt:=I.ok.blt
 above:=Nat.le_refl _
 inj:=fun x y c h1 h2=>Qe7 _ _ _ (fun z c hz=>by
   rcases Qbz _ _ (scOk.cells I h) hz with q | q
   ·cases q
   ·obtain ⟨v,w⟩:=I.cell z c q
    exact Nat.lt_succ_of_lt w.lt) (fun y z c h1 h2=>by
   rcases Qbz _ _ (scOk.cells I h) h1 with q | q
   ·cases q
   ·rcases Qbz _ _ (scOk.cells I h) h2 with q' | q'
    ·cases q'
    ·exact I.ok.inj y z c q q') x y c h1 h2
 has:=fun x hx=>by
  have key:(x,NameKind.cell) ∈ scope.names ∨ (x,NameKind.free) ∈ scope.names:=by
   rcases hx with hx | hx
   ·rcases Qc1 hx with q | ⟨_,q⟩
    ·exact .inl (PySem.mem_of_lookup q)
    ·exact .inr (PySem.mem_of_lookup q)
   ·rcases Qc1 hx with q | ⟨q,_⟩
    ·exact .inr (PySem.mem_of_lookup q)
    ·cases q
  rcases key with q | q
  ·have e:scope.names.lookup x = some .cell:=(scOk.get h q).2
   exact Option.isSome_iff_exists.mp (PySem.W.cellsFrom_some scope.names _ _ (.inl e))
  ·obtain ⟨c,hc⟩:=Qi6 (env:=X.env) scope.names [] (.inl q)
   exact Option.isSome_iff_exists.mp (PySem.W.cellsFrom_some scope.names _ _ (.inr (by rw [hc]; rfl)))
 cab:=fun x c hx hc=>Nat.le_of_succ_le (Qdi _ _ _ (of_decide_eq_true hx) hc)
 hd:=I.ok.hd
 frames:=I.ok.frames
 stk:=.inl rfl
 exf:=fun b hb=>by
  obtain ⟨o,e,d⟩:=ho b hb
  refine ⟨Nat.ne_of_lt (Heap.lt_size e),fun x c hc z=>?_⟩
  rcases Qjs I h hc with q | ⟨q,_⟩
  ·exact (hf b hb).2.2.2.2.1 x c q z
  ·rw [z] at q
   exact absurd (Nat.lt_of_lt_of_le (Heap.lt_size e) (Nat.le_of_succ_le q)) (Nat.lt_irrefl _)
 bs:=I.bs
 bsz:=Nat.le_trans I.ok.bsz I.sz
 noex:=fun b o e hb=>by
  rcases (hf b hb).2.2.2.1 with q | q
  ·exact I.ok.noex b o e q
  ·exact absurd (Nat.lt_of_lt_of_le (Heap.lt_size e) (Nat.le_trans I.ok.bsz q)) (Nat.lt_irrefl _)
 exfs:=fun b hb hs=>by
  rcases List.mem_cons.mp (I.stkSub b hs) with q | q
  ·exact (hf b hb).2.1 q
  ·exact (hf b hb).2.2.1 q
 funs:=I.stack
 frf:=⟨I.stkFree,I.tab⟩
theorem Qx1 {N:List Str} {js:List (Option Nat)} {fp:List Addr} (I:Inv X pins σ H s) (hk:scope.kind = .function) (h:scOk X scope = true) (hc:Qnx X scope N js = true) (hf:∀ b ∈ fp,Qih X pins H b) (ho:∀ b ∈ fp,∃ o,s.heap.get? b = some o ∧ ∀ v,o.data ≠ .cell v) :
  Inv (Qa7 X scope N s H fp) [] (Qfm js σ) H { s with heap:=pushCells (s.heap.push { cls:=.type "dict",data:=.dict #[] }) scope.names }:=by
 have kp:∀ b o,s.heap.get? b = some o → (pushCells (s.heap.push { cls:=.type "dict",data:=.dict #[] }) scope.names).get? b = some o:=fun b o e=>pushCells_keeps _ _ _ _ (Heap.get?_push_of_some _ e)
 have hcap:N.length = js.length ∧ ∀ p ∈ N.zip js,∀ j,p.2 = some j → X.N[j]? = some p.1 ∧ scope.names.lookup p.1 = some .free ∧ (X.env.scope.names.lookup p.1 = some .cell ∨ X.env.scope.names.lookup p.1 = some .free):=by
  unfold Qnx at hc
  rw [Bool.and_eq_true] at hc
  refine ⟨by simpa using hc.1,fun p hp j e=>?_⟩
  have q:=List.all_eq_true.mp hc.2 p hp
  rw [e] at q
  simpa using q
 refine ⟨Q1x I hk h hf ho,rfl,I.bare,Un.kept kp,?_,fun x c e=>?_,I.hok.fresh (Nat.le_refl _),fun x c e=>?_,fun p hp=>absurd (show p ∈ ([]:List (Addr × Obj)) from hp) (by simp),I.hok.kept kp,?_⟩
 ·refine ⟨fun _=>none,(Heap.Ns.new s.heap (.type "dict")).keeps (pushCells_keeps _ _),fun i x v h1 h2 h3=>?_⟩
  obtain ⟨o,ho1,ho2⟩:∃ o,js[i]? = some o ∧ (match o with | none=>none | some j=>(σ[j]?).join) = some v:=by
   unfold Qfm at h2
   rw [List.getElem?_map] at h2
   cases e:js[i]? with
   | none=>rw [e] at h2; cases h2
   | some o=>rw [e] at h2; exact ⟨o,rfl,Option.some.inj h2⟩
  cases o with
  | none=>cases ho2
  | some j =>
   have hz:(x,some j) ∈ N.zip js:=List.mem_of_getElem? (i:=i) (by rw [List.getElem?_zip_eq_some]; exact ⟨h1,ho1⟩)
   obtain ⟨q1,q2,q3⟩:=hcap.2 _ hz j rfl
   have hσ:σ[j]? = some (some v):=by
    have ho2:(σ[j]?).join = some v:=ho2
    cases e:σ[j]? with
    | none=>rw [e] at ho2; cases ho2
    | some w=>rw [e] at ho2; exact congrArg some ho2
   obtain ⟨m,hn,hl⟩:=I.loc
   obtain ⟨u,r,l⟩:=hl j x v q1 hσ (by rcases q3 with z | z; exact .inr (.inl z); exact .inr (.inr z))
   refine ⟨u,r,.inr ⟨Qfn q2,?_⟩⟩
   have fin:∀ c,X.env.cells.lookup x = some c → s.heap.IsCell c (some u) → ∃ c,(cellsFrom (s.heap.objs.size + 1) scope.names (Qi5 X.env scope.names [])).lookup x = some c ∧ (pushCells (s.heap.push { cls:=.type "dict",data:=.dict #[] }) scope.names).IsCell c (some u):=fun c hc hv=>by
    obtain ⟨d,hd⟩:=Qi6 (env:=X.env) scope.names [] (.inl (PySem.mem_of_lookup q2))
    obtain ⟨c',hc'⟩:=Option.isSome_iff_exists.mp (PySem.W.cellsFrom_some scope.names (s.heap.objs.size + 1) (Qi5 X.env scope.names []) (.inr (by rw [hd]; rfl)))
    refine ⟨c',hc',?_⟩
    rcases Qjs I h hc' with z | ⟨_,z⟩
    ·rw [hc] at z; cases z
     exact hv.keeps kp
    ·have:=scOk.one h z (PySem.mem_of_lookup q2)
     cases this
   rcases l with ⟨hk,_⟩ | ⟨_,c,hc,hv⟩
   ·have hk:X.env.scope.names.lookup x = some .local:=hk
    rcases q3 with z | z <;> (rw [z] at hk; cases hk)
   ·exact fin c hc hv
 ·have q:=Qdd (names:=[]) scope.names (s.heap.push { cls:=.type "dict",data:=.dict #[] }) (Qi5 X.env scope.names []) (fun y d hd=>by
   rcases Qbz _ _ (scOk.cells I h) hd with z | z
   ·cases z
   ·obtain ⟨v,w⟩:=I.cell y d z
    exact ⟨v,w.keeps fun b o e=>Heap.get?_push_of_some _ e⟩)
  rw [Heap.size_push] at q
  exact q x c e
 ·rcases Qjs I h e with q | ⟨q,_⟩
  ·rcases I.freeC x c q with z | ⟨_,z⟩
   ·exact .inl z
   ·refine .inr ⟨?_,z⟩
    show decide ((x,NameKind.cell) ∈ scope.names) = false
    refine decide_eq_false fun hx=>?_
    have h1:=Qdi _ _ _ hx e
    obtain ⟨v,w⟩:=I.cell x c q
    exact absurd (Nat.lt_of_lt_of_le (Nat.lt_succ_of_lt w.lt) h1) (Nat.lt_irrefl _)
  ·exact .inl (I.hok.fresh (Nat.le_of_succ_le q))
 ·show (Qfm js σ).length = N.length
  unfold Qfm
  rw [List.length_map,hcap.1]
end
noncomputable def Qaaw (J:It) (l:Addr) (σ:St) (H1:Hp) (g:TG) (tc:TT) (te:TE) (Q:VK):Prop:=∃ W:Nat → Nat → List V → St → Hp → Prop,
 (∃ m,W 0 m [] σ (upd H1 l (.lst []))) ∧ ∀ i m ys σ2 H2,W i m ys σ2 H2 →
  (J.stop i H2 ∧ Q (.ref l) H2) ∨
  (J.go i H2 ∧ ∀ x H3,J.yld i H2 x H3 → g x σ2 H3 fun σ4 H4=>tc σ4 H4 fun b H5 =>
   if b = true then te σ4 H5 fun y H6=>H6 l = some (.lst ys) ∧ ys.length < sizeLine ∧ ∃ m',m' < m ∧ W (i + 1) m' (ys ++ [y]) σ4 (upd H6 l (.lst (ys ++ [y])))
   else ∃ m',m' < m ∧ W (i + 1) m' ys σ4 H5)
noncomputable abbrev Qx2 (wi:TI) (js:List (Option Nat)) (g:TG) (tc:TT) (te:TE):TE:=fun σ H Q=>wi σ H fun J H1=>∀ l,H1 l = none → Qaaw J l (Qfm js σ) H1 g tc te Q
noncomputable def PTs (X:Cx) (ifs:List Expr) (t:TT):Prop :=
 ∀ (pins:List (Addr × Obj)) (s:Shared) (σ:St) (H:Hp) (Q:Bool → Hp → Prop),Inv X pins σ H s → t σ H Q →
  wpAny (model X.prog X.w) X.A (forIn ifs true fun c r=>if r = true then do let ok ← isTrue c X.env (eval c X.env); pure (ForInStep.yield ok) else pure (ForInStep.yield r)) (TP X pins σ Q) X.xe s
noncomputable abbrev tYes:TT:=fun _ H Q=>Q true H
theorem Q1y {X:Cx}:PTs X [] tYes:=fun pins s σ H Q I h=>wpAny_tests_nil ⟨H,I,h⟩
theorem Qx3 {X:Cx} {tg elt iter:Expr} {ifs:List Expr} {scope:Scope} {pos:Pos} {N:List Str} {js:List (Option Nat)} {wi:TI} {g:TG} {tc:TT} {te:TE} (hcalm:X.calm = true)
  (hi:PI X tg iter wi) (hg:∀ s H fp,PG (Qa7 X scope N s H fp) tg g) (hc:∀ s H fp,PTs (Qa7 X scope N s H fp) ifs tc) (he:∀ s H fp,PE (Qa7 X scope N s H fp) elt te)
  (hk:scope.kind = .function:=by rfl) (h1:scOk X scope = true:=by rfl) (h2:Qnx X scope N js = true:=by rfl)
  (hs:∀ x,foldedSetIterable iter X.env x = pure x:=by intro _; rfl):PE X (.ListComp elt [⟨tg,iter,ifs,0⟩] scope pos) (Qx2 wi js g tc te):=by
 intro pins s σ H Q I h
 rw [eval_ListComp]
 refine wpAny_comprehension_free (use:=none) rfl hs (Qs3 (scOk.cells I h1)) hk (fun x hx hl=>by rw [(scOk.get h1 hx).2,hl]) ?_
 refine thn (hi pins s σ H _ I h) fun v s1 h1'=>thn h1' fun itv s2 h2'=>?_
 obtain ⟨it,fp,tn,J,H2,e,I2,T,st2,f2,q⟩:=h2'
 subst e
 refine wpAny_newObj_type ?_
 have hl:H2 s2.heap.objs.size = none:=I2.hok.fresh (Nat.le_refl _)
 obtain ⟨W,⟨m0,w0⟩,turn⟩:=q _ hl
 have I3:Inv X pins σ (upd H2 s2.heap.objs.size (.lst [])) { s2 with heap:=s2.heap.push { cls:=.type "list",data:=.seq ([]:List Value).toArray } }:=I2.lnew (t':=s2.toks) (ys:=[]) .nil (Nat.zero_le _)
 generalize hs3:({ s2 with heap:=s2.heap.push { cls:=.type "list",data:=.seq ([]:List Value).toArray } }:Shared) = s3 at I3
 generalize hH3:upd H2 s2.heap.objs.size (.lst []) = H3 at I3 w0
 generalize hl':s2.heap.objs.size = l at turn hH3 hl
 have kp3:∀ b o,s2.heap.get? b = some o → s3.heap.get? b = some o:=fun b o e=>by rw [← hs3]; exact Heap.get?_push_of_some _ e
 have ob3:∀ b ∈ fp,∃ o,s3.heap.get? b = some o ∧ ∀ v,o.data ≠ .cell v:=fun b hb=>by
  obtain ⟨o,e,d⟩:=T.obj _ _ st2 b hb
  exact ⟨o,kp3 b o e,d⟩
 have f3:∀ b ∈ fp,Qih X pins H3 b:=fun b hb=>by
  obtain ⟨o,e,d⟩:=T.obj _ _ st2 b hb
  refine ⟨?_,(f2 b hb).2⟩
  rw [← hH3,Q3 (Nat.ne_of_lt (by rw [← hl']; exact Heap.lt_size e))]
  exact (f2 b hb).1
 refine Qqv ?_
 have I4:=Qx1 (N:=N) (js:=js) I3 hk h1 h2 f3 ob3
 have st4:tn 0 (pushCells (s3.heap.push { cls:=.type "dict",data:=.dict #[] }) scope.names):=T.keep _ _ _ st2 fun b hb o e=>pushCells_keeps _ _ _ _ (Heap.get?_push_of_some _ (kp3 b o e))
 have fr4:∀ b ∈ fp,H3 b = none:=fun b hb=>(f3 b hb).1
 have fpX:∀ {H':Hp},(∀ b ∈ fp,H' b = none) → ∀ b ∈ fp,Qih (Qa7 X scope N s3 H3 fp) [] H' b:=fun hn b hb=>by
  have ok:=I4.ok
  refine ⟨hn b hb,(ok.exf b hb).1,ok.exfs b hb,.inl hb,(ok.exf b hb).2,fun p hp=>absurd (show p ∈ ([]:List (Addr × Obj)) from hp) (by simp)⟩
 -- the block's end
 have fin:∀ {σ':St} {H':Hp} {s':Shared},Inv (Qa7 X scope N s3 H3 fp) [] σ' H' s' → Q (.ref l) H' → compPost (model X.prog X.w) X.A X.xe none (EP X pins σ Q) (.ref l) s3.heap.objs.size (.ok .next) s':=fun {σ' H' s'} I' q'=>by
  obtain ⟨m,hn,_⟩:=id I'.loc
  refine ⟨m,hn,fun h' hsb=>⟨.ref l,H',?_,rfl,q'⟩⟩
  have hfr:H' s3.heap.objs.size = none:=I'.free
  refine I3.call' (s':={ s' with heap:=h' }) (ch:=fp) I'.os ⟨fun b o e n hb hx=>?_,fun b o e n hb hx=>?_,I'.base.free,fun b o e hx=>?_,I'.base.tups,I'.base.frzs,I'.base.tbls⟩ (fun b u e=>?_) I'.bare (fun b hb=>⟨(f3 b hb).2.2.2.1,(f3 b hb).2.1,(f3 b hb).2.2.2.2.1,(f3 b hb).2.2.2.2.2⟩)
  ·exact (hsb.2 b (Nat.ne_of_lt (Heap.lt_size e))).trans (I'.base.keep b o e n hb hx)
  ·obtain ⟨sl,z⟩:=I'.base.slot b o e n hb hx
   exact ⟨sl,(hsb.2 b (Nat.ne_of_lt (Heap.lt_size e))).trans z⟩
  ·obtain ⟨o',z⟩:=I'.base.there b o e hx
   exact ⟨o',(hsb.2 b (Nat.ne_of_lt (Heap.lt_size e))).trans z⟩
  ·refine (I'.hok b u e).stay (fun c w' hc z=>(hsb.2 c ?_).trans z) (fun _ z=>z) fun _ _ z=>z
   rintro rfl
   rcases hc with rfl | hc
   ·rw [hfr] at e; cases e
   ·rw [hfr] at hc; cases hc
 have loop:codeAny (model X.prog X.w) X.A (.compLoop (.ListComp elt [⟨tg,iter,ifs,0⟩] scope pos) 0 (.ref it) (.ref l) (Qa7 X scope N s3 H3 fp).env) (compPost (model X.prog X.w) X.A X.xe none (EP X pins σ Q) (.ref l) s3.heap.objs.size)
   { s3 with heap:=pushCells (s3.heap.push { cls:=.type "dict",data:=.dict #[] }) scope.names }:=by
  refine Qot (fun n s'=>∃ i ys σ' H',Inv (Qa7 X scope N s3 H3 fp) [] σ' H' s' ∧ tn i s'.heap ∧ (∀ b ∈ fp,H' b = none) ∧ W i n ys σ' H') ?_ m0 ⟨0,[],Qfm js σ,H3,I4,st4,fr4,w0⟩
  rintro n s5 ⟨i,ys,σ5,H5,I5,st5,fr5,w5⟩
  rcases turn i n ys σ5 H5 w5 with ⟨stop,qn⟩ | ⟨go,step⟩
  ·refine thn (T.done (Qa7 X scope N s3 H3 fp) rfl rfl rfl hcalm i [] s5 σ5 H5 _ I5 (fpX fr5) st5 stop) fun r s6 ⟨hr,I6⟩=>?_
   subst hr
   exact fin I6 qn
  ·refine thn (T.item (Qa7 X scope N s3 H3 fp) rfl rfl rfl hcalm i [] s5 σ5 H5 _ I5 (fpX fr5) st5 go) fun r s6 ⟨u,hr,h6⟩=>?_
   subst hr
   refine thn h6 fun _ s7 ⟨x,H7,I7,r7,y7,st7,fr7⟩=>?_
   have I7':=I7.pinned (fpX fr7) (T.obj _ _ st7)
   have again:∀ {σ8:St} {H8:Hp} {s8:Shared} {ys8:List V},Inv (Qa7 X scope N s3 H3 fp) ([] ++ Qlc fp s7.heap) σ8 H8 s8 → (∃ m',m' < n ∧ W (i + 1) m' ys8 σ8 H8) →
     ∃ m,m < n ∧ ∃ i ys σ' H',Inv (Qa7 X scope N s3 H3 fp) [] σ' H' s8 ∧ tn i s8.heap ∧ (∀ b ∈ fp,H' b = none) ∧ W i m ys σ' H':=fun {σ8 H8 s8 ys8} I8 ⟨m',hm,w8⟩=>by
    refine ⟨m',hm,i + 1,ys8,σ8,H8,I8.unpinned,T.keep _ _ _ st7 fun b hb o e=>(I8.pin (b,o) (List.mem_append_right _ (List.mem_append_right _ (Qfl hb e)))).1,fun b hb=>?_,w8⟩
    obtain ⟨o,e,d⟩:=T.obj _ _ st7 b hb
    exact (I8.pin (b,o) (List.mem_append_right _ (List.mem_append_right _ (Qfl hb e)))).2.1
   refine thn (hg s3 H3 fp _ s7 σ5 H7 x u _ I7' r7 (step x H7 y7)) fun _ s8 ⟨σ8,H8,I8,q8⟩=>?_
   refine thn (hc s3 H3 fp _ s8 σ8 H8 _ I8 q8) fun ok s9 ⟨H9,I9,q9⟩=>?_
   cases ok with
   | false =>
    rw [if_neg Bool.false_ne_true] at q9 ⊢
    exact again I9 q9
   | true =>
    rw [if_pos rfl] at q9 ⊢
    refine thn (he s3 H3 fp _ s9 σ8 H9 _ I9 q9) fun y s10 ⟨vy,H10,I10,r10,a10,z10,q10⟩=>?_
    refine thn (Qnt (X:=Qa7 X scope N s3 H3 fp) _ s10 σ8 H10 (.ref l) [vy] (.ref l) [y] (fun _ H'=>∃ m',m' < n ∧ W (i + 1) m' (ys ++ [vy]) σ8 H') I10 rfl (.cons r10 .nil) ⟨l,ys,vy,rfl,rfl,a10,z10,q10⟩) fun _ s11 ⟨_,H11,I11,_,q11⟩=>?_
    exact again I11 q11
 first
  | exact codeAny_compStart_list loop (T.self _ 0 _ _ _ st4 loop)
  | (rw [← hs3] at loop st4
     exact codeAny_compStart_list loop (T.self _ 0 _ _ _ st4 loop))
section
variable {X:Cx}
theorem Qqw:CallR X (.builtin "isinstance") (fun xs H Q=>∃ x T t b,xs = [x,.ty T] ∧ TyOf X.K H x t ∧ PySem.W.kitOne X.K t (.type T) = some b ∧ Q (.bl b) H):=by
 intro pins s σ H xs us Q I r h
 obtain ⟨x,T,t,b,rfl,ty,e,q⟩:=h
 obtain ⟨u,w',rfl,rx,ry⟩:=Qxr r
 obtain rfl:w' = Value.type T:=ry
 exact Qv6 I rx ty e fun tk=>⟨.bl b,H,I.tok _,rfl,q⟩
noncomputable def Qqx:V → Bool
 | .bl b=>b
 | .int i=>i != 0
 | _=>false
noncomputable def Qqy:V → Bool
 | .bl _=>true
 | .int _=>true
 | .non=>true
 | _=>false
theorem Qx4 {A:Around} {s:Shared} {x:V} {v:Value} {Q:Bool → Shared → Prop} {E:Value → Shared → Prop} (r:RelV x v) (f:Qqy x = true) (h:Q (Qqx x) s):wpAny (model X.prog X.w) A (truthy v) Q E s:=by
 cases x with
 | bl b=>cases r; exact wpAny_truthy_bool h
 | int i=>obtain ⟨t,rfl⟩:=r; exact truthy_int h
 | non=>cases r; exact truthy_none h
 | _=>exact absurd (show false = true from f) Bool.false_ne_true
theorem Qs4 {α:Type} (f:α → Bool) (d:α) (xs:List α):((List.range xs.length).all fun i=>f (xs.getD i d)) = xs.all f:=by
 rw [Bool.eq_iff_iff,List.all_eq_true,List.all_eq_true]
 constructor
 ·intro h x hx
  obtain ⟨i,hi,rfl⟩:=List.getElem_of_mem hx
  have:=h i (List.mem_range.mpr hi)
  rwa [List.getD_eq_getElem?_getD,List.getElem?_eq_getElem hi,Option.getD_some] at this
 ·intro h i hi
  have hi:=List.mem_range.mp hi
  rw [List.getD_eq_getElem?_getD,List.getElem?_eq_getElem hi,Option.getD_some]
  exact h _ (List.getElem_mem hi)
theorem Qx5 (hc:X.calm = true):CallR X (.builtin "all") (fun xs H Q=>∃ p ys,xs = [.ref p] ∧ SqL X.K H p ys ∧ ys.all Qqy = true ∧ Q (.bl (ys.all Qqx)) H):=by
 intro pins s σ H xs us Q I r h
 obtain ⟨p,ys,rfl,hq,hf,q⟩:=h
 obtain ⟨u,rfl,rx⟩:=Qib r
 cases rx
 obtain ⟨its,r',pl,hz⟩:=I.list hq
 have hlt:p < s.heap.objs.size:=by obtain ⟨_,e,_⟩:=pl.isList; exact Heap.lt_size e
 have hlen:=r'.length
 refine call_all_walk (wpAny_pyIter_list pl.isList ?_)
 refine ⟨s.heap.objs.size,[s.heap.objs.size,p],[s.heap.objs.size],its.toArray.size,_,_,fun i=>Qqx (ys.getD i .non),rfl,Walks.list (A:=X.A.in1) (I.ok.hd hc) _ p (Nat.ne_of_lt hlt) its.toArray,
  ⟨⟨_,Heap.get?_push_size _ rfl,rfl,rfl⟩,pl.isList.push _⟩,fun i v s' Q' E' hP hQ=>?_,fun h' tk hk=>?_⟩
 ·have hi:its[i]? = some v:=by simpa using hP
  have hy:∃ y,ys[i]? = some y:=by
   have:=(List.getElem?_eq_some_iff.mp hi).1
   exact ⟨ys[i],List.getElem?_eq_getElem (by omega)⟩
  obtain ⟨y,hy⟩:=hy
  obtain ⟨v',hv',rv⟩:=r'.get hy
  rw [hi] at hv'; cases hv'
  refine Qx4 (X:=X) rv (List.all_eq_true.mp hf y (List.mem_of_getElem? hy)) ?_
  have hQ:Q' (Qqx (ys.getD i V.non)) s':=hQ
  rw [List.getD_eq_getElem?_getD,hy,Option.getD_some] at hQ
  exact hQ
 ·rw [List.size_toArray,← hlen,Qs4]
  exact ⟨.bl _,H,I.kept fun b x e=>hk b x (fun hm=>by rw [List.mem_singleton.mp hm] at e; exact Nat.lt_irrefl _ (Heap.lt_size e)) (Heap.get?_push_of_some _ e),rfl,q⟩
theorem Qwc (hc:X.calm = true):CallR X (.builtin "max") (fun xs H Q=>∃ (p:Addr) (ns:List Int),xs = [.ref p] ∧ SqL X.K H p (ns.map V.int) ∧ ns ≠ [] ∧ ∀ M,M ∈ ns → (∀ a ∈ ns,a ≤ M) → Q (.int M) H):=by
 intro pins s σ H xs us Q I r h
 obtain ⟨p,ns,rfl,hq,hne,q⟩:=h
 obtain ⟨u,rfl,rx⟩:=Qib r
 cases rx
 obtain ⟨its,r',pl,hz⟩:=I.list hq
 have hi:IntsAre its ns:=Qle r'
 obtain ⟨xs,e⟩:=hi.allInts.items
 have hns:ns = xs.toList.map (·.1):=by rw [← hi.numsOf,← nums_intItems,← e]
 have hsz:0 < xs.size:=by
  have h3:0 < ns.length:=List.length_pos_iff.mpr hne
  rw [hns,List.length_map,Array.length_toList] at h3; exact h3
 have hl:=pl.isList
 rw [e] at hl
 refine max_intList (I.ok.hd hc) hl hsz fun v h' tk hv hk=>?_
 obtain ⟨t,rfl⟩:=intItems_at hv
 obtain ⟨h1,h2⟩:=argBest_gt (numAt xs) (xs.size - 1)
 refine ⟨.int _,H,I.kept hk,⟨t,rfl⟩,q _ ?_ fun a ha=>?_⟩
 ·rw [hns,numAt_eq]; exact getD_mem (by rw [List.length_map,Array.length_toList]; omega)
 ·rw [hns] at ha
  obtain ⟨j,hj,rfl⟩:=mem_getD ha
  rw [List.length_map,Array.length_toList] at hj
  rw [← numAt_eq]; exact h2 j (by omega)
theorem Qwd (hc:X.calm = true):CallR X (.builtin "sum") (fun xs H Q=>∃ (p:Addr) (ns:List Int),xs = [.ref p] ∧ SqL X.K H p (ns.map V.int) ∧ Q (.int ns.sum) H):=by
 intro pins s σ H xs us Q I r h
 obtain ⟨p,ns,rfl,hq,q⟩:=h
 obtain ⟨u,rfl,rx⟩:=Qib r
 cases rx
 obtain ⟨its,r',pl,hz⟩:=I.list hq
 have hi:IntsAre its ns:=Qle r'
 obtain ⟨xs,hx⟩:=hi.allInts.items
 have hl':s.heap.IsList p (intItems xs):=hx ▸ pl.isList
 refine sum_intListG (I.ok.hd hc) hl' fun h' tk t' hk=>?_
 have e1:ns = xs.toList.map (·.1):=by
  rw [← nums_intItems,← hx]
  exact (show numsOf its.toArray.toList = ns from hi.numsOf).symm
 have e2:preSum (numAt xs) xs.size = ns.sum:=by
  rw [preSum_eq,List.take_of_length_le (by simp),e1]
 rw [e2]
 exact ⟨.int _,H,I.kept hk,⟨t',rfl⟩,q⟩
end
open PySem.AutoSeq1 (wpAny_loadPart')
theorem Same.upd {H:Hp} {a:Addr} {o:HO} (h:H a = none):Same H (upd H a o):=fun b u e=>by rw [Q3 (Qbj e h)]; exact e
theorem Qou (l:Addr) (items:Array Value) (n:Nat) (b:Addr) (items2:Array Value) (n2:Nat) (dd:Option Addr) (sl:Array (Option Value)) (hs0:¬(!items.isEmpty && Builtin.List.listTooLong (items.size + items2.size)) = true) (hs1:items.size ≤ sizeLine) (hs2:items.size + items2.size ≤ sizeLine + 1) :
  Meets (Builtin.«list.extend» ⟨[.ref l,.ref b],[]⟩) (fun _ R s=>s.heap.get? l = some { cls:=.type "list",dict:=none,data:=.seq items n,slots:=#[] } ∧ s.heap.get? b = some { cls:=.type "tuple",dict:=dd,data:=.seq items2 n2,slots:=sl } ∧ R (.ok (.ret Value.none)) { s with heap:=s.heap.update l (Obj.mapSeq fun x=>x ++ items2),toks:=s.toks }) :=
 .of_wp fun prog w A R s h=>by
  obtain ⟨hp,g,d,tk,os⟩:=s; obtain ⟨hl,hb,h⟩:=h; have f1:=AutoSeq1.idx_int; have f2:=AutoSeq1.sub_tuple_tuple; have f3:=AutoSeq1.sub_list_list; have f4:=AutoSeq1.sub_tuple_list; have f5:=AutoSeq1.sub_list_tuple
  have hz':(items ++ items2).size ≤ sizeLine + 1:=by rw [Array.size_append]; exact hs2
  wp_walk using (wpAny_updateSeq hl rfl (hz:=hs1) (_hz':=hz')),wpAny_loadPart' hl,wpAny_loadPart' hb; exact ⟨_,rfl,h⟩
theorem Qs5 (l:Addr) (items:Array Value) (n:Nat) (x:Int) (u:Tok) (dd:Option Addr) (sl:Array (Option Value)) (h0:¬ (x < -(2 ^ 63) || x ≥ 2 ^ 63) = true) (h1:¬ (items.isEmpty || x == 1) = true) (h2:¬ (x ≤ 0 || items.isEmpty) = true) (h3:¬ items.size * x > (2 ^ 63 - 1) / 8) (h4:¬ Builtin.Tuple.tupleTooMany (items.size * x) = true)
  (hz:(List.foldl (fun x1 x2=>x1 ++ x2) #[] (List.replicate x.toNat items)).size ≤ sizeLine) :
  Meets (Builtin.«tuple.__mul__» ⟨[.ref l,.int x u],[]⟩) (fun _ R s=>s.heap.get? l = some { cls:=.type "tuple",dict:=dd,data:=.seq items n,slots:=sl } ∧ R (.ok (.ret (Value.ref s.heap.objs.size))) { s with heap:=s.heap.push { cls:=Value.type "tuple",data:=Data.seq (List.foldl (fun x1 x2=>x1 ++ x2) #[] (List.replicate x.toNat items)) },toks:=s.toks }) :=
 .of_wp fun prog w A R s h=>by
  obtain ⟨hp,g,d,tk,os⟩:=s; obtain ⟨hl,h⟩:=h; have f1:=AutoSeq1.idx_int
  wp_walk using wpAny_loadPart' hl
  rw [if_neg h0]
  wp_walk using wpAny_loadPart' hl
  rw [if_neg h3]
  wp_walk using wpAny_loadPart' hl
  exact ⟨_,rfl,h⟩
theorem Qqz (l:Addr) (items:Array Value) (n:Nat) (x:Int) (u:Tok) (dd:Option Addr) (sl:Array (Option Value)) (h0:¬ (x < -(2 ^ 63) || x ≥ 2 ^ 63) = true) (h1:(items.isEmpty || x == 1) = true) :
  Meets (Builtin.«tuple.__mul__» ⟨[.ref l,.int x u],[]⟩) (fun _ R s=>s.heap.get? l = some { cls:=.type "tuple",dict:=dd,data:=.seq items n,slots:=sl } ∧ R (.ok (.ret (Value.ref l))) s) :=
 .of_wp fun prog w A R s h=>by
  obtain ⟨hp,g,d,tk,os⟩:=s; obtain ⟨hl,h⟩:=h; have f1:=AutoSeq1.idx_int
  wp_walk using wpAny_loadPart' hl
  rw [if_neg h0]
  wp_walk using wpAny_loadPart' hl
  exact ⟨_,rfl,h⟩
theorem Qlh (a:Int) (t:Tok) (l:Addr) (items:Array Value) (n:Nat) (dd:Option Addr) (sl:Array (Option Value)) :
  Meets (Builtin.«int.__rmul__» ⟨[.int a t,.ref l],[]⟩) (fun _ R s=>s.heap.get? l = some { cls:=.type "tuple",dict:=dd,data:=.seq items n,slots:=sl } ∧ R (.ok (.ret Value.notImplemented)) s) :=
 .of_wp fun prog w A R s h=>by obtain ⟨hp,g,d,tk,os⟩:=s; obtain ⟨hl,h⟩:=h; wp_walk; exact ⟨_,rfl,h⟩
theorem Qjt:fillsNumberSlot (.type "tuple") "mul" = pure false :=
 PySem.fillsNumberSlot_seq (id := "tuple.__mul__") (r:=some (.builtin "tuple.__rmul__")) F.slot_tuple_mul.lookup (by decide +kernel) F.slot_tuple_rmul.lookup (by decide +kernel)
theorem Qov:seqRepeat? (.type "tuple") = pure (some (.builtin "tuple.__mul__")):=by
 unfold seqRepeat?
 rw [PySem.seqSlot_of (T := "tuple") (name := "__mul__") (id := "tuple.__mul__") F.slot_tuple_mul.lookup (by decide +kernel),PySem.seqSlot_of (T := "tuple") (name := "__rmul__") (id := "tuple.__rmul__") F.slot_tuple_rmul.lookup (by decide +kernel)]
 rfl
section
variable {X:Cx}
noncomputable def Qgz (K:PySem.W.Frag):V → List V → Hp → VK → Prop:=fun x vs H Q=>∃ l b xs zs,x = .ref l ∧ vs = [.ref b] ∧ H l = some (.lst xs) ∧ SqT K H b zs ∧ xs.length + zs.length ≤ sizeLine ∧ Q .non (upd H l (.lst (xs ++ zs)))
theorem Qs6:MtM X "list.extend" (Qgz X.K):=by
 intro pins s σ H x vs v us Q I rx rv h
 obtain ⟨l,b,xs,zs,rfl,rfl,hH,hB,hz,q⟩:=h
 cases rx
 obtain ⟨u,rfl,ru⟩:=rv.one
 cases ru
 obtain ⟨z,its,n,r,hl,e⟩:=I.lstM hH
 obtain ⟨its2,r2,⟨⟨cls,dd,data,sl⟩,e2,hc,n2,hd⟩,_⟩:=I.tuple hB
 simp only at hc hd
 subst hc hd
 have hl2:=r2.length
 have hsz:its.toArray.size + its2.toArray.size ≤ sizeLine:=by rw [List.size_toArray,List.size_toArray]; omega
 have hlong:¬ (!its.toArray.isEmpty && Builtin.List.listTooLong (its.toArray.size + its2.toArray.size)) = true:=by
  rw [Qqt hsz,Bool.and_false]
  exact Bool.false_ne_true
 refine call_meets F.slot_list_extend ⟨_,e,rfl⟩ F.entry_list_extend (F.args_list_extend_2 _ _)
  (Qou l its.toArray n b its2.toArray n2 dd sl hlong (by rw [List.size_toArray]; omega) (by omega)) ⟨e,e2,?_⟩
 refine ⟨.non,_,I.lset (its':=its ++ its2) hH e (by simp) (r.append r2) ?_,rfl,q⟩
 rw [List.length_append]
 omega
noncomputable def Q4k (K:PySem.W.Frag):R2:=fun x y H Q=>∃ a b xs ys,x = .ref a ∧ y = .ref b ∧ H a = some (.tup xs) ∧ H b = some (.tup ys) ∧ xs.length + ys.length ≤ sizeLine ∧ ∀ p H',Same H H' → H' p = some (.tup (xs ++ ys)) → (p = a ∨ p = b ∨ H p = none) → Q (.ref p) H'
theorem Q1z:OpR X (binaryOp .Add) (Q4k X.K):=by
 intro pins s σ H x y v u Q I rx ry h
 obtain ⟨a,b,xs,ys,rfl,rfl,ha,hb,hz,q⟩:=h
 by_cases hx:xs = []
 ·cases rx
  cases ry
  subst hx
  obtain ⟨its,r1,⟨⟨cls,dd,data,sl⟩,e1,hc,n,hd⟩,_⟩:=I.tuple (SqT.of ha)
  obtain ⟨its2,r2,⟨⟨cls2,dd2,data2,sl2⟩,e2,hc2,n2,hd2⟩,_⟩:=I.tuple (SqT.of hb)
  simp only at hc hd hc2 hd2
  subst hc hd hc2 hd2
  cases r1
  exact concat_meets ⟨_,e1,rfl⟩ ⟨_,e2,rfl⟩ noFill_tuple_add seq_tuple_add PySem.F.slot_tuple_add PySem.F.entry_tuple_add (PySem.F.args_tuple_add_2 _ _)
   (tuple_addW0 a b _ _ n n2 dd dd2 sl sl2 rfl) ⟨e1,e2,⟨.ref b,H,I,rfl,q b H (Same.refl H) hb (.inr (.inl rfl))⟩⟩
 ·refine Q1p pins s σ H _ _ v u Q I rx ry ⟨a,b,xs,ys,rfl,rfl,SqT.of ha,SqT.of hb,hx,hz,fun e=>q a H (Same.refl H) (by rw [ha,e,List.append_nil]) (.inl rfl),fun _ p hp=>q p _ (Same.upd hp) Qo (.inr (.inr hp))⟩
noncomputable def rSlS (K:PySem.W.Frag):V → Option Int → Option Int → Hp → VK → Prop:=fun x lo hi H Q=>∃ a xs,x = .ref a ∧ H a = some (.tup xs) ∧ ∀ p H',Same H H' → H' p = some (.tup (Qgx xs lo hi)) → (p = a ∨ H p = none) → Q (.ref p) H'
theorem Q10:SlR X (rSlS X.K):=by
 intro pins s σ H x v vl vu lo hi sl Q I rx hs pl pu h
 obtain ⟨a,xs,rfl,hx,q⟩:=h
 by_cases hw:HT.sIx xs.length 0 lo = 0 ∧ HT.sIx xs.length xs.length hi = xs.length
 ·cases rx
  obtain ⟨its,r,ht,hz⟩:=I.tuple (SqT.of (K:=X.K) hx)
  have hlen:its.toArray.size = xs.length:=by rw [List.size_toArray]; exact r.length.symm
  refine ⟨"tuple",_,PyProof.Rows.slot_tuple_getitem.lookup,ht.typeIs,?_⟩
  have hcut:Qgx xs lo hi = xs:=by
   unfold Qgx
   rw [hw.1,hw.2,List.drop_zero,Nat.sub_zero,List.take_length]
  obtain ⟨os,hos,hcs,hds⟩:=id hs
  have hTs:s.TypeIs (.ref sl) "slice" := ⟨os,hos,hcs⟩
  unfold getItem
  try with_reducible refine wpAny_holding ?_
  first | refine wpAny_bind (wpAny_pure ?_) | skip
  refine wpAny_bind (wpAny_sequenceKey ht.typeIs (by decide) ?_)
  refine wpAny_bind (wpAny_callSpecial?_slot (name:=Str.ofString "__getitem__") ht.typeIs PyProof.Rows.slot_tuple_getitem
   (wpAny_call_entry PyProof.Rows.slot_tuple_getitem ht.typeIs entry_tuple_getitem ?_ (args_tuple_getitem _ _)))
  show wpAny _ _ (Builtin.Tuple.tupleItemsOf (.ref a) >>= _) _ _ s
  refine wpAny_bind (tupleItemsOf_ ht ?_)
  refine wpAny_bind (wpAny_typeOf hTs ?_)
  rw [if_pos (by decide)]
  refine wpAny_bind (HT.sliceApplied_gen hs pl pu ?_)
  rw [hlen,hw.1,hw.2]
  show wpAny _ _ (if ((((0:Nat):Int) == 0 && (1:Int) == 1 && (xs.length - 0) == xs.length) = true) then _ else _) _ _ s
  rw [if_pos (by simp)]
  have fin:EP X pins σ Q (.ref a) s:=⟨.ref a,H,I,rfl,q a H (Same.refl H) (by rw [hcut]; exact hx) (.inl rfl)⟩
  refine wpAny_bind (wpAny_bind (wpAny_typeOf ht.typeIs (wpAny_pure ?_)))
  rw [if_pos (by decide)]
  exact wpAny_bind (wpAny_rule (wpAny_pure ⟨_,rfl,wpAny_pure fin⟩))
 ·exact Q60 pins s σ H _ v vl vu lo hi sl Q I rx hs pl pu ⟨a,xs,rfl,SqT.of hx,hw,fun p hp=>q p _ (Same.upd hp) Qo (.inr hp)⟩
end
open PySem.AutoSeq1 (wpAny_loadPart')
section
variable {X:Cx}
noncomputable def Q4l:R2:=fun x y H Q=>∃ a k xs,x = .ref a ∧ y = .int k ∧ H a = some (.tup xs) ∧ xs ≠ [] ∧ 1 ≤ k ∧ k < 2 ^ 31 ∧ xs.length * k.toNat ≤ sizeLine ∧ ∀ p H',Same H H' → H' p = some (.tup (List.replicate k.toNat xs).flatten) → (p = a ∨ H p = none) → Q (.ref p) H'
theorem Q11:OpR X (binaryOp .Mult) Q4l:=by
 intro pins s σ H x y v u Q I rx ry h
 obtain ⟨a,k,xs,rfl,rfl,hH,hne,h1,h2,hz,q⟩:=h
 cases rx
 obtain ⟨t,rfl⟩:=ry
 obtain ⟨its,r,⟨⟨cls,dd,data,sl⟩,e,hc,n,hd⟩,_⟩:=I.tuple (SqT.of (K:=X.K) hH)
 simp only at hc hd
 subst hc hd
 have hl:=r.length
 have hn0:its ≠ []:=fun z=>hne (r.nil_iff.mp z)
 have hem:its.toArray.isEmpty = false:=by
  cases its with
  | nil=>exact absurd rfl hn0
  | cons _ _=>rfl
 have h0:¬ (decide (k < -(2 ^ 63)) || decide (k ≥ 2 ^ 63)) = true:=by
  simp only [Bool.or_eq_true,decide_eq_true_eq]
  omega
 refine wpAny_binaryOp_repeat_ref (T := "tuple") (U := "int") (by decide) ⟨_,e,rfl⟩ (fun s'=>typeIs_int s' k t) Qjt F.fills_int_mul F.slot_int_rmul Qov F.slot_int_index.lookup
  (call_meets F.slot_int_rmul (typeIs_int s k t) F.entry_int_rmul (F.args_int_rmul_2 _ _) (Qlh k t a its.toArray n dd sl) ⟨e,rfl,⟨_,e,rfl⟩,?_⟩)
 by_cases hk:k = 1
 ·subst hk
  refine call_meets F.slot_tuple_mul ⟨_,e,rfl⟩ F.entry_tuple_mul (F.args_tuple_mul_2 _ _) (Qqz a its.toArray n 1 t dd sl h0 (by simp)) ⟨e,?_⟩
  exact ⟨.ref a,H,I,rfl,q a H (Same.refl H) (by rw [hH]; simp) (.inl rfl)⟩
 ·have hlen:its.toArray.size * k.toNat ≤ sizeLine:=by rw [List.size_toArray,← hl]; exact hz
  have hki:(its.toArray.size:Int) * k = ((its.toArray.size * k.toNat:Nat):Int):=by
   rw [Int.natCast_mul,Int.toNat_of_nonneg (by omega)]
  have hs:sizeLine = 16777216:=sizeLine_eq
  have hnew:List.foldl (fun x1 x2=>x1 ++ x2) #[] (List.replicate k.toNat its.toArray) = (List.replicate k.toNat its).flatten.toArray:=by
   have:=Qjr its k.toNat []
   rw [List.nil_append] at this
   exact this
  refine call_meets F.slot_tuple_mul ⟨_,e,rfl⟩ F.entry_tuple_mul (F.args_tuple_mul_2 _ _) (Qs5 a its.toArray n k t dd sl h0 (by rw [hem]; simpa using hk) (by rw [hem]; simp; omega)
   (by rw [hki]; omega) (by rw [hki]; unfold Builtin.Tuple.tupleTooMany; rw [decide_eq_true_eq]; omega) (by rw [hnew,List.size_toArray,Qi1,← hl,Nat.mul_comm]; exact hz)) ⟨e,?_⟩
  rw [hnew]
  have I2:Inv X pins σ (upd H s.heap.objs.size (.tup (List.replicate k.toNat xs).flatten)) { s with heap:=s.heap.push { cls:=.type "tuple",data:=.seq (List.replicate k.toNat its).flatten.toArray },toks:=s.toks } :=
   I.laid (fun b o e=>Heap.get?_push_of_some _ e) (Nat.le_refl _) ⟨by rw [Qi1,Nat.mul_comm]; exact hz,_,r.rep k.toNat,IsTupD.new _ _⟩
  exact ⟨.ref _,_,I2,rfl,q _ _ (Same.upd I.fresh) Qo (.inr I.fresh)⟩
end
section
variable {X:Cx}
theorem Qwe {j:Int} (h0:0 < j) (h:j < 2 ^ 64):j.natAbs.log2 < 9000:=by
 have h1:j.natAbs ≠ 0:=by omega
 have h2:j.natAbs.log2 < 64:=(Nat.log2_lt h1).mpr (by omega)
 omega
noncomputable def CDv (i j:Int):Prop:=0 < j ∧ j < 2 ^ 64
theorem Qx6:CallR X (.builtin "divmod") (fun xs H Q=>∃ i j,xs = [.int i,.int j] ∧ CDv i j ∧ ∀ p,H p = none → Q (.ref p) (upd H p (.tup [.int (i / j),.int (i % j)]))):=by
 intro pins s σ H xs us Q I r h
 obtain ⟨i,j,rfl,⟨h1,h2⟩,q⟩:=h
 obtain ⟨u,w',rfl,⟨t,rfl⟩,⟨t',rfl⟩⟩:=Qxr r
 refine divmod_int (by omega) ?_ (.inl (PyProof.noPylong_of_log2 (Qwe h1 h2)))
 rw [Int.fdiv_eq_ediv_of_nonneg i (by omega),Int.fmod_eq_emod_of_nonneg i (by omega)]
 have hn:H s.heap.objs.size = none:=I.hok.fresh (Nat.le_refl _)
 refine ⟨.ref s.heap.objs.size,_,?_,rfl,q _ hn⟩
 refine I.laid (fun b o e=>Heap.get?_push_of_some _ e) (Nat.le_refl _) ⟨by simp only [List.length_cons,List.length_nil]; rw [sizeLine_eq]; decide,[.int (i / j) s.toks,.int (i % j) (s.toks + 1)],.cons ⟨_,rfl⟩ (.cons ⟨_,rfl⟩ .nil),?_⟩
 exact ⟨_,Heap.get?_push_size s.heap rfl,rfl,0,rfl,rfl⟩
noncomputable def Qny (K:PySem.W.Frag):R2:=fun x y H Q=>(rI0 fun i j=>.int (i + j)) x y H Q ∨ rCat x y H Q ∨ Q4k K x y H Q
theorem uAdd:OpR X (binaryOp .Add) (Qny X.K):=Q6o.or (Q65.or Q1z)
noncomputable def Q4m:R2:=fun x y H Q=>(rI CMul fun i j=>.int (i * j)) x y H Q ∨ rRep x y H Q ∨ Q4l x y H Q
theorem uMul:OpR X (binaryOp .Mult) Q4m:=Q6q.or (Q66.or Q11)
noncomputable abbrev Q12 (K:PySem.W.Frag) (tl:TE):TI:=fun σ H R=>tl σ H fun x H1=>∃ a,x = .ref a ∧ (((∃ xs,SqL K H1 a xs) ∧ R (Itl K a) H1) ∨ ((∃ xs,SqT K H1 a xs) ∧ R (Itt K a) H1))
theorem Q7h {tg l:Expr} {tl:TE} (hl:PE X l tl):PI X tg l (Q12 X.K tl):=by
 intro pins s σ H R I h
 refine thn (hl pins s σ H _ I h) fun v s1 ⟨x,H1,I1,r1,q1⟩=>?_
 obtain ⟨a,e,q⟩:=q1
 subst e
 cases r1
 rcases q with ⟨⟨xs,hq⟩,q⟩ | ⟨⟨xs,hq⟩,q⟩
 ·obtain ⟨its,rv,p,hz⟩:=I1.list hq
  refine wpAny_pyIter_list p.isList ?_
  refine ⟨s1.heap.objs.size,[s1.heap.objs.size],_,_,H1,rfl,I1.kept (t':=s1.toks) fun b o e=>Heap.get?_push_of_some _ e,Qv0 a _,⟨_,Heap.get?_push_size _ rfl,rfl,rfl⟩,fun b hb=>?_,q⟩
  have e:b = s1.heap.objs.size:=by simpa using hb
  subst e
  exact I1.fpOk (Nat.le_refl _) (I1.hok.fresh (Nat.le_refl _))
 ·obtain ⟨its,rv,p,hz⟩:=I1.tuple hq
  refine wpAny_pyIter_tuple (show s1.heap.IsTuple a its.toArray from p) ?_
  refine ⟨s1.heap.objs.size,[s1.heap.objs.size],_,_,H1,rfl,I1.kept (t':=s1.toks) fun b o e=>Heap.get?_push_of_some _ e,Qsz a _,⟨_,Heap.get?_push_size _ rfl,rfl,rfl⟩,fun b hb=>?_,q⟩
  have e:b = s1.heap.objs.size:=by simpa using hb
  subst e
  exact I1.fpOk (Nat.le_refl _) (I1.hok.fresh (Nat.le_refl _))
noncomputable def Qx7 (K:PySem.W.Frag):V → Option Int → Option Int → Hp → VK → Prop:=fun x lo hi H Q=>rSlL K x lo hi H Q ∨ rSlS K x lo hi H Q
theorem uSl:SlR X (Qx7 X.K):=Q1r.or Q10
end
structure Dfn (K:PySem.W.Frag) (mg:Str → Option Value) (x:Str) (st:Stmt):Prop where
 ex:∃ f fd,Fun K x x st f fd ∧ mg x = some (.ref f)
noncomputable def Has (P:Program) (w:World) (K:PySem.W.Frag) (mg:Str → Option Value) (base:Heap) (x:Str) (ps:List Str) (k:Nat) (sp:Sp):Prop :=
 ∃ f fd,PySem.W.keepIn K (.ref f) = true ∧ mg x = some (.ref f) ∧ Binds K fd ps [] ∧ FnOk P w K mg base CX0 k f fd ps sp
noncomputable def Qz (x:Str) (st:Stmt) (ps:List Str):Prop:=∀ (kV doc pm:Value) (an:Option Addr) (cdv ct:Value) (us:List Value),us.length = ps.length → bindArgs (PySem.W.fnOf x x (Qdh st) (Qa1 st) (Qf st) .none kV doc pm an cdv ct) ⟨us,[]⟩ = pure (ps.zip us)
section
variable {P:Program} {w:World} {K:PySem.W.Frag} {mg:Str → Option Value} {base:Heap}
theorem Q7i {x:Str} {st:Stmt} {N ps:List Str} {k:Nat} {sp:Sp} (d:Dfn K mg x st) (S:FnScope N ps (Qf st)) (bd:Qz x st ps) (len:∀ vs H Q E,sp vs H Q E → vs.length = ps.length)
  (hbody:∀ (f:Addr) (cdv:Value) (A:Around) (outer:List Env) (s:Shared) (H:Hp) (vs:List V) (Q:VK) (E:XK),Room k (A.deeper (envOfC x (Qf st) s.heap.objs.size f cdv)) → sp vs H Q E →
   ∃ t,PSs (Qh1 (fun _=>true) CX0 P w K mg base N x (Qf st) f cdv A outer s H E).nox (Qa1 st) t ∧ t { nx:=fun _ H'=>Q .non H',rt:=Q } (Qbd N vs) H):Has P w K mg base x ps (k + 1) sp:=by
 obtain ⟨f,fd,F,m⟩:=d.ex
 exact ⟨f,fd,F.kp,m,F.binds bd,F.ok S len fun cdv A outer s H vs Q E hr hs=>hbody f cdv A outer s H vs Q E hr hs⟩
end
theorem Qx8 {X:Cx} {x:Str} {ps:List Str} {k:Nat} {sp:Sp} {e:Expr} {es:List Expr} {t:TA} {p pos:Pos} (h:Has X.prog X.w X.K X.mg X.base x ps k sp) (hr:Room k X.A) (ha:PA X (e :: es) t) (hg:Gl X x:=by rfl)
  (hdb:(x == ("__debug__" : Str)) = false:=by decide) (he:starEach (e :: es) X.env = (false,eval e X.env) :: starEach es X.env:=by rfl) (hpl:(backTo pos (starEach es X.env)).any (·.1) = false:=by rfl) :
  PE X (.Call (.Name x p) (e :: es) [] pos) (Qum sp [] E0 t):=by
 obtain ⟨f,fd,kp,m,b,F⟩:=h
 exact Q1m F hr hg m kp b .nil Qaap ha hdb he hpl
inductive T where
 | non | bl (b:Bool) | int (i:Int) | str (x:Str) | tup (ts:List T) | lst (ts:List T) | dct (ks:List Key) (ts:List T) | dtt (ks:List (List (List Int))) (ts:List T) | clo (k:Nat) (ts:List T)
noncomputable def kIs (k:List (List Int)):List (List Int):=k
noncomputable def CellsAt (H:Hp):List Addr → List V → Prop
 | [],vs=>vs = []
 | c :: cs,vs=>∃ v r oc u w,vs = v :: r ∧ H c = some (.frz oc w) ∧ oc.data = .cell (some u) ∧ RelV v u ∧ CellsAt H cs r
noncomputable def CloAt (H:Hp) (f:Addr) (l:LamT) (us:List V):Prop:=∃ cs c' pm ctv,cs.Nodup ∧ cs.length = l.caps.length ∧ H f = some (.frz (PySem.W.kla_obj "<lambda>" l.qual l.params l.body l.scope (l.caps.zip cs) pm c' ctv) (.own f)) ∧ H c' = some (.cod l.qual) ∧ CellsAt H cs us
theorem CellsAt.mono {H H':Hp} (h:Same H H'):∀ {cs:List Addr} {vs:List V},CellsAt H cs vs → CellsAt H' cs vs
 | [],_,r=>r
 | c :: cs,_,r=>by
  obtain ⟨v,w,oc,u,w',e,a,b,d,q⟩:=r
  exact ⟨v,w,oc,u,w',e,h _ _ a,b,d,CellsAt.mono h q⟩
theorem CloAt.mono {H H':Hp} (h:Same H H') {f:Addr} {l:LamT} {us:List V} (r:CloAt H f l us):CloAt H' f l us:=by
 obtain ⟨cs,c',pm,ctv,a,b,c,d,e⟩:=r
 exact ⟨cs,c',pm,ctv,a,b,h _ _ c,h _ _ d,e.mono h⟩
mutual
noncomputable def Is (H:Hp):V → T → Prop
 | v,.non=>v = .non
 | v,.bl b=>v = .bl b
 | v,.int i=>v = .int i
 | v,.str x=>v = .str x
 | v,.tup ts=>ts.length ≤ 100000 ∧ ∃ a vs,v = .ref a ∧ H a = some (.tup vs) ∧ IsL H vs ts
 | v,.lst ts=>ts.length ≤ 100000 ∧ ∃ a vs,v = .ref a ∧ H a = some (.lst vs) ∧ IsL H vs ts
 | v,.dct ks ts=>∃ a vs,v = .ref a ∧ H a = some (.dK (ks.zip vs)) ∧ ks.length = vs.length ∧ IsL H vs ts
 | v,.dtt ks ts=>ks.length ≤ 100000 ∧ ∃ a vs,v = .ref a ∧ H a = some (.dT ((ks.map kIs).zip vs)) ∧ ks.length = vs.length ∧ IsL H vs ts
 | v,.clo k ts=>∃ f us l,v = .ref f ∧ Qc0.lookup k = some l ∧ CloAt H f l us ∧ IsL H us ts
noncomputable def IsL (H:Hp):List V → List T → Prop
 | vs,[]=>vs = []
 | vs,t :: ts=>∃ v r,vs = v :: r ∧ Is H v t ∧ IsL H r ts
end
mutual
theorem Is.mono {H H':Hp} (h:Same H H'):∀ {v:V} {t:T},Is H v t → Is H' v t
 | v,.non,r=>by unfold Is at r ⊢; exact r
 | v,.bl b,r=>by unfold Is at r ⊢; exact r
 | v,.int i,r=>by unfold Is at r ⊢; exact r
 | v,.str x,r=>by unfold Is at r ⊢; exact r
 | v,.tup ts,r=>by
  unfold Is at r ⊢
  obtain ⟨z,a,vs,e,ha,q⟩:=r
  exact ⟨z,a,vs,e,h _ _ ha,IsL.mono h q⟩
 | v,.lst ts,r=>by
  unfold Is at r ⊢
  obtain ⟨z,a,vs,e,ha,q⟩:=r
  exact ⟨z,a,vs,e,h _ _ ha,IsL.mono h q⟩
 | v,.dct ks ts,r=>by
  unfold Is at r ⊢
  obtain ⟨a,vs,e,ha,l,q⟩:=r
  exact ⟨a,vs,e,h _ _ ha,l,IsL.mono h q⟩
 | v,.dtt ks ts,r=>by
  unfold Is at r ⊢
  obtain ⟨z,a,vs,e,ha,l,q⟩:=r
  exact ⟨z,a,vs,e,h _ _ ha,l,IsL.mono h q⟩
 | v,.clo l ts,r=>by
  unfold Is at r ⊢
  obtain ⟨f,us,l,e,k,c,q⟩:=r
  exact ⟨f,us,l,e,k,c.mono h,IsL.mono h q⟩
theorem IsL.mono {H H':Hp} (h:Same H H'):∀ {vs:List V} {ts:List T},IsL H vs ts → IsL H' vs ts
 | vs,[],r=>by unfold IsL at r ⊢; exact r
 | vs,t :: ts,r=>by
  unfold IsL at r ⊢
  obtain ⟨v,w,e,a,b⟩:=r
  exact ⟨v,w,e,Is.mono h a,IsL.mono h b⟩
end
theorem IsL.nil {H:Hp}:IsL H [] []:=by unfold IsL; rfl
theorem IsL.cons {H:Hp} {v:V} {t:T} {vs:List V} {ts:List T} (a:Is H v t) (b:IsL H vs ts):IsL H (v :: vs) (t :: ts):=by unfold IsL; exact ⟨v,vs,rfl,a,b⟩
theorem IsL.cons_inv {H:Hp} {vs:List V} {t:T} {ts:List T} (r:IsL H vs (t :: ts)):∃ v w,vs = v :: w ∧ Is H v t ∧ IsL H w ts:=by unfold IsL at r; exact r
theorem IsL.nil_inv {H:Hp} {vs:List V} (r:IsL H vs []):vs = []:=by unfold IsL at r; exact r
theorem IsL.length {H:Hp}:∀ {ts:List T} {vs:List V},IsL H vs ts → vs.length = ts.length
 | [],vs,r=>by rw [r.nil_inv]; rfl
 | t :: ts,vs,r=>by
  obtain ⟨v,w,rfl,_,q⟩:=r.cons_inv
  rw [List.length_cons,List.length_cons,q.length]
theorem IsL.get {H:Hp}:∀ {ts:List T} {vs:List V} {i:Nat} {v:V},IsL H vs ts → vs[i]? = some v → ∃ t,ts[i]? = some t ∧ Is H v t
 | [],vs,i,v,r,e=>by rw [r.nil_inv] at e; simp at e
 | t :: ts,vs,0,v,r,e=>by
  obtain ⟨x,w,rfl,a,q⟩:=r.cons_inv
  rw [List.getElem?_cons_zero] at e ⊢
  cases e
  exact ⟨t,rfl,a⟩
 | t :: ts,vs,i + 1,v,r,e=>by
  obtain ⟨x,w,rfl,a,q⟩:=r.cons_inv
  rw [List.getElem?_cons_succ] at e ⊢
  exact IsL.get q e
theorem IsL.getT {H:Hp}:∀ {ts:List T} {vs:List V} {i:Nat} {t:T},IsL H vs ts → ts[i]? = some t → ∃ v,vs[i]? = some v ∧ Is H v t
 | [],vs,i,v,r,e=>by simp at e
 | t :: ts,vs,0,v,r,e=>by
  obtain ⟨x,w,rfl,a,q⟩:=r.cons_inv
  rw [List.getElem?_cons_zero] at e ⊢
  cases e
  exact ⟨x,rfl,a⟩
 | t :: ts,vs,i + 1,v,r,e=>by
  obtain ⟨x,w,rfl,a,q⟩:=r.cons_inv
  rw [List.getElem?_cons_succ] at e ⊢
  exact IsL.getT q e
theorem IsL.append {H:Hp}:∀ {ts us:List T} {vs ws:List V},IsL H vs ts → IsL H ws us → IsL H (vs ++ ws) (ts ++ us)
 | [],us,vs,ws,r,q=>by rw [r.nil_inv]; exact q
 | t :: ts,us,vs,ws,r,q=>by
  obtain ⟨x,w,rfl,a,r⟩:=r.cons_inv
  exact .cons a (r.append q)
theorem IsL.take {H:Hp}:∀ {ts:List T} {vs:List V} (n:Nat),IsL H vs ts → IsL H (vs.take n) (ts.take n)
 | _,_,0,_=>by rw [List.take_zero,List.take_zero]; exact .nil
 | [],vs,n + 1,r=>by rw [r.nil_inv]; exact .nil
 | t :: ts,vs,n + 1,r=>by
  obtain ⟨x,w,rfl,a,r⟩:=r.cons_inv
  exact .cons a (r.take n)
theorem IsL.drop {H:Hp}:∀ {ts:List T} {vs:List V} (n:Nat),IsL H vs ts → IsL H (vs.drop n) (ts.drop n)
 | _,_,0,r=>r
 | [],vs,n + 1,r=>by rw [r.nil_inv]; exact .nil
 | t :: ts,vs,n + 1,r=>by
  obtain ⟨x,w,rfl,a,r⟩:=r.cons_inv
  exact r.drop n
theorem IsL.flat {H:Hp}:∀ (k:Nat) {ts:List T} {vs:List V},IsL H vs ts → IsL H (List.replicate k vs).flatten (List.replicate k ts).flatten
 | 0,ts,vs,r=>by simpa using IsL.nil
 | k + 1,ts,vs,r=>by
  rw [List.replicate_succ,List.replicate_succ,List.flatten_cons,List.flatten_cons]
  exact r.append (IsL.flat k r)
theorem IsL.one {H:Hp} {v:V} {t:T} (a:Is H v t):IsL H [v] [t]:=.cons a .nil
theorem Is.int {H:Hp} {i:Int}:Is H (.int i) (.int i):=by unfold Is; rfl
theorem Is.bl {H:Hp} {b:Bool}:Is H (.bl b) (.bl b):=by unfold Is; rfl
theorem Is.non {H:Hp}:Is H .non .non:=by unfold Is; rfl
theorem Is.tup {H:Hp} {a:Addr} {vs:List V} {ts:List T} (h:H a = some (.tup vs)) (r:IsL H vs ts) (z:ts.length ≤ 100000):Is H (.ref a) (.tup ts):=by unfold Is; exact ⟨z,a,vs,rfl,h,r⟩
theorem Is.lst {H:Hp} {a:Addr} {vs:List V} {ts:List T} (h:H a = some (.lst vs)) (r:IsL H vs ts) (z:ts.length ≤ 100000):Is H (.ref a) (.lst ts):=by unfold Is; exact ⟨z,a,vs,rfl,h,r⟩
theorem Is.int_inv {H:Hp} {v:V} {i:Int} (r:Is H v (.int i)):v = .int i:=by unfold Is at r; exact r
theorem Is.tup_inv {H:Hp} {v:V} {ts:List T} (r:Is H v (.tup ts)):∃ a vs,v = .ref a ∧ H a = some (.tup vs) ∧ IsL H vs ts:=by unfold Is at r; exact r.2
theorem Is.tup_len {H:Hp} {v:V} {ts:List T} (r:Is H v (.tup ts)):ts.length ≤ 100000:=by unfold Is at r; exact r.1
theorem Is.lst_len {H:Hp} {v:V} {ts:List T} (r:Is H v (.lst ts)):ts.length ≤ 100000:=by unfold Is at r; exact r.1
theorem Is.lst_inv {H:Hp} {v:V} {ts:List T} (r:Is H v (.lst ts)):∃ a vs,v = .ref a ∧ H a = some (.lst vs) ∧ IsL H vs ts:=by unfold Is at r; exact r.2
theorem IsL.ints {H:Hp}:∀ (ns:List Int),IsL H (ns.map V.int) (ns.map T.int)
 | []=>.nil
 | n :: ns=>.cons Is.int (IsL.ints ns)
theorem IsL.ints_inv {H:Hp}:∀ {ns:List Int} {vs:List V},IsL H vs (ns.map T.int) → vs = ns.map V.int
 | [],vs,r=>r.nil_inv
 | n :: ns,vs,r=>by
  obtain ⟨x,w,rfl,a,r⟩:=r.cons_inv
  rw [a.int_inv,r.ints_inv]
  rfl
theorem Qbk {n:Nat} (h:n ≤ 100000):n ≤ sizeLine:=by rw [sizeLine_eq]; omega
noncomputable def tyT:T → String
 | .non => "NoneType" | .bl _ => "bool" | .int _ => "int" | .str _ => "str" | .tup _ => "tuple" | .lst _ => "list" | .dct _ _ => "dict" | .dtt _ _ => "dict" | .clo _ _ => "function"
noncomputable def Qid:T → Bool
 | .clo _ _=>true
 | _=>false
theorem Is.tyOf {K:PySem.W.Frag} {H:Hp} {v:V} {t:T} (r:Is H v t) (hc:Qid t = false):TyOf K H v (.type (tyT t)):=by
 cases t with
 | non=>unfold Is at r; subst r; exact .non
 | bl b=>unfold Is at r; subst r; exact .bl b
 | int i=>unfold Is at r; subst r; exact .int i
 | str x=>unfold Is at r; subst r; exact .str x
 | tup ts=>obtain ⟨a,vs,rfl,h,_⟩:=r.tup_inv; exact .tup h
 | lst ts=>obtain ⟨a,vs,rfl,h,_⟩:=r.lst_inv; exact .lst h
 | dct ks ts=>unfold Is at r; obtain ⟨a,vs,rfl,h,_⟩:=r; exact .dK h
 | dtt ks ts=>unfold Is at r; obtain ⟨_,a,vs,rfl,h,_⟩:=r; exact .dT h
 | clo l ts=>cases hc
noncomputable def Qli (a c:String):Bool:=a == c || (a == "bool" && c == "int")
theorem Q13 (K:PySem.W.Frag):∀ a ∈ ["NoneType","bool","int","str","tuple","list","dict"],∀ c ∈ ["int","bool","tuple","list","dict","str"],PySem.W.kitOne K (.type a) (.type c) = some (Qli a c):=by
 intro a ha c hc
 simp only [List.mem_cons,List.not_mem_nil,or_false] at ha hc
 rcases ha with rfl | rfl | rfl | rfl | rfl | rfl | rfl <;> rcases hc with rfl | rfl | rfl | rfl | rfl | rfl <;> rfl
theorem Qwf {X:Cx}:CallR X (.builtin "isinstance") (fun xs H Q=>∃ x c t,xs = [x,.ty c] ∧ Is H x t ∧ Qid t = false ∧ c ∈ ["int","bool","tuple","list","dict","str"] ∧ Q (.bl (Qli (tyT t) c)) H):=by
 intro pins s σ H xs us Q I r h
 obtain ⟨x,c,t,e,ty,nc,hc,q⟩:=h
 refine Qqw pins s σ H xs us Q I r ⟨x,c,_,_,e,ty.tyOf nc,Q13 X.K (tyT t) ?_ c hc,q⟩
 cases t <;> first | (cases nc; done) | simp [tyT]
noncomputable def Qr:Expr → Bool
 | .Starred _ _=>false
 | _=>true
theorem Qa5 {e:Expr} {es:List Expr} {env:Env} (h:Qr e = true):starEach (e :: es) env = (false,eval e env) :: starEach es env:=by
 cases e <;> first | rfl | exact absurd h Bool.false_ne_true
theorem paC {X:Cx} {e:Expr} {es:List Expr} {te:TE} {t:TA} (ha:PE X e te) (hr:PA X es t) (hs:Qr e = true:=by rfl):PA X (e :: es) (Qkd te t):=Q1l ha hr (Qa5 hs)
section
variable {X:Cx} {e a b:Expr} {es:List Expr} {t:T} {ts:List T} {pos:Pos}
theorem PE.weak {te te':TE} (h:PE X e te) (q:∀ σ H Q,te' σ H Q → te σ H Q):PE X e te':=fun pins s σ H Q I hq=>h pins s σ H Q I (q _ _ _ hq)
theorem PA.weak {ta ta':TA} (h:PA X es ta) (q:∀ σ H Q,ta' σ H Q → ta σ H Q):PA X es ta':=fun pos pins s σ H Q I hq=>h pos pins s σ H Q I (q _ _ _ hq)
end
structure Wk (J:It) (xs:List V) (P:Hp → Prop):Prop where
 go:∀ i H,i < xs.length → P H → J.go i H
 yld:∀ i H x H',i < xs.length → P H → J.yld i H x H' → H' = H ∧ xs[i]? = some x
 stop:∀ i H,xs.length ≤ i → P H → J.stop i H
 mono:∀ H H',Same H H' → P H → P H'
section
variable {X:Cx}
noncomputable def Q7j (K:PySem.W.Frag):List V → Hp → VK → Prop:=fun xs H Q=>∃ p ys,xs = [.ref p] ∧ (SqL K H p ys ∨ SqT K H p ys) ∧ Q (.int ys.length) H
theorem kLen (K:PySem.W.Frag) (hK:X.K = K):CallR X (.builtin "len") (Q7j K):=by subst hK; exact Qor
noncomputable def Q7k (K:PySem.W.Frag):List V → Hp → VK → Prop:=fun xs H Q=>∃ p ys,xs = [.ref p] ∧ SqL K H p ys ∧ ys.all Qqy = true ∧ Q (.bl (ys.all Qqx)) H
theorem kAll (K:PySem.W.Frag) (hK:X.K = K) (hc:X.calm = true):CallR X (.builtin "all") (Q7k K):=by subst hK; exact Qx5 hc
noncomputable def Qx9 (K:PySem.W.Frag):List V → Hp → VK → Prop:=fun xs H Q=>∃ (p:Addr) (ns:List Int),xs = [.ref p] ∧ SqL K H p (ns.map V.int) ∧ ns ≠ [] ∧ ∀ M,M ∈ ns → (∀ a ∈ ns,a ≤ M) → Q (.int M) H
theorem Qaaz (K:PySem.W.Frag) (hK:X.K = K) (hc:X.calm = true):CallR X (.builtin "max") (Qx9 K):=by subst hK; exact Qwc hc
noncomputable def Qya (K:PySem.W.Frag):List V → Hp → VK → Prop:=fun xs H Q=>∃ (p:Addr) (ns:List Int),xs = [.ref p] ∧ SqL K H p (ns.map V.int) ∧ Q (.int ns.sum) H
theorem Qaa0 (K:PySem.W.Frag) (hK:X.K = K) (hc:X.calm = true):CallR X (.builtin "sum") (Qya K):=by subst hK; exact Qwd hc
noncomputable def Qs7 (K:PySem.W.Frag):List V → Hp → VK → Prop:=fun xs H Q=>∃ p ys,xs = [.ref p] ∧ ((SqL K H p ys ∧ ∀ l,H l = none → Q (.ref l) (upd H l (.tup ys))) ∨ (SqT K H p ys ∧ Q (.ref p) H))
theorem Q7l (K:PySem.W.Frag) (hK:X.K = K):CallR X (.type "tuple") (Qs7 K):=by subst hK; exact Qm1
noncomputable def Q4n:List V → Hp → VK → Prop:=fun xs H Q=>∃ x c t,xs = [x,.ty c] ∧ Is H x t ∧ Qid t = false ∧ c ∈ ["int","bool","tuple","list","dict","str"] ∧ Q (.bl (Qli (tyT t) c)) H
theorem Qaa1:CallR X (.builtin "isinstance") Q4n:=Qwf
theorem kAdd (K:PySem.W.Frag) (hK:X.K = K):OpR X (binaryOp .Add) (Qny K):=by subst hK; exact uAdd
theorem kIx (K:PySem.W.Frag) (hK:X.K = K):IxR X (rIx K):=by subst hK; exact Q63
theorem kSl (K:PySem.W.Frag) (hK:X.K = K):SlR X (Qx7 K):=by subst hK; exact uSl
theorem kSeq (K:PySem.W.Frag) (hK:X.K = K) {tg l:Expr} {tl:TE} (hl:PE X l tl):PI X tg l (Q12 K tl):=by subst hK; exact Q7h hl
theorem kTup (K:PySem.W.Frag) (hK:X.K = K) {es:List Expr} {k:Nat} {t:TGs} {n:Nat} {pos:Pos} (hc:X.calm = true) (h:PGs X es t)
  (hn:(assignEach es X.env).length = n:=by rfl) (hst:(assignEach es X.env).findIdx? (·.1) = none:=by rfl):PG X (.Tuple es k pos) (Q1f K n t):=by subst hK; exact Q6f hc h hn hst
theorem Qyb (K:PySem.W.Frag) (hK:X.K = K):MtM X "list.extend" (Qgz K):=by subst hK; exact Qs6
theorem kBm (K:PySem.W.Frag) (hK:X.K = K) {T:String} {o e:Expr} {es:List Expr} {to:TE} {t:TA} {name:Str} {apos cpos:Pos} {id:String} {r:V → List V → Hp → VK → Prop} (pa:PlainAttrs T) (slot:Slot T name id) (hty:typeOf (.builtin id) = pure (.type "method_descriptor")) (hm:MtR X id r) (ho:PE X o to) (ha:PA X (e :: es) t)
  (hbase:attributeBase o name X.env (eval o X.env) = eval o X.env:=by rfl)
  (hfew:((backTo cpos (starEach (e :: es) X.env)).all (fun x=>!x.1) && (backToKw cpos (keywordEach [] X.env)).all (fun x=>x.1.isSome)
   && decide ((e :: es).length + ([]:List Keyword).length + (if ([]:List Keyword).isEmpty then 0 else 1) < 30)) = true:=by rfl)
  (hline:(apos.endLine == cpos.line) = true:=by rfl) (hs:starEach (e :: es) X.env = (false,eval e X.env) :: starEach es X.env:=by rfl) (hplain:(backTo cpos (starEach es X.env)).any (·.1) = false:=by rfl) :
  PE X (.Call (.Attribute o name apos) (e :: es) [] cpos) (tBM K T r to t):=by
 subst hK
 exact Qaam pa slot hty hm ho ha hbase hfew hline hs hplain
end
noncomputable def Tups (H H':Hp):Prop:=∀ a xs,H a = some (.tup xs) → H' a = some (.tup xs)
noncomputable def MkT (xs:List V) (H:Hp) (Q:VK):Prop:=xs.length ≤ sizeLine ∧ ∀ p,H p = none → Q (.ref p) (upd H p (.tup xs))
noncomputable def MkL (xs:List V) (H:Hp) (Q:VK):Prop:=xs.length ≤ sizeLine ∧ ∀ p,H p = none → Q (.ref p) (upd H p (.lst xs))
noncomputable abbrev Qaa2 (t:TA):TE:=fun σ H Q=>t σ H fun xs H1=>MkT xs H1 Q
noncomputable abbrev Q4o (t:TA):TE:=fun σ H Q=>t σ H fun xs H1=>MkL xs H1 Q
structure QE (X:Cx) (e:Expr) (t:TE):Prop where
 h:PE X e t
structure QT (X:Cx) (e:Expr) (t:TT):Prop where
 h:PT X e t
structure QW (X:Cx) (e:Expr) (t:TT):Prop where
 h:PW X e t
structure QA (X:Cx) (es:List Expr) (t:TA):Prop where
 h:PA X es t
structure QS (X:Cx) (st:Stmt) (t:TS):Prop where
 h:PS X st t
structure QB (X:Cx) (st:List Stmt) (t:TS):Prop where
 h:PSs X st t
structure QI (X:Cx) (tg it:Expr) (t:TI):Prop where
 h:PI X tg it t
structure QG (X:Cx) (tg:Expr) (t:TG):Prop where
 h:PG X tg t
structure QGs (X:Cx) (tg:List Expr) (t:TGs):Prop where
 h:PGs X tg t
structure QC (X:Cx) (ifs:List Expr) (t:TT):Prop where
 h:PTs X ifs t
structure QO (X:Cx) (e:Option Expr) (t:TO):Prop where
 h:PO X e t
structure QOp (X:Cx) (f:Value → Value → Sem Value) (r:R2):Prop where
 h:OpR X f r
structure QUn (X:Cx) (f:Value → Sem Value) (r:V → Hp → VK → Prop):Prop where
 h:UnR X f r
structure QCl (X:Cx) (f:Value) (r:List V → Hp → VK → Prop):Prop where
 h:CallR X f r
structure QIx (X:Cx) (r:R2):Prop where
 h:IxR X r
structure QSl (X:Cx) (r:V → Option Int → Option Int → Hp → VK → Prop):Prop where
 h:SlR X r
structure QMt (X:Cx) (id:String) (r:V → List V → Hp → VK → Prop):Prop where
 h:MtR X id r
section
variable {X:Cx} {e a b:Expr} {es rest:List Expr} {te ta tb:TE} {t:TA} {tt uu tA tB':TT} {pos p p2:Pos} {x:Str}
theorem Qfe (i:Nat) (hN:X.N[i]? = some x:=by rfl) (hv:Vis X.env.scope x:=by first | exact Or.inl rfl | exact Or.inr (Or.inl rfl) | exact Or.inr (Or.inr rfl)) (hd:(x == ("__debug__" : Str)) = false:=by decide)
  (hcd:(x == ("__classdict__" : Str)) = false:=by decide):QE X (.Name x pos) (Qon i):=⟨pv i hN hv hd hcd⟩
theorem Qq0 {i j}:QE X (.Constant (.int i) j pos) (tC (.int i)):=⟨Q50⟩
theorem q_bl {b j}:QE X (.Constant (.bool b) j pos) (tC (.bl b)):=⟨Q91⟩
theorem Qaa4 {j}:QE X (.Constant .none j pos) (tC .non):=⟨Q51⟩
theorem Q7m {v:V} (h:∃ u,X.mg x = some u ∧ RelV v u) (hg:Gl X x:=by rfl) (hd:(x == ("__debug__" : Str)) = false:=by decide):QE X (.Name x pos) (tC v):=by
 obtain ⟨u,m,r⟩:=h
 exact ⟨Q07 hg m r hd⟩
theorem Qq1 (T:String) (hm:X.mg x = none) (hv:bootBuiltins x = some (.type T)) (hg:Gl X x:=by rfl) (hn:x ≠ "__name__" := by decide) (hd:(x == ("__debug__" : Str)) = false:=by decide):QE X (.Name x pos) (tC (.ty T)):=⟨Q08 (v:=.ty T) hg hm hv rfl hn hd⟩
theorem q_op {op:Operator} {r:R2} (ho:QOp X (binaryOp op) r) (ha:QE X a ta) (hb:QE X b tb):QE X (.BinOp a op b pos) (tOp r ta tb):=⟨Q97 ho.h ha.h hb.h⟩
theorem q_un {op:UnaryOp} {r:V → Hp → VK → Prop} (ho:QUn X (unaryOp op) r) (ha:QE X a ta):QE X (.UnaryOp op a pos) (tUn r ta):=⟨Q98 ho.h ha.h⟩
theorem Qaa6 (ha:QE X a ta):QE X (.UnaryOp .Not a pos) (Q4g ta):=⟨Q59 ha.h⟩
theorem Qaa7 {op} (ha:QE X a ta):QE X (.BoolOp op [a] pos) ta:=⟨Q57 ha.h⟩
theorem Qaa8 (ha:QE X a ta) (hb:QE X (.BoolOp .And (b :: rest) pos) tb):QE X (.BoolOp .And (a :: b :: rest) pos) (Q4f ta tb):=⟨Q58 ha.h hb.h⟩
theorem Qaa9 {op:CmpOp} {r:R2} (ho:QOp X (compareOp op) r) (ha:QE X a ta) (hb:QE X b tb) (hm:behindInMarks op b = false):QE X (.Compare a [op] [b] pos) (tOp r ta tb):=⟨Q1i ho.h ha.h hb.h hm⟩
theorem Qyc {op:CmpOp} {r:R2} (ho:QOp X (compareOp op) r) (ha:QE X a ta) (hb:QE X b tb) (hm:behindInMarks op b = false):QT X (.Compare a [op] [b] pos) (Q4i (tOp r ta tb)):=⟨Q1j ho.h ha.h hb.h hm⟩
theorem Q7n (ha:QE X e te) (he:∀ whole,isTrue e X.env whole = (do let v ← whole; standAt e.pos; holding [v] (truthy v)):=by intro _; rfl):QT X e (tB te):=⟨Q53 ha.h he⟩
theorem Q7o (ha:QT X a tA):QT X (.UnaryOp .Not a pos) (Q93 tA):=⟨Q56 ha.h⟩
theorem q_wt (ha:QW X e tA):QT X e tA:=⟨ha.h.pt⟩
theorem Q14 (ha:QT X a tA):QW X (.BoolOp .And [a] pos) tA:=⟨Q09 ha.h⟩
theorem Q7p (ha:QT X a tA):QW X (.BoolOp .Or [a] pos) tA:=⟨Q54 ha.h⟩
theorem Q7q (ha:QT X a tA) (hb:QW X (.BoolOp .And (b :: rest) pos) tB'):QW X (.BoolOp .And (a :: b :: rest) pos) (Q92 tA tB'):=⟨Q55 ha.h hb.h⟩
theorem Qaba (ha:QT X a tA) (hb:QW X (.BoolOp .Or (b :: rest) pos) tB'):QW X (.BoolOp .Or (a :: b :: rest) pos) (tOr tA tB'):=⟨Q94 ha.h hb.h⟩
theorem Qeg:QA X [] Qv7:=⟨Q6w⟩
theorem Qbv (ha:QE X e te) (hr:QA X es t) (hs:Qr e = true:=by rfl):QA X (e :: es) (Qkd te t):=⟨paC ha.h hr.h hs⟩
theorem Qabb {x1} (h:QA X es t):QE X (.Tuple es x1 pos) (Qaa2 t):=⟨Q6x h.h⟩
theorem Q4p (h:QA X es t):QE X (.List es pos) (Q4o t):=⟨Q6y h.h⟩
variable {ts:List T} {u:T}
theorem q_fn {ps:List Str} {k:Nat} {sp:Sp} (h:Has X.prog X.w X.K X.mg X.base x ps k sp) (hr:Room k X.A) (ha:QA X (e :: es) t) (hg:Gl X x:=by rfl)
  (hdb:(x == ("__debug__" : Str)) = false:=by decide) (he:Qr e = true:=by rfl) (hpl:(backTo pos (starEach es X.env)).any (·.1) = false:=by rfl):QE X (.Call (.Name x p) (e :: es) [] pos) (Qum sp [] E0 t):=⟨Qx8 h hr ha.h hg hdb (Qa5 he) hpl⟩
theorem Q7r {id:String} {r:List V → Hp → VK → Prop} (hc:QCl X (.builtin id) r) (hm:X.mg x = none) (hv:bootBuiltins x = some (.builtin id)) (ha:QA X (e :: es) t) (hg:Gl X x:=by rfl) (hn:x ≠ "__name__" := by decide) (hdb:(x == ("__debug__" : Str)) = false:=by decide)
  (he:Qr e = true:=by rfl) (hpl:(backTo pos (starEach es X.env)).any (·.1) = false:=by rfl):QE X (.Call (.Name x p) (e :: es) [] pos) (tCB r t):=⟨Qxt hc.h hg hm hv ha.h hn hdb (Qa5 he) hpl⟩
theorem Qabc {T:String} {r:List V → Hp → VK → Prop} (hc:QCl X (.type T) r) (hm:X.mg x = none) (hv:bootBuiltins x = some (.type T)) (ha:QA X (e :: es) t) (hg:Gl X x:=by rfl) (hn:x ≠ "__name__" := by decide) (hdb:(x == ("__debug__" : Str)) = false:=by decide)
  (he:Qr e = true:=by rfl) (hpl:(backTo pos (starEach es X.env)).any (·.1) = false:=by rfl):QE X (.Call (.Name x p) (e :: es) [] pos) (tCB r t):=⟨Qv8 hc.h hg hm hv ha.h hn hdb (Qa5 he) hpl⟩
theorem Qs8 (K:PySem.W.Frag) (hK:X.K = K) {T:String} {o:Expr} {to:TE} {name:Str} {apos cpos:Pos} {id:String} {r:V → List V → Hp → VK → Prop} (pa:PlainAttrs T) (slot:Slot T name id) (hty:typeOf (.builtin id) = pure (.type "method_descriptor")) (hm:QMt X id r) (ho:QE X o to) (ha:QA X (e :: es) t)
  (hbase:attributeBase o name X.env (eval o X.env) = eval o X.env:=by rfl)
  (hfew:((backTo cpos (starEach (e :: es) X.env)).all (fun x=>!x.1) && (backToKw cpos (keywordEach [] X.env)).all (fun x=>x.1.isSome)
   && decide ((e :: es).length + ([]:List Keyword).length + (if ([]:List Keyword).isEmpty then 0 else 1) < 30)) = true:=by rfl)
  (hline:(apos.endLine == cpos.line) = true:=by rfl) (hs:Qr e = true:=by rfl) (hplain:(backTo cpos (starEach es X.env)).any (·.1) = false:=by rfl) :
  QE X (.Call (.Attribute o name apos) (e :: es) [] cpos) (tBM K T r to t):=⟨kBm K hK pa slot hty hm.h ho.h ha.h hbase hfew hline (Qa5 hs) hplain⟩
theorem q_ix {r:R2} (hr:QIx X r) (ha:QE X a ta) (hb:QE X b tb) (hs:Qk1 b:=by exact fun _ _=>rfl):QE X (.Subscript a b pos) (tOp r ta tb):=⟨Qaah hr.h ha.h hb.h hs⟩
theorem q_sl {r:V → Option Int → Option Int → Hp → VK → Prop} {lo hi:Option Expr} {tl th:TO} (hr:QSl X r) (he:QE X e te) (hl:QO X lo tl) (hu:QO X hi th):QE X (.Subscript e (.Slice lo hi none p2) pos) (tSl r te tl th):=⟨Qxu hr.h he.h hl.h hu.h⟩
theorem q_no:QO X none Qun:=⟨Q1n⟩
theorem Qs9 (h:QE X e te):QO X (some e) (Quo te):=⟨Q1o h.h⟩
variable {tg:Expr}
theorem Q4q (K:PySem.W.Frag) (hK:X.K = K) (hl:QE X e te):QI X tg e (Q12 K te):=⟨kSeq K hK hl.h⟩
theorem Q7s (hm:X.mg "range" = none) (ha:QA X [a] t) (hg:Gl X "range" := by rfl) (hs:Qr a = true:=by rfl):QI X tg (.Call (.Name "range" p) [a] [] pos) (Q4h t):=⟨Qv1 hg hm ha.h (Qa5 hs)⟩
theorem Q6 {i:Nat} (hN:X.N.Nodup) (hi:X.N[i]? = some x:=by rfl) (hx:Loc X.env.scope x:=by first | exact Or.inl rfl | exact Or.inr rfl) (hf:X.fn x = true ∨ X.env.scope.names.lookup x = some .local:=by first | exact .inl rfl | exact .inr rfl | exact .inl (by decide +kernel)):QG X (.Name x pos) (Qia i):=⟨Q1d hN hi hx hf⟩
theorem Qju:QGs X [] Q6e:=⟨Q1e⟩
theorem Qcf {es:List Expr} {t:TG} {u:TGs} (h1:QG X e t) (h2:QGs X es u) (hs:(assignEach (e :: es) X.env).map (·.2) = assign e X.env :: (assignEach es X.env).map (·.2):=by rfl):QGs X (e :: es) (Qxi t u):=⟨Qxj h1.h h2.h hs⟩
theorem Qjv (K:PySem.W.Frag) (hK:X.K = K) {es:List Expr} {k:Nat} {t:TGs} {n:Nat} (hc:X.calm = true) (h:QGs X es t) (hn:(assignEach es X.env).length = n:=by rfl) (hst:(assignEach es X.env).findIdx? (·.1) = none:=by rfl):QG X (.Tuple es k pos) (Q1f K n t):=⟨kTup K hK hc h.h hn hst⟩
theorem Qyd {o i:Expr} {to ti:TE} (ho:QE X o to) (hi:QE X i ti)
  (ha:∀ v,assign (.Subscript o i pos) X.env v = (do
   let ov ← holding [v] (eval o X.env)
   let iv ← holding [v,ov] (eval i X.env)
   standAt pos
   holding [v,ov,iv] (setItem ov iv v)
   release [v,ov,iv] []):=by intro _; rfl):QG X (.Subscript o i pos) (Q6g to ti Quq):=⟨Q6h ho.h hi.h Qxv ha⟩
theorem q_c0:QC X [] tYes:=⟨Q1y⟩
theorem Q7t {elt iter:Expr} {ifs:List Expr} {scope:Scope} (N:List Str) (js:List (Option Nat)) {wi:TI} {g:TG} {tc:TT} (hcalm:X.calm = true)
  (hi:QI X tg iter wi) (hg:∀ s H fp,QG (Qa7 X scope N s H fp) tg g) (hc:∀ s H fp,QC (Qa7 X scope N s H fp) ifs tc) (he:∀ s H fp,QE (Qa7 X scope N s H fp) elt te)
  (hk:scope.kind = .function:=by rfl) (h1:scOk X scope = true:=by rfl) (h2:Qnx X scope N js = true:=by rfl)
  (hs:∀ x,foldedSetIterable iter X.env x = pure x:=by intro _; rfl):QE X (.ListComp elt [⟨tg,iter,ifs,0⟩] scope pos) (Qx2 wi js g tc te):=⟨Qx3 hcalm hi.h (fun s H fp=>(hg s H fp).h) (fun s H fp=>(hc s H fp).h) (fun s H fp=>(he s H fp).h) hk h1 h2 hs⟩
variable {st:Stmt} {sts:List Stmt} {t1 t2:TS}
theorem Qta:QB X [] Qxf:=⟨Q1a⟩
theorem Qk3 (h1:QS X st t1) (h2:QB X sts t2):QB X (st :: sts) (Qxg t1 t2):=⟨Qxh h1.h h2.h⟩
theorem Qow (h1:QS X st t1):QB X [st] t1:=⟨Q1b h1.h⟩
theorem Qg0 (he:QE X e te) (hs:swapsWith e none pos.line X.env = pure false:=by rfl):QS X (.Expr e pos) (Qui te):=⟨Q1c he.h hs⟩
theorem Qut (he:QE X e te):QS X (.Return (some e) pos) (Q6a te):=⟨Q6b he.h⟩
theorem Qye {c:Expr} {bs cs:List Stmt} (hc:QT X c tt) (ha:QB X bs t1) (hb:QB X cs t2):QS X (.If c bs cs pos) (Q6c tt t1 t2):=⟨Q95 hc.h ha.h hb.h⟩
theorem Q4r {iter:Expr} {body:List Stmt} {wi:TI} {g:TG} (hp:PassesOwn (model X.prog X.w) X.A X.env X.xe) (hc:X.calm = true) (hi:QI X tg iter wi) (hg:QG X tg g) (hb:QB X body t1)
  (hs:∀ x,foldedSetIterable iter X.env x = pure x:=by intro _; rfl):QS X (.For tg iter body [] pos) (Qxo wi g t1):=⟨Q6k hp hc hi.h hg.h hb.h hs⟩
theorem Qa8 {i:Nat} (hN:X.N.Nodup) (he:QE X e te) (hi:X.N[i]? = some x:=by rfl) (hx:Loc X.env.scope x:=by first | exact Or.inl rfl | exact Or.inr rfl) (hs:swapsWith e (some (.Name x p2)) pos.line X.env = pure false:=by rfl) (hf:X.fn x = true ∨ X.env.scope.names.lookup x = some .local:=by first | exact .inl rfl | exact .inr rfl) :
  QS X (.Assign [.Name x p2] e pos) (Qqr te (Qia i)):=⟨Q6j hN hi hx he.h hs hf⟩
theorem Qq2 {g:TG} (he:QE X e te) (hg:QG X tg g) (hs:swapsWithSole [tg] e pos.line X.env = pure false:=by rfl) (hw:swappedStores [tg] e X.env = pure none:=by rfl)
  (h1:(assignEach [tg] X.env).map (·.2) = [assign tg X.env]:=by rfl):QS X (.Assign [tg] e pos) (Qqr te g):=⟨Q6i he.h hg.h hs hw h1⟩
theorem Q15 {c:Expr} {body:List Stmt} (hp:PassesOwn (model X.prog X.w) X.A X.env X.xe) (hc:QT X c tt) (hb:QB X body t1):QS X (.While c body [] pos) (Qxk tt t1):=⟨Qxl hp hc.h hb.h⟩
theorem Q4s (K:PySem.W.Frag) (hK:X.K = K):QOp X (binaryOp .Add) (Qny K):=⟨kAdd K hK⟩
theorem Qabf:QOp X (binaryOp .Sub) (rI0 fun i j=>.int (i - j)):=⟨Q6p⟩
theorem Qabg:QOp X (binaryOp .Pow) (rI Q6n fun i j=>.int (i ^ j.toNat)):=⟨Q6r⟩
theorem Qabh:QUn X (unaryOp .USub) (rU fun i=>.int (-i)):=⟨Q6s⟩
theorem o_eq:QOp X (compareOp .Eq) rEq:=⟨Qaaa⟩
theorem o_ne:QOp X (compareOp .NotEq) rNe:=⟨Qaab⟩
theorem Q7u:QOp X (compareOp .Lt) (rI0 fun i j=>.bl (decide (i < j))):=⟨Qaac⟩
theorem o_gt:QOp X (compareOp .Gt) (rI0 fun i j=>.bl (decide (j < i))):=⟨Qaad⟩
theorem o_ge:QOp X (compareOp .GtE) (rI0 fun i j=>.bl (decide (j ≤ i))):=⟨Qaae⟩
noncomputable def rIsN:R2:=fun x y H Q=>y = .non ∧ Q (.bl (decide (x = .non))) H
noncomputable def Q4t:R2:=fun x y H Q=>y = .non ∧ Q (.bl (!decide (x = .non))) H
theorem Q4u:QOp X (compareOp .Is) rIsN:=⟨Q6u⟩
theorem Q7v:QOp X (compareOp .IsNot) Q4t:=⟨Q1h⟩
theorem o_ix (K:PySem.W.Frag) (hK:X.K = K):QIx X (rIx K):=⟨kIx K hK⟩
theorem o_sl (K:PySem.W.Frag) (hK:X.K = K):QSl X (Qx7 K):=⟨kSl K hK⟩
theorem Qff:QMt X "list.append" Qk2:=⟨Qnt⟩
theorem Qwg (K:PySem.W.Frag) (hK:X.K = K):QMt X "list.extend" (Qgz K):=⟨Qyb K hK⟩
theorem Q7w:QCl X (.builtin "isinstance") Q4n:=⟨Qaa1⟩
theorem Qcq (K:PySem.W.Frag) (hK:X.K = K):QCl X (.builtin "len") (Q7j K):=⟨kLen K hK⟩
theorem Quu (K:PySem.W.Frag) (hK:X.K = K) (hc:X.calm = true:=by rfl):QCl X (.builtin "all") (Q7k K):=⟨kAll K hK hc⟩
theorem Q4v (K:PySem.W.Frag) (hK:X.K = K) (hc:X.calm = true:=by rfl):QCl X (.builtin "sum") (Qya K):=⟨Qaa0 K hK hc⟩
theorem Q7x (K:PySem.W.Frag) (hK:X.K = K) (hc:X.calm = true:=by rfl):QCl X (.builtin "max") (Qx9 K):=⟨Qaaz K hK hc⟩
noncomputable def Q4w:List V → Hp → VK → Prop:=fun xs H Q=>∃ i j,xs = [.int i,.int j] ∧ Q (.int (if j > i then j else i)) H
theorem Q7y (hc:X.calm = true:=by rfl):QCl X (.builtin "max") Q4w:=⟨Qv3 hc⟩
noncomputable def rAbs:List V → Hp → VK → Prop:=fun xs H Q=>∃ i,xs = [.int i] ∧ Q (.int (if i < 0 then -i else i)) H
theorem Qabm:QCl X (.builtin "abs") rAbs:=⟨Qxs⟩
noncomputable def rDvm:List V → Hp → VK → Prop:=fun xs H Q=>∃ i j,xs = [.int i,.int j] ∧ CDv i j ∧ ∀ p,H p = none → Q (.ref p) (upd H p (.tup [.int (i / j),.int (i % j)]))
theorem Qabo:QCl X (.builtin "divmod") rDvm:=⟨Qx6⟩
noncomputable def Q4x:List V → Hp → VK → Prop:=fun xs H Q=>(∃ i,xs = [.int i] ∧ Q (.int i) H) ∨ ∃ k,xs = [.bl k] ∧ Q (.int (if k then 1 else 0)) H
theorem Qyf:QCl X (.type "int") Q4x:=⟨Qv4⟩
theorem Qcg (K:PySem.W.Frag) (hK:X.K = K):QCl X (.type "tuple") (Qs7 K):=⟨Q7l K hK⟩
end
section
variable {P:Program} {w:World} {K:PySem.W.Frag} {mg:Str → Option Value} {base:Heap}
theorem Qabp {x:Str} {st:Stmt} {N ps:List Str} {k:Nat} {sp:Sp} (d:Dfn K mg x st) (S:FnScope N ps (Qf st)) (bd:Qz x st ps) (len:∀ vs H Q E,sp vs H Q E → vs.length = ps.length)
  (hbody:∀ (f:Addr) (cdv:Value) (A:Around) (outer:List Env) (s:Shared) (H:Hp) (vs:List V) (Q:VK) (E:XK),Room k (A.deeper (envOfC x (Qf st) s.heap.objs.size f cdv)) → sp vs H Q E →
   ∃ t,QB (Qh1 (fun _=>true) CX0 P w K mg base N x (Qf st) f cdv A outer s H E).nox (Qa1 st) t ∧ t { nx:=fun _ H'=>Q .non H',rt:=Q } (Qbd N vs) H):Has P w K mg base x ps (k + 1) sp :=
 Q7i d S bd len fun f cdv A outer s H vs Q E hr hs=>let ⟨t,a,b⟩:=hbody f cdv A outer s H vs Q E hr hs; ⟨t,a.h,b⟩
end
section
variable {X:Cx} {tg:Expr}
end
open Classical in
noncomputable def dls (H:Hp) (S:Addr → Prop):Hp:=fun b=>if S b then none else H b
theorem Qb7 {H:Hp} {S:Addr → Prop} {b:Addr} (h:¬ S b):dls H S b = H b:=by unfold dls; rw [if_neg h]
theorem Qs {H:Hp} {S:Addr → Prop} {b:Addr} {o:HO} (e:dls H S b = some o):¬ S b ∧ H b = some o:=by
 unfold dls at e
 by_cases h:S b
 ·rw [if_pos h] at e; cases e
 ·rw [if_neg h] at e; exact ⟨h,e⟩
theorem Qyg (H:Hp) (S:Addr → Prop):Same (dls H S) H:=fun b o e=>(Qs e).2
theorem Qaq {S:Addr → Prop} {H H':Hp} (s:Same H H'):Same (dls H S) (dls H' S):=fun b o e=>by
 obtain ⟨n,e⟩:=Qs e
 rw [Qb7 n]; exact s b o e
theorem Qdj {S S':Addr → Prop} {H:Hp} (h:∀ b,S b → S' b):Same (dls H S') (dls H S):=fun b o e=>by
 obtain ⟨n,e⟩:=Qs e
 rw [Qb7 fun z=>n (h b z)]; exact e
noncomputable def Q7z:HO → Bool
 | .lst _=>true
 | .dT _=>true
 | _=>false
noncomputable def Pen (H:Hp) (S:Addr → Prop):Prop:=∀ b,S b → ∃ o,H b = some o ∧ Q7z o = true
theorem Pen.mono {H H':Hp} {S:Addr → Prop} (h:Pen H S) (s:Same H H'):Pen H' S:=fun b hb=>by
 obtain ⟨xs,e,p⟩:=h b hb
 exact ⟨xs,s _ _ e,p⟩
theorem Pen.new {H:Hp} {S:Addr → Prop} {q:Addr} (h:Pen H S) (hq:H q = none):¬ S q:=fun z=>by
 obtain ⟨xs,e,_⟩:=h q z
 rw [hq] at e; cases e
theorem Qyh {H:Hp} {S:Addr → Prop} (h:Pen H S):Tups H (dls H S):=fun a ys e=>by
 rw [Qb7 fun z=>by
  obtain ⟨xs,e',p⟩:=h a z
  rw [e] at e'; cases e'; cases p]
 exact e
section
variable {K:PySem.W.Frag} {H:Hp} {S:Addr → Prop} {x y:V} {ts us:List T} {Q:VK}
theorem Qwh {H':Hp} {a:Addr} {vs:List V} (hp:Pen H' S) (e:H' a = some (.tup vs)):dls H' S a = some (.tup vs):=Qyh hp a vs e
theorem Qd5 {a:Addr} {vs:List V} (hp:Pen H S) (e:H a = some (.tup vs)) (r:IsL (dls H S) vs ts) (z:ts.length ≤ 100000):Is (dls H S) (.ref a) (.tup ts):=.tup (Qwh hp e) r z
noncomputable def Qm2 (ts:List T) (lo hi:Option Int):List T:=(ts.drop (HT.sIx ts.length 0 lo)).take (HT.sIx ts.length ts.length hi - HT.sIx ts.length 0 lo)
theorem Qq3 (ts:List T) (lo hi:Option Int):(Qm2 ts lo hi).length ≤ ts.length:=by
 unfold Qm2
 rw [List.length_take,List.length_drop]
 omega
theorem IsL.cut {D:Hp} {vs:List V} (r:IsL D vs ts) (lo hi:Option Int):IsL D (Qgx vs lo hi) (Qm2 ts lo hi):=by
 unfold Qgx Qm2
 rw [r.length]
 exact (r.drop _).take _
theorem Qyi {lo hi:Option Int} (hp:Pen H S) (it:Is (dls H S) x (.tup ts)) (k:∀ y H',Same H H' → Is (dls H' S) y (.tup (Qm2 ts lo hi)) → Q y H'):Qx7 K x lo hi H Q:=by
 obtain ⟨a,vs,rfl,ha,r⟩:=it.tup_inv
 refine .inr ⟨a,vs,rfl,(Qs ha).2,fun q H' s' e' _=>k _ H' s' (Qd5 (hp.mono s') e' ((r.cut lo hi).mono (Qaq s')) ?_)⟩
 have:=Qq3 ts lo hi
 have:=it.tup_len
 omega
theorem Q70 (hp:Pen H S) (ix:Is (dls H S) x (.tup ts)) (iy:Is (dls H S) y (.tup us)) (hz:ts.length + us.length ≤ 100000) (k:∀ z H',Same H H' → Is (dls H' S) z (.tup (ts ++ us)) → Q z H'):Qny K x y H Q:=by
 obtain ⟨a,vs,rfl,ha,r⟩:=ix.tup_inv
 obtain ⟨b,ws,rfl,hb,r2⟩:=iy.tup_inv
 refine .inr (.inr ⟨a,b,vs,ws,rfl,rfl,(Qs ha).2,(Qs hb).2,Qbk (by rw [r.length,r2.length]; exact hz),fun q H' s' e' _=>k _ H' s' (Qd5 (hp.mono s') e' ((r.append r2).mono (Qaq s')) (by rw [List.length_append]; exact hz))⟩)
theorem Q71 {vs:List V} (hp:Pen H S) (r:IsL (dls H S) vs ts) (hz:ts.length ≤ 100000) (k:∀ z H',Same H H' → Is (dls H' S) z (.tup ts) → Q z H'):MkT vs H Q :=
 ⟨Qbk (by rw [r.length]; exact hz),fun q hq=>k _ _ (Same.upd hq) (Qd5 (hp.mono (Same.upd hq)) Qo (r.mono (Qaq (Same.upd hq))) hz)⟩
theorem Q72 {vs:List V} (hp:Pen H S) (r:IsL (dls H S) vs ts) (hz:ts.length ≤ 100000) (k:∀ l H',Same H H' → H l = none → H' l = some (.lst vs) → Is (dls H' S) (.ref l) (.lst ts) → Q (.ref l) H'):MkL vs H Q :=
 ⟨Qbk (by rw [r.length]; exact hz),fun q hq=>k _ _ (Same.upd hq) hq Qo (.lst (by rw [Qb7 (hp.new hq),Qo]) (r.mono (Qaq (Same.upd hq))) hz)⟩
end
structure Raw (fs:List Addr) (g:Heap) (H:Hp) (h h':Heap):Prop where
 keep:∀ b o,h.get? b = some o → ((∃ u,g.get? b = some u) ∨ H b ≠ none) → b ∉ fs → h'.get? b = some o
 slot:∀ b o,h.get? b = some o → ((∃ u,g.get? b = some u) ∨ H b ≠ none) → ∃ sl,h'.get? b = some { o with slots:=sl }
 size:h.objs.size ≤ h'.objs.size
theorem Raw.refl (fs:List Addr) (g:Heap) (H:Hp) (h:Heap):Raw fs g H h h:=⟨fun _ _ e _ _=>e,fun _ o e _=>⟨o.slots,e⟩,Nat.le_refl _⟩
theorem Raw.trans {fs:List Addr} {g:Heap} {H:Hp} {h h1 h2:Heap} (a:Raw fs g H h h1) (b:Raw fs g H h1 h2):Raw fs g H h h2 where
 keep:=fun c o e p q=>b.keep c o (a.keep c o e p q) p q
 slot:=fun c o e p=>by
  obtain ⟨sl,e1⟩:=a.slot c o e p
  obtain ⟨sl',e2⟩:=b.slot c _ e1 p
  exact ⟨sl',e2⟩
 size:=Nat.le_trans a.size b.size
noncomputable def XObj (H:Hp) (h:Heap) (g:Heap) (e:Addr) (cls:Value) (dx:Option Addr):Prop :=
 g.get? e = none ∧ H e = none ∧ ∃ oe vs,h.get? e = some oe ∧ oe.cls = cls ∧ oe.dict = dx ∧ oe.data = .fields vs ∧ 1 < vs.size ∧
  (vs[1]? = some .none ∨ ∃ T oT ts,vs[1]? = some (.ref T) ∧ T ≠ e ∧ g.get? T = none ∧ H T = none ∧ h.get? T = some oT ∧ oT.data = .fields ts ∧ 3 < ts.size)
section
variable {M:Model} {A:Around} {E:Value → Shared → Prop} {s:Shared} {H:Hp} {g:Heap} {e L:Addr} {cls:Value} {dx:Option Addr} {env:Env} {outer:List Env} {base:Heap} {Q:Unit → Shared → Prop}
theorem Qox {fs:List Addr} {h:Heap} {a:Addr} {f:Obj → Obj} (ha:g.get? a = none) (hH:H a = none):Raw fs g H h (h.update a f):=by
 have ne:∀ b,((∃ u,g.get? b = some u) ∨ H b ≠ none) → a ≠ b:=fun b p z=>by
  subst z
  rcases p with p | p
  ·obtain ⟨u,q⟩:=p
   rw [ha] at q; cases q
  ·exact p hH
 refine ⟨fun b o e p _=>?_,fun b o e p=>⟨o.slots,?_⟩,?_⟩
 ·rw [Heap.get?_update_other _ _ (ne b p)]; exact e
 ·rw [Heap.get?_update_other _ _ (ne b p)]; exact e
 ·exact Nat.le_of_eq (by rw [Heap.size_update])
theorem Qyj {fs:List Addr} {h:Heap} {o:Obj}:Raw fs g H h (h.push o) :=
 ⟨fun _ _ e _ _=>Heap.get?_push_of_some _ e,fun _ u e _=>⟨u.slots,Heap.get?_push_of_some _ e⟩,by rw [Heap.size_push]; omega⟩
theorem Qwi {fs:List Addr} {h h':Heap} (x:Heap.SlotsOnly fs h h'):Raw fs g H h h' :=
 ⟨fun b o e _ q=>(x.2.1 b q).trans e,fun b o e _=>x.2.2 b o e,Nat.le_of_eq x.1.symm⟩
theorem Qnz {hd0:Value} {nx:Bool} (hfr:A.frames = some (env :: outer)) (hl:s.heap.FunFrames base (env :: outer)) (hf:env.frame = some L) (fresh:∀ b,s.heap.objs.size ≤ b → H b = none) (hn:∀ b o,g.get? b = some o → b < s.heap.objs.size)
  (X:XObj H s.heap g e cls dx) (h:∀ h',XObj H h' g e cls dx → Raw (frs (env :: outer)) g H s.heap h' → Q () { s with heap:=h' }) :
  wpAny M A (do let a ← frameOf env; let pl ← entryPlaceOf L nx; let b ← EntryCells.newEntry hd0 a .none (rawInt L) .none pl; setField (.ref e) 1 b) Q E s:=by
 obtain ⟨hne,hHe,oe,vs,he,hc,hdx,hd,hsz,_⟩:=X
 have nofr:e ∉ frs (env :: outer):=fun hm=>by
  obtain ⟨_,o,ho,hnf⟩:=hl.mem hm
  rw [he] at ho; cases ho; exact hnf vs hd
 refine wpAny_bind (wpAny_frameOf_fun hfr hl hf fun h1 hs1=>wpAny_bind (wpAny_entryPlaceOf fun pl hpl=>?_))
 unfold EntryCells.newEntry newFields
 refine wpAny_bind (wpAny_newObj_type ?_ (hpl.sizeOk5 _ _ _ _ _))
 have he1:h1.get? e = some oe:=(hs1.2.1 e nofr).trans he
 have sz1:h1.objs.size = s.heap.objs.size:=hs1.1
 generalize hob:({ cls:=.type "traceback",dict:=none,data:=.fields ([hd0,.ref L,.none,rawInt L,.none] ++ (if pl.isEmpty then List.replicate 6 Value.none else pl)).toArray }:Obj) = ob
 have he2:(h1.push ob).get? e = some oe:=Heap.get?_push_of_some _ he1
 have hTe:h1.objs.size ≠ e:=Nat.ne_of_gt (Heap.lt_size he1)
 have dd:=Obj.data_mapFields hd (·.setIfInBounds 1 (Value.ref h1.objs.size))
 refine wpAny_setField he2 hd hsz (h _ ?_ (((Qwi hs1).trans Qyj).trans (Qox hne hHe)))
 refine ⟨hne,hHe,_,_,Heap.get?_update_self _ he2 (Obj.isFreed_of_fields dd),(Obj.cls_mapFields _ _).trans hc,?_,dd,by simpa using hsz,.inr ⟨h1.objs.size,ob,_,by simp [hsz],hTe,?_,fresh _ (by omega),?_,by rw [← hob],?_⟩⟩
 ·rw [← hdx]
  cases oe
  subst hd
  rfl
 ·cases z:g.get? h1.objs.size with
  | none=>rfl
  | some o=>exact absurd (hn _ _ z) (by rw [sz1]; exact Nat.lt_irrefl _)
 ·rw [Heap.get?_update_other _ _ (Ne.symm hTe)]
  exact Heap.get?_push_size h1 (by rw [← hob]; rfl)
 ·simp only [List.size_toArray,List.length_append,List.length_cons,List.length_nil]
  omega
theorem Qyk (hfr:A.frames = some (env :: outer)) (hl:s.heap.FunFrames base (env :: outer)) (hf:env.frame = some L) (fresh:∀ b,s.heap.objs.size ≤ b → H b = none) (hn:∀ b o,g.get? b = some o → b < s.heap.objs.size)
  (X:XObj H s.heap g e cls dx) (h:∀ h',XObj H h' g e cls dx → Raw (frs (env :: outer)) g H s.heap h' → Q () { s with heap:=h' }) :
  wpAny M A (noteFrame (.ref e) env) Q E s:=by
 obtain ⟨hne,hHe,oe,vs,he,hc,hdx,hd,hsz,h1⟩:=id X
 unfold noteFrame
 simp only [hf]
 rcases h1 with h1 | ⟨T,oT,ts,h1,hTe,hnT,hHT,hT,hdT,h3⟩
 ·refine wpAny_bind (wpAny_field he hd h1 ?_)
  rw [if_neg (by decide)]
  exact Qnz hfr hl hf fresh hn X h
 ·refine wpAny_bind (wpAny_field he hd h1 ?_)
  rw [if_pos (by simp)]
  refine wpAny_bind (wpAny_field hT hdT (Array.getElem?_eq_getElem h3) ?_)
  by_cases hz:(ts[3] == rawInt L) = true
  ·rw [if_pos hz]
   exact wpAny_pure (h _ X (Raw.refl _ _ _ _))
  ·rw [if_neg hz]
   refine wpAny_bind (wpAny_setField hT hdT h3 ?_)
   have rw1:Raw (frs (env :: outer)) g H s.heap (s.heap.update T (Obj.mapFields (·.setIfInBounds 3 Value.none))):=Qox hnT hHT
   have oth:∀ b,b ≠ T → (s.heap.update T (Obj.mapFields (·.setIfInBounds 3 Value.none))).get? b = s.heap.get? b:=fun b hb=>Heap.get?_update_other _ _ (Ne.symm hb)
   have dT:=Obj.data_mapFields hdT (·.setIfInBounds 3 Value.none)
   refine Qnz (s:={ s with heap:=s.heap.update T (Obj.mapFields (·.setIfInBounds 3 Value.none)) }) hfr (hl.of_keeps fun b o hb hnf=>⟨o,(oth b ?_).trans hb,rfl⟩) hf (fun b hb=>fresh b (Nat.le_trans rw1.size hb)) (fun b o q=>Nat.lt_of_lt_of_le (hn b o q) rw1.size)
    ⟨hne,hHe,oe,vs,(oth e (Ne.symm hTe)).trans he,hc,hdx,hd,hsz,.inr ⟨T,_,_,h1,hTe,hnT,hHT,Heap.get?_update_self _ hT (Obj.isFreed_of_fields dT),dT,by simpa using h3⟩⟩ fun h' x r=>h h' x (rw1.trans r)
   intro z
   rw [z,hT] at hb
   cases hb
   exact hnf ts hdT
theorem Qtb {fs:List Addr} (X:XObj H s.heap g e cls dx) (h:∀ h',XObj H h' g e cls dx → Raw fs g H s.heap h' → Q () { s with heap:=h' }):wpAny M A (setFlight (.ref e) none) Q E s:=by
 obtain ⟨hne,hHe,oe,vs,he,hc,hdx,hd,hsz,h1⟩:=id X
 unfold setFlight
 rcases h1 with h1 | ⟨T,oT,ts,h1,hTe,hnT,hHT,hT,hdT,h3⟩
 ·refine wpAny_bind (wpAny_field he hd h1 ?_)
  rw [if_neg (by decide)]
  exact wpAny_pure (h _ X (Raw.refl _ _ _ _))
 ·refine wpAny_bind (wpAny_field he hd h1 ?_)
  rw [if_pos (by simp)]
  have dT:=Obj.data_mapFields hdT (·.setIfInBounds 3 Value.none)
  refine wpAny_setField hT hdT h3 (h _ ⟨hne,hHe,oe,vs,?_,hc,hdx,hd,hsz,.inr ⟨T,_,_,h1,hTe,hnT,hHT,Heap.get?_update_self _ hT (Obj.isFreed_of_fields dT),dT,by simpa using h3⟩⟩ (Qox hnT hHT))
  rw [Heap.get?_update_other _ _ hTe]
  exact he
theorem Qwj (hfr:A.frames = some (env :: outer)) (hl:s.heap.FunFrames base (env :: outer)) (hf:env.frame = some L) (fresh:∀ b,s.heap.objs.size ≤ b → H b = none) (hn:∀ b o,g.get? b = some o → b < s.heap.objs.size)
  (X:XObj H s.heap g e cls dx) (h:∀ h',XObj H h' g e cls dx → Raw (frs (env :: outer)) g H s.heap h' → Q () { s with heap:=h' }) :
  wpAny M A (leaving env (.ref e)) Q E s:=by
 unfold leaving
 exact wpAny_bind (Qyk hfr hl hf fresh hn X fun h1 x1 r1=>Qtb x1 fun h2 x2 r2=>h h2 x2 (r1.trans r2))
end
noncomputable def CXE (P:Program) (w:World):CXT:=fun outer H s E e s'=>∃ a cls dx H',e = .ref a ∧ s'.os = s.os ∧ AllBare s'.gens ∧ Un (frs outer) [] H H' s.heap s'.heap ∧ HOk P w H' s'.heap ∧ XObj H' s'.heap s.heap a cls dx ∧ E cls dx H'
noncomputable abbrev XR:=Value → Option Addr → St → Hp → Prop
noncomputable def Qkf (X:Cx) (R:XR):Prop:=∀ (pins:List (Addr × Obj)) (σ:St) (H:Hp) (s:Shared) (e:Value) (s':Shared),Inv X pins σ H s → CXE X.prog X.w X.stack H s (fun cls dx H'=>R cls dx σ H') e s' → X.xe e s'
section
variable {P:Program} {w:World} {H H0:Hp} {h h' h0 g:Heap} {fs fs':List Addr}
theorem Raw.hok (r:Raw fs g H h h') (ok:HOk P w H h) (hf:∀ b ∈ fs,H b = none):HOk P w H h':=fun a o e=>by
 have ht:∀ b u,H b = some u → ((∃ u,g.get? b = some u) ∨ H b ≠ none) ∧ b ∉ fs:=fun b u q=>⟨.inr (by rw [q]; simp),fun z=>by rw [hf b z] at q; cases q⟩
 refine (ok a o e).stay (fun b u hb q=>?_) (fun _ q=>q) fun _ _ q=>q
 rcases hb with rfl | hb
 ·exact r.keep _ u q (ht _ _ e).1 (ht _ _ e).2
 ·exact r.keep _ u q (ht _ _ hb).1 (ht _ _ hb).2
theorem Raw.un (r:Raw fs' g H h h') (u:Un fs [] H0 H h0 h) (hg:∀ b o,h0.get? b = some o → ∃ v,g.get? b = some v) (hs:∀ b ∈ fs',b ∈ fs ∨ h0.objs.size ≤ b):Un fs [] H0 H h0 h' where
 keep:=fun b o e n hb hx=>r.keep b o (u.keep b o e n hb hx) (.inl (hg b o e)) fun z=>by
  rcases hs b z with z | z
  ·exact hb z
  ·exact absurd (Nat.lt_of_lt_of_le (Heap.lt_size e) z) (Nat.lt_irrefl _)
 slot:=fun b o e n hb hx=>by
  obtain ⟨sl,q⟩:=u.slot b o e n hb hx
  obtain ⟨sl',q'⟩:=r.slot b _ q (.inl (hg b o e))
  exact ⟨sl',q'⟩
 free:=u.free
 there:=fun b o e hx=>by
  obtain ⟨o',q⟩:=u.there b o e hx
  obtain ⟨sl',q'⟩:=r.slot b _ q (.inl (hg b o e))
  exact ⟨_,q'⟩
 tups:=u.tups
 frzs:=u.frzs
 tbls:=u.tbls
theorem XObj.mono {e:Addr} {cls:Value} {dx:Option Addr} {g':Heap} (x:XObj H h g e cls dx) (hg:∀ b o,g'.get? b = some o → ∃ v,g.get? b = some v):XObj H h g' e cls dx:=by
 have nn:∀ b,g.get? b = none → g'.get? b = none:=fun b q=>by
  cases z:g'.get? b with
  | none=>rfl
  | some o =>
   obtain ⟨v,q'⟩:=hg b o z
   rw [q] at q'; cases q'
 obtain ⟨h1,h2,oe,vs,a1,a2,a3,a4,a5,a6⟩:=x
 refine ⟨nn _ h1,h2,oe,vs,a1,a2,a3,a4,a5,a6.imp (fun z=>z) fun ⟨T,oT,ts,b1,b2,b3,b4⟩=>⟨T,oT,ts,b1,b2,nn _ b3,b4⟩⟩
end
section
variable {X:Cx} {pins:List (Addr × Obj)} {σ:St} {H H':Hp} {s s':Shared} {e:Addr} {cls:Value} {dx:Option Addr}
theorem Inv.thrown (I:Inv X pins σ H s) (os:s'.os = s.os) (bare:AllBare s'.gens) (un:Un (frs X.stack) [] H H' s.heap s'.heap) (hok:HOk X.prog X.w H' s'.heap):Inv X pins σ H' s' :=
 I.call' (ch:=[]) os un hok bare fun b z=>absurd z (by simp)
end
theorem Q4y {g:Str → Bool} {P:Program} {w:World} {K:PySem.W.Frag} {mg:Str → Option Value} {base:Heap} {N:List Str} {qual:Str} {scope:Scope} {f:Addr} {cd:Value} {A:Around} {outer:List Env} {s0:Shared} {H0:Hp} {E:XK} :
  Qkf (Qh1 g (CXE P w) P w K mg base N qual scope f cd A outer s0 H0 E) (fun cls dx _ H=>E cls dx H):=by
 intro pins σ H s e s' I h
 obtain ⟨a,cls,dx,H',rfl,os,bare,un,hok,xo,hE⟩:=h
 have J:=I.thrown os bare un hok
 show wpAny _ _ (leaving _ _) _ _ _
 refine Qwj (base:=base) (outer:=outer) J.ok.frames J.stack rfl (fun b hb=>J.hok.fresh hb) (fun b o q=>?_) xo fun h' x' r'=>?_
 ·obtain ⟨o',q'⟩:=un.there b o q (by simp)
  exact Heap.lt_size q'
 ·have hg:∀ b o,s0.heap.get? b = some o → ∃ v,s.heap.get? b = some v:=fun b o q=>I.base.there b o q (by intro z; exact absurd (show b ∈ ([]:List Addr) from z) (by simp))
  refine ⟨a,cls,dx,H',rfl,J.os,J.bare,r'.un J.base hg (fun b hb=>?_),r'.hok hok J.stkFree,x'.mono hg,hE⟩
  rcases List.mem_cons.mp (J.stkSub b hb) with z | z
  ·rw [z]; exact .inr J.ok.above
  ·exact .inl z
noncomputable def CodeOf (K:PySem.W.Frag) (mg:Str → Option Value) (x:Str) (cdv:Value):Prop:=∃ f oc od fd osl,mg x = some (.ref f) ∧ K.lookup f = some ⟨oc,od,.func fd,osl⟩ ∧ fd.code = cdv
theorem CodeOf.one {K:PySem.W.Frag} {mg:Str → Option Value} {x:Str} {c d:Value} (a:CodeOf K mg x c) (b:CodeOf K mg x d):c = d:=by
 obtain ⟨f,_,_,_,_,m,l,e⟩:=a
 obtain ⟨g,_,_,_,_,m2,l2,e2⟩:=b
 rw [m] at m2
 cases m2
 rw [l] at l2
 cases l2
 exact e.symm.trans e2
noncomputable def Q16 (P:Program) (w:World) (K:PySem.W.Frag) (mg:Str → Option Value) (base:Heap) (x:Str) (ps:List Str) (k:Nat) (sp:Sp):Prop :=
 ∃ f fd,PySem.W.keepIn K (.ref f) = true ∧ mg x = some (.ref f) ∧ Binds K fd ps [] ∧ FnOk P w K mg base (CXE P w) k f fd ps sp
section
variable {P:Program} {w:World} {K:PySem.W.Frag} {mg:Str → Option Value} {base:Heap}
end
noncomputable abbrev Qyl (sp:Sp) (R:XR) (t:TA):TE:=fun σ H Q=>t σ H fun vs H1=>sp vs H1 Q (fun cls dx H2=>R cls dx σ H2)
section
variable {X:Cx} {x:Str} {ps:List Str} {k:Nat} {sp:Sp} {e:Expr} {es:List Expr} {t:TA} {p pos cpos np:Pos} {R:XR}
theorem Qabq (h:Q16 X.prog X.w X.K X.mg X.base x ps k sp) (pz:Qkf X R) (hr:Room k X.A) (ha:QA X (e :: es) t) (hg:Gl X x:=by rfl)
  (hdb:(x == ("__debug__" : Str)) = false:=by decide) (he:starEach (e :: es) X.env = (false,eval e X.env) :: starEach es X.env:=by rfl) (hpl:(backTo pos (starEach es X.env)).any (·.1) = false:=by rfl) :
  QE X (.Call (.Name x p) (e :: es) [] pos) (Qyl sp R t):=by
 obtain ⟨f,fd,kp,m,b,F⟩:=h
 refine ⟨fun pins s σ H Q I hq=>?_⟩
 refine wpAny_Call_Name_kw (Qoo I hg m ?_ hdb)
 refine PySem.W.callWith_K (h₀:=X.base) I.ok.mod.kin kp (thn (ha.h pos pins s σ H _ I hq) fun us s1 ⟨vs,H1,I1,r,q⟩=>⟨I1.kIn,?_⟩) he hpl
 have hl:(us ++ []).length = ps.length:=by rw [List.append_nil,← r.length]; exact F.len _ _ _ _ q
 have r2:Vals vs (us ++ []):=by rw [List.append_nil]; exact r
 refine wpAny_call (codeAny_mono (F.run X.A X.stack s1 H1 ⟨us,[]⟩ (us ++ []) vs Q _ hr I1.env0 (b s1 us I1.kIn hl) r2 q) fun rr s' hq'=>?_)
 cases rr with
 | error ev=>exact pz pins σ H1 s1 ev s' I1 hq'
 | ok fl =>
  cases fl with
  | ret u=>exact I1.after hq'
  | next=>exact False.elim hq'
  | brk=>exact False.elim hq'
  | cont=>exact False.elim hq'
theorem Q17 {st:Stmt}:QS X st (fun _ _ _=>False):=⟨fun _ _ _ _ _ _ h=>h.elim⟩
theorem q_sx {st:Stmt} {t:TS} (h:QS X.nox st t):QS X st t:=⟨fun pins s σ H D I hw=>wpAny_mono (h.h pins s σ H D (I.wish _) hw) (fun _ _ q=>q.unwish) fun _ _ z=>False.elim z⟩
end
section
variable {X:Cx} {x:Str} {e:Expr} {es:List Expr} {t:TA} {pos cpos np:Pos} {R:XR} {C:Addr} {B newId initId:String} {bmB:List Value}
end
structure RoomH (k:Nat) (A:Around):Prop where
 dp:A.depth + 3 * k + 5 < recursionLimit
 un:A.units + 16 * k + 200 < cLine
structure FnOkH (P:Program) (w:World) (K:PySem.W.Frag) (mg:Str → Option Value) (base:Heap) (CX:CXT) (k:Nat) (f:Addr) (fd:FuncData) (ps:List Str) (sp:Sp):Prop where
 len:∀ vs H Q E,sp vs H Q E → vs.length = ps.length
 run:∀ (A:Around) (outer:List Env) (s:Shared) (H:Hp) (args:Args) (us:List Value) (vs:List V) (Q:VK) (E:XK),RoomH k A → Env0 P w K mg base A outer s H → BindsTo s fd args (ps.zip us) → Vals vs us → sp vs H Q E →
  codeAny (model P w) A (.call (.ref f) args) (CR CX outer P w H s Q E) s
section
variable {X:Cx} {pins p2:List (Addr × Obj)} {σ σ0:St} {H H0:Hp} {s s0:Shared} {h':Heap} {R:XR}
end
section
variable {X:Cx} {pins:List (Addr × Obj)} {σ:St} {H:Hp} {s:Shared} {M:Model} {A:Around} {E:Value → Shared → Prop} {Q:Unit → Shared → Prop} {i:Nat} {x:Str} {v:V}
end
section
variable {X:Cx} {body suite:List Stmt} {b0:Stmt} {x n:Str} {np hpos pos:Pos} {tb:XR → TS} {th:TS} {i:Nat} {C0:Addr} {bmB:List Value} {newId:String}
end
end L2
namespace PySem.SeqAt
open PySem PySem.Spec PyProof PyProof.Rows
theorem sub_tuple_dict:isSubtype (.type "tuple") (.type "dict") = pure false:=by rw [isSubtype_type]; kernel_rfl
theorem sub_dict_tuple:isSubtype (.type "dict") (.type "tuple") = pure false:=by rw [isSubtype_type]; kernel_rfl
theorem sub_dict_dict:isSubtype (.type "dict") (.type "dict") = pure true:=by rw [isSubtype_type]; kernel_rfl
theorem dict_ne_declines_tuple (l b:Addr) (da:Data) (items2:Array Value) (n2:Nat) (dd dd2:Option Addr) (sl sl2:Array (Option Value)) :
  Meets (Builtin.«dict.__ne__» ⟨[.ref l,.ref b],[]⟩) (fun _ R s=>s.heap.get? l = some { cls:=.type "dict",dict:=dd,data:=da,slots:=sl } ∧ s.heap.get? b = some { cls:=.type "tuple",dict:=dd2,data:=.seq items2 n2,slots:=sl2 } ∧ R (.ok (.ret .notImplemented)) s) :=
 .of_wp fun prog w A R s h=>by obtain ⟨hp,g,d,tk,os⟩:=s; obtain ⟨hl,hb,h⟩:=h; have f1:=sub_tuple_dict; have f2:=sub_dict_dict; wp_walk using wpAny_loadPart' hl,wpAny_loadPart' hb; exact ⟨_,rfl,h⟩
theorem tuple_ne_declines_dict (l b:Addr) (da:Data) (items:Array Value) (n:Nat) (dd dd2:Option Addr) (sl sl2:Array (Option Value)) :
  Meets (Builtin.«tuple.__ne__» ⟨[.ref l,.ref b],[]⟩) (fun _ R s=>s.heap.get? l = some { cls:=.type "tuple",dict:=dd,data:=.seq items n,slots:=sl } ∧ s.heap.get? b = some { cls:=.type "dict",dict:=dd2,data:=da,slots:=sl2 } ∧ R (.ok (.ret .notImplemented)) s) :=
 .of_wp fun prog w A R s h=>by obtain ⟨hp,g,d,tk,os⟩:=s; obtain ⟨hl,hb,h⟩:=h; have f1:=sub_dict_tuple; wp_walk using wpAny_loadPart' hl,wpAny_loadPart' hb; exact ⟨_,rfl,h⟩
theorem dict_eq_declines_tuple (l b:Addr) (da:Data) (items2:Array Value) (n2:Nat) (dd dd2:Option Addr) (sl sl2:Array (Option Value)) :
  Meets (Builtin.«dict.__eq__» ⟨[.ref l,.ref b],[]⟩) (fun _ R s=>s.heap.get? l = some { cls:=.type "dict",dict:=dd,data:=da,slots:=sl } ∧ s.heap.get? b = some { cls:=.type "tuple",dict:=dd2,data:=.seq items2 n2,slots:=sl2 } ∧ R (.ok (.ret .notImplemented)) s) :=
 .of_wp fun prog w A R s h=>by obtain ⟨hp,g,d,tk,os⟩:=s; obtain ⟨hl,hb,h⟩:=h; have f1:=sub_tuple_dict; have f2:=sub_dict_dict; wp_walk using wpAny_loadPart' hl,wpAny_loadPart' hb; exact ⟨_,rfl,h⟩
theorem tuple_eq_declines_dict (l b:Addr) (da:Data) (items:Array Value) (n:Nat) (dd dd2:Option Addr) (sl sl2:Array (Option Value)) :
  Meets (Builtin.«tuple.__eq__» ⟨[.ref l,.ref b],[]⟩) (fun _ R s=>s.heap.get? l = some { cls:=.type "tuple",dict:=dd,data:=.seq items n,slots:=sl } ∧ s.heap.get? b = some { cls:=.type "dict",dict:=dd2,data:=da,slots:=sl2 } ∧ R (.ok (.ret .notImplemented)) s) :=
 .of_wp fun prog w A R s h=>by obtain ⟨hp,g,d,tk,os⟩:=s; obtain ⟨hl,hb,h⟩:=h; have f1:=sub_dict_tuple; wp_walk using wpAny_loadPart' hl,wpAny_loadPart' hb; exact ⟨_,rfl,h⟩
section
variable {A:Around} {s:Shared}
theorem RcNeAt.dict_tuple {l b:Addr} {o:Obj} {items2:Array Value} (ho:s.heap.get? l = some o) (hc:o.cls = .type "dict") (hb:s.heap.IsTuple b items2) (hu:A.units < cLine):RcNeAt A s (.ref l) (.ref b) true:=fun prog w E Q h=>by
 obtain ⟨⟨cls2,dd2,data2,sl2⟩,ho2,hc2,n2,hd2⟩:=id hb
 obtain ⟨cls,dd,data,sl⟩:=o
 simp only at hc hc2 hd2
 subst hc hc2 hd2
 have hne:l ≠ b:=fun z=>by subst z; rw [ho] at ho2; have e:(Value.type "dict") = .type "tuple" := congrArg (·.cls) (Option.some.inj ho2); exact absurd e (by decide)
 exact (rc_ne_decline_or (k:=false) ⟨_,ho,rfl⟩ ⟨_,ho2,rfl⟩ (by decide) sub_tuple_dict F.slot_dict_ne F.slot_tuple_ne_refl
  (fun _ hq=>call_meets F.slot_dict_ne ⟨_,ho,rfl⟩ F.entry_dict_ne (F.args_dict_ne_2 _ _) (dict_ne_declines_tuple l b data items2 n2 dd dd2 sl sl2) ⟨ho,ho2,hq⟩)
  (fun _ hq=>call_meets F.slot_tuple_ne_refl ⟨_,ho2,rfl⟩ F.entry_tuple_ne (F.args_tuple_ne_2 _ _) (tuple_ne_declines_dict b l data items2 n2 dd2 dd sl2 sl) ⟨ho2,ho,hq⟩)
  (fun _ hq=>wpAny_isSame_ref_other hne ho ho2 (by simp) hq) (.inr hu) h)
theorem RcAt.dict_tuple {l b:Addr} {o:Obj} {items2:Array Value} (ho:s.heap.get? l = some o) (hc:o.cls = .type "dict") (hb:s.heap.IsTuple b items2) (hu:A.units < cLine):RcAt A s (.ref l) (.ref b) false:=fun prog w E Q h=>by
 obtain ⟨⟨cls2,dd2,data2,sl2⟩,ho2,hc2,n2,hd2⟩:=id hb
 obtain ⟨cls,dd,data,sl⟩:=o
 simp only at hc hc2 hd2
 subst hc hc2 hd2
 have hne:l ≠ b:=fun z=>by subst z; rw [ho] at ho2; have e:(Value.type "dict") = .type "tuple" := congrArg (·.cls) (Option.some.inj ho2); exact absurd e (by decide)
 exact (rc_eq_decline_or (k:=false) ⟨_,ho,rfl⟩ ⟨_,ho2,rfl⟩ (by decide) sub_tuple_dict F.slot_dict_eq F.slot_tuple_eq_refl
  (fun _ hq=>call_meets F.slot_dict_eq ⟨_,ho,rfl⟩ F.entry_dict_eq (F.args_dict_eq_2 _ _) (dict_eq_declines_tuple l b data items2 n2 dd dd2 sl sl2) ⟨ho,ho2,hq⟩)
  (fun _ hq=>call_meets F.slot_tuple_eq_refl ⟨_,ho2,rfl⟩ F.entry_tuple_eq (F.args_tuple_eq_2 _ _) (tuple_eq_declines_dict b l data items2 n2 dd2 dd sl2 sl) ⟨ho2,ho,hq⟩)
  (fun _ hq=>wpAny_isSame_ref_other hne ho ho2 (by simp) hq) (.inr hu) h)
end
end PySem.SeqAt
namespace L2
open PySem PySem.Spec PyProof.Rows
mutual
noncomputable def eqT:T → T → Bool
 | .non,.non=>true
 | .bl a,.bl b=>a == b
 | .int a,.int b=>a == b
 | .bl a,.int b=>(if a then 1 else 0) == b
 | .int a,.bl b=>a == (if b then 1 else 0)
 | .str a,.str b=>a == b
 | .tup a,.tup b=>eqL a b
 | .lst a,.lst b=>eqL a b
 | _,_=>false
noncomputable def eqL:List T → List T → Bool
 | [],[]=>true
 | x :: xs,y :: ys=>eqT x y && eqL xs ys
 | _,_=>false
end
noncomputable def Qi:Nat → T → Bool
 | _,.non=>true
 | _,.bl _=>true
 | _,.int _=>true
 | _,.str _=>true
 | n + 1,.tup ts=>ts.all (Qi n)
 | n + 1,.lst ts=>ts.all (Qi n)
 | _,_=>false
theorem Qhv:eqL [] [] = true:=by unfold eqL; rfl
theorem Qfg (x y:T) (xs ys:List T):eqL (x :: xs) (y :: ys) = (eqT x y && eqL xs ys):=by rw [eqL]
theorem Qfo:∀ {xs ys:List T},xs.length ≠ ys.length → eqL xs ys = false
 | [],[],h=>absurd rfl h
 | [],_ :: _,_=>by unfold eqL; rfl
 | _ :: _,[],_=>by unfold eqL; rfl
 | x :: xs,y :: ys,h=>by rw [Qfg,Qfo (xs:=xs) (ys:=ys) (by simpa using h),Bool.and_false]
theorem Qn0:∀ {xs ys:List T} {e:Nat → Bool},(∀ (j:Nat) a b,xs[j]? = some a → ys[j]? = some b → e j = eqT a b) → ((List.range (min xs.length ys.length)).all e && (xs.length == ys.length)) = eqL xs ys
 | [],[],e,_=>by rw [Qhv]; rfl
 | [],y :: ys,e,_=>by rw [Qfo (by simp)]; simp
 | x :: xs,[],e,_=>by rw [Qfo (by simp)]; simp
 | x :: xs,y :: ys,e,h=>by
  rw [Qfg,← Qn0 (xs:=xs) (ys:=ys) (e:=fun j=>e (j + 1)) fun j a b p q=>h (j + 1) a b p q,List.length_cons,List.length_cons,Nat.succ_min_succ,List.range_succ_eq_map,List.all_cons,List.all_map,← h 0 x y rfl rfl,Bool.and_assoc]
  congr 2
  simp
theorem Qlj:∀ (n:Nat) (t:T),Qi n t = true → eqT t t = true
 | _,.non,_=>by rw [eqT]
 | _,.bl b,_=>by rw [eqT]; simp
 | _,.int i,_=>by rw [eqT]; simp
 | _,.str x,_=>by rw [eqT]; simp
 | n + 1,.tup ts,h=>by
  have h:ts.all (Qi n) = true:=by rw [Qi] at h; exact h
  have go:∀ ts:List T,ts.all (Qi n) = true → eqL ts ts = true:=fun ts=>by
   induction ts with
   | nil=>intro _; exact Qhv
   | cons x xs ih =>
    intro h
    rw [List.all_cons,Bool.and_eq_true] at h
    rw [Qfg,Qlj n x h.1,ih h.2]
    rfl
  rw [eqT]; exact go ts h
 | n + 1,.lst ts,h=>by
  have h:ts.all (Qi n) = true:=by rw [Qi] at h; exact h
  have go:∀ ts:List T,ts.all (Qi n) = true → eqL ts ts = true:=fun ts=>by
   induction ts with
   | nil=>intro _; exact Qhv
   | cons x xs ih =>
    intro h
    rw [List.all_cons,Bool.and_eq_true] at h
    rw [Qfg,Qlj n x h.1,ih h.2]
    rfl
  rw [eqT]; exact go ts h
 | 0,.tup _,h=>by simp [Qi] at h
 | 0,.lst _,h=>by simp [Qi] at h
 | 0,.dct _ _,h=>by simp [Qi] at h
 | 0,.clo _ _,h=>by simp [Qi] at h
 | _ + 1,.dct _ _,h=>by simp [Qi] at h
 | _ + 1,.clo _ _,h=>by simp [Qi] at h
 | 0,.dtt _ _,h=>by simp [Qi] at h
 | _ + 1,.dtt _ _,h=>by simp [Qi] at h
theorem Q4z {H:Hp}:∀ (n:Nat) {v:V} {t t':T},Is H v t → Is H v t' → Qi n t = true → Qi n t' = true → eqT t t' = true:=by
 intro n
 induction n with
 | zero =>
  intro v t t' i j h h'
  cases t <;> first | (simp [Qi] at h; done) | skip
  all_goals (cases t' <;> first | (simp [Qi] at h'; done) | skip)
  all_goals (unfold Is at i j; rw [i] at j; first | (cases j; simp [eqT]; done) | cases j)
 | succ n ih =>
  intro v t t' i j h h'
  have go:∀ (ts us:List T) (vs:List V),IsL H vs ts → IsL H vs us → ts.all (Qi n) = true → us.all (Qi n) = true → eqL ts us = true:=by
   intro ts
   induction ts with
   | nil =>
    intro us vs q1 q2 _ _
    rw [q1.nil_inv] at q2
    cases us with
    | nil=>exact Qhv
    | cons y ys=>obtain ⟨_,_,z,_⟩:=q2.cons_inv; cases z
   | cons x xs ihx =>
    intro us vs q1 q2 a1 a2
    obtain ⟨v,r,rfl,c1,c2⟩:=q1.cons_inv
    cases us with
    | nil=>have:=q2.nil_inv; cases this
    | cons y ys =>
     obtain ⟨v',r',z,d1,d2⟩:=q2.cons_inv
     cases z
     rw [List.all_cons,Bool.and_eq_true] at a1 a2
     rw [Qfg,ihx ys r c2 d2 a1.2 a2.2,Bool.and_true]
     exact ih c1 d1 a1.1 a2.1
  cases t with
  | dct _ _=>simp [Qi] at h
  | clo _ _=>simp [Qi] at h
  | dtt _ _=>simp [Qi] at h
  | tup ts =>
   obtain ⟨a,vs,rfl,ha,q⟩:=i.tup_inv
   cases t' with
   | tup us =>
    obtain ⟨a',vs',e,ha',q'⟩:=j.tup_inv
    cases e
    rw [ha] at ha'
    cases ha'
    rw [eqT]
    exact go ts us vs q q' (by simpa only [Qi] using h) (by simpa only [Qi] using h')
   | lst us =>
    obtain ⟨a',vs',e,ha',q'⟩:=j.lst_inv
    cases e
    rw [ha] at ha'
    cases ha'
   | dct _ _=>simp [Qi] at h'
   | clo _ _=>simp [Qi] at h'
   | dtt _ _=>simp [Qi] at h'
   | _=>unfold Is at j; cases j
  | lst ts =>
   obtain ⟨a,vs,rfl,ha,q⟩:=i.lst_inv
   cases t' with
   | lst us =>
    obtain ⟨a',vs',e,ha',q'⟩:=j.lst_inv
    cases e
    rw [ha] at ha'
    cases ha'
    rw [eqT]
    exact go ts us vs q q' (by simpa only [Qi] using h) (by simpa only [Qi] using h')
   | tup us =>
    obtain ⟨a',vs',e,ha',q'⟩:=j.tup_inv
    cases e
    rw [ha] at ha'
    cases ha'
   | dct _ _=>simp [Qi] at h'
   | clo _ _=>simp [Qi] at h'
   | dtt _ _=>simp [Qi] at h'
   | _=>unfold Is at j; cases j
  | _ =>
   cases t' with
   | dct _ _=>simp [Qi] at h'
   | clo _ _=>simp [Qi] at h'
   | dtt _ _=>simp [Qi] at h'
   | tup us =>
    obtain ⟨a',vs',e,ha',q'⟩:=j.tup_inv
    unfold Is at i
    rw [i] at e; cases e
   | lst us =>
    obtain ⟨a',vs',e,ha',q'⟩:=j.lst_inv
    unfold Is at i
    rw [i] at e; cases e
   | _=>unfold Is at i j; rw [i] at j; first | (cases j; simp [eqT]; done) | cases j
inductive Shp (P:Program) (w:World) (H:Hp) (h:Heap):T → Value → Prop
 | non:Shp P w H h .non .none
 | bl (b):Shp P w H h (.bl b) (.bool b)
 | int (i t):Shp P w H h (.int i) (.int i t)
 | str (x t):Shp P w H h (.str x) (.str x t)
 | tup {a vs ts its}:Is H (.ref a) (.tup ts) → IsL H vs ts → Vals vs its → h.IsTuple a its.toArray → Shp P w H h (.tup ts) (.ref a)
 | lst {a vs ts its}:Is H (.ref a) (.lst ts) → IsL H vs ts → Vals vs its → h.IsList a its.toArray → Shp P w H h (.lst ts) (.ref a)
 | dct {ks ts u}:Shp P w H h (.dct ks ts) u
 | clo {l ts u}:Shp P w H h (.clo l ts) u
 | dtt {ks ts u}:Shp P w H h (.dtt ks ts) u
theorem Is.shp {P:Program} {w:World} {H:Hp} {h:Heap} {v:V} {u:Value}:∀ {t:T},Is H v t → RelV v u → HOk P w H h → Shp P w H h t u
 | .non,i,r,_=>by unfold Is at i; subst i; cases r; exact .non
 | .bl b,i,r,_=>by unfold Is at i; subst i; cases r; exact .bl b
 | .int n,i,r,_=>by unfold Is at i; subst i; obtain ⟨t,rfl⟩:=r; exact .int n t
 | .str x,i,r,_=>by unfold Is at i; subst i; obtain ⟨t,rfl⟩:=r; exact .str x t
 | .tup ts,i,r,ok=>by
  obtain ⟨a,vs,rfl,ha,q⟩:=i.tup_inv
  cases r
  obtain ⟨_,its,rv,p⟩:=ok a _ ha
  exact .tup i q rv p.tup
 | .lst ts,i,r,ok=>by
  obtain ⟨a,vs,rfl,ha,q⟩:=i.lst_inv
  cases r
  obtain ⟨_,its,n,rv,p⟩:=ok a _ ha
  exact .lst i q rv ⟨_,p,rfl,n,rfl⟩
 | .dct ks ts,_,_,_=>.dct
 | .clo l ts,_,_,_=>.clo
 | .dtt ks ts,_,_,_=>.dtt
section
variable {P:Program} {w:World} {H:Hp}
noncomputable def eAt (ts us:List T) (j:Nat):Bool:=eqT (ts.getD j .non) (us.getD j .non)
theorem Qn1 (ts us:List T):((List.range (min ts.length us.length)).all (eAt ts us) && (ts.length == us.length)) = eqL ts us :=
 Qn0 fun j a b p q=>by unfold eAt; rw [List.getD_eq_getElem?_getD,List.getD_eq_getElem?_getD,p,q]; rfl
theorem Qq4 {s:Shared} {A:Around} {n:Nat} {ts us:List T} {vs ws:List V} {its its2:List Value} (i1:IsL H vs ts) (i2:IsL H ws us) (r1:Vals vs its) (r2:Vals ws its2) (ok:HOk P w H s.heap) (h1:ts.all (Qi n) = true) (h2:us.all (Qi n) = true)
  (ih:∀ (t t':T) (u u':Value),Qi n t = true → Qi n t' = true → Shp P w H s.heap t u → Shp P w H s.heap t' u' → SeqAt.EqAt A s u u' (eqT t t')) :
  ∀ (j:Nat) (g1:j < its.toArray.size) (g2:j < its2.toArray.size),SeqAt.EqAt A s its.toArray[j] its2.toArray[j] (eAt ts us j):=by
 intro j g1 g2
 have g1':j < its.length:=by simpa using g1
 have g2':j < its2.length:=by simpa using g2
 have l1:j < vs.length:=by rw [r1.length]; exact g1'
 have l2:j < ws.length:=by rw [r2.length]; exact g2'
 obtain ⟨u,hu,ru⟩:=r1.get (List.getElem?_eq_getElem l1)
 obtain ⟨u',hu',ru'⟩:=r2.get (List.getElem?_eq_getElem l2)
 obtain ⟨t,ht,it⟩:=i1.get (List.getElem?_eq_getElem l1)
 obtain ⟨t',ht',it'⟩:=i2.get (List.getElem?_eq_getElem l2)
 have e1:its.toArray[j] = u:=by
  rw [List.getElem?_eq_getElem g1'] at hu
  simpa using hu
 have e2:its2.toArray[j] = u':=by
  rw [List.getElem?_eq_getElem g2'] at hu'
  simpa using hu'
 have e3:eAt ts us j = eqT t t':=by unfold eAt; rw [List.getD_eq_getElem?_getD,List.getD_eq_getElem?_getD,ht,ht']; rfl
 rw [e1,e2,e3]
 exact ih t t' u u' (List.all_eq_true.mp h1 t (List.mem_of_getElem? ht)) (List.all_eq_true.mp h2 t' (List.mem_of_getElem? ht')) (it.shp ru ok) (it'.shp ru' ok)
theorem Qi7 {ts:List T} {vs:List V} {its:List Value} (i:IsL H vs ts) (r:Vals vs its):its.toArray.size = ts.length:=by
 rw [List.size_toArray,← r.length,i.length]
open SeqAt in
theorem Qym {s:Shared} {A:Around} {n:Nat} {ts us:List T} {a b:Addr} {vs ws:List V} {its its2:List Value} (i1:IsL H vs ts) (i2:IsL H ws us) (r1:Vals vs its) (r2:Vals ws its2) (ok:HOk P w H s.heap) (h1:ts.all (Qi n) = true) (h2:us.all (Qi n) = true)
  (hl:s.heap.IsTuple a its.toArray) (hb:s.heap.IsTuple b its2.toArray) (hu:A.units < cLine) (ih:∀ (t t':T) (u u':Value),Qi n t = true → Qi n t' = true → Shp P w H s.heap t u → Shp P w H s.heap t' u' → EqAt A.in1 s u u' (eqT t t')) :
  RcAt A s (.ref a) (.ref b) (eqL ts us) ∧ RcNeAt A s (.ref a) (.ref b) (!eqL ts us):=by
 have key:=Qq4 i1 i2 r1 r2 ok h1 h2 ih
 have l1:=Qi7 i1 r1
 have l2:=Qi7 i2 r2
 have k1:=RcAt.tuples hl hb hu key
 have k2:=RcNeAt.tuples hl hb hu key
 rw [l1,l2,Qn1] at k1 k2
 exact ⟨k1,k2⟩
open SeqAt in
theorem Qyn {s:Shared} {A:Around} {n:Nat} {ts us:List T} {a b:Addr} {vs ws:List V} {its its2:List Value} (i1:IsL H vs ts) (i2:IsL H ws us) (r1:Vals vs its) (r2:Vals ws its2) (ok:HOk P w H s.heap) (h1:ts.all (Qi n) = true) (h2:us.all (Qi n) = true)
  (hl:s.heap.IsList a its.toArray) (hb:s.heap.IsList b its2.toArray) (hu:A.units < cLine) (ih:∀ (t t':T) (u u':Value),Qi n t = true → Qi n t' = true → Shp P w H s.heap t u → Shp P w H s.heap t' u' → EqAt A.in1 s u u' (eqT t t')) :
  RcAt A s (.ref a) (.ref b) (eqL ts us) ∧ RcNeAt A s (.ref a) (.ref b) (!eqL ts us):=by
 have key:=Qq4 i1 i2 r1 r2 ok h1 h2 ih
 have l1:=Qi7 i1 r1
 have l2:=Qi7 i2 r2
 by_cases hz:ts.length = us.length
 ·have k1:=RcAt.lists hl hb (by rw [l1,l2,hz]) hu key
  have k2:=RcNeAt.lists hl hb (by rw [l1,l2,hz]) hu key
  have e:=Qn1 ts us
  rw [hz,Nat.min_self,beq_self_eq_true,Bool.and_true] at e
  rw [l1,hz,e] at k1 k2
  exact ⟨k1,k2⟩
 ·rw [Qfo hz]
  have hb':(its.toArray.size != its2.toArray.size) = true:=by rw [l1,l2]; simpa using hz
  exact ⟨RcAt.lists_lengths hl hb hb' hu,RcNeAt.lists_lengths hl hb hb' hu⟩
open SeqAt in
theorem Q73:∀ (n:Nat) {s:Shared} {A:Around},HOk P w H s.heap → A.units + n < cLine → ∀ (t t':T) (u u':Value),Qi n t = true → Qi n t' = true → Shp P w H s.heap t u → Shp P w H s.heap t' u' → EqAt A s u u' (eqT t t'):=by
 intro n
 induction n with
 | zero =>
  intro s A ok hu t t' u u' h1 h2 s1 s2
  cases s1 with
  | dct=>simp [Qi] at h1
  | clo=>simp [Qi] at h1
  | dtt=>simp [Qi] at h1
  | tup j1 i1 r1 p1=>simp [Qi] at h1
  | lst j1 i1 r1 p1=>simp [Qi] at h1
  | non =>
   cases s2 with
   | dct=>simp [Qi] at h2
   | clo=>simp [Qi] at h2
   | dtt=>simp [Qi] at h2
   | tup j2 i2 r2 p2=>simp [Qi] at h2
   | lst j2 i2 r2 p2=>simp [Qi] at h2
   | non=>simp only [eqT]; exact EqAt.same _
   | bl b=>simp only [eqT]; exact EqAt.none_bool  b
   | int i t=>simp only [eqT]; exact EqAt.none_int  i t
   | str x t=>simp only [eqT]; exact EqAt.none_str  x t
  | bl c =>
   cases s2 with
   | dct=>simp [Qi] at h2
   | clo=>simp [Qi] at h2
   | dtt=>simp [Qi] at h2
   | tup j2 i2 r2 p2=>simp [Qi] at h2
   | lst j2 i2 r2 p2=>simp [Qi] at h2
   | non=>simp only [eqT]; exact EqAt.bool_none c
   | bl b=>simp only [eqT]; exact EqAt.bool_bool c b
   | int i t=>simp only [eqT]; exact EqAt.bool_int c i t
   | str x t=>simp only [eqT]; exact EqAt.bool_str c x t
  | int c ct =>
   cases s2 with
   | dct=>simp [Qi] at h2
   | clo=>simp [Qi] at h2
   | dtt=>simp [Qi] at h2
   | tup j2 i2 r2 p2=>simp [Qi] at h2
   | lst j2 i2 r2 p2=>simp [Qi] at h2
   | non=>simp only [eqT]; exact EqAt.int_none c ct
   | bl b=>simp only [eqT]; exact EqAt.int_bool c ct b
   | int i t=>simp only [eqT]; exact EqAt.int_int c ct i t
   | str x t=>simp only [eqT]; exact EqAt.int_str c ct x t
  | str c ct =>
   cases s2 with
   | dct=>simp [Qi] at h2
   | clo=>simp [Qi] at h2
   | dtt=>simp [Qi] at h2
   | tup j2 i2 r2 p2=>simp [Qi] at h2
   | lst j2 i2 r2 p2=>simp [Qi] at h2
   | non=>simp only [eqT]; exact EqAt.str_none c ct
   | bl b=>simp only [eqT]; exact EqAt.str_bool c ct b
   | int i t=>simp only [eqT]; exact EqAt.str_int c ct i t
   | str x t=>simp only [eqT]; exact EqAt.str_str c ct x t
 | succ n ih =>
  intro s A ok hu t t' u u' h1 h2 s1 s2
  have hu0:A.units < cLine:=by omega
  have ih':=ih (s:=s) (A:=A.in1) ok (by show A.units + 1 + n < cLine; omega)
  cases s1 with
  | dct=>simp [Qi] at h1
  | clo=>simp [Qi] at h1
  | dtt=>simp [Qi] at h1
  | tup j1 i1 r1 p1 =>
   have g1:=h1
   rw [Qi] at g1
   cases s2 with
   | dct=>simp [Qi] at h2
   | clo=>simp [Qi] at h2
   | dtt=>simp [Qi] at h2
   | tup j2 i2 r2 p2 =>
    have g2:=h2
    rw [Qi] at g2
    rename_i a vs ts its b ws us its2
    by_cases hab:a = b
    ·subst hab
     rw [Q4z (n + 1) j1 j2 h1 h2]
     exact EqAt.same _
    ·rw [eqT]
     exact EqAt.of_refs hab (Qym i1 i2 r1 r2 ok g1 g2 p1 p2 hu0 ih').1
   | lst j2 i2 r2 p2=>simp only [eqT]; exact EqAt.tuple_list p1 p2 hu0
   | non=>simp only [eqT]; exact EqAt.tuple_none p1 hu0
   | bl b=>simp only [eqT]; exact EqAt.tuple_bool b p1 hu0
   | int i t=>simp only [eqT]; exact EqAt.tuple_int i t p1 hu0
   | str x t=>simp only [eqT]; exact EqAt.tuple_str x t p1 hu0
  | lst j1 i1 r1 p1 =>
   have g1:=h1
   rw [Qi] at g1
   cases s2 with
   | dct=>simp [Qi] at h2
   | clo=>simp [Qi] at h2
   | dtt=>simp [Qi] at h2
   | lst j2 i2 r2 p2 =>
    have g2:=h2
    rw [Qi] at g2
    rename_i a vs ts its b ws us its2
    by_cases hab:a = b
    ·subst hab
     rw [Q4z (n + 1) j1 j2 h1 h2]
     exact EqAt.same _
    ·rw [eqT]
     exact EqAt.of_refs hab (Qyn i1 i2 r1 r2 ok g1 g2 p1 p2 hu0 ih').1
   | tup j2 i2 r2 p2=>simp only [eqT]; exact EqAt.list_tuple p1 p2 hu0
   | non=>simp only [eqT]; exact EqAt.list_none p1 hu0
   | bl b=>simp only [eqT]; exact EqAt.list_bool b p1 hu0
   | int i t=>simp only [eqT]; exact EqAt.list_int i t p1 hu0
   | str x t=>simp only [eqT]; exact EqAt.list_str x t p1 hu0
  | non =>
   cases s2 with
   | dct=>simp [Qi] at h2
   | clo=>simp [Qi] at h2
   | dtt=>simp [Qi] at h2
   | tup j2 i2 r2 p2=>simp only [eqT]; exact EqAt.none_tuple p2 hu0
   | lst j2 i2 r2 p2=>simp only [eqT]; exact EqAt.none_list p2 hu0
   | non=>simp only [eqT]; exact EqAt.same _
   | bl b=>simp only [eqT]; exact EqAt.none_bool b
   | int i t=>simp only [eqT]; exact EqAt.none_int i t
   | str x t=>simp only [eqT]; exact EqAt.none_str x t
  | bl c =>
   cases s2 with
   | dct=>simp [Qi] at h2
   | clo=>simp [Qi] at h2
   | dtt=>simp [Qi] at h2
   | tup j2 i2 r2 p2=>simp only [eqT]; exact EqAt.bool_tuple c p2 hu0
   | lst j2 i2 r2 p2=>simp only [eqT]; exact EqAt.bool_list c p2 hu0
   | non=>simp only [eqT]; exact EqAt.bool_none c
   | bl b=>simp only [eqT]; exact EqAt.bool_bool c b
   | int i t=>simp only [eqT]; exact EqAt.bool_int c i t
   | str x t=>simp only [eqT]; exact EqAt.bool_str c x t
  | int c ct =>
   cases s2 with
   | dct=>simp [Qi] at h2
   | clo=>simp [Qi] at h2
   | dtt=>simp [Qi] at h2
   | tup j2 i2 r2 p2=>simp only [eqT]; exact EqAt.int_tuple c ct p2 hu0
   | lst j2 i2 r2 p2=>simp only [eqT]; exact EqAt.int_list c ct p2 hu0
   | non=>simp only [eqT]; exact EqAt.int_none c ct
   | bl b=>simp only [eqT]; exact EqAt.int_bool c ct b
   | int i t=>simp only [eqT]; exact EqAt.int_int c ct i t
   | str x t=>simp only [eqT]; exact EqAt.int_str c ct x t
  | str c ct =>
   cases s2 with
   | dct=>simp [Qi] at h2
   | clo=>simp [Qi] at h2
   | dtt=>simp [Qi] at h2
   | tup j2 i2 r2 p2=>simp only [eqT]; exact EqAt.str_tuple c ct p2 hu0
   | lst j2 i2 r2 p2=>simp only [eqT]; exact EqAt.str_list c ct p2 hu0
   | non=>simp only [eqT]; exact EqAt.str_none c ct
   | bl b=>simp only [eqT]; exact EqAt.str_bool c ct b
   | int i t=>simp only [eqT]; exact EqAt.str_int c ct i t
   | str x t=>simp only [eqT]; exact EqAt.str_str c ct x t
end
section
variable {X:Cx}
noncomputable def Q18 (neg:Bool):R2:=fun x y H Q=>∃ t t',Is H x t ∧ Is H y t' ∧ Qi 50 t = true ∧ Qi 50 t' = true ∧ ((∃ ts us,t = .tup ts ∧ t' = .tup us) ∨ ∃ ts us,t = .lst ts ∧ t' = .lst us) ∧ Q (.bl (if neg then !eqT t t' else eqT t t')) H
theorem Qn2 (hu:X.A.units + 64 < cLine) {pins:List (Addr × Obj)} {σ:St} {H:Hp} {s:Shared} (I:Inv X pins σ H s) {x y:V} {v u:Value} {t t':T} (rx:RelV x v) (ry:RelV y u) (i:Is H x t) (j:Is H y t') (h1:Qi 50 t = true) (h2:Qi 50 t' = true)
  (hk:(∃ ts us,t = .tup ts ∧ t' = .tup us) ∨ ∃ ts us,t = .lst ts ∧ t' = .lst us):SeqAt.RcAt X.A s v u (eqT t t') ∧ SeqAt.RcNeAt X.A s v u (!eqT t t'):=by
 have ih:=Q73 49 (A:=X.A.in1) (P:=X.prog) (w:=X.w) I.hok (by show X.A.units + 1 + 49 < cLine; omega)
 have s1:=i.shp rx I.hok
 have s2:=j.shp ry I.hok
 rcases hk with ⟨ts,us,rfl,rfl⟩ | ⟨ts,us,rfl,rfl⟩
 ·rw [Qi] at h1 h2
  rw [eqT]
  cases s1 with
  | tup j1 i1 r1 p1 =>
   cases s2 with
   | tup j2 i2 r2 p2=>exact Qym i1 i2 r1 r2 I.hok h1 h2 p1 p2 (by omega) ih
 ·rw [Qi] at h1 h2
  rw [eqT]
  cases s1 with
  | lst j1 i1 r1 p1 =>
   cases s2 with
   | lst j2 i2 r2 p2=>exact Qyn i1 i2 r1 r2 I.hok h1 h2 p1 p2 (by omega) ih
theorem Qabs (hu:X.A.units + 64 < cLine):QOp X (compareOp .Eq) (Q18 false):=⟨by
 intro pins s σ H x y v u Q I rx ry q
 obtain ⟨t,t',i,j,h1,h2,hk,q⟩:=q
 exact (Qn2 hu I rx ry i j h1 h2 hk).1 _ _ _ _ ⟨.bl _,H,I,rfl,q⟩⟩
theorem Qabt (hu:X.A.units + 64 < cLine):QOp X (compareOp .NotEq) (Q18 true):=⟨by
 intro pins s σ H x y v u Q I rx ry q
 obtain ⟨t,t',i,j,h1,h2,hk,q⟩:=q
 exact (Qn2 hu I rx ry i j h1 h2 hk).2 _ _ _ _ ⟨.bl _,H,I,rfl,q⟩⟩
noncomputable def okK:T → Bool
 | .tup _=>false
 | .dtt _ _=>false
 | .clo _ _=>false
 | _=>true
noncomputable def okR:T → Bool
 | .non=>true
 | .bl _=>true
 | .int _=>true
 | .str _=>true
 | .lst _=>true
 | _=>false
noncomputable def Q19:T → Bool
 | .tup _=>true
 | _=>false
noncomputable def Qwk (t u:T):Bool:=match t with
 | .tup _=>okR u
 | t=>okK t && Q19 u
theorem Qyo {t:T} (h:Q19 t = true):∃ ts,t = .tup ts:=by
 cases t with
 | tup ts=>exact ⟨ts,rfl⟩
 | _=>cases h
noncomputable def Q2a (neg:Bool):R2:=fun x y H Q=>∃ t t',Is H x t ∧ Is H y t' ∧ Qwk t t' = true ∧ Q (.bl neg) H
theorem Qq5 (hu:X.A.units + 64 < cLine) {pins:List (Addr × Obj)} {σ:St} {H:Hp} {s:Shared} (I:Inv X pins σ H s) {x y:V} {v u:Value} {t t':T} (rx:RelV x v) (ry:RelV y u) (i:Is H x t) (j:Is H y t') (hk:Qwk t t' = true):SeqAt.RcAt X.A s v u false ∧ SeqAt.RcNeAt X.A s v u true:=by
 have s1:=i.shp rx I.hok
 have s2:=j.shp ry I.hok
 have hu:X.A.units < cLine:=by omega
 by_cases ht:Q19 t = true
 ·cases s1 with
  | tup _ _ _ p =>
   cases s2 with
   | non=>exact ⟨SeqAt.RcAt.tuple_none p hu,SeqAt.RcNeAt.tuple_none p hu⟩
   | bl b=>exact ⟨SeqAt.RcAt.tuple_bool b p hu,SeqAt.RcNeAt.tuple_bool b p hu⟩
   | int b c=>exact ⟨SeqAt.RcAt.tuple_int b c p hu,SeqAt.RcNeAt.tuple_int b c p hu⟩
   | str b c=>exact ⟨SeqAt.RcAt.tuple_str b c p hu,SeqAt.RcNeAt.tuple_str b c p hu⟩
   | lst _ _ _ q=>exact ⟨SeqAt.RcAt.tuple_list p q hu,SeqAt.RcNeAt.tuple_list p q hu⟩
   | _=>cases hk
  | _=>cases ht
 ·have hk:okK t = true ∧ Q19 t' = true:=by
   rw [← Bool.and_eq_true,← hk]
   cases t <;> first | rfl | exact absurd rfl ht
  obtain ⟨h1,h2⟩:=hk
  obtain ⟨us,rfl⟩:=Qyo h2
  cases s2 with
  | tup _ _ _ p =>
   cases s1 with
   | non=>exact ⟨SeqAt.RcAt.none_tuple p hu,SeqAt.RcNeAt.none_tuple p hu⟩
   | bl b=>exact ⟨SeqAt.RcAt.bool_tuple b p hu,SeqAt.RcNeAt.bool_tuple b p hu⟩
   | int b c=>exact ⟨SeqAt.RcAt.int_tuple b c p hu,SeqAt.RcNeAt.int_tuple b c p hu⟩
   | str b c=>exact ⟨SeqAt.RcAt.str_tuple b c p hu,SeqAt.RcNeAt.str_tuple b c p hu⟩
   | lst _ _ _ q=>exact ⟨SeqAt.RcAt.list_tuple q p hu,SeqAt.RcNeAt.list_tuple q p hu⟩
   | dct =>
    unfold Is at i
    obtain ⟨a,vs,rfl,ha,_⟩:=i
    cases rx
    obtain ⟨_,_,ws,_,ob,es,ep,e,c,_⟩:=(show ObjOk X.prog X.w H s.heap a (.dK _) from I.hok a _ ha)
    exact ⟨SeqAt.RcAt.dict_tuple e c.1 p hu,SeqAt.RcNeAt.dict_tuple e c.1 p hu⟩
   | _=>cases h1
theorem Qabu (hu:X.A.units + 64 < cLine):QOp X (compareOp .Eq) (Q2a false):=⟨by
 intro pins s σ H x y v u Q I rx ry q
 obtain ⟨t,t',i,j,hk,q⟩:=q
 exact (Qq5 hu I rx ry i j hk).1 _ _ _ _ ⟨.bl _,H,I,rfl,q⟩⟩
theorem Qabv (hu:X.A.units + 64 < cLine):QOp X (compareOp .NotEq) (Q2a true):=⟨by
 intro pins s σ H x y v u Q I rx ry q
 obtain ⟨t,t',i,j,hk,q⟩:=q
 exact (Qq5 hu I rx ry i j hk).2 _ _ _ _ ⟨.bl _,H,I,rfl,q⟩⟩
end
section
open PySem.W
end
noncomputable def xcOk (K:PySem.W.Frag) (D:Addr):Bool:=PySem.W.findIn K (.ref D) "__getattribute__" == some (some (.builtin "BaseException.__getattribute__")) && PySem.W.findIn K (.ref D) "__getattr__" == some none && PySem.W.mroIn K D (.type "BaseException") == some true && (PySem.W.clsIn K D).isSome && PySem.W.findIn K (.ref D) "__class__" == some (some (.builtin "object.__class__")) &&
 PySem.W.specialIn K (.builtin "object.__class__") "__get__" == some (some (.builtin "getset_descriptor.__get__")) && PySem.W.takesIn K (.builtin "object.__class__") == some true && PySem.W.mroIn K D (.type "object") == some true
section
variable {X:Cx}
end
section
variable {P:Program} {w:World} {K:PySem.W.Frag} {mg:Str → Option Value} {base:Heap}
end
section
variable {X:Cx} {x:Str} {ps:List Str} {k:Nat} {sp:Sp} {e:Expr} {es:List Expr} {t:TA} {p pos:Pos}
end
noncomputable def cad (mg:Str → Option Value) (x:Str):Addr:=match mg x with
 | some (.ref a)=>a
 | _=>0
noncomputable def bmV:List Value:=[.type "ValueError",.type "Exception",.type "BaseException",.type "object"]
noncomputable def Qtc:List Str:=["NoTable","NoWay","NoSet","NoRest","NoLine","NoRow","NoTables","Below","NoText","TooGreat"]
noncomputable def Qabw (K:PySem.W.Frag) (c0:Addr) (cs:List Addr):Bool :=
 PySem.W.excIn K c0 bmV "ValueError.__new__" && (cs.take 6).all (fun c=>PySem.W.excIn K c bmV "ValueError.__new__") && cs.all (fun c=>xcOk K c && PySem.W.mroIn K c (.ref c0) == some true && PySem.W.kitOne K (.ref c) (.type "ValueError") == some true) &&
  cs.zipIdx.all (fun p=>cs.zipIdx.all fun q=>PySem.W.kitOne K (.ref p.1) (.ref q.1) == some (p.2 == q.2))
structure Exs (K:PySem.W.Frag) (mg:Str → Option Value):Prop where
 m0:mg "NoughtError" = some (.ref (cad mg "NoughtError"))
 m:∀ (i:Nat) (x:Str),Qtc[i]? = some x → mg x = some (.ref (cad mg x))
 ok:Qabw K (cad mg "NoughtError") (Qtc.map (cad mg)) = true
section
variable {K:PySem.W.Frag} {mg:Str → Option Value}
end
section
variable {X:Cx} {pins:List (Addr × Obj)} {σ:St} {H:Hp} {s:Shared} {h':Heap}
theorem Inv.turnedL {t':Nat} {fp:List Addr} (I:Inv X pins σ H s) (k:∀ b o,b ∉ fp → s.heap.get? b = some o → h'.get? b = some o) (hf:∀ b ∈ fp,Qih X pins H b):Inv X pins σ H { s with heap:=h',toks:=t' }:=by
 have nit:∀ b u,H b = some u → b ∉ fp:=fun b u e z=>by rw [(hf b z).1] at e; cases e
 refine I.step (g':=s.gens) (d':=s.drawn) (ch:=fp) (fun b hb=>?_) (fun b o _ _ hc e _=>k b o hc e) (fun b o _ _ hc e _=>⟨o.slots,k b o hc e⟩) (fun _ _ _ _ n=>n)
  (fun b o hc e=>⟨o,k b o hc e⟩) (fun _ _ e=>e) (fun _ _ _ e=>e) (fun _ _ e=>e) (fun m hm=>?_) (fun b u e=>?_) I.bare
 ·obtain ⟨_,f1,_,f3,f4,f5⟩:=hf b hb
  exact ⟨f3,f1,f4,f5⟩
 ·obtain ⟨o,es,ep,ho,r⟩:=hm
  exact ⟨o,es,ep,k _ o (fun z=>(hf _ z).2.1 rfl) ho,r⟩
 ·refine (I.hok b u e).stay (fun c v hc q=>k c v ?_ q) (fun _ q=>q) fun _ _ q=>q
  rcases hc with z | z
  ·rw [z]; exact nit b u e
  ·exact nit c _ z
end
noncomputable def Ite (K:PySem.W.Frag) (a:Addr):It :=
 ⟨fun i H=>∃ xs x,SqL K H a xs ∧ xs[i]? = some x,fun i H v H'=>∃ p x,v = .ref p ∧ H p = none ∧ (∀ xs,SqL K H a xs → xs[i]? = some x) ∧ H' = upd H p (.tup [.int (i:Nat),x]),fun i H=>∃ xs,SqL K H a xs ∧ xs.length ≤ i⟩
theorem Qwl {P:Program} {w:World} {K:PySem.W.Frag} {es:List Expr} {x1} {tp:Pos} (a e it:Addr) (hne:e ≠ it):Turn P w K (.Tuple es x1 tp) (Ite K a) [e,it] e (fun i h=>(∃ old,IsEnum h e it ((i:Nat):Int) old) ∧ h.IsListIter it a i) where
 mem:=by simp
 obj:=fun i h st b hb=>by
  obtain ⟨⟨old,he⟩,o,ho,c,d⟩:=st
  have hb:b = e ∨ b = it:=by simpa using hb
  rcases hb with rfl | rfl
  ·exact ⟨_,he,fun v z=>by
    have z':Data.fields _ = Data.cell v:=z
    cases z'⟩
  ·exact ⟨o,ho,fun v z=>by rw [d] at z; cases z⟩
 keep:=fun i h h' st k=>⟨let ⟨old,he⟩:=st.1; ⟨old,k e (by simp) _ he⟩,st.2.at fun o q=>k it (by simp) o q⟩
 item:=by
  intro X hP hw hK hc i pins s σ H E I hf st hg
  subst hP hw hK
  obtain ⟨xs,x,hq,hx⟩:=hg
  obtain ⟨its,rv,p,hz⟩:=I.list hq
  obtain ⟨u,hu,ru⟩:=rv.get hx
  obtain ⟨⟨old,he⟩,hit⟩:=st
  have hel:e < s.heap.objs.size:=Heap.lt_size he
  refine wpAny_pyNext_enum_item he hit p.isList (x:=u) (by simpa using hu) hne fun h1 ho hit1 hT hsz hk=>⟨_,rfl,?_⟩
  refine wpAny_letOwnedTupleGo_enum (s:={ s with heap:=h1,toks:=s.toks + 1 }) ho fun h2 he2 hs2=>?_
  have hs2:Heap.SameBut e h1 h2:=hs2
  have hf0:H s.heap.objs.size = none:=I.hok.fresh (Nat.le_refl _)
  have I1:Inv X pins σ (upd H s.heap.objs.size (.tup [.int (i:Nat),x])) { s with heap:=s.heap.push { cls:=.type "tuple",data:=.seq #[.int (i:Nat) s.toks,u] },toks:=s.toks } :=
   I.laid (fun b o q=>Heap.get?_push_of_some _ q) (Nat.le_refl _) ⟨by show 2 ≤ sizeLine; decide,[.int (i:Nat) s.toks,u],.cons ⟨_,rfl⟩ (.cons ru .nil),⟨_,Heap.get?_push_size _ rfl,rfl,_,rfl,rfl⟩⟩
  have ne:∀ b ∈ [e,it],b ≠ s.heap.objs.size:=fun b hb=>by
   have hb:b = e ∨ b = it:=by simpa using hb
   obtain ⟨_,ho',_⟩:=hit
   rcases hb with rfl | rfl
   ·exact Nat.ne_of_lt hel
   ·exact Nat.ne_of_lt (Heap.lt_size ho')
  have hf1:∀ b ∈ [e,it],Qih X pins (upd H s.heap.objs.size (.tup [.int (i:Nat),x])) b:=fun b hb=>⟨by rw [Q3 (ne b hb)]; exact (hf b hb).1,(hf b hb).2⟩
  have I2:=I1.turnedL (h':=h2) (t':=s.toks + 1) (fp:=[e,it]) (fun b o hb q=>by
   have hbe:b ≠ e:=fun z=>hb (by simp [z])
   have hbi:b ≠ it:=fun z=>hb (by simp [z])
   rw [hs2.2 b hbe]
   rcases Heap.get?_push_cases q with ⟨rfl,rfl⟩ | q
   ·exact hT
   ·exact hk b o hbe hbi q) hf1
  refine ⟨.ref s.heap.objs.size,_,I2,rfl,⟨_,x,rfl,hf0,fun ys hy=>by rw [I.list_inj hy hq]; exact hx,rfl⟩,⟨⟨u,?_⟩,hit1.at fun o q=>(hs2.2 it hne.symm).trans q⟩,fun b hb=>(hf1 b hb).1⟩
  have:((i + 1:Nat):Int) = (i:Int) + 1:=by push_cast; rfl
  rw [this]
  exact he2
 done:=by
  intro X hP hw hK hc i pins s σ H E I hf st hg
  subst hP hw hK
  obtain ⟨xs,hq,hx⟩:=hg
  obtain ⟨its,rv,p,hz⟩:=I.list hq
  obtain ⟨⟨old,he⟩,hit⟩:=st
  have hl:=rv.length
  refine wpAny_pyNext_enum_end (I.ok.hd hc) he hit p.isList (by simp; omega) fun h1 eb=>⟨rfl,I.turnedL (t':=s.toks) (fp:=[e,it]) (fun b o hb q=>eb b o (fun z=>hb (by simp [z])) q) hf⟩
 self:=fun _ _ _ _ _ st h=>let ⟨_,he⟩:=st.1; wpAny_pyIter_enum he h
section
variable {X:Cx}
end
section
variable {P:Program} {w:World} {A:Around} {E:Value → Shared → Prop} {s:Shared}
theorem Qlk {j t:Addr} {n:Nat} {vs:Array Value} {v:Value} {Q:Value → Shared → Prop} (hj:s.heap.IsTupleIter j t n) (ht:s.heap.IsTuple t vs) (hv:vs[n]? = some v)
  (q:∀ g,g.IsTupleIter j t (n + 1) → Heap.SameBut j s.heap g → Q v { s with heap:=g }):wpAny (model P w) A (Builtin.SmallTypes.nextOf (.ref j)) Q E s:=by
 obtain ⟨oj,ej,cj,dj⟩:=id hj
 obtain ⟨ot,et,_,m,dt⟩:=ht
 unfold Builtin.SmallTypes.nextOf
 refine wpAny_bind (wpAny_callSpecial?_slot (name:=Str.ofString "__next__") hj.typeIs F.slot_tuple_iterator_next (wpAny_call_entry F.slot_tuple_iterator_next hj.typeIs F.entry_tuple_iterator_next ?_ (F.args_tuple_iterator_next_1 _)))
 show wpAny _ _ (field (.ref j) 0 >>= _) _ _ s
 refine wpAny_bind (wpAny_field ej dj (x:=.ref t) rfl ?_)
 show wpAny _ _ (if (Value.ref t == Value.none) = true then _ else _) _ _ s; rw [if_neg (show ¬ ((Value.ref t == Value.none) = true) from Bool.false_ne_true)]
 show wpAny _ _ (field (.ref j) 1 >>= _) _ _ s
 refine wpAny_bind (wpAny_field ej dj (x:=.int n 0) rfl ?_)
 show wpAny _ _ (seqItems? (.ref t) >>= _) _ _ s; refine wpAny_bind (wpAny_seqItems et dt ?_)
 simp only [Int.toNat_natCast,hv]
 refine wpAny_bind (wpAny_setField ej dj (by simp) (wpAny_pure ⟨v,rfl,wpAny_pure (q _ ?_ (Heap.SameBut.update ..))⟩))
 exact ⟨_,Heap.get?_update_self _ ej (Obj.isFreed_of_fields (Obj.data_mapFields dj _)),(Obj.cls_mapFields ..).trans cj,by rw [Obj.data_mapFields dj]; simp [rawInt]⟩
theorem Qjw {j t:Addr} {n:Nat} {vs:Array Value} {Q:Value → Shared → Prop} (hh:A.handled = none) (hj:s.heap.IsTupleIter j t n) (ht:s.heap.IsTuple t vs) (hv:vs[n]? = none)
  (q:∀ g e,Heap.ExtBut j s.heap g → (∃ o,g.get? e = some o ∧ o.cls = .type "StopIteration") → E (.ref e) { s with heap:=g }):wpAny (model P w) A (Builtin.SmallTypes.nextOf (.ref j)) Q E s:=by
 obtain ⟨oj,ej,cj,dj⟩:=id hj
 obtain ⟨ot,et,_,m,dt⟩:=ht
 unfold Builtin.SmallTypes.nextOf
 refine wpAny_bind (wpAny_callSpecial?_slot (name:=Str.ofString "__next__") hj.typeIs F.slot_tuple_iterator_next (wpAny_call_entry F.slot_tuple_iterator_next hj.typeIs F.entry_tuple_iterator_next ?_ (F.args_tuple_iterator_next_1 _)))
 show wpAny _ _ (field (.ref j) 0 >>= _) _ _ s
 refine wpAny_bind (wpAny_field ej dj (x:=.ref t) rfl ?_)
 show wpAny _ _ (if (Value.ref t == Value.none) = true then _ else _) _ _ s; rw [if_neg (show ¬ ((Value.ref t == Value.none) = true) from Bool.false_ne_true)]
 show wpAny _ _ (field (.ref j) 1 >>= _) _ _ s
 refine wpAny_bind (wpAny_field ej dj (x:=.int n 0) rfl ?_)
 show wpAny _ _ (seqItems? (.ref t) >>= _) _ _ s; refine wpAny_bind (wpAny_seqItems et dt ?_)
 simp only [Int.toNat_natCast,hv]
 refine wpAny_bind (wpAny_rule (wpAny_bind (wpAny_setField ej dj (by simp) ?_)))
 show wpAny _ _ (newExc (.type "StopIteration") [] >>= _) _ _ _; refine wpAny_bind ?_
 simp only [newExc,newTuple]
 refine wpAny_bind (wpAny_newObj_type ?_ (by size_fits)); refine wpAny_bind (m:=firstArgMember _ _) (wpAny_of_eq (a:=Value.none) (by first | rfl | (simp only [firstArgMember]; rfl)) ?_)
 refine wpAny_newObj_type ?_ (by size_fits); simp only [raiseNew]
 refine wpAny_bind (wpAny_handled ?_); first | rw [show A.in1.handled = none from hh] | rw [hh]
 exact wpAny_bind (wpAny_pure (wpAny_throw (q _ _ (((Heap.SameBut.update ..).extBut.push _).push _) ⟨_,Heap.get?_push_size _ rfl,rfl⟩)))
noncomputable def IsIt:Bool → Heap → Addr → Addr → Nat → Prop
 | true,h,i,l,n=>h.IsListIter i l n
 | false,h,i,l,n=>h.IsTupleIter i l n
noncomputable def IsSq:Bool → Heap → Addr → Array Value → Prop
 | true,h,l,xs=>h.IsList l xs
 | false,h,l,xs=>h.IsTuple l xs
theorem IsIt.keep {lb:Bool} {h h':Heap} {i l:Addr} {n:Nat} (x:IsIt lb h i l n) (k:∀ o,h.get? i = some o → h'.get? i = some o):IsIt lb h' i l n:=by
 cases lb <;> exact let ⟨o,e,r⟩:=x; ⟨o,k o e,r⟩
theorem IsSq.keep {lb:Bool} {h h':Heap} {l:Addr} {xs:Array Value} (x:IsSq lb h l xs) (k:∀ o,h.get? l = some o → h'.get? l = some o):IsSq lb h' l xs:=by
 cases lb <;> exact let ⟨o,e,r⟩:=x; ⟨o,k o e,r⟩
theorem IsIt.obj {lb:Bool} {h:Heap} {i l:Addr} {n:Nat} (x:IsIt lb h i l n):∃ o,h.get? i = some o ∧ ∀ v,o.data ≠ .cell v:=by
 cases lb <;> exact let ⟨o,e,_,d⟩:=x; ⟨o,e,fun v z=>by rw [d] at z; cases z⟩
theorem IsSq.obj {lb:Bool} {h:Heap} {l:Addr} {xs:Array Value} (x:IsSq lb h l xs):∃ o,h.get? l = some o:=by
 cases lb <;> exact let ⟨o,e,_⟩:=x; ⟨o,e⟩
theorem Qik {lb:Bool} {j t:Addr} {n:Nat} {vs:Array Value} {v:Value} {Q:Value → Shared → Prop} (hj:IsIt lb s.heap j t n) (ht:IsSq lb s.heap t vs) (hv:vs[n]? = some v)
  (q:∀ g,IsIt lb g j t (n + 1) → Heap.SameBut j s.heap g → Q v { s with heap:=g }):wpAny (model P w) A (Builtin.SmallTypes.nextOf (.ref j)) Q E s:=by
 cases lb
 ·exact Qlk hj ht hv q
 ·exact wpAny_nextOf_list_item hj ht hv q
theorem Qn3 {lb:Bool} {j t:Addr} {n:Nat} {vs:Array Value} {Q:Value → Shared → Prop} (hh:A.handled = none) (hj:IsIt lb s.heap j t n) (ht:IsSq lb s.heap t vs) (hv:vs[n]? = none)
  (q:∀ g e,Heap.ExtBut j s.heap g → (∃ o,g.get? e = some o ∧ o.cls = .type "StopIteration") → E (.ref e) { s with heap:=g }):wpAny (model P w) A (Builtin.SmallTypes.nextOf (.ref j)) Q E s:=by
 cases lb
 ·exact Qjw hh hj ht hv q
 ·exact wpAny_nextOf_list_end hh hj ht hv q
structure ZT (lb lc:Bool) (h:Heap) (z ti to i1 i2 l1 l2:Addr) (n:Nat) (xs ys:Array Value):Prop where
 z:IsZip h z ti to .none
 ti:IsPair h ti (.ref i1) (.ref i2)
 to:∃ a b,IsPair h to a b
 i1:IsIt lb h i1 l1 n
 i2:IsIt lc h i2 l2 n
 l1:IsSq lb h l1 xs
 l2:IsSq lc h l2 ys
theorem Qwm {lb lc:Bool} {z ti to i1 i2 l1 l2:Addr} {n:Nat} {xs ys:Array Value} {x y:Value} {Q:Option Value → Shared → Prop} (D:ZipApart z ti to i1 i2 l1 l2) (st:ZT lb lc s.heap z ti to i1 i2 l1 l2 n xs ys) (hx:xs[n]? = some x) (hy:ys[n]? = some y)
  (q:∀ g,IsZip g z ti to (rawInt s.heap.objs.size) → (∃ a b,IsPair g to a b) → IsIt lb g i1 l1 (n + 1) → IsIt lc g i2 l2 (n + 1) → IsPair g s.heap.objs.size x y → g.objs.size = s.heap.objs.size + 1 →
   (∀ c o,c ≠ z → c ≠ to → c ≠ i1 → c ≠ i2 → s.heap.get? c = some o → g.get? c = some o) → Q (some (.ref s.heap.objs.size)) { s with heap:=g }):wpAny (model P w) A (pyNext (.ref z)) Q E s:=by
 obtain ⟨hz,hti,⟨a,b,hto⟩,h1,h2,hl1,hl2⟩:=st
 have hT:s.TypeIs (.ref z) "zip" := ⟨_,hz,rfl⟩
 unfold pyNext
 refine wpAny_bind (wpAny_attempt (wpAny_callSpecial?_slot (name:=Str.ofString "__next__") hT F.slot_zip_next (wpAny_call_entry F.slot_zip_next hT F.entry_zip_next ?_ (F.args_zip_next_1 _))))
 show wpAny _ _ (field (.ref z) 2 >>= _) _ _ _; refine wpAny_bind (wpAny_field hz rfl (x:=.bool false) rfl ?_)
 show wpAny _ _ (field (.ref z) 3 >>= _) _ _ _; refine wpAny_bind (wpAny_field hz rfl (x:=.ref ti) rfl ?_)
 refine wpAny_bind (wpAny_seqItems hti rfl ?_)
 show wpAny _ _ (Builtin.SmallTypes.ownedTupleIsFree (.ref z) >>= _) _ _ _; refine wpAny_bind ?_
 unfold Builtin.SmallTypes.ownedTupleIsFree
 refine wpAny_bind (wpAny_field hz rfl (x:=.none) rfl (wpAny_pure ?_)); simp only [if_true]
 refine wpAny_bind (wpAny_rule ?_)
 refine wpAny_bind (wpAny_field hz rfl (x:=.ref to) rfl ?_)
 refine wpAny_bind (wpAny_setField_rec hz (by simp) fun g1 z1 s1=>?_)
 replace z1:IsZip g1 z ti to .ellipsis:=z1
 refine wpAny_bind ?_; simp only [List.zipIdx_cons,List.zipIdx_nil,List.forIn_cons,List.forIn_nil]
 refine wpAny_bind (wpAny_bind (wpAny_onRaise ?_)); show wpAny _ _ (Builtin.SmallTypes.nextOf (.ref i1) >>= _) _ _ _
 refine wpAny_bind (Qik (h1.keep fun o e=>s1.extBut _ _ D.i1z e) (hl1.keep fun o e=>s1.extBut _ _ D.l1z e) hx fun g2 j1 s2=>wpAny_pure ?_)
 have to2:IsPair g2 to a b:=s2.extBut _ _ D.TOi1 (s1.extBut _ _ D.TOz hto)
 refine wpAny_bind (wpAny_seqItems to2 rfl ?_); refine wpAny_bind (wpAny_updateSeq_pair to2 fun g3 to3 s3=>?_)
 replace to3:IsPair g3 to x b:=to3
 refine wpAny_bind (wpAny_letGo (wpAny_pure ?_)); refine wpAny_bind (wpAny_bind (wpAny_onRaise ?_))
 show wpAny _ _ (Builtin.SmallTypes.nextOf (.ref i2) >>= _) _ _ _
 refine wpAny_bind (Qik (((h2.keep fun o e=>s1.extBut _ _ D.i2z e).keep fun o e=>s2.extBut _ _ D.i12.symm e).keep fun o e=>s3.extBut _ _ D.TOi2.symm e) (((hl2.keep fun o e=>s1.extBut _ _ D.l2z e).keep fun o e=>s2.extBut _ _ D.l2i1 e).keep fun o e=>s3.extBut _ _ D.l2TO e) hy fun g4 j2 s4=>wpAny_pure ?_)
 have to4:IsPair g4 to x b:=s4.extBut _ _ D.TOi2 to3
 refine wpAny_bind (wpAny_seqItems to4 rfl ?_); refine wpAny_bind (wpAny_updateSeq_pair to4 fun g5 to5 s5=>?_)
 replace to5:IsPair g5 to x y:=to5
 refine wpAny_bind (wpAny_letGo (wpAny_pure (wpAny_pure ?_))); refine wpAny_bind (wpAny_seqItems to5 rfl ?_)
 refine wpAny_bind (wpAny_newTuple ?_)
 have sz:g5.objs.size = s.heap.objs.size:=by rw [s5.1,s4.1,s3.1,s2.1,s1.1]
 have z5:IsZip g5 z ti to .ellipsis:=s5.extBut _ _ D.TOz.symm (s4.extBut _ _ D.i2z.symm (s3.extBut _ _ D.TOz.symm (s2.extBut _ _ D.i1z.symm z1)))
 have k5:∀ c o,c ≠ z → c ≠ to → c ≠ i1 → c ≠ i2 → s.heap.get? c = some o → g5.get? c = some o:=fun c o c1 c2 c3 c4 e=>s5.extBut _ _ c2 (s4.extBut _ _ c4 (s3.extBut _ _ c2 (s2.extBut _ _ c3 (s1.extBut _ _ c1 e))))
 have j15:IsIt lb g5 i1 l1 (n + 1):=((j1.keep fun o e=>s3.extBut _ _ D.TOi1.symm e).keep fun o e=>s4.extBut _ _ D.i12 e).keep fun o e=>s5.extBut _ _ D.TOi1.symm e
 have j25:IsIt lc g5 i2 l2 (n + 1):=j2.keep fun o e=>s5.extBut _ _ D.TOi2.symm e
 have zl:z < g5.objs.size:=Heap.lt_size z5
 show wpAny _ _ (Builtin.SmallTypes.ownedTupleHandOut (.ref z) (.ref g5.objs.size) >>= _) _ _ _
 refine wpAny_bind ?_; unfold Builtin.SmallTypes.ownedTupleHandOut
 have z6:IsZip (g5.push { cls:=.type "tuple",data:=.seq #[x,y] }) z ti to .ellipsis:=Heap.get?_push_of_some _ z5
 refine wpAny_bind (wpAny_setField_rec z6 (by simp) fun g7 z7 s7=>?_)
 replace z7:IsZip g7 z ti to (rawInt g5.objs.size):=z7
 refine wpAny_setField_rec z7 (by simp) fun g8 z8 s8=>?_
 replace z8:IsZip g8 z ti to (rawInt g5.objs.size):=z8
 have up:∀ c o,c ≠ z → g5.get? c = some o → g8.get? c = some o:=fun c o c1 e=>s8.extBut _ _ c1 (s7.extBut _ _ c1 (Heap.get?_push_of_some _ e))
 have t8:IsPair g8 g5.objs.size x y:=s8.extBut _ _ (Nat.ne_of_gt zl) (s7.extBut _ _ (Nat.ne_of_gt zl) (Heap.get?_push_size _ rfl))
 have n8:g8.objs.size = g5.objs.size + 1:=by rw [s8.1,s7.1,Heap.size_push]
 rw [sz] at z8 t8 n8
 refine wpAny_pure ⟨_,rfl,?_⟩
 refine wpAny_pure ?_
 show Q (some (.ref g5.objs.size)) _
 rw [sz]
 exact q g8 z8 ⟨x,y,up _ _ D.TOz to5⟩ (j15.keep fun o e=>up _ o D.i1z e) (j25.keep fun o e=>up _ o D.i2z e) t8 n8 fun c o c1 c2 c3 c4 e=>up c o c1 (k5 c o c1 c2 c3 c4 e)
theorem Qyp {lb lc:Bool} {z ti to i1 i2 l1 l2:Addr} {n:Nat} {xs ys:Array Value} {Q:Option Value → Shared → Prop} (hh:A.handled = none) (D:ZipApart z ti to i1 i2 l1 l2) (st:ZT lb lc s.heap z ti to i1 i2 l1 l2 n xs ys) (he:xs[n]? = none ∨ ys[n]? = none)
  (q:∀ g,(∀ c o,c ≠ z → c ≠ to → c ≠ i1 → c ≠ i2 → s.heap.get? c = some o → g.get? c = some o) → Q none { s with heap:=g }):wpAny (model P w) A (pyNext (.ref z)) Q E s:=by
 obtain ⟨hz,hti,⟨a,b,hto⟩,h1,h2,hl1,hl2⟩:=st
 have hT:s.TypeIs (.ref z) "zip" := ⟨_,hz,rfl⟩
 unfold pyNext
 have fin:∀ g e,(∀ c o,c ≠ z → c ≠ to → c ≠ i1 → c ≠ i2 → s.heap.get? c = some o → g.get? c = some o) → (∃ o,g.get? e = some o ∧ o.cls = .type "StopIteration") →
   wpAny (model P w) A (do if ← isInstance (.ref e) (.type "StopIteration") then pure none else throw (.ref e)) Q E { s with heap:=g }:=fun g e hk ⟨o,ho,hc⟩ =>
  wpAny_bind (wpAny_isInstance (T := "StopIteration") (b:=true) ⟨o,ho,hc⟩ isSubtype_stop (wpAny_pure (q _ hk)))
 refine wpAny_bind (wpAny_attempt (wpAny_callSpecial?_slot (name:=Str.ofString "__next__") hT F.slot_zip_next (wpAny_call_entry F.slot_zip_next hT F.entry_zip_next ?_ (F.args_zip_next_1 _))))
 show wpAny _ _ (field (.ref z) 2 >>= _) _ _ _; refine wpAny_bind (wpAny_field hz rfl (x:=.bool false) rfl ?_)
 show wpAny _ _ (field (.ref z) 3 >>= _) _ _ _; refine wpAny_bind (wpAny_field hz rfl (x:=.ref ti) rfl ?_)
 refine wpAny_bind (wpAny_seqItems hti rfl ?_)
 show wpAny _ _ (Builtin.SmallTypes.ownedTupleIsFree (.ref z) >>= _) _ _ _; refine wpAny_bind ?_
 unfold Builtin.SmallTypes.ownedTupleIsFree
 refine wpAny_bind (wpAny_field hz rfl (x:=.none) rfl (wpAny_pure ?_)); simp only [if_true]
 refine wpAny_bind (wpAny_rule ?_)
 refine wpAny_bind (wpAny_field hz rfl (x:=.ref to) rfl ?_)
 refine wpAny_bind (wpAny_setField_rec hz (by simp) fun g1 z1 s1=>?_)
 replace z1:IsZip g1 z ti to .ellipsis:=z1
 refine wpAny_bind ?_; simp only [List.zipIdx_cons,List.zipIdx_nil,List.forIn_cons,List.forIn_nil]
 refine wpAny_bind (wpAny_bind (wpAny_onRaise ?_)); show wpAny _ _ (Builtin.SmallTypes.nextOf (.ref i1) >>= _) _ _ _
 cases hx:xs[n]? with
 | none =>
  refine wpAny_bind (Qn3 hh (h1.keep fun o e=>s1.extBut _ _ D.i1z e) (hl1.keep fun o e=>s1.extBut _ _ D.l1z e) hx fun g2 e s2 ⟨oe,he1,he2⟩=>?_)
  have z2:IsZip g2 z ti to .ellipsis:=s2 _ _ D.i1z.symm z1
  have ez:e ≠ z:=fun x=>by subst x; rw [z2] at he1; cases he1; simp at he2
  exact wpAny_setField_rec z2 (by simp) fun g3 _ s3=>fin g3 e (fun c o c1 _ c3 _ x=>s3.extBut _ _ c1 (s2 _ _ c3 (s1.extBut _ _ c1 x))) ⟨oe,s3.extBut _ _ ez he1,he2⟩
 | some x =>
  have hy:ys[n]? = none:=by rcases he with h | h; rw [hx] at h; cases h; exact h
  refine wpAny_bind (Qik (h1.keep fun o e=>s1.extBut _ _ D.i1z e) (hl1.keep fun o e=>s1.extBut _ _ D.l1z e) hx fun g2 j1 s2=>wpAny_pure ?_)
  have to2:IsPair g2 to a b:=s2.extBut _ _ D.TOi1 (s1.extBut _ _ D.TOz hto)
  refine wpAny_bind (wpAny_seqItems to2 rfl ?_); refine wpAny_bind (wpAny_updateSeq_pair to2 fun g3 to3 s3=>?_)
  refine wpAny_bind (wpAny_letGo (wpAny_pure ?_)); refine wpAny_bind (wpAny_bind (wpAny_onRaise ?_))
  show wpAny _ _ (Builtin.SmallTypes.nextOf (.ref i2) >>= _) _ _ _
  refine wpAny_bind (Qn3 hh (((h2.keep fun o e=>s1.extBut _ _ D.i2z e).keep fun o e=>s2.extBut _ _ D.i12.symm e).keep fun o e=>s3.extBut _ _ D.TOi2.symm e) (((hl2.keep fun o e=>s1.extBut _ _ D.l2z e).keep fun o e=>s2.extBut _ _ D.l2i1 e).keep fun o e=>s3.extBut _ _ D.l2TO e) hy fun g4 e s4 ⟨oe,he1,he2⟩=>?_)
  have z4:IsZip g4 z ti to .ellipsis:=s4 _ _ D.i2z.symm (s3.extBut _ _ D.TOz.symm (s2.extBut _ _ D.i1z.symm z1))
  have ez:e ≠ z:=fun x=>by subst x; rw [z4] at he1; cases he1; simp at he2
  exact wpAny_setField_rec z4 (by simp) fun g5 _ s5=>fin g5 e (fun c o c1 c2 c3 c4 x=>s5.extBut _ _ c1 (s4 _ _ c4 (s3.extBut _ _ c2 (s2.extBut _ _ c3 (s1.extBut _ _ c1 x))))) ⟨oe,s5.extBut _ _ ez he1,he2⟩
end
noncomputable def itN:Bool → String
 | true => "list_iterator"
 | false => "tuple_iterator"
noncomputable abbrev zt0 (lb:Bool) (h:Heap) (l:Addr):Heap:=h.push { cls:=.type (itN lb),data:=.fields #[.ref l,.int 0 0] }
noncomputable abbrev zt3 (lb lc:Bool) (h:Heap) (l m:Addr):Heap:=(zt0 lc (zt0 lb h l) m).push { cls:=.type "tuple",data:=.seq #[.ref h.objs.size,.ref (zt0 lb h l).objs.size] }
noncomputable abbrev zt4 (lb lc:Bool) (h:Heap) (l m:Addr):Heap:=(zt3 lb lc h l m).push { cls:=.type "tuple",data:=.seq #[.none,.none] }
noncomputable abbrev zt5 (lb lc:Bool) (h:Heap) (l m:Addr):Heap:=(zt4 lb lc h l m).push { cls:=.type "zip",data:=.fields #[.none,.bool false,.bool false,.ref (zt0 lc (zt0 lb h l) m).objs.size,.ref (zt3 lb lc h l m).objs.size] }
set_option maxHeartbeats 2000000 in
theorem Qtd (lb lc:Bool) (l m:Addr) (xs ys:Array Value) :
  Meets (Builtin.«zip.__new__» ⟨[.type "zip",.ref l,.ref m],[]⟩) (fun _ R s=>IsSq lb s.heap l xs ∧ IsSq lc s.heap m ys ∧ R (.ok (.ret (.ref (zt4 lb lc s.heap l m).objs.size))) { s with heap:=zt5 lb lc s.heap l m }):=by
 refine .of_wp fun prog w A R s h=>?_
 obtain ⟨hp,g,d,tk,os⟩:=s
 obtain ⟨h1,h2,h⟩:=h
 have hsub:=sub_zip
 have k2:IsSq lc (zt0 lb hp l) m ys:=h2.keep fun o e=>Heap.get?_push_of_some _ e
 cases lb <;> cases lc
 ·have k1:Heap.IsTuple (Shared.heap ⟨hp,g,d,tk,os⟩) l xs:=h1
  have k2:Heap.IsTuple (Shared.heap ⟨hp.push { cls:=.type "tuple_iterator",data:=.fields #[.ref l,.int 0 0] },g,d,tk,os⟩) m ys:=k2
  wp_walk using wpAny_pyIter_tuple k1,wpAny_pyIter_tuple k2
  exact ⟨_,rfl,h⟩
 ·have k1:Heap.IsTuple (Shared.heap ⟨hp,g,d,tk,os⟩) l xs:=h1
  have k2:Heap.IsList (Shared.heap ⟨hp.push { cls:=.type "tuple_iterator",data:=.fields #[.ref l,.int 0 0] },g,d,tk,os⟩) m ys:=k2
  wp_walk using wpAny_pyIter_tuple k1,wpAny_pyIter_list k2
  exact ⟨_,rfl,h⟩
 ·have k1:Heap.IsList (Shared.heap ⟨hp,g,d,tk,os⟩) l xs:=h1
  have k2:Heap.IsTuple (Shared.heap ⟨hp.push { cls:=.type "list_iterator",data:=.fields #[.ref l,.int 0 0] },g,d,tk,os⟩) m ys:=k2
  wp_walk using wpAny_pyIter_list k1,wpAny_pyIter_tuple k2
  exact ⟨_,rfl,h⟩
 ·have k1:Heap.IsList (Shared.heap ⟨hp,g,d,tk,os⟩) l xs:=h1
  have k2:Heap.IsList (Shared.heap ⟨hp.push { cls:=.type "list_iterator",data:=.fields #[.ref l,.int 0 0] },g,d,tk,os⟩) m ys:=k2
  wp_walk using wpAny_pyIter_list k1,wpAny_pyIter_list k2
  exact ⟨_,rfl,h⟩
section
variable {P:Program} {w:World} {A:Around} {E:Value → Shared → Prop} {s:Shared}
theorem Qwn {lb lc:Bool} {l m:Addr} {xs ys:Array Value} {Q:Value → Shared → Prop} (h1:IsSq lb s.heap l xs) (h2:IsSq lc s.heap m ys)
  (q:∀ g,ZT lb lc g (s.heap.objs.size + 4) (s.heap.objs.size + 2) (s.heap.objs.size + 3) s.heap.objs.size (s.heap.objs.size + 1) l m 0 xs ys → (∀ c o,s.heap.get? c = some o → g.get? c = some o) → Q (.ref (s.heap.objs.size + 4)) { s with heap:=g }) :
  wpAny (model P w) A (call (.type "zip") [.ref l,.ref m]) Q E s:=by
 refine callType_new F.called_zip (by decide) (F.typeCall_zip_2 _ _) (F.newCall_zip_2 _ _) (fun obj=>F.args_object_init_3 obj _ _) F.entry_zip_new (Qtd lb lc l m xs ys) ⟨h1,h2,?_⟩
 have n1:(zt0 lb s.heap l).objs.size = s.heap.objs.size + 1:=Heap.size_push ..
 have n2:(zt0 lc (zt0 lb s.heap l) m).objs.size = s.heap.objs.size + 2:=by rw [Heap.size_push,n1]
 have n3:(zt3 lb lc s.heap l m).objs.size = s.heap.objs.size + 3:=by rw [Heap.size_push,n2]
 have n4:(zt4 lb lc s.heap l m).objs.size = s.heap.objs.size + 4:=by rw [Heap.size_push,n3]
 have up:∀ c o,s.heap.get? c = some o → (zt5 lb lc s.heap l m).get? c = some o:=fun c o x=>Heap.get?_push_of_some _ (Heap.get?_push_of_some _ (Heap.get?_push_of_some _ (Heap.get?_push_of_some _ (Heap.get?_push_of_some _ x))))
 have g5:(zt5 lb lc s.heap l m).get? (zt4 lb lc s.heap l m).objs.size = some _:=Heap.get?_push_size _ rfl
 have g4:(zt5 lb lc s.heap l m).get? (zt3 lb lc s.heap l m).objs.size = some _:=Heap.get?_push_of_some _ (Heap.get?_push_size _ rfl)
 have g3:(zt5 lb lc s.heap l m).get? (zt0 lc (zt0 lb s.heap l) m).objs.size = some _:=Heap.get?_push_of_some _ (Heap.get?_push_of_some _ (Heap.get?_push_size _ rfl))
 have g2:(zt5 lb lc s.heap l m).get? (zt0 lb s.heap l).objs.size = some _:=Heap.get?_push_of_some _ (Heap.get?_push_of_some _ (Heap.get?_push_of_some _ (Heap.get?_push_size _ rfl)))
 have g1:(zt5 lb lc s.heap l m).get? s.heap.objs.size = some _:=Heap.get?_push_of_some _ (Heap.get?_push_of_some _ (Heap.get?_push_of_some _ (Heap.get?_push_of_some _ (Heap.get?_push_size _ rfl))))
 show _ ∧ _
 rw [n2,n3,n4] at g5
 rw [n1,n2] at g3
 rw [n3] at g4
 rw [n1] at g2
 rw [n4]
 exact ⟨⟨_,g5,rfl⟩,q _ ⟨g5,g3,⟨_,_,g4⟩,(by cases lb <;> exact ⟨_,g1,rfl,rfl⟩),(by cases lc <;> exact ⟨_,g2,rfl,rfl⟩),h1.keep fun o e=>up _ o e,h2.keep fun o e=>up _ o e⟩ up⟩
end
noncomputable def SqB:Bool → PySem.W.Frag → Hp → Addr → List V → Prop
 | true,K,H,a,xs=>SqL K H a xs
 | false,K,H,a,xs=>SqT K H a xs
theorem Inv.sqB {lb:Bool} {X:Cx} {pins:List (Addr × Obj)} {σ:St} {H:Hp} {s:Shared} {a:Addr} {xs:List V} (I:Inv X pins σ H s) (h:SqB lb X.K H a xs):∃ its:List Value,Vals xs its ∧ IsSq lb s.heap a its.toArray:=by
 cases lb
 ·obtain ⟨its,r,p,_⟩:=I.tuple h
  exact ⟨its,r,p⟩
 ·obtain ⟨its,r,p,_⟩:=I.list h
  exact ⟨its,r,p.isList⟩
theorem Inv.sqB_inj {lb:Bool} {X:Cx} {pins:List (Addr × Obj)} {σ:St} {H:Hp} {s:Shared} {a:Addr} {xs ys:List V} (I:Inv X pins σ H s) (h:SqB lb X.K H a xs) (h':SqB lb X.K H a ys):xs = ys:=by
 cases lb
 ·exact I.tuple_inj h h'
 ·exact I.list_inj h h'
noncomputable def Itz (lb lc:Bool) (K:PySem.W.Frag) (a b:Addr):It :=
 ⟨fun i H=>∃ xs ys x y,SqB lb K H a xs ∧ SqB lc K H b ys ∧ xs[i]? = some x ∧ ys[i]? = some y,fun i H v H'=>∃ p x y,v = .ref p ∧ H p = none ∧ (∀ xs,SqB lb K H a xs → xs[i]? = some x) ∧ (∀ ys,SqB lc K H b ys → ys[i]? = some y) ∧ H' = upd H p (.tup [x,y]),fun i H=>∃ xs ys,SqB lb K H a xs ∧ SqB lc K H b ys ∧ (xs.length ≤ i ∨ ys.length ≤ i)⟩
theorem Qyq {P:Program} {w:World} {K:PySem.W.Frag} {es:List Expr} {x1} {tp:Pos} (lb lc:Bool) (a b z ti to i1 i2:Addr) (D:ZipApart z ti to i1 i2 a b):Turn P w K (.Tuple es x1 tp) (Itz lb lc K a b) [z,ti,to,i1,i2] z (fun i h=>IsZip h z ti to .none ∧ IsPair h ti (.ref i1) (.ref i2) ∧ (∃ u v,IsPair h to u v) ∧ IsIt lb h i1 a i ∧ IsIt lc h i2 b i) where
 mem:=by simp
 obj:=fun i h st c hc=>by
  obtain ⟨hz,hti,⟨u,v,hto⟩,h1,h2⟩:=st
  have hc:c = z ∨ c = ti ∨ c = to ∨ c = i1 ∨ c = i2:=by simpa using hc
  rcases hc with rfl | rfl | rfl | rfl | rfl
  ·exact ⟨_,hz,fun v z=>by
    have z':Data.fields _ = Data.cell v:=z
    cases z'⟩
  ·exact ⟨_,hti,fun v z=>by
    have z':Data.seq _ _ = Data.cell v:=z
    cases z'⟩
  ·exact ⟨_,hto,fun v z=>by
    have z':Data.seq _ _ = Data.cell v:=z
    cases z'⟩
  ·exact h1.obj
  ·exact h2.obj
 keep:=fun i h h' st k=>⟨k z (by simp) _ st.1,k ti (by simp) _ st.2.1,let ⟨u,v,e⟩:=st.2.2.1; ⟨u,v,k to (by simp) _ e⟩,st.2.2.2.1.keep fun o e=>k i1 (by simp) o e,st.2.2.2.2.keep fun o e=>k i2 (by simp) o e⟩
 item:=by
  intro X hP hw hK hc i pins s σ H E I hf st hg
  subst hP hw hK
  obtain ⟨xs,ys,x,y,hqa,hqb,hx,hy⟩:=hg
  obtain ⟨ita,rva,pa⟩:=I.sqB hqa
  obtain ⟨itb,rvb,pb⟩:=I.sqB hqb
  obtain ⟨u,hu,ru⟩:=rva.get hx
  obtain ⟨v,hv,rv⟩:=rvb.get hy
  obtain ⟨hz,hti,hto,h1,h2⟩:=st
  refine Qwm D ⟨hz,hti,hto,h1,h2,pa,pb⟩ (x:=u) (y:=v) (by simpa using hu) (by simpa using hv) fun g gz gto g1 g2 gT gn gk=>⟨_,rfl,?_⟩
  refine wpAny_letOwnedTupleGo_zip (s:={ s with heap:=g }) gz fun f fz fs=>?_
  have fs:Heap.SameBut z g f:=fs
  have hf0:H s.heap.objs.size = none:=I.hok.fresh (Nat.le_refl _)
  have I1:Inv X pins σ (upd H s.heap.objs.size (.tup [x,y])) { s with heap:=s.heap.push { cls:=.type "tuple",data:=.seq #[u,v] },toks:=s.toks } :=
   I.laid (fun b o q=>Heap.get?_push_of_some _ q) (Nat.le_refl _) ⟨by show 2 ≤ sizeLine; decide,[u,v],.cons ru (.cons rv .nil),⟨_,Heap.get?_push_size _ rfl,rfl,_,rfl,rfl⟩⟩
  have lt:∀ {c o},s.heap.get? c = some o → c ≠ s.heap.objs.size:=fun e=>Nat.ne_of_lt (Heap.lt_size e)
  have ne:∀ c ∈ [z,ti,to,i1,i2],c ≠ s.heap.objs.size:=fun c hc=>by
   have hc:c = z ∨ c = ti ∨ c = to ∨ c = i1 ∨ c = i2:=by simpa using hc
   obtain ⟨_,_,hto'⟩:=hto
   obtain ⟨_,e1,_⟩:=h1.obj
   obtain ⟨_,e2,_⟩:=h2.obj
   rcases hc with rfl | rfl | rfl | rfl | rfl
   ·exact lt hz
   ·exact lt hti
   ·exact lt hto'
   ·exact lt e1
   ·exact lt e2
  have hf1:∀ c ∈ [z,ti,to,i1,i2],Qih X pins (upd H s.heap.objs.size (.tup [x,y])) c:=fun c hc=>⟨by rw [Q3 (ne c hc)]; exact (hf c hc).1,(hf c hc).2⟩
  have I2:=I1.turnedL (h':=f) (t':=s.toks) (fp:=[z,ti,to,i1,i2]) (fun c o hc q=>by
   have c1:c ≠ z:=fun e=>hc (by simp [e])
   have c2:c ≠ to:=fun e=>hc (by simp [e])
   have c3:c ≠ i1:=fun e=>hc (by simp [e])
   have c4:c ≠ i2:=fun e=>hc (by simp [e])
   rw [fs.2 c c1]
   rcases Heap.get?_push_cases q with ⟨rfl,rfl⟩ | q
   ·exact gT
   ·exact gk c o c1 c2 c3 c4 q) hf1
  refine ⟨.ref s.heap.objs.size,_,I2,rfl,⟨_,x,y,rfl,hf0,fun ys hy=>by rw [I.sqB_inj hy hqa]; exact hx,fun zs hz=>by rw [I.sqB_inj hz hqb]; exact hy,rfl⟩,⟨fz,?_,?_,?_,?_⟩,fun c hc=>(hf1 c hc).1⟩
  ·exact fs.extBut _ _ D.TIz (gk _ _ D.TIz D.TITO D.TIi1 D.TIi2 hti)
  ·obtain ⟨p,q,e⟩:=gto
   exact ⟨p,q,fs.extBut _ _ D.TOz e⟩
  ·exact g1.keep fun o e=>fs.extBut _ _ D.i1z e
  ·exact g2.keep fun o e=>fs.extBut _ _ D.i2z e
 done:=by
  intro X hP hw hK hc i pins s σ H E I hf st hg
  subst hP hw hK
  obtain ⟨xs,ys,hqa,hqb,hl⟩:=hg
  obtain ⟨ita,rva,pa⟩:=I.sqB hqa
  obtain ⟨itb,rvb,pb⟩:=I.sqB hqb
  obtain ⟨hz,hti,hto,h1,h2⟩:=st
  have e1:=rva.length
  have e2:=rvb.length
  refine Qyp (I.ok.hd hc) D ⟨hz,hti,hto,h1,h2,pa,pb⟩ (by
   rcases hl with h | h
   ·exact .inl (by simp; omega)
   ·exact .inr (by simp; omega)) fun g gk=>⟨rfl,I.turnedL (t':=s.toks) (fp:=[z,ti,to,i1,i2]) (fun c o hc q=>gk c o (fun e=>hc (by simp [e])) (fun e=>hc (by simp [e])) (fun e=>hc (by simp [e])) (fun e=>hc (by simp [e])) q) hf⟩
 self:=fun _ _ _ _ _ st h=>wpAny_pyIter_zip st.1 h
theorem Qwo (n a b:Nat) (h1:a < n) (h2:b < n):ZipApart (n + 4) (n + 2) (n + 3) n (n + 1) a b:=by constructor <;> (first | exact Nat.ne_of_lt (by omega) | exact Nat.ne_of_gt (by omega))
section
variable {X:Cx}
noncomputable def iZip (K:PySem.W.Frag) (ta:TA):TI:=fun σ H R=>ta σ H fun vs H1=>∃ lb lc a b xs ys,vs = [.ref a,.ref b] ∧ SqB lb K H1 a xs ∧ SqB lc K H1 b ys ∧ R (Itz lb lc K a b) H1
theorem Q74 {a b:Expr} {ta:TA} {es:List Expr} {x1} {tp p pos:Pos} (K:PySem.W.Frag) (hK:X.K = K) (hg:Gl X "zip") (hm:X.mg "zip" = none) (hb:PySem.bootBuiltins "zip" = some (.type "zip")) (ha:PA X [a,b] ta) (hs:Qr a = true) (hs2:Qr b = true) :
  PI X (.Tuple es x1 tp) (.Call (.Name "zip" p) [a,b] [] pos) (iZip K ta):=by
 subst hK
 intro pins s σ H R I h
 refine Call_ (Qjq I hg hm hb (PyProof.Rows.callWith_type1 (thn (ha pos pins s σ H _ I h) fun us s1 ⟨vs,H1,I1,r1,q1⟩=>?_) (Qa5 hs) (by rw [Qa5 hs2]; rfl)))
 obtain ⟨lb,lc,c,d,xs,ys,e,hqc,hqd,q⟩:=q1
 subst e
 cases r1 with
 | cons r rr =>
  cases rr with
  | cons r' rr' =>
   cases rr'
   cases r
   cases r'
   obtain ⟨itc,rvc,pc⟩:=I1.sqB hqc
   obtain ⟨itd,rvd,pd⟩:=I1.sqB hqd
   have ltc:c < s1.heap.objs.size:=let ⟨_,e⟩:=pc.obj; Heap.lt_size e
   have ld:d < s1.heap.objs.size:=let ⟨_,e⟩:=pd.obj; Heap.lt_size e
   refine Qwn pc pd fun g st hk=>wpAny_pyIter_zip st.z ?_
   refine ⟨s1.heap.objs.size + 4,[s1.heap.objs.size + 4,s1.heap.objs.size + 2,s1.heap.objs.size + 3,s1.heap.objs.size,s1.heap.objs.size + 1],_,_,H1,rfl,I1.kept (t':=s1.toks) hk,Qyq lb lc c d _ _ _ _ _ (Qwo _ _ _ ltc ld),⟨st.z,st.ti,st.to,st.i1,st.i2⟩,fun f hf=>?_,q⟩
   have lf:s1.heap.objs.size ≤ f:=by
    have hf:f = s1.heap.objs.size + 4 ∨ f = s1.heap.objs.size + 2 ∨ f = s1.heap.objs.size + 3 ∨ f = s1.heap.objs.size ∨ f = s1.heap.objs.size + 1:=by simpa using hf
    rcases hf with rfl | rfl | rfl | rfl | rfl <;> first | exact Nat.le_refl _ | exact Nat.le_add_right _ _
   exact I1.fpOk lf (I1.hok.fresh lf)
theorem Qaby {a b:Expr} {ta:TA} {es:List Expr} {x1} {tp p pos:Pos} (K:PySem.W.Frag) (hK:X.K = K) (hm:X.mg "zip" = none) (hb:PySem.bootBuiltins "zip" = some (.type "zip")) (ha:QA X [a,b] ta) (hg:Gl X "zip") (hs:Qr a = true) (hs2:Qr b = true) :
  QI X (.Tuple es x1 tp) (.Call (.Name "zip" p) [a,b] [] pos) (iZip K ta):=⟨Q74 K hK hg hm hb ha.h hs hs2⟩
end
theorem Q75 {prog:Program} {w:World} {A:Around} (hh:A.handled = none) (it l:Addr) (hne:l ≠ it) (items:Array Value) :
  Draws prog w A it [it,l] items.size (fun i v=>items[i]? = some v) (fun i h=>h.IsTupleIter it l i ∧ h.IsTuple l items) where
 live:=fun _ _ st=>let ⟨o,ho,_⟩:=st.1; ⟨o,ho⟩
 frame:=fun _ _ _ st hk=>⟨let ⟨o,e,r⟩:=st.1; ⟨o,hk it (by simp) o e,r⟩,let ⟨o,e,r⟩:=st.2; ⟨o,hk l (by simp) o e,r⟩⟩
 item:=fun i s Q E hi st hQ=>by
  refine Qlk st.1 st.2 (v:=items[i]) (by simp [hi]) fun h' hit' hs'=>?_
  exact hQ _ h' s.toks (by simp [hi]) ⟨hit',let ⟨o,e,r⟩:=st.2; ⟨o,hs'.extBut _ _ hne e,r⟩⟩ hs'
 done:=fun s Q E st hE=>Qjw hh st.1 st.2 (by simp) hE
set_option maxHeartbeats 1000000 in
theorem Qq6 (l:Addr) (items:Array Value) (n:Nat) (dct:Option Addr) (sl:Array (Option Value)) :
  Meets (Builtin.«enumerate.__new__» ⟨[.type "enumerate",.ref l],[]⟩) (fun _ R s=>s.heap.get? l = some { cls:=.type "tuple",dict:=dct,data:=.seq items n,slots:=sl } ∧
   R (.ok (.ret (.ref (s.heap.push { cls:=.type "tuple_iterator",data:=.fields #[.ref l,.int 0 0] }).objs.size)))
    { s with heap:=(s.heap.push { cls:=.type "tuple_iterator",data:=.fields #[.ref l,.int 0 0] }).push { cls:=.type "enumerate",data:=.fields #[.none,.bool false,.ref s.heap.objs.size,rawInt 0,.none,.none] } }) :=
 .of_wp fun prog w A R s h=>by
  obtain ⟨hp,g,d,tk,os⟩:=s; obtain ⟨hl,h⟩:=h
  have hsub:=sub_enumerate
  have hL:Heap.IsTuple (Shared.heap ⟨hp,g,d,tk,os⟩) l items:=⟨_,hl,rfl,n,rfl⟩
  wp_walk using PySem.AutoSeq1.wpAny_loadPart' hl
  refine wpAny_stack_any fun st=>wpAny_pure ?_
  split
  ·rename_i c _ _ _ _ _
   cases (c == Value.type "enumerate")
   ·wp_walk using PySem.AutoSeq1.wpAny_loadPart' hl,wpAny_pyIter_tuple hL
    exact ⟨_,rfl,h⟩
   ·wp_walk using PySem.AutoSeq1.wpAny_loadPart' hl,wpAny_pyIter_tuple hL
    exact ⟨_,rfl,h⟩
  ·wp_walk using PySem.AutoSeq1.wpAny_loadPart' hl,wpAny_pyIter_tuple hL
   exact ⟨_,rfl,h⟩
section
variable {prog:Program} {w:World} {A:Around} {E:Value → Shared → Prop} {s:Shared}
theorem Qte {l:Addr} {items:Array Value} {Q:Value → Shared → Prop} (hL:s.heap.IsTuple l items)
  (h:∀ h',IsEnum h' (s.heap.objs.size + 1) s.heap.objs.size 0 .none → h'.IsTupleIter s.heap.objs.size l 0 → h'.objs.size = s.heap.objs.size + 2 →
   (∀ b o,s.heap.get? b = some o → h'.get? b = some o) → Q (.ref (s.heap.objs.size + 1)) { s with heap:=h' }) :
  wpAny (model prog w) A (call (.type "enumerate") [.ref l]) Q E s:=by
 obtain ⟨⟨c,dct,dt,sl⟩,hl,hc,n,hd⟩:=hL
 replace hc:c = .type "tuple" := hc
 replace hd:dt = .seq items n:=hd
 subst hc hd
 refine callType_new F.called_enumerate (by decide) (F.typeCall_enumerate_1 _) (F.newCall_enumerate_1 _) (fun obj=>F.args_object_init_2 obj _) F.entry_enumerate_new
  (Qq6 l items n dct sl) ⟨hl,?_⟩
 have hz:(s.heap.push { cls:=.type "tuple_iterator",data:=.fields #[.ref l,.int 0 0] }).objs.size = s.heap.objs.size + 1:=Heap.size_push ..
 show _ ∧ _
 rw [hz]
 have he:IsEnum ((s.heap.push { cls:=.type "tuple_iterator",data:=.fields #[.ref l,.int 0 0] }).push
   { cls:=.type "enumerate",data:=.fields #[.none,.bool false,.ref s.heap.objs.size,rawInt 0,.none,.none] }) (s.heap.objs.size + 1) s.heap.objs.size 0 .none:=by
  have:=Heap.get?_push_size (s.heap.push { cls:=.type "tuple_iterator",data:=.fields #[.ref l,.int 0 0] })
   (o:={ cls:=.type "enumerate",data:=.fields #[.none,.bool false,.ref s.heap.objs.size,rawInt 0,.none,.none] }) rfl
  rw [hz] at this; exact this
 refine ⟨⟨_,he,rfl⟩,h _ he ⟨_,Heap.get?_push_of_some _ (Heap.get?_push_size _ rfl),rfl,rfl⟩ (by rw [Heap.size_push,hz]) fun b o x=>Heap.get?_push_of_some _ (Heap.get?_push_of_some _ x)⟩
theorem Qwp {e it l:Addr} {i:Nat} {items:Array Value} {old:Value} {Q:Option Value → Shared → Prop} (hh:A.handled = none)
  (he:IsEnum s.heap e it i old) (hit:s.heap.IsTupleIter it l i) (hl:s.heap.IsTuple l items) (hx:items[i]? = none)
  (hQ:∀ h',Heap.ExtBut it s.heap h' → Q none { s with heap:=h' }):wpAny (model prog w) A (pyNext (.ref e)) Q E s:=by
 have hT:s.TypeIs (.ref e) "enumerate" := ⟨_,he,rfl⟩
 unfold pyNext
 refine wpAny_bind (wpAny_attempt (wpAny_callSpecial?_slot (name:=Str.ofString "__next__") hT F.slot_enumerate_next
  (wpAny_call_entry F.slot_enumerate_next hT F.entry_enumerate_next ?_ (F.args_enumerate_next_1 _))))
 show wpAny _ _ (field (.ref e) 2 >>= _) _ _ _
 refine wpAny_bind (wpAny_field he rfl (x:=.ref it) rfl ?_)
 refine wpAny_bind (Qjw hh hit hl hx fun h' x he' hx'=>?_)
 obtain ⟨o,ho,hc⟩:=hx'
 refine wpAny_bind (wpAny_isInstance (T := "StopIteration") (b:=true) ⟨o,ho,hc⟩ isSubtype_stop ?_)
 exact wpAny_pure (hQ _ he')
end
noncomputable def Q76 (K:PySem.W.Frag) (a:Addr):It :=
 ⟨fun i H=>∃ xs x,SqT K H a xs ∧ xs[i]? = some x,fun i H v H'=>∃ p x,v = .ref p ∧ H p = none ∧ (∀ xs,SqT K H a xs → xs[i]? = some x) ∧ H' = upd H p (.tup [.int (i:Nat),x]),fun i H=>∃ xs,SqT K H a xs ∧ xs.length ≤ i⟩
theorem Qtf {P:Program} {w:World} {K:PySem.W.Frag} {es:List Expr} {x1} {tp:Pos} (a e it:Addr) (hne:e ≠ it) (hea:e ≠ a) (hai:a ≠ it):Turn P w K (.Tuple es x1 tp) (Q76 K a) [e,it] e (fun i h=>(∃ old,IsEnum h e it ((i:Nat):Int) old) ∧ h.IsTupleIter it a i) where
 mem:=by simp
 obj:=fun i h st b hb=>by
  obtain ⟨⟨old,he⟩,o,ho,c,d⟩:=st
  have hb:b = e ∨ b = it:=by simpa using hb
  rcases hb with rfl | rfl
  ·exact ⟨_,he,fun v z=>by
    have z':Data.fields _ = Data.cell v:=z
    cases z'⟩
  ·exact ⟨o,ho,fun v z=>by rw [d] at z; cases z⟩
 keep:=fun i h h' st k=>⟨let ⟨old,he⟩:=st.1; ⟨old,k e (by simp) _ he⟩,let ⟨o,ho,r⟩:=st.2; ⟨o,k it (by simp) o ho,r⟩⟩
 item:=by
  intro X hP hw hK hc i pins s σ H E I hf st hg
  subst hP hw hK
  obtain ⟨xs,x,hq,hx⟩:=hg
  obtain ⟨its,rv,p,hz⟩:=I.tuple hq
  obtain ⟨u,hu,ru⟩:=rv.get hx
  obtain ⟨⟨old,he⟩,hit⟩:=st
  have hel:e < s.heap.objs.size:=Heap.lt_size he
  have hh:=I.ok.hd hc
  have hlt:i < its.toArray.size:=by
   have:=(List.getElem?_eq_some_iff.mp hu).1
   simpa using this
  refine wpAny_pyNext_enum_itemD (Q75 (A:=X.A.in1) hh it a hai its.toArray) he ⟨hit,p⟩ hlt hne (by simp [hne,hea]) fun y h1 tk hy ho hit1 hT hsz hk=>⟨_,rfl,?_⟩
  have ey:y = u:=by
   have:its.toArray[i]? = some u:=by simpa using hu
   rw [this] at hy
   exact (Option.some.inj hy).symm
  subst ey
  refine wpAny_letOwnedTupleGo_enum (s:={ s with heap:=h1,toks:=tk + 1 }) ho fun h2 he2 hs2=>?_
  have hs2:Heap.SameBut e h1 h2:=hs2
  have hf0:H s.heap.objs.size = none:=I.hok.fresh (Nat.le_refl _)
  have I1:Inv X pins σ (upd H s.heap.objs.size (.tup [.int (i:Nat),x])) { s with heap:=s.heap.push { cls:=.type "tuple",data:=.seq #[.int (i:Nat) tk,y] },toks:=s.toks } :=
   I.laid (fun b o q=>Heap.get?_push_of_some _ q) (Nat.le_refl _) ⟨by show 2 ≤ sizeLine; decide,[.int (i:Nat) tk,y],.cons ⟨_,rfl⟩ (.cons ru .nil),⟨_,Heap.get?_push_size _ rfl,rfl,_,rfl,rfl⟩⟩
  have ne:∀ b ∈ [e,it],b ≠ s.heap.objs.size:=fun b hb=>by
   have hb:b = e ∨ b = it:=by simpa using hb
   obtain ⟨_,ho',_⟩:=hit
   rcases hb with rfl | rfl
   ·exact Nat.ne_of_lt hel
   ·exact Nat.ne_of_lt (Heap.lt_size ho')
  have hf1:∀ b ∈ [e,it],Qih X pins (upd H s.heap.objs.size (.tup [.int (i:Nat),x])) b:=fun b hb=>⟨by rw [Q3 (ne b hb)]; exact (hf b hb).1,(hf b hb).2⟩
  have I2:=I1.turnedL (h':=h2) (t':=tk + 1) (fp:=[e,it]) (fun b o hb q=>by
   have hbe:b ≠ e:=fun z=>hb (by simp [z])
   have hbi:b ≠ it:=fun z=>hb (by simp [z])
   rw [hs2.2 b hbe]
   rcases Heap.get?_push_cases q with ⟨rfl,rfl⟩ | q
   ·exact hT
   ·exact hk b o hbe hbi q) hf1
  refine ⟨.ref s.heap.objs.size,_,I2,rfl,⟨_,x,rfl,hf0,fun ys hy=>by rw [I.tuple_inj hy hq]; exact hx,rfl⟩,⟨⟨y,?_⟩,let ⟨o,ho',r⟩:=hit1.1; ⟨o,(hs2.2 it hne.symm).trans ho',r⟩⟩,fun b hb=>(hf1 b hb).1⟩
  have:((i + 1:Nat):Int) = (i:Int) + 1:=by push_cast; rfl
  rw [this]
  exact he2
 done:=by
  intro X hP hw hK hc i pins s σ H E I hf st hg
  subst hP hw hK
  obtain ⟨xs,hq,hx⟩:=hg
  obtain ⟨its,rv,p,hz⟩:=I.tuple hq
  obtain ⟨⟨old,he⟩,hit⟩:=st
  have hl:=rv.length
  refine Qwp (I.ok.hd hc) he hit p (by simp; omega) fun h1 eb=>⟨rfl,I.turnedL (t':=s.toks) (fp:=[e,it]) (fun b o hb q=>eb b o (fun z=>hb (by simp [z])) q) hf⟩
 self:=fun _ _ _ _ _ st h=>let ⟨_,he⟩:=st.1; wpAny_pyIter_enum he h
section
variable {X:Cx}
noncomputable def Qyr (K:PySem.W.Frag) (ta:TA):TI:=fun σ H R=>ta σ H fun vs H1=>∃ a xs,vs = [.ref a] ∧ ((SqL K H1 a xs ∧ R (Ite K a) H1) ∨ (SqT K H1 a xs ∧ R (Q76 K a) H1))
theorem Qys {a:Expr} {ta:TA} {es:List Expr} {x1} {tp p pos:Pos} (K:PySem.W.Frag) (hK:X.K = K) (hg:Gl X "enumerate") (hm:X.mg "enumerate" = none) (hb:PySem.bootBuiltins "enumerate" = some (.type "enumerate")) (ha:PA X [a] ta) (hs:starEach [a] X.env = [(false,eval a X.env)]:=by rfl) :
  PI X (.Tuple es x1 tp) (.Call (.Name "enumerate" p) [a] [] pos) (Qyr K ta):=by
 subst hK
 intro pins s σ H R I h
 refine Call_ (Qjq I hg hm hb (PyProof.Rows.callWith_type1 (thn (ha pos pins s σ H _ I h) fun us s1 ⟨vs,H1,I1,r1,q1⟩=>?_) hs rfl))
 obtain ⟨b,xs,e,q⟩:=q1
 subst e
 cases r1 with
 | cons r rr =>
  cases rr
  cases r
  have fp:∀ c ∈ [s1.heap.objs.size + 1,s1.heap.objs.size],Qih X pins H1 c:=fun c hc=>by
   have hc:c = s1.heap.objs.size + 1 ∨ c = s1.heap.objs.size:=by simpa using hc
   rcases hc with rfl | rfl
   ·exact I1.fpOk (Nat.le_succ _) (I1.hok.fresh (Nat.le_succ _))
   ·exact I1.fpOk (Nat.le_refl _) (I1.hok.fresh (Nat.le_refl _))
  rcases q with ⟨hq,q⟩ | ⟨hq,q⟩
  ·obtain ⟨its,rv,pl,hz⟩:=I1.list hq
   refine call_enumerate_list pl.isList fun h1 he hit hsz hk=>wpAny_pyIter_enum he ?_
   exact ⟨s1.heap.objs.size + 1,[s1.heap.objs.size + 1,s1.heap.objs.size],_,_,H1,rfl,I1.kept (t':=s1.toks) hk,Qwl b _ _ (Nat.succ_ne_self _),⟨⟨_,he⟩,hit⟩,fp,q⟩
  ·obtain ⟨its,rv,pl,hz⟩:=I1.tuple hq
   have hlt:b < s1.heap.objs.size:=let ⟨o,e,_⟩:=pl; Heap.lt_size e
   refine Qte pl fun h1 he hit hsz hk=>wpAny_pyIter_enum he ?_
   exact ⟨s1.heap.objs.size + 1,[s1.heap.objs.size + 1,s1.heap.objs.size],_,_,H1,rfl,I1.kept (t':=s1.toks) hk,Qtf b _ _ (Nat.succ_ne_self _) (Nat.ne_of_gt (Nat.lt_succ_of_lt hlt)) (Nat.ne_of_lt hlt),⟨⟨_,he⟩,hit⟩,fp,q⟩
theorem Q2b {a:Expr} {ta:TA} {es:List Expr} {x1} {tp p pos:Pos} (K:PySem.W.Frag) (hK:X.K = K) (hm:X.mg "enumerate" = none) (hb:PySem.bootBuiltins "enumerate" = some (.type "enumerate")) (ha:QA X [a] ta) (hg:Gl X "enumerate" := by rfl) (hs:Qr a = true:=by rfl) :
  QI X (.Tuple es x1 tp) (.Call (.Name "enumerate" p) [a] [] pos) (Qyr K ta):=⟨Qys K hK hg hm hb ha.h (Qa5 hs)⟩
end
noncomputable def excF (K:PySem.W.Frag) (c0 C:Addr) (bmB:List Value) (newId:String) (f:Addr):Bool:=match K.lookup C with
 | some ⟨.type "type",_,.cls cl,ks⟩=>(match cl.mro,ks.toList with
  | .ref C1 :: .ref b0 :: tl,[_,_,_,_,some (.builtin n1),_]=>C1 == C && n1 == newId && b0 == c0 && tl == bmB && !cl.hasDel && cl.hasDict && PySem.W.tailIn K bmB (.ref b0 :: tl)
  | _,_=>false)
 | _=>false
noncomputable def Q77 (K:PySem.W.Frag) (c0 C f:Addr):Bool:=excF K c0 C bmV "ValueError.__new__" f && PySem.W.findIn K (.ref C) "__init__" == some (some (.ref f)) && PySem.W.findIn K (.ref C) "__setattr__" == some (some (.builtin "object.__setattr__")) && PySem.W.findIn K (.ref C) "at" == some none && PySem.W.mroIn K C (.type "object") == some true
section
variable {prog:Program} {w:World} {A:Around} {E:Value → Shared → Prop} {h:Heap} {g:Array GenState} {d:Drawn} {t:Nat} {os:OsState}
variable {nm q:Str} {C N c0:Addr} {bs bm bmB:List Value} {hd:Bool} {sn:List Str} {sub:List Value} {ab:Bool} {col:Option Bool} {dd:Option Addr} {k0 k1 k2 k3 k5:Option Value} {B nid iid:String}
structure Ini (K:PySem.W.Frag) (c0 C:Addr):Prop where
 ex:∃ (f:Addr) (fd:FuncData) (qn:Str) (st:Stmt) (p1 p2 p3 p4:Pos),Q77 K c0 C f = true ∧ Fun K "__init__" qn st f fd ∧ (∃ od osl,K.lookup f = some ⟨.type "function",od,.func fd,osl⟩) ∧ FnScope ["self","at"] ["self","at"] (Qf st) ∧
  (Qf st).names.lookup ("self" : Str) = some .local ∧ (Qf st).names.lookup ("at" : Str) = some .local ∧ Binds K fd ["self","at"] [] ∧ Qa1 st = [.Assign [.Attribute (.Name "self" p1) "at" p2] (.Name "at" p3) p4]
end
section
variable {X:Cx} {pins:List (Addr × Obj)} {σ:St} {H:Hp} {s:Shared}
end
section
variable {M:Model} {A:Around} {E:Value → Shared → Prop} {env:Env} {nm q:Str} {C N:Addr} {bs bm:List Value} {hd:Bool} {sn:List Str} {sub:List Value} {ab:Bool} {col:Option Bool} {dd:Option Addr} {k0 k1 k2 k3 k5:Option Value} {nid:String}
end
section
variable {X:Cx} {x:Str} {e:Expr} {t:TA} {pos cpos np:Pos} {R:XR} {c0 C:Addr} {k:Nat}
end
section
variable {X:Cx} {e:Expr} {te:TE} {pos:Pos}
end
section
variable {prog:Program} {w:World} {A:Around} {E:Value → Shared → Prop} {h:Heap} {g:Array GenState} {d:Drawn} {t:Nat} {os:OsState}
variable {nm q:Str} {C N c0:Addr} {bs bm bmB:List Value} {hd:Bool} {sn:List Str} {sub:List Value} {ab:Bool} {col:Option Bool} {dd:Option Addr} {k0 k1 k2 k3 k5:Option Value} {B nid iid:String}
noncomputable def Q2c (K:PySem.W.Frag) (c0 C f:Addr):Bool:=excF K c0 C bmV "ValueError.__new__" f && PySem.W.findIn K (.ref C) "__init__" == some (some (.ref f)) && PySem.W.findIn K (.ref C) "__setattr__" == some (some (.builtin "object.__setattr__")) && PySem.W.findIn K (.ref C) "many" == some none && PySem.W.findIn K (.ref C) "most" == some none && PySem.W.mroIn K C (.type "object") == some true
structure Ini2 (K:PySem.W.Frag) (c0 C:Addr):Prop where
 ex:∃ (f:Addr) (fd:FuncData) (qn:Str) (st:Stmt) (p1 p2 p3 p4 q1 q2 q3 q4:Pos),Q2c K c0 C f = true ∧ Fun K "__init__" qn st f fd ∧ (∃ od osl,K.lookup f = some ⟨.type "function",od,.func fd,osl⟩) ∧ FnScope ["self","many","most"] ["self","many","most"] (Qf st) ∧
  (Qf st).names.lookup ("self" : Str) = some .local ∧ (Qf st).names.lookup ("many" : Str) = some .local ∧ (Qf st).names.lookup ("most" : Str) = some .local ∧ Binds K fd ["self","many","most"] [] ∧
  Qa1 st = [.Assign [.Attribute (.Name "self" p1) "many" p2] (.Name "many" p3) p4,.Assign [.Attribute (.Name "self" q1) "most" q2] (.Name "most" q3) q4]
end
section
variable {X:Cx} {pins:List (Addr × Obj)} {σ:St} {H:Hp} {s:Shared}
end
section
variable {X:Cx} {x:Str} {e e2:Expr} {t:TA} {pos cpos np:Pos} {R:XR} {c0 C:Addr} {k:Nat}
end
section
variable {X:Cx} {e:Expr} {te:TE} {pos:Pos}
end
section
variable {X:Cx}
noncomputable def isI (n:Int) (v:Value):Bool:=match v with
 | .int m _=>m == n
 | _=>false
end
noncomputable def keyD:Key → PyData
 | .inl i=>.int i
 | .inr x=>.str x
mutual
noncomputable def pyD:T → PyData
 | .non=>.none
 | .bl b=>.bool b
 | .int i=>.int i
 | .str x=>.str x
 | .tup ts=>.tuple (Qm3 ts)
 | .lst ts=>.list (Qm3 ts)
 | .dct ks ts=>.dict ((ks.map keyD).zip (Qm3 ts))
 | .dtt _ _=>.none
 | .clo _ _=>.none
noncomputable def Qm3:List T → List PyData
 | []=>[]
 | t :: ts=>pyD t :: Qm3 ts
end
mutual
noncomputable def Qet:T → Bool
 | .tup ts=>Qll ts
 | .lst ts=>Qll ts
 | .dct _ _=>false
 | .clo _ _=>false
 | .dtt _ _=>false
 | _=>true
noncomputable def Qll:List T → Bool
 | []=>true
 | t :: ts=>Qet t && Qll ts
end
mutual
theorem Qq7:∀ t:T,Qet t = true → (pyD t).hasDict = false
 | .non,_=>by simp only [pyD,PyData.hasDict]
 | .bl _,_=>by simp only [pyD,PyData.hasDict]
 | .int _,_=>by simp only [pyD,PyData.hasDict]
 | .str _,_=>by simp only [pyD,PyData.hasDict]
 | .tup ts,h=>by simp only [pyD,PyData.hasDict]; exact Qfp ts (by simpa only [Qet] using h)
 | .lst ts,h=>by simp only [pyD,PyData.hasDict]; exact Qfp ts (by simpa only [Qet] using h)
 | .dct _ _,h=>by simp only [Qet] at h; cases h
 | .clo _ _,h=>by simp only [Qet] at h; cases h
 | .dtt _ _,h=>by simp only [Qet] at h; cases h
theorem Qfp:∀ ts:List T,Qll ts = true → PyData.hasDictAll (Qm3 ts) = false
 | [],_=>by simp only [Qm3,PyData.hasDictAll]
 | t :: ts,h=>by
  simp only [Qll,Bool.and_eq_true] at h
  simp only [Qm3,PyData.hasDictAll,Qq7 t h.1,Qfp ts h.2,Bool.or_false]
end
section
variable {P:Program} {w:World} {H:Hp} {h:Heap}
mutual
theorem Qyt (ok:HOk P w H h):∀ (t:T) {v:V} {u:Value},Qet t = true → Is H v t → RelV v u → ∃ as,Reads h u (pyD t) as
 | .non,v,u,_,i,r=>by unfold Is at i; subst i; cases r; exact ⟨_,by unfold pyD; exact .none⟩
 | .bl b,v,u,_,i,r=>by unfold Is at i; subst i; cases r; exact ⟨_,by unfold pyD; exact .bool b⟩
 | .int n,v,u,_,i,r=>by unfold Is at i; subst i; obtain ⟨t,rfl⟩:=r; exact ⟨_,by unfold pyD; exact .int n t⟩
 | .str x,v,u,_,i,r=>by unfold Is at i; subst i; obtain ⟨t,rfl⟩:=r; exact ⟨_,by unfold pyD; exact .str x t⟩
 | .tup ts,v,u,f,i,r=>by
  obtain ⟨a,vs,rfl,ha,q⟩:=i.tup_inv
  cases r
  obtain ⟨_,its,rv,o,e,c,n,d,_⟩:=(show ObjOk P w H h a (.tup vs) from ok a _ ha)
  obtain ⟨as,R⟩:=Qjx ok ts (by simpa only [Qet] using f) q rv
  exact ⟨as,by unfold pyD; exact .tuple e c d (by simpa using R)⟩
 | .lst ts,v,u,f,i,r=>by
  obtain ⟨a,vs,rfl,ha,q⟩:=i.lst_inv
  cases r
  obtain ⟨_,its,n,rv,e⟩:=(show ObjOk P w H h a (.lst vs) from ok a _ ha)
  obtain ⟨as,R⟩:=Qjx ok ts (by simpa only [Qet] using f) q rv
  exact ⟨a :: as,by unfold pyD; exact .list e rfl rfl (by simpa using R)⟩
 | .dct _ _,v,u,f,i,r=>by simp only [Qet] at f; cases f
 | .clo _ _,v,u,f,i,r=>by simp only [Qet] at f; cases f
 | .dtt _ _,v,u,f,i,r=>by simp only [Qet] at f; cases f
theorem Qjx (ok:HOk P w H h):∀ (ts:List T) {vs:List V} {us:List Value},Qll ts = true → IsL H vs ts → Vals vs us → ∃ as,ReadsAll h us (Qm3 ts) as
 | [],vs,us,_,i,r=>by
  rw [i.nil_inv] at r
  cases r
  exact ⟨_,by unfold Qm3; exact .nil⟩
 | t :: ts,vs,us,f,i,r=>by
  obtain ⟨v,w',rfl,iv,iw⟩:=i.cons_inv
  simp only [Qll,Bool.and_eq_true] at f
  cases r with
  | cons r0 rr =>
   obtain ⟨as,R⟩:=Qyt ok t f.1 iv r0
   obtain ⟨bs,R2⟩:=Qjx ok ts f.2 iw rr
   exact ⟨_,by unfold Qm3; exact .cons R R2⟩
end
end
section
variable {X:Cx}
end
structure ShD (c d:Nat) (t:T):Prop where
 b:(pyD t).bulk ≤ c
 l:(pyD t).leavesShort 32 = true
 s:(pyD t).showable = true
 d:(pyD t).depth ≤ d
 f:Qet t = true
namespace Z
section
variable {H:Hp} {S:Addr → Prop} {x y:V} {Q:VK} {K:PySem.W.Frag}
variable {r:Nat}
end
end Z
end L2
namespace PySem
open Sem (wp)
open AutoSeq1 (wpAny_loadPart')
section
variable {prog:Program} {w:World} {A:Around} {E:Value → Shared → Prop} {s:Shared}
end
end PySem
namespace L2
open PySem PySem.Spec PyProof.Rows
section
variable {X:Cx}
end
end L2
namespace L2
open PySem PySem.Spec PyProof.Rows PySem.W PySem.Calls
noncomputable def Bd (n:Nat) (p:Array Nat):Prop:=0 < n ∧ (∀ x ∈ p,x < n) ∧ p.size = n
end L2
namespace L2
open PySem PySem.Spec PyProof.Rows PySem.W PySem.Calls
structure OrdN (lt:Nat → Nat → Bool) (n:Nat):Prop where
 tr:∀ a b c,a < n → b < n → c < n → lt a b = true → lt b c = true → lt a c = true
 tot:∀ a b,a < n → b < n → a ≠ b → lt a b = true ∨ lt b a = true
 as:∀ a b,a < n → b < n → lt a b = true → lt b a = false
section
variable {lt:Nat → Nat → Bool} {N:Nat} (o:OrdN lt N)
include o
end
end L2
namespace L2
open PySem PySem.Spec PyProof.Rows PySem.W PySem.Calls
noncomputable def Q40 (k:List Int):Int:=reduceHash (Builtin.Tuple.tupleHashOf (k.map hashInt))
noncomputable def Qab0 (ks:List (List Int)) (j:Nat):List Int:=ks.getD j []
noncomputable def Qab1 (t:SetTable):Nat → Nat
 | 0=>0
 | i + 1=>t.place.getD i 0 + 1
noncomputable def Q78 (t:SetTable) (n:Nat):Bool:=(List.range (n + 1)).all fun i=>SetTable.below t.place (Qab1 t i) == i
end L2
namespace L2
open PySem PySem.Spec PyProof.Rows PySem.W PySem.Calls
noncomputable abbrev btx (w:World):Bool:=w.params.followText "set-order"
structure SOk (w:World) (es:Array (Int × Value)) (t:SetTable):Prop where
 fits:t.fits es.size = true
 plain:t.plain = true
 led:btx w = false → t.led = true
 wk:btx w = false → Q78 t es.size = true
section
variable {prog:Program} {w:World} {A:Around} {E:Value → Shared → Prop} {s:Shared} {it d:Addr} {i ep:Nat} {es:Array (Int × Value)} {t:SetTable}
end
set_option genInjectivity false
set_option genSizeOf false
inductive PV where
 | fz (t:T) | ow (t:T) | sl (i:Nat)
inductive Slot where
 | un | fz (t:T) | ow (t:T) | ml (t:T) | ro (t:T) | pin (a:Addr) | fx (t:T)
noncomputable abbrev En:=List Slot
structure Xn where
 c:Nat
 arg:List Int
inductive Out (α:Type) where
 | ok (a:α) (ρ:En) | xn (x:Xn) (ρ:En) | no
noncomputable def Out.bind {α β:Type} (o:Out α) (k:α → En → Out β):Out β:=match o with
 | .ok a ρ=>k a ρ
 | .xn x ρ=>.xn x ρ
 | .no=>.no
noncomputable def Out.opt {α:Type} (o:Option α) (ρ:En):Out α:=match o with
 | some a=>.ok a ρ
 | none=>.no
noncomputable def Slot.prv:Slot → Option T
 | .ow t=>some t | .ml t=>some t | .ro t=>some t | _=>none
noncomputable def Slot.mut:Slot → Bool
 | .ow (.lst _)=>true | .ml (.lst _)=>true | _=>false
noncomputable def Slot.mutD:Slot → Bool
 | .ow (.dtt _ _)=>true | .ml (.dtt _ _)=>true | _=>false
noncomputable def Slot.put (t:T):Slot → Slot
 | .ow _=>.ow t | .ml _=>.ml t | s=>s
noncomputable def Slot.lend:Slot → Slot
 | .ow t=>.ml t | .pin _=>.un | .fx t=>.fz t | s=>s
noncomputable def Qb (ρ:En) (i:Nat):Slot:=match ρ[i]? with
 | some s=>s
 | none=>.un
noncomputable def cont (ρ:En):PV → Option T
 | .fz t=>some t
 | .ow t=>some t
 | .sl i=>(Qb ρ i).prv
noncomputable def frz:PV → Option T
 | .fz t=>some t
 | .ow t=>some t
 | .sl _=>none
noncomputable def Qdq:List PV → Option (List T)
 | []=>some []
 | r :: rs=>match frz r,Qdq rs with
  | some t,some ts=>some (t :: ts)
  | _,_=>none
inductive BOp where
 | add | sub | mul | fdv | mod | pow | shl | shr | band
inductive COp where
 | eq | ne | lt | le | gt | ge | isn | isnn | inn | nin
inductive Bi where
 | len | abs | all | any | sum | max | dvm | int | list | tup | dct | lstD        
inductive Tg where
 | nm (i:Nat) | tp (is:List Nat)
mutual
inductive E where
 | var (i:Nat) | int (i:Int) | bl (b:Bool) | non | str (x:Str)
 | tup (es:Es) | lst (es:Es)
 | bin (o:BOp) (a b:E) | neg (a:E)
 | not (a:E) | and (a b:E) | or (a b:E) | ite (c a b:E)
 | cmp (o:COp) (a b:E)
 | isI (a:E) (n:String)
 | call (f:Nat) (es:Es)
 | bi (b:Bi) (es:Es)
 | cnt (a b:E)
 | ix (a i:E) | slc (a:E) (lo hi:Es) 
 | comp (w:W) (js:List (Option Nat)) (tg:Tg) (cs:Es) (e:E)
 | dnew | din (ng:Bool) (k d:E) | dix (d k:E)
 | lit (t:T) | dg1 (d k:E)  
 | app (i:Nat) (es:Es) | lam (k:Nat) (js:List Nat)     
 | bad
inductive Es where
 | nil | cons (e:E) (es:Es)
inductive W where
 | seq (e:E) | rng1 (a:E) | enm (e:E) | zip (a b:E) 
end
inductive ME where
 | v (j:Nat) | c (n:Int) | rd (j k:Nat) | op (o:BOp) (a b:ME)
inductive MS where
 | put (v:ME) (j k:Nat) | rep (w s:Nat) (v:ME) (j k:Nat)
inductive S where
 | nil | seq (a b:S) | expr (e:E) | set (i:Nat) (e:E) | setF (i:Nat) (e:E) | unp (is:List Nat) (e:E) | par (i j:Nat) (a b:E)
 | app (i:Nat) (e:E) | ext (i:Nat) (e:E) | put (i:Nat) (k e:E) | dput (i:Nat) (k e:E)     
 | ret (e:E) | ite (c:E) (a b:S) | whl (c:E) (b:S) | for_ (w:W) (tg:Tg) (b:S)   
 | brk | cnt | frz (i:Nat) | ins (i:Nat) (k e:E) | bad
inductive Arg where
 | fz (t:T) | ml (t:T) | ro (t:T)
inductive FR where
 | ok (r:PV) (fin:List T) | xn (x:Xn) (fin:List T) | no
inductive SO where
 | nx (ρ:En) | rt (r:PV) (ρ:En) | bk (ρ:En) | ct (ρ:En) | xn (x:Xn) (ρ:En) | no
noncomputable abbrev CF:=Nat → List Arg → FR
noncomputable def Qc2 (i j:Int):Bool:=decide (i.natAbs < 2 ^ 64) || (decide (j.natAbs < 2 ^ 64) || ((decide (i.natAbs < 2 ^ 250) && decide (j.natAbs < 2 ^ 250)) || (decide (i.natAbs.log2 < 9000) && decide (j.natAbs.log2 < 9000))))
noncomputable def asI:T → Option Int
 | .int i=>some i
 | _=>none
noncomputable def opN:BOp → Int → Int → Option PV
 | .add,i,j=>some (.fz (.int (i + j)))
 | .sub,i,j=>some (.fz (.int (i - j)))
 | .mul,i,j=>if Qc2 i j = true then some (.fz (.int (i * j))) else none
 | .fdv,i,j=>if 0 < j ∧ j.natAbs < 2 ^ 64 then some (.fz (.int (i / j))) else if j ≠ 0 ∧ j.natAbs < 2 ^ 400 then some (.fz (.int (i.fdiv j))) else none
 | .mod,i,j=>if 0 < j then some (.fz (.int (i % j))) else if j < 0 then some (.fz (.int (i.fmod j))) else none
 | .pow,i,j=>if 0 ≤ j ∧ j.natAbs ≤ 1000000 ∧ i.natAbs < 2 ^ 64 then some (.fz (.int (i ^ j.toNat))) else none
 | .shl,i,j=>if 0 ≤ j ∧ j.natAbs ≤ 64 ∧ i.natAbs < 2 ^ 64 then some (.fz (.int (i * 2 ^ j.toNat))) else none
 | .shr,i,j=>if 0 ≤ j ∧ j.natAbs ≤ 64 then some (.fz (.int (i / 2 ^ j.toNat))) else none
 | .band,i,j=>if j = 1 then some (.fz (.int (i % 2))) else none
noncomputable def Q79:T → T → Option PV
 | .tup a,.tup b=>if a.length + b.length ≤ 100000 then some (.fz (.tup (a ++ b))) else none
 | .lst a,.lst b=>if a.length + b.length ≤ 100000 then some (.ow (.lst (a ++ b))) else none
 | _,_=>none
noncomputable def Q8a:T → Option Int → Option PV
 | .tup a,some k=>if a.length * k.toNat ≤ 100000 ∧ 1 ≤ k ∧ k.natAbs ≤ 100000 ∧ a ≠ [] then some (.fz (.tup (List.replicate k.toNat a).flatten)) else none
 | .lst a,some k=>if a.length * k.toNat ≤ 100000 ∧ 1 ≤ k ∧ k.natAbs ≤ 100000 then some (.ow (.lst (List.replicate k.toNat a).flatten)) else none
 | _,_=>none
noncomputable def opX:BOp → T → T → Option PV
 | .add,t,u=>Q79 t u
 | .mul,t,u=>Q8a t (asI u)
 | _,_,_=>none
noncomputable def opB (o:BOp) (t u:T):Option PV:=match asI t,asI u with
 | some i,some j=>opN o i j
 | _,_=>opX o t u
noncomputable def Qeh:T → Bool
 | .non=>true | .bl _=>true | .int _=>true | .str _=>true | _=>false
noncomputable def scE:T → T → Option Bool
 | .int i,.int j=>some (decide (i = j))
 | .bl i,.bl j=>some (decide (i = j))
 | .str i,.str j=>some (decide (i = j))
 | .non,.non=>some true
 | .non,.int _=>some false | .int _,.non=>some false | .non,.bl _=>some false | .bl _,.non=>some false | .non,.str _=>some false | .str _,.non=>some false
 | .int _,.str _=>some false | .str _,.int _=>some false | .bl _,.str _=>some false | .str _,.bl _=>some false
 | _,_=>none
noncomputable def eqN (t u:T):Option Bool:=if (Qeh t && Qeh u) = true then scE t u else if Qwk t u = true then some false else none
noncomputable def eqO:T → T → Option Bool
 | .tup a,.tup b=>if Qi 50 (.tup a) = true ∧ Qi 50 (.tup b) = true then some (eqT (.tup a) (.tup b)) else none
 | .lst a,.lst b=>if Qi 50 (.lst a) = true ∧ Qi 50 (.lst b) = true then some (eqT (.lst a) (.lst b)) else none
 | t,u=>eqN t u
noncomputable def Qgl:T → Bool
 | .non=>true
 | _=>false
noncomputable def Qwq (f:Int → Int → Bool) (t u:T):Option Bool:=match asI t,asI u with
 | some i,some j=>some (f i j)
 | _,_=>none
noncomputable def Qi8:T → Option (List T)
 | .lst a=>some a
 | .tup a=>some a
 | _=>none
noncomputable def inO (x t:T):Option Bool:=match Qi8 t with
 | some ts=>if Qi 49 x = true ∧ ts.all (Qi 49) = true then some (ts.any fun u=>eqT u x) else none
 | none=>none
noncomputable def opC:COp → T → T → Option Bool
 | .eq,a,b=>eqO a b
 | .ne,a,b=>(eqO a b).map (!·)
 | .lt,a,b=>Qwq (fun i j=>decide (i < j)) a b
 | .le,a,b=>Qwq (fun i j=>decide (i ≤ j)) a b
 | .gt,a,b=>Qwq (fun i j=>decide (j < i)) a b
 | .ge,a,b=>Qwq (fun i j=>decide (j ≤ i)) a b
 | .isn,a,b=>if Qgl b then some (Qgl a) else none
 | .isnn,a,b=>if Qgl b then some (!Qgl a) else none
 | .inn,a,b=>inO a b
 | .nin,a,b=>(inO a b).map (!·)
noncomputable def truT:T → Option Bool
 | .bl b=>some b
 | .int i=>some (decide (i ≠ 0))
 | _=>none
noncomputable def Qkr:List T → Option (List Bool)
 | []=>some []
 | t :: ts=>match truT t,Qkr ts with
  | some b,some bs=>some (b :: bs)
  | _,_=>none
noncomputable def Qg1:List T → Option (List Int)
 | []=>some []
 | .int i :: ts=>match Qg1 ts with
  | some is=>some (i :: is)
  | none=>none
 | _ :: _=>none
noncomputable def Qfh:List (List (List Int)) → List T → List (List Int) → Option T
 | j :: ks,t :: ts,k=>if j = k then some t else Qfh ks ts k
 | _,_,_=>none
noncomputable def Qyu:List (List (List Int)) → List T → List (List Int) → T → List T
 | j :: ks,t :: ts,k,u=>(if j = k then u else t) :: Qyu ks ts k u
 | _,_,_,_=>[]
noncomputable def Qks (ks:List (List (List Int))) (ts:List T) (k:List (List Int)) (u:T):T:=match Qfh ks ts k with
 | some _=>.dtt ks (Qyu ks ts k u)
 | none=>.dtt (ks ++ [k]) (ts ++ [u])
noncomputable def Qlm:Option T → Bool
 | some (.dtt _ _)=>true
 | _=>false
noncomputable def Qln:List T → Option (List (List Int))
 | []=>some []
 | .tup us :: ts=>match Qg1 us,Qln ts with
  | some k,some ks=>some (k :: ks)
  | _,_=>none
 | _=>none
noncomputable def Qi9:PV → Option (List (List Int))
 | .fz (.tup us)=>Qln us
 | _=>none
noncomputable def Qei (k:List (List Int)):Int:=reduceHash (Builtin.Tuple.tupleHashOf (k.map Q40))
noncomputable def Q2d (k:List (List Int)):T:=.tup (k.map fun r=>T.tup (r.map T.int))
noncomputable def Qyv (k:List (List Int)):Bool:=decide (k.length ≤ 100000) && k.all fun r=>decide (r.length ≤ 100000)
noncomputable def Qlo:Int → List Int → Int
 | m,[]=>m
 | m,x :: xs=>Qlo (if m < x then x else m) xs
noncomputable def Qjy:Bi → List T → Option PV
 | .len,[.lst a]=>some (.fz (.int a.length))
 | .len,[.tup a]=>some (.fz (.int a.length))
 | .abs,[.int i]=>some (.fz (.int (if i < 0 then -i else i)))
 | .all,[.lst a]=>(Qkr a).map fun bs=>.fz (.bl (bs.all id))
 | .any,[.lst a]=>(Qkr a).map fun bs=>.fz (.bl (bs.any id))
 | .sum,[.lst a]=>(Qg1 a).map fun is=>.fz (.int is.sum)
 | .max,[.int i,.int j]=>some (.fz (.int (if j > i then j else i)))
 | .max,[.lst a]=>match Qg1 a with
  | some (x :: xs)=>some (.fz (.int (Qlo x xs)))
  | _=>none
 | .dvm,[.int i,.int j]=>if 0 < j ∧ j.natAbs < 2 ^ 64 then some (.fz (.tup [.int (i / j),.int (i % j)])) else none
 | .int,[.int i]=>some (.fz (.int i))
 | .int,[.bl b]=>some (.fz (.int (if b then 1 else 0)))
 | .list,[.lst a]=>some (.ow (.lst a))
 | .list,[.tup a]=>some (.ow (.lst a))
 | .tup,[.lst a]=>some (.fz (.tup a))
 | .tup,[.tup a]=>some (.fz (.tup a))
 | .lstD,[.dtt ks _]=>if ks.length ≤ 100000 ∧ ks.all Qyv = true then some (.ow (.lst (ks.map Q2d))) else none
 | .dct,[.dtt ks ts]=>if ks ≠ [] ∧ (ks.map Qei).Nodup then some (.ow (.dtt ks ts)) else none
 | _,_=>none
noncomputable def Qyw:T → T → Option T
 | .lst a,.int i=>atI a i
 | .tup a,.int i=>atI a i
 | _,_=>none
noncomputable def Q8b:T → Option Int → Option Int → Option PV
 | .lst a,lo,hi=>some (.ow (.lst (Qm2 a lo hi)))
 | .tup a,lo,hi=>some (.fz (.tup (Qm2 a lo hi)))
 | _,_,_=>none
noncomputable def Qoy:List PV → Option (Option Int)
 | []=>some none
 | [.fz (.int i)]=>some (some i)
 | _=>none
noncomputable def Qar (ρ:En):List PV → Option (List T)
 | []=>some []
 | r :: rs=>match cont ρ r,Qar ρ rs with
  | some t,some ts=>some (t :: ts)
  | _,_=>none
noncomputable def Qlp (n:String):Bool:=n == "int" || n == "bool" || n == "tuple" || n == "list" || n == "dict" || n == "str"
noncomputable def Qav (ρ:En):PV → Option Arg
 | .fz t=>some (.fz t)
 | .ow t=>some (.fz t)
 | .sl i=>match Qb ρ i with
  | .ow t=>some (.ml t)
  | .ml t=>some (.ml t)
  | .ro t=>some (.ro t)
  | _=>none
noncomputable def Q2 (ρ:En):List PV → Option (List Arg)
 | []=>some []
 | r :: rs=>match Qav ρ r,Q2 ρ rs with
  | some t,some ts=>some (t :: ts)
  | _,_=>none
noncomputable def Q0:List PV → Bool
 | []=>true
 | .sl i :: rs=>(rs.all fun r=>match r with | .sl j=>i != j | _=>true) && Q0 rs
 | _ :: rs=>Q0 rs
noncomputable def Qk:List PV → Nat → Option Nat
 | [],_=>none
 | .sl j :: rs,i=>if j = i then some 0 else (Qk rs i).map (· + 1)
 | .fz _ :: rs,i=>(Qk rs i).map (· + 1)
 | .ow _ :: rs,i=>(Qk rs i).map (· + 1)
noncomputable def Q4 (rs:List PV) (fin:List T) (i:Nat) (s:Slot):Slot:=match Qk rs i with
 | some k=>match fin[k]? with
  | some t=>s.put t
  | none=>s
 | none=>s
noncomputable def Qp (rs:List PV) (fin:List T):Nat → En → En
 | _,[]=>[]
 | i,s :: ρ=>Q4 rs fin i s :: Qp rs fin (i + 1) ρ
noncomputable def Qa6 (ρ:En) (rs:List PV) (fin:List T):En:=Qp rs fin 0 ρ
noncomputable def Qg2 (cf:CF) (f:Nat) (rs:List PV) (ρ:En):Out PV :=
 if Q0 rs = true then
  match Q2 ρ rs with
  | some as=>match cf f as with
   | .ok r fin=>.ok r (Qa6 ρ rs fin)
   | .xn x fin=>.xn x (Qa6 ρ rs fin)
   | .no=>.no
  | none=>.no
 else .no
noncomputable def Qbx (i:Nat) (s:Slot) (ρ:En):Option En:=if i < ρ.length then (match Qb ρ i with
 | .ml _=>none
 | .ro _=>none
 | .pin _=>none
 | .fx _=>none
 | _=>some (ρ.set i s)) else none
noncomputable def Qb4:List Nat → List T → En → Option En
 | [],[],ρ=>some ρ
 | i :: is,t :: ts,ρ=>match Qbx i (.fz t) ρ with
  | some ρ'=>Qb4 is ts ρ'
  | none=>none
 | _,_,_=>none
noncomputable def Qie:Tg → T → En → Option En
 | .nm i,t,ρ=>Qbx i (.fz t) ρ
 | .tp is,.tup ts,ρ=>Qb4 is ts ρ
 | .tp _,_,_=>none
noncomputable def Qer (js:List (Option Nat)) (ρ:En):En:=js.map fun o=>match o with
 | none=>.un
 | some j=>(Qb ρ j).lend
noncomputable def Qif (js:List (Option Nat)) (ρi:En) (j:Nat) (s:Slot):Slot:=match js.idxOf? (some j) with
 | some k=>match Qb ρi k with
  | .ml t=>s.put t
  | _=>s
 | none=>s
noncomputable def Qdk (js:List (Option Nat)) (ρi:En):Nat → En → En
 | _,[]=>[]
 | j,s :: ρ=>Qif js ρi j s :: Qdk js ρi (j + 1) ρ
noncomputable def Qm4 (js:List (Option Nat)) (ρi ρ:En):En:=Qdk js ρi 0 ρ
noncomputable def Qdr (tg:Tg) (c:En → Out Bool) (e:En → Out PV):List T → List T → En → Out (List T)
 | [],acc,ρ=>.ok acc ρ
 | x :: xs,acc,ρ=>match Qie tg x ρ with
  | none=>.no
  | some ρ1=>(c ρ1).bind fun b ρ2=>if b then (e ρ2).bind fun r ρ3=>match frz r with
    | some t=>if acc.length < 100000 then Qdr tg c e xs (acc ++ [t]) ρ3 else .no
    | none=>.no
   else Qdr tg c e xs acc ρ2
noncomputable def Qgm:En → En → Bool
 | .ml _ :: ρ0,s :: ρ=>(match s with | .ml _=>true | _=>false) && Qgm ρ0 ρ
 | _ :: ρ0,_ :: ρ=>Qgm ρ0 ρ
 | [],[]=>true
 | _,_=>false
noncomputable def Qcj:List (Option Nat) → Bool
 | []=>true
 | some i :: rs=>(rs.all fun r=>match r with | some j=>i != j | none=>true) && Qcj rs
 | none :: rs=>Qcj rs
noncomputable def Qaa (o:Out PV):Out Bool:=o.bind fun r ρ=>match r with
 | .fz (.bl b)=>.ok b ρ
 | _=>.no
noncomputable def Qa0 (lo:Int) (n:Nat):List T:=(List.range n).map fun i=>T.int (lo + (i:Nat))
noncomputable def Qfq:Nat → List T → List T
 | _,[]=>[]
 | n,t :: ts=>.tup [.int n,t] :: Qfq (n + 1) ts
noncomputable def Qh3:List T → List T → List T
 | x :: xs,y :: ys=>.tup [x,y] :: Qh3 xs ys
 | _,_=>[]
noncomputable def Qoz:List Nat → En → Option (List T)
 | [],_=>some []
 | j :: js,ρ=>match Qb ρ j,Qoz js ρ with
  | .fz t,some ts=>some (t :: ts)
  | _,_=>none
noncomputable def Quv (o:Out PV):Out PV:=match o with
 | .ok r ρ=>.ok r ρ
 | _=>.no
noncomputable def Qtg:Slot → Bool
 | .fz (.clo _ _)=>true
 | _=>false
noncomputable def Qyx (cf:CF) (i:Nat) (rs:List PV) (ρ:En):Out PV:=match Qb ρ i with
 | .fz (.clo k ts)=>Quv (Qg2 cf k (rs ++ ts.map PV.fz) ρ)
 | _=>.no
noncomputable def Qja:PV → Option Nat
 | .sl i=>some i
 | _=>none
noncomputable def insT (ts:List T) (n:Nat) (t:T):List T:=ts.take n ++ t :: ts.drop n
mutual
noncomputable def evE (cf:CF):E → En → Out PV
 | .var i,ρ=>match Qb ρ i with
  | .fz t=>.ok (.fz t) ρ
  | .un=>.no
  | .pin _=>.no
  | .fx t=>.ok (.fz t) ρ
  | _=>.ok (.sl i) ρ
 | .int i,ρ=>.ok (.fz (.int i)) ρ
 | .bl b,ρ=>.ok (.fz (.bl b)) ρ
 | .non,ρ=>.ok (.fz .non) ρ
 | .str x,ρ=>.ok (.fz (.str x)) ρ
 | .tup es,ρ=>(evA cf es ρ).bind fun rs ρ1=>match Qdq rs with
  | some ts=>if ts.length ≤ 100000 then .ok (.fz (.tup ts)) ρ1 else .no
  | none=>.no
 | .lst es,ρ=>(evA cf es ρ).bind fun rs ρ1=>match Qdq rs with
  | some ts=>if ts.length ≤ 100000 then .ok (.ow (.lst ts)) ρ1 else .no
  | none=>.no
 | .bin o a b,ρ=>(evE cf a ρ).bind fun ra ρ1=>(evE cf b ρ1).bind fun rb ρ2=>match cont ρ2 ra,cont ρ2 rb with
  | some x,some y=>.opt (opB o x y) ρ2
  | _,_=>.no
 | .neg a,ρ=>(evE cf a ρ).bind fun ra ρ1=>match ra with
  | .fz (.int i)=>.ok (.fz (.int (-i))) ρ1
  | _=>.no
 | .not a,ρ=>(Qaa (evE cf a ρ)).bind fun b ρ1=>.ok (.fz (.bl (!b))) ρ1
 | .and a b,ρ=>(Qaa (evE cf a ρ)).bind fun c ρ1=>if c then (Qaa (evE cf b ρ1)).bind fun d ρ2=>.ok (.fz (.bl d)) ρ2 else .ok (.fz (.bl false)) ρ1
 | .or a b,ρ=>(Qaa (evE cf a ρ)).bind fun c ρ1=>if c then .ok (.fz (.bl true)) ρ1 else (Qaa (evE cf b ρ1)).bind fun d ρ2=>.ok (.fz (.bl d)) ρ2
 | .ite c a b,ρ=>(Qaa (evE cf c ρ)).bind fun k ρ1=>if k then evE cf a ρ1 else evE cf b ρ1
 | .cmp o a b,ρ=>(evE cf a ρ).bind fun ra ρ1=>(evE cf b ρ1).bind fun rb ρ2=>match cont ρ2 ra,cont ρ2 rb with
  | some x,some y=>match opC o x y with
   | some k=>.ok (.fz (.bl k)) ρ2
   | none=>.no
  | _,_=>.no
 | .isI a n,ρ=>(evE cf a ρ).bind fun ra ρ1=>match cont ρ1 ra with
  | some t=>if Qlp n && !Qid t then .ok (.fz (.bl (Qli (tyT t) n))) ρ1 else .no
  | none=>.no
 | .call f es,ρ=>(evA cf es ρ).bind fun rs ρ1=>Qg2 cf f rs ρ1
 | .bi b es,ρ=>(evA cf es ρ).bind fun rs ρ1=>match Qar ρ1 rs with
  | some ts=>.opt (Qjy b ts) ρ1
  | none=>.no
 | .cnt a b,ρ=>(evE cf a ρ).bind fun ra ρ1=>match ra with
  | .fz (.tup ts)=>(evE cf b ρ1).bind fun rb ρ2=>match rb,Qg1 ts with
   | .fz (.int j),some is=>.ok (.fz (.int (is.count j:Nat))) ρ2
   | _,_=>.no
  | _=>.no
 | .ix a i,ρ=>(evE cf a ρ).bind fun ra ρ1=>(evE cf i ρ1).bind fun rb ρ2=>match cont ρ2 ra,cont ρ2 rb with
  | some x,some y=>match Qyw x y with
   | some t=>.ok (.fz t) ρ2
   | none=>.no
  | _,_=>.no
 | .slc a lo hi,ρ=>(evE cf a ρ).bind fun ra ρ1=>(evA cf lo ρ1).bind fun rl ρ2=>match Qoy rl with
  | none=>.no
  | some l=>(evA cf hi ρ2).bind fun rh ρ3=>match Qoy rh with
   | none=>.no
   | some h=>match cont ρ3 ra with
    | some x=>.opt (Q8b x l h) ρ3
    | none=>.no
 | .comp w js tg cs e,ρ=>(evW cf w ρ).bind fun its ρ1=>match its.2 with
  | some _=>.no
  | none=>match Qdr tg (evC cf cs) (evE cf e) its.1 [] (Qer js ρ1) with
   | .ok ts ρi=>if Qgm (Qer js ρ1) ρi = true ∧ Qcj js = true then .ok (.ow (.lst ts)) (Qm4 js ρi ρ1) else .no
   | _=>.no
 | .lit t,ρ=>.ok (.fz t) ρ
 | .dg1 d k,ρ=>(evE cf d ρ).bind fun rd ρ1=>if Qlm (cont ρ1 rd) = true then (evE cf k ρ1).bind fun rk ρ2=>match Qi9 rk,cont ρ2 rd with
   | some is,some (.dtt ks ts)=>.ok (.fz ((Qfh ks ts is).getD .non)) ρ2
   | _,_=>.no
  else .no
 | .dnew,ρ=>.ok (.ow (.dtt [] [])) ρ
 | .din ng k d,ρ=>(evE cf k ρ).bind fun rk ρ1=>(evE cf d ρ1).bind fun rd ρ2=>match Qi9 rk,cont ρ2 rd with
  | some is,some (.dtt ks ts)=>.ok (.fz (.bl (if ng then !(Qfh ks ts is).isSome else (Qfh ks ts is).isSome))) ρ2
  | _,_=>.no
 | .dix d k,ρ=>(evE cf d ρ).bind fun rd ρ1=>(evE cf k ρ1).bind fun rk ρ2=>match Qi9 rk,cont ρ2 rd with
  | some is,some (.dtt ks ts)=>match Qfh ks ts is with
   | some t=>.ok (.fz t) ρ2
   | none=>.no
  | _,_=>.no
 | .app i es,ρ=>if Qtg (Qb ρ i) = true then (evA cf es ρ).bind fun rs ρ1=>Qyx cf i rs ρ1 else .no
 | .lam k js,ρ=>match Qoz js ρ with
  | some ts=>.ok (.fz (.clo k ts)) ρ
  | none=>.no
 | .bad,_=>.no
noncomputable def evA (cf:CF):Es → En → Out (List PV)
 | .nil,ρ=>.ok [] ρ
 | .cons e es,ρ=>(evE cf e ρ).bind fun r ρ1=>(evA cf es ρ1).bind fun rs ρ2=>.ok (r :: rs) ρ2
noncomputable def evC (cf:CF):Es → En → Out Bool
 | .nil,ρ=>.ok true ρ
 | .cons e .nil,ρ=>Qaa (evE cf e ρ)
 | .cons _ _,_=>.no
noncomputable def evW (cf:CF):W → En → Out (List T × Option Nat)
 | .seq e,ρ=>(evE cf e ρ).bind fun r ρ1=>match cont ρ1 r with
  | some t=>match Qi8 t with
   | some ts=>.ok (ts,Qja r) ρ1
   | none=>.no
  | none=>.no
 | .rng1 a,ρ=>(evE cf a ρ).bind fun r ρ1=>match r with
  | .fz (.int j)=>if j.natAbs ≤ 100000 then .ok (Qa0 0 j.toNat,none) ρ1 else .no
  | _=>.no
 | .enm e,ρ=>(evE cf e ρ).bind fun r ρ1=>match cont ρ1 r with
  | some (.lst ts)=>.ok (Qfq 0 ts,Qja r) ρ1
  | some (.tup ts)=>.ok (Qfq 0 ts,Qja r) ρ1
  | _=>.no
 | .zip a b,ρ=>(evE cf a ρ).bind fun r ρ1=>(evE cf b ρ1).bind fun r2 ρ2=>match r,r2 with
  | .fz (.tup xs),.fz (.tup ys)=>.ok (Qh3 xs ys,none) ρ2
  | .fz (.lst xs),.fz (.tup ys)=>.ok (Qh3 xs ys,none) ρ2
  | .fz (.lst xs),.fz (.lst ys)=>.ok (Qh3 xs ys,none) ρ2
  | _,_=>.no
end
noncomputable def SO.seq (o:SO) (k:En → SO):SO:=match o with
 | .nx ρ=>k ρ
 | o=>o
noncomputable def ofO {α:Type} (o:Out α) (k:α → En → SO):SO:=match o with
 | .ok a ρ=>k a ρ
 | .xn x ρ=>.xn x ρ
 | .no=>.no
noncomputable def Qat {α:Type} (o:Option α) (k:α → SO):SO:=match o with
 | some a=>k a
 | none=>.no
noncomputable def Qfr (c:En → Out Bool) (b:En → SO):Nat → En → SO
 | 0,_=>.no
 | n + 1,ρ=>ofO (c ρ) fun k ρ1=>if k then (match b ρ1 with
   | .nx ρ2=>Qfr c b n ρ2
   | .ct ρ2=>Qfr c b n ρ2
   | .bk ρ2=>.nx ρ2
   | o=>o) else .nx ρ1
noncomputable def Qde (tg:Tg) (b:En → SO):List T → En → SO
 | [],ρ=>.nx ρ
 | x :: xs,ρ=>match Qie tg x ρ with
  | none=>.no
  | some ρ1=>match b ρ1 with
   | .nx ρ2=>Qde tg b xs ρ2
   | .ct ρ2=>Qde tg b xs ρ2
   | .bk ρ2=>.nx ρ2
   | o=>o
noncomputable def Qn4 (o:SO):SO:=match o with
 | .xn _ _=>.no
 | o=>o
noncomputable def Qo0 (i:Nat) (r:PV) (ρ:En):SO:=match r with
 | .fz t=>Qat (Qbx i (.fz t) ρ) .nx
 | .ow t=>Qat (Qbx i (.ow t) ρ) .nx
 | .sl _=>.no
noncomputable abbrev Q41 (is:List Int):T:=.lst (is.map T.int)
noncomputable abbrev Q42 (M:List (List Int)):T:=.lst (M.map Q41)
noncomputable def exS (cf:CF):S → En → SO
 | .nil,ρ=>.nx ρ
 | .seq a b,ρ=>(exS cf a ρ).seq (exS cf b)
 | .expr e,ρ=>ofO (evE cf e ρ) fun _ ρ1=>.nx ρ1
 | .set i e,ρ=>ofO (evE cf e ρ) fun r ρ1=>Qo0 i r ρ1
 | .setF i e,ρ=>ofO (evE cf e ρ) fun r ρ1=>match frz r with
  | some t=>Qat (Qbx i (.fz t) ρ1) .nx
  | none=>.no
 | .unp is e,ρ=>ofO (evE cf e ρ) fun r ρ1=>match r with
  | .fz (.tup ts)=>Qat (Qb4 is ts ρ1) .nx
  | _=>.no
 | .par i j a b,ρ=>ofO (evE cf a ρ) fun ra ρ1=>ofO (evE cf b ρ1) fun rb ρ2=>match ra,rb with
  | .fz x,.fz y=>Qat (Qb4 [i,j] [x,y] ρ2) .nx
  | _,_=>.no
 | .app i e,ρ=>if (Qb ρ i).mut = true then ofO (evE cf e ρ) fun r ρ1=>match frz r with
   | none=>.no
   | some t=>match Qb ρ1 i with
    | .ow (.lst ts)=>if ts.length < 100000 then .nx (ρ1.set i (.ow (.lst (ts ++ [t])))) else .no
    | .ml (.lst ts)=>if ts.length < 100000 then .nx (ρ1.set i (.ml (.lst (ts ++ [t])))) else .no
    | _=>.no
  else .no
 | .ext i e,ρ=>if (Qb ρ i).mut = true then ofO (evE cf e ρ) fun r ρ1=>match r with
   | .fz (.tup us)=>match Qb ρ1 i with
    | .ow (.lst ts)=>if ts.length + us.length ≤ 100000 then .nx (ρ1.set i (.ow (.lst (ts ++ us)))) else .no
    | .ml (.lst ts)=>if ts.length + us.length ≤ 100000 then .nx (ρ1.set i (.ml (.lst (ts ++ us)))) else .no
    | _=>.no
   | _=>.no
  else .no
 | .put i k e,ρ=>ofO (evE cf e ρ) fun r ρ1=>match frz r with
  | none=>.no
  | some t=>if (Qb ρ1 i).mut = true then ofO (evE cf k ρ1) fun rk ρ2=>match rk with
    | .fz (.int j)=>match Qb ρ2 i with
     | .ow (.lst ts)=>Qat (ixN ts.length j) fun n=>.nx (ρ2.set i (.ow (.lst (ts.set n t))))
     | .ml (.lst ts)=>Qat (ixN ts.length j) fun n=>.nx (ρ2.set i (.ml (.lst (ts.set n t))))
     | _=>.no
    | _=>.no
   else .no
 | .dput i k e,ρ=>ofO (evE cf e ρ) fun r ρ1=>match frz r with
  | none=>.no
  | some t=>if (Qb ρ1 i).mutD = true then ofO (evE cf k ρ1) fun rk ρ2=>match Qi9 rk with
    | some is=>match Qb ρ2 i with
     | .ow (.dtt ks ts)=>if ks.length < 100000 then .nx (ρ2.set i (.ow (Qks ks ts is t))) else .no
     | .ml (.dtt ks ts)=>if ks.length < 100000 then .nx (ρ2.set i (.ml (Qks ks ts is t))) else .no
     | _=>.no
    | none=>.no
   else .no
 | .ret e,ρ=>ofO (evE cf e ρ) fun r ρ1=>.rt r ρ1
 | .ite c a b,ρ=>ofO (Qaa (evE cf c ρ)) fun k ρ1=>if k then exS cf a ρ1 else exS cf b ρ1
 | .whl c b,ρ=>Qn4 (Qfr (fun ρ=>Qaa (evE cf c ρ)) (exS cf b) 1000000 ρ)
 | .for_ w tg b,ρ=>Qn4 (ofO (evW cf w ρ) fun its ρ1=>match its.2 with
  | some _=>.no
  | none=>Qde tg (exS cf b) its.1 ρ1)
 | .brk,ρ=>.bk ρ
 | .cnt,ρ=>.ct ρ
 | .frz i,ρ=>match Qb ρ i with
  | .ow t=>.nx (ρ.set i (.fz t))
  | .ml _=>.no
  | .ro _=>.no
  | _=>.nx ρ
 | .ins i k e,ρ=>if (Qb ρ i).mut = true then ofO (evE cf k ρ) fun rk ρ1=>match rk with
   | .fz (.int j)=>ofO (evE cf e ρ1) fun r ρ2=>match r with
    | .fz t=>match Qb ρ2 i with
     | .ow (.lst ts)=>if ts.length < 100000 ∧ 0 ≤ j ∧ j ≤ ts.length then .nx (ρ2.set i (.ow (.lst (insT ts j.toNat t)))) else .no
     | _=>.no
    | _=>.no
   | _=>.no
  else .no
 | .bad,_=>.no
structure Fn where
 ps:Nat
 sz:Nat
 body:S
noncomputable def Qe8 (fn:Fn) (as:List Arg):En:=(as.map fun a=>match a with
 | .fz t=>Slot.fz t
 | .ml t=>.ml t
 | .ro t=>.ro t) ++ List.replicate (fn.sz - fn.ps) .un
noncomputable def Qw:List Arg → En → Option (List T)
 | [],_=>some []
 | .ml _ :: as,.ml t :: ρ=>(Qw as ρ).map (t :: ·)
 | .ml _ :: _,_=>none
 | .fz _ :: as,_ :: ρ=>(Qw as ρ).map (.non :: ·)
 | .ro _ :: as,_ :: ρ=>(Qw as ρ).map (.non :: ·)
 | _,[]=>none
noncomputable def Qal (ρ:En):PV → Option PV
 | .fz t=>some (.fz t)
 | .ow t=>some (.ow t)
 | .sl i=>match Qb ρ i with
  | .ow t=>some (.ow t)
  | _=>none
noncomputable def Qa2 (cf:CF) (fn:Fn) (as:List Arg):FR :=
 if as.length = fn.ps then match exS cf fn.body (Qe8 fn as) with
  | .nx ρ=>match Qw as ρ with
   | some fin=>.ok (.fz .non) fin
   | none=>.no
  | .rt r ρ=>match Qal ρ r,Qw as ρ with
   | some r,some fin=>.ok r fin
   | _,_=>.no
  | .xn x ρ=>match Qw as ρ with
   | some fin=>.xn x fin
   | none=>.no
  | _=>.no
 else .no
noncomputable def evF (tab:Nat → Option Fn):Nat → CF
 | 0,_,_=>.no
 | n + 1,f,as=>match tab f with
  | some fn=>Qa2 (evF tab n) fn as
  | none=>.no
structure Bs where
 H:Hp
 G:Addr → Prop
 O:Addr → Prop
 M:Addr → Prop
 P:Nat → Addr → Prop
noncomputable def OwnO (D:Hp):T → HO → Prop
 | .lst ts,.lst vs=>ts.length ≤ 100000 ∧ IsL D vs ts
 | .dtt ks ts,.dT kvs=>ks.length ≤ 100000 ∧ ∃ vs,kvs = (ks.map kIs).zip vs ∧ ks.length = vs.length ∧ IsL D vs ts
 | _,_=>False
theorem OwnO.mono {D D':Hp} {t:T} {o:HO} (h:OwnO D t o) (s:Same D D'):OwnO D' t o:=by
 cases t with
 | lst ts=>cases o <;> first | exact ⟨h.1,h.2.mono s⟩ | exact h.elim
 | dtt ks ts =>
  cases o with
  | dT kvs=>obtain ⟨z,vs,e,l,q⟩:=h; exact ⟨z,vs,e,l,q.mono s⟩
  | _=>exact h.elim
 | _=>cases o <;> exact h.elim
theorem OwnO.pen {D:Hp} {t:T} {o:HO} (h:OwnO D t o):Q7z o = true:=by
 cases t with
 | lst ts=>cases o <;> first | rfl | exact h.elim
 | dtt ks ts=>cases o <;> first | rfl | exact h.elim
 | _=>cases o <;> exact h.elim
theorem OwnO.is {D D':Hp} {t:T} {o:HO} {a:Addr} (h:OwnO D t o) (e:D' a = some o) (s:Same D D'):Is D' (.ref a) t:=by
 cases t with
 | lst ts =>
  cases o with
  | lst vs=>exact .lst e (h.2.mono s) h.1
  | _=>exact h.elim
 | dtt ks ts =>
  cases o with
  | dT kvs =>
   obtain ⟨z,vs,rfl,l,q⟩:=h
   unfold Is
   exact ⟨z,a,vs,rfl,e,l,q.mono s⟩
  | _=>exact h.elim
 | _=>cases o <;> exact h.elim
noncomputable def OwnAt (H:Hp) (G:Addr → Prop) (a:Addr) (t:T):Prop:=∃ o,H a = some o ∧ OwnO (dls H G) t o
theorem OwnAt.lst_inv {H:Hp} {G:Addr → Prop} {a:Addr} {ts:List T} (h:OwnAt H G a (.lst ts)):∃ vs,ts.length ≤ 100000 ∧ H a = some (.lst vs) ∧ IsL (dls H G) vs ts:=by
 obtain ⟨o,e,q⟩:=h
 cases o with
 | lst vs=>exact ⟨vs,q.1,e,q.2⟩
 | _=>exact q.elim
theorem OwnAt.no_tup {H:Hp} {G:Addr → Prop} {a:Addr} {ts:List T} (h:OwnAt H G a (.tup ts)):False:=by
 obtain ⟨o,e,q⟩:=h
 cases o <;> exact q
noncomputable def Qq8 (H:Hp) (G:Addr → Prop) (σ:St) (i:Nat):Slot → Prop
 | .un=>True
 | .fz t=>∃ v,σ[i]? = some (some v) ∧ Is (dls H G) v t
 | .ow t=>∃ a,σ[i]? = some (some (.ref a)) ∧ G a ∧ OwnAt H G a t
 | .ml t=>∃ a,σ[i]? = some (some (.ref a)) ∧ G a ∧ OwnAt H G a t
 | .ro t=>∃ a,σ[i]? = some (some (.ref a)) ∧ G a ∧ OwnAt H G a t
 | .pin a=>σ[i]? = some (some (.ref a))
 | .fx t=>∃ a o,σ[i]? = some (some (.ref a)) ∧ dls H G a = some o ∧ Is (dls H G) (.ref a) t
noncomputable def PrvAt (σ:St) (ρ:En) (i:Nat) (a:Addr):Prop:=(∃ t,(Qb ρ i).prv = some t) ∧ σ[i]? = some (some (.ref a))
noncomputable def OwA (σ:St) (ρ:En) (a:Addr):Prop:=∃ i t,Qb ρ i = .ow t ∧ σ[i]? = some (some (.ref a))
noncomputable def MlA (σ:St) (ρ:En) (a:Addr):Prop:=∃ i t,Qb ρ i = .ml t ∧ σ[i]? = some (some (.ref a))
noncomputable def PnA (σ:St) (ρ:En) (i:Nat) (a:Addr):Prop:=(∃ t,Qb ρ i = .ml t ∨ Qb ρ i = .ro t ∨ Qb ρ i = .fx t) ∧ σ[i]? = some (some (.ref a))
structure FI (B:Bs) (H:Hp) (G:Addr → Prop) (σ:St) (ρ:En):Prop where
 len:σ.length = ρ.length
 slot:∀ i,Qq8 H G σ i (Qb ρ i)
 apart:∀ i j a,PrvAt σ ρ i a → PrvAt σ ρ j a → i = j
 prv:Pen H G
 chg:∀ b o,¬ B.O b → ¬ B.M b → B.H b = some o → H b = some o
 keep:∀ b o,B.H b = some o → ∃ o',H b = some o'
 newO:∀ a,OwA σ ρ a → B.H a = none ∨ B.O a
 newM:∀ a,MlA σ ρ a → B.M a
 fix:∀ i a,PnA σ ρ i a → B.P i a
 gg:∀ b,B.G b → G b
 gn:∀ b,G b → B.G b ∨ B.H b = none
 bp:∀ b,B.G b → ∃ o,B.H b = some o
noncomputable abbrev Qap (H:Hp) (G:Addr → Prop) (σ:St) (ρ:En):Bs:=⟨H,G,OwA σ ρ,MlA σ ρ,PnA σ ρ⟩
section
variable {B:Bs} {H H1 H2:Hp} {G G1:Addr → Prop} {σ σ1:St} {ρ ρ1 ρ2:En}
theorem FI.self (F:FI B H G σ ρ):FI (Qap H G σ ρ) H G σ ρ :=
 ⟨F.len,F.slot,F.apart,F.prv,fun _ _ _ _ e=>e,fun _ o e=>⟨o,e⟩,fun _ h=>.inr h,fun _ h=>h,fun _ _ h=>h,fun _ h=>h,fun _ h=>.inl h,fun b h=>let ⟨xs,e,_⟩:=F.prv b h; ⟨_,e⟩⟩
theorem FI.ownG (F:FI B H G σ ρ) {a:Addr} (h:OwA σ ρ a):G a:=by
 obtain ⟨i,t,e,s⟩:=h
 have q:=F.slot i
 rw [e] at q
 obtain ⟨b,hb,g,_⟩:=q
 rw [s] at hb
 cases hb
 exact g
theorem FI.mlG (F:FI B H G σ ρ) {a:Addr} (h:MlA σ ρ a):G a:=by
 obtain ⟨i,t,e,s⟩:=h
 have q:=F.slot i
 rw [e] at q
 obtain ⟨b,hb,g,_⟩:=q
 rw [s] at hb
 cases hb
 exact g
theorem FI.same (F0:FI B H G σ ρ) (F:FI (Qap H G σ ρ) H1 G1 σ1 ρ1):Same (dls H G) (dls H1 G1):=fun b o e=>by
 obtain ⟨n,e⟩:=Qs e
 have e1:=F.chg b o (fun z=>n (F0.ownG z)) (fun z=>n (F0.mlG z)) e
 rw [Qb7 fun z=>?_]
 ·exact e1
 ·rcases F.gn b z with z | z
  ·exact n z
  ·rw [show H b = none from z] at e; cases e
theorem FI.trans (F0:FI B H G σ ρ) (F:FI (Qap H G σ ρ) H1 G1 σ1 ρ1):FI B H1 G1 σ1 ρ1 where
 len:=F.len
 slot:=F.slot
 apart:=F.apart
 prv:=F.prv
 chg:=fun b o h1 h2 e=>F.chg b o (fun z=>by
  rcases F0.newO b z with z | z
  ·rw [e] at z; cases z
  ·exact h1 z) (fun z=>h2 (F0.newM b z)) (F0.chg b o h1 h2 e)
 keep:=fun b o e=>by
  obtain ⟨o1,e1⟩:=F0.keep b o e
  exact F.keep b o1 e1
 newO:=fun a h=>by
  rcases F.newO a h with z | z
  ·refine .inl ?_
   cases e:B.H a with
   | none=>rfl
   | some o =>
    obtain ⟨o1,e1⟩:=F0.keep a o e
    rw [show H a = none from z] at e1
    cases e1
  ·exact F0.newO a z
 newM:=fun a h=>F0.newM a (F.newM a h)
 fix:=fun i a h=>F0.fix i a (F.fix i a h)
 gg:=fun b h=>F.gg b (F0.gg b h)
 gn:=fun b h=>by
  rcases F.gn b h with z | z
  ·exact F0.gn b z
  ·refine .inr ?_
   cases e:B.H b with
   | none=>rfl
   | some o =>
    obtain ⟨o1,e1⟩:=F0.keep b o e
    rw [show H b = none from z] at e1
    cases e1
 bp:=F0.bp
theorem FI.free (F:FI B H G σ ρ) {b:Addr} (h:H b = none):B.H b = none:=by
 cases e:B.H b with
 | none=>rfl
 | some o =>
  obtain ⟨o1,e1⟩:=F.keep b o e
  rw [h] at e1
  cases e1
theorem FI.grow (F:FI B H G σ ρ) (s:Same H H1):FI B H1 G σ ρ where
 len:=F.len
 slot:=fun i=>by
  have q:=F.slot i
  cases hs:Qb ρ i with
  | un=>trivial
  | fz t=>rw [hs] at q; obtain ⟨v,a,b⟩:=q; exact ⟨v,a,b.mono (Qaq s)⟩
  | ow t=>rw [hs] at q; obtain ⟨a,h1,h2,o,h5,h6⟩:=q; exact ⟨a,h1,h2,o,s _ _ h5,h6.mono (Qaq s)⟩
  | ml t=>rw [hs] at q; obtain ⟨a,h1,h2,o,h5,h6⟩:=q; exact ⟨a,h1,h2,o,s _ _ h5,h6.mono (Qaq s)⟩
  | ro t=>rw [hs] at q; obtain ⟨a,h1,h2,o,h5,h6⟩:=q; exact ⟨a,h1,h2,o,s _ _ h5,h6.mono (Qaq s)⟩
  | pin a=>rw [hs] at q; exact q
  | fx t=>rw [hs] at q; obtain ⟨v,o,a,e,b⟩:=q; exact ⟨v,o,a,Qaq s _ _ e,b.mono (Qaq s)⟩
 apart:=F.apart
 prv:=F.prv.mono s
 chg:=fun b o h1 h2 e=>s b o (F.chg b o h1 h2 e)
 keep:=fun b o e=>by
  obtain ⟨o1,e1⟩:=F.keep b o e
  exact ⟨o1,s _ _ e1⟩
 newO:=F.newO
 newM:=F.newM
 fix:=F.fix
 gg:=F.gg
 gn:=F.gn
 bp:=F.bp
end
section
variable {B:Bs} {H H1 H2:Hp} {G G1:Addr → Prop} {σ σ1:St} {ρ ρ1 ρ2:En} {t:T}
theorem FI.prvAt (F:FI B H G σ ρ) {i:Nat} (e:(Qb ρ i).prv = some t):∃ a,σ[i]? = some (some (.ref a)) ∧ G a ∧ OwnAt H G a t:=by
 have q:=F.slot i
 cases hs:Qb ρ i with
 | un=>rw [hs] at e; cases e
 | fz t=>rw [hs] at e; cases e
 | ow t=>rw [hs] at e q; cases e; exact q
 | ml t=>rw [hs] at e q; cases e; exact q
 | ro t=>rw [hs] at e q; cases e; exact q
 | pin a=>rw [hs] at e; cases e
 | fx t=>rw [hs] at e; cases e
theorem Qil {i:Nat} {s:Slot} (h:Qq8 H G σ i s) (sm:Same (dls H G) (dls H1 G1)) (hk:∀ a o,(∃ t,s.prv = some t) → σ[i]? = some (some (.ref a)) → H a = some o → H1 a = some o ∧ G1 a):Qq8 H1 G1 σ i s:=by
 cases s with
 | un=>trivial
 | fz t=>obtain ⟨v,a,b⟩:=h; exact ⟨v,a,b.mono sm⟩
 | ow t=>obtain ⟨a,h1,h2,o,h5,h6⟩:=h; exact ⟨a,h1,(hk a _ ⟨_,rfl⟩ h1 h5).2,o,(hk a _ ⟨_,rfl⟩ h1 h5).1,h6.mono sm⟩
 | ml t=>obtain ⟨a,h1,h2,o,h5,h6⟩:=h; exact ⟨a,h1,(hk a _ ⟨_,rfl⟩ h1 h5).2,o,(hk a _ ⟨_,rfl⟩ h1 h5).1,h6.mono sm⟩
 | ro t=>obtain ⟨a,h1,h2,o,h5,h6⟩:=h; exact ⟨a,h1,(hk a _ ⟨_,rfl⟩ h1 h5).2,o,(hk a _ ⟨_,rfl⟩ h1 h5).1,h6.mono sm⟩
 | pin a=>exact h
 | fx t=>obtain ⟨v,o,a,e,b⟩:=h; exact ⟨v,o,a,sm _ _ e,b.mono sm⟩
theorem PrvAt.at (F:FI B H G σ ρ) {i:Nat} {a:Addr} (h:PrvAt σ ρ i a):G a ∧ ∃ t,OwnAt H G a t:=by
 obtain ⟨⟨t,e⟩,s⟩:=h
 obtain ⟨b,sb,g,o⟩:=F.prvAt e
 rw [s] at sb
 cases sb
 exact ⟨g,t,o⟩
theorem OwA.prv {a:Addr} (h:OwA σ ρ a):∃ i,PrvAt σ ρ i a:=by
 obtain ⟨i,t,e,s⟩:=h
 exact ⟨i,⟨t,by rw [e]; rfl⟩,s⟩
theorem MlA.prv {a:Addr} (h:MlA σ ρ a):∃ i,PrvAt σ ρ i a:=by
 obtain ⟨i,t,e,s⟩:=h
 exact ⟨i,⟨t,by rw [e]; rfl⟩,s⟩
theorem Qwr {i:Nat} {a:Addr} (h:PrvAt σ ρ i a):OwA σ ρ a ∨ MlA σ ρ a ∨ PnA σ ρ i a:=by
 obtain ⟨⟨t,e⟩,s⟩:=h
 cases hs:Qb ρ i with
 | un=>rw [hs] at e; cases e
 | fz t=>rw [hs] at e; cases e
 | ow t=>exact .inl ⟨i,t,hs,s⟩
 | ml t=>exact .inr (.inl ⟨i,t,hs,s⟩)
 | ro t=>exact .inr (.inr ⟨⟨t,.inr (.inl hs)⟩,s⟩)
 | pin a=>rw [hs] at e; cases e
 | fx t=>rw [hs] at e; cases e
theorem FI.reG (F:FI B H G σ ρ) (sm:Same (dls H G) (dls H1 G1)) (s:Same H H1) (hk:∀ i a,PrvAt σ ρ i a → G1 a) (hp:Pen H1 G1) (gg:∀ b,B.G b → G1 b) (gn:∀ b,G1 b → B.G b ∨ B.H b = none):FI B H1 G1 σ ρ where
 len:=F.len
 slot:=fun i=>Qil (F.slot i) sm fun a o h1 h2 e=>⟨s _ _ e,hk i a ⟨h1,h2⟩⟩
 apart:=F.apart
 prv:=hp
 chg:=fun b o h1 h2 e=>s b o (F.chg b o h1 h2 e)
 keep:=fun b o e=>by
  obtain ⟨o1,e1⟩:=F.keep b o e
  exact ⟨o1,s _ _ e1⟩
 newO:=F.newO
 newM:=F.newM
 fix:=F.fix
 gg:=gg
 gn:=gn
 bp:=F.bp
theorem FI.lessG (F:FI B H G σ ρ) (Z:Addr → Prop) (hz:∀ b,Z b → B.H b = none ∧ ∀ i,¬ PrvAt σ ρ i b):FI B H (fun b=>G b ∧ ¬ Z b) σ ρ:=by
 refine F.reG (Qdj fun b h=>h.1) (Same.refl H) (fun i a h=>⟨(PrvAt.at F h).1,fun z=>(hz a z).2 i h⟩) (fun b h=>F.prv b h.1) (fun b h=>⟨F.gg b h,fun z=>?_⟩) fun b h=>F.gn b h.1
 obtain ⟨o,e⟩:=F.bp b h
 rw [(hz b z).1] at e
 cases e
theorem FI.addG (F:FI B H G σ ρ) {l:Addr} {vs:HO} (hl:H l = none) (s:Same H H1) (e:H1 l = some vs) (hpn:Q7z vs = true):FI B H1 (fun b=>G b ∨ b = l) σ ρ:=by
 refine F.reG (fun b o eb=>?_) s (fun i a h=>.inl (PrvAt.at F h).1) (fun b hb=>?_) (fun b h=>.inl (F.gg b h)) (fun b h=>?_)
 ·obtain ⟨nb,eb⟩:=Qs eb
  rw [Qb7 fun z=>?_]
  ·exact s b o eb
  ·rcases z with z | z
   ·exact nb z
   ·rw [z,hl] at eb; cases eb
 ·rcases hb with hb | hb
  ·exact F.prv.mono s b hb
  ·exact ⟨vs,hb ▸ e,hpn⟩
 ·rcases h with h | h
  ·exact F.gn b h
  ·exact .inr (h ▸ F.free hl)
end
noncomputable def TmpR (H0:Hp) (H:Hp) (G:Addr → Prop) (σ:St) (ρ:En) (v:V) (t:T):Prop:=∃ a,v = .ref a ∧ H0 a = none ∧ G a ∧ (∀ i,¬ PrvAt σ ρ i a) ∧ OwnAt H G a t
noncomputable def PVR (H0:Hp) (H:Hp) (G:Addr → Prop) (σ:St) (ρ:En) (v:V):PV → Prop
 | .fz t=>Is (dls H G) v t
 | .ow t=>TmpR H0 H G σ ρ v t
 | .sl i=>σ[i]? = some (some v)
section
variable {H0 H:Hp} {G:Addr → Prop} {σ:St} {ρ:En}
theorem PVR.is {v:V} {t:T} (h:PVR H0 H G σ ρ v (.fz t)):Is (dls H G) v t:=h
theorem pvI {i:Int}:PVR H0 H G σ ρ (.int i) (.fz (.int i)):=show Is (dls H G) (.int i) (.int i) from Is.int
theorem pvB {i:Bool}:PVR H0 H G σ ρ (.bl i) (.fz (.bl i)):=show Is (dls H G) (.bl i) (.bl i) from Is.bl
theorem pvN:PVR H0 H G σ ρ .non (.fz .non):=show Is (dls H G) .non .non from Is.non
end
noncomputable def Rdb (H:Hp) (G:Addr → Prop) (v:V) (t:T):Prop:=Is (dls H G) v t ∨ ∃ a,v = .ref a ∧ OwnAt H G a t
theorem Rdb.is {H:Hp} {G:Addr → Prop} {v:V} {t:T} (h:Rdb H G v t):Is H v t:=by
 rcases h with h | ⟨a,rfl,o,e,q⟩
 ·exact h.mono (Qyg _ _)
 ·exact q.is e (Qyg _ _)
theorem Rdb.lst {H:Hp} {G:Addr → Prop} {v:V} {ts:List T} (h:Rdb H G v (.lst ts)):∃ a vs,v = .ref a ∧ ts.length ≤ 100000 ∧ H a = some (.lst vs) ∧ IsL (dls H G) vs ts:=by
 rcases h with h | ⟨a,rfl,q⟩
 ·obtain ⟨a,vs,rfl,e,r⟩:=h.lst_inv
  exact ⟨a,vs,rfl,h.lst_len,(Qs e).2,r⟩
 ·obtain ⟨vs,z,h,r⟩:=q.lst_inv
  exact ⟨a,vs,rfl,z,h,r⟩
theorem Rdb.tup {H:Hp} {G:Addr → Prop} {v:V} {ts:List T} (h:Rdb H G v (.tup ts)):Is (dls H G) v (.tup ts):=by
 rcases h with h | ⟨a,_,q⟩
 ·exact h
 ·exact q.no_tup.elim
theorem Rdb.int {H:Hp} {G:Addr → Prop} {v:V} {i:Int} (h:Rdb H G v (.int i)):v = .int i:=h.is.int_inv
theorem Rdb.bl {H:Hp} {G:Addr → Prop} {v:V} {b:Bool} (h:Rdb H G v (.bl b)):v = .bl b:=by
 have q:=h.is
 unfold Is at q
 exact q
theorem Rdb.str {H:Hp} {G:Addr → Prop} {v:V} {b:Str} (h:Rdb H G v (.str b)):v = .str b:=by
 have q:=h.is
 unfold Is at q
 exact q
theorem Rdb.non {H:Hp} {G:Addr → Prop} {v:V} (h:Rdb H G v .non):v = .non:=by
 have q:=h.is
 unfold Is at q
 exact q
section
variable {B:Bs} {H H0 H1 H2:Hp} {G G1 G2:Addr → Prop} {σ σ1:St} {ρ ρ1 ρ2:En} {v:V} {r:PV} {t:T}
theorem PVR.rdb (h:PVR H0 H G σ ρ1 v r) (F:FI B H G σ ρ) (e:cont ρ r = some t):Rdb H G v t:=by
 cases r with
 | fz t=>cases e; exact .inl h
 | ow t =>
  cases e
  obtain ⟨a,rfl,_,_,_,q⟩:=h
  exact .inr ⟨a,rfl,q⟩
 | sl i =>
  obtain ⟨a,s,g,q⟩:=F.prvAt e
  have h:σ[i]? = some (some v):=h
  rw [s] at h
  cases h
  exact .inr ⟨a,rfl,q⟩
theorem OwnAt.mono {a:Addr} (h:OwnAt H G a t) (s:Same (dls H G) (dls H1 G1)) (e:∀ o,H a = some o → H1 a = some o):OwnAt H1 G1 a t:=by
 obtain ⟨o,h3,h4⟩:=h
 exact ⟨o,e _ h3,h4.mono s⟩
theorem FI.nobody (F0:FI B H G σ ρ) (F:FI (Qap H G σ ρ) H1 G1 σ ρ1) {a:Addr} {o:HO} (e:H a = some o) (n:∀ i,¬ PrvAt σ ρ i a):∀ i,¬ PrvAt σ ρ1 i a:=fun i h=>by
 have h0:=h
 rcases Qwr h with h | h | h
 ·rcases F.newO a h with z | z
  ·rw [show H a = none from z] at e; cases e
  ·obtain ⟨j,z⟩:=OwA.prv z; exact n j z
 ·obtain ⟨j,z⟩:=MlA.prv (F.newM a h); exact n j z
 ·obtain ⟨⟨t,z⟩,s⟩:=F.fix i a h
  have g1:=(PrvAt.at F h0).1
  rcases z with z | z | z
  ·exact n i ⟨⟨t,by rw [z]; rfl⟩,s⟩
  ·exact n i ⟨⟨t,by rw [z]; rfl⟩,s⟩
  ·have q:=F0.slot i
   rw [z] at q
   obtain ⟨b,o',sb,eb,_⟩:=q
   rw [s] at sb
   cases sb
   obtain ⟨ng,hb⟩:=Qs eb
   rcases F.gn a g1 with z | z
   ·exact ng z
   ·rw [show H a = none from z] at hb; cases hb
theorem PVR.step (h:PVR H0 H G σ ρ v r) (F0:FI B H G σ ρ) (F:FI (Qap H G σ ρ) H1 G1 σ ρ1):PVR H0 H1 G1 σ ρ1 v r:=by
 cases r with
 | fz t=>exact Is.mono (F0.same F) h
 | sl i=>exact h
 | ow t =>
  obtain ⟨a,rfl,n,g,np,q⟩:=h
  have q':=q
  obtain ⟨ob,ea,_⟩:=q
  refine ⟨a,rfl,n,F.gg a g,F0.nobody F ea np,q'.mono (F0.same F) fun o e=>F.chg a o (fun z=>?_) (fun z=>?_) e⟩
  ·obtain ⟨j,z⟩:=OwA.prv z; exact np j z
  ·obtain ⟨j,z⟩:=MlA.prv z; exact np j z
theorem PVR.early (h:PVR H1 H2 G2 σ ρ2 v r) (F:FI (Qap H G σ ρ) H1 G1 σ ρ1):PVR H H2 G2 σ ρ2 v r:=by
 cases r with
 | fz t=>exact h
 | sl i=>exact h
 | ow t =>
  obtain ⟨a,rfl,n,g⟩:=h
  exact ⟨a,rfl,F.free n,g⟩
end
noncomputable def argR (H:Hp) (dx:Option Addr):List Int → Prop
 | []=>dx = none
 | [i]=>∃ d,dx = some d ∧ H d = some (.xd [("at",.int i)])
 | [i,j]=>∃ d,dx = some d ∧ H d = some (.xd [("many",.int i),("most",.int j)])
 | _=>False
noncomputable def Q8c (mg:Str → Option Value) (H:Hp) (x:Xn) (cls:Value) (dx:Option Addr):Prop:=∃ nm,Qtc[x.c]? = some nm ∧ cls = .ref (cad mg nm) ∧ argR H dx x.arg
structure Pr where
 cf:CF
 R:XR
 mg:Str → Option Value
noncomputable def Fin (p:Pr) (B:Bs) (σ:St) {α:Type} (o:Out α) (K:α → En → Prop):Prop:=match o with
 | .ok a ρ1=>K a ρ1
 | .xn x ρ1=>∀ cls dx H1 G1,FI B H1 G1 σ ρ1 → Q8c p.mg H1 x cls dx → p.R cls dx σ H1
 | .no=>False
noncomputable def tE (p:Pr) (e:E):TE:=fun σ H Q=>∃ G ρ,FI (Qap H G σ ρ) H G σ ρ ∧ Fin p (Qap H G σ ρ) σ (evE p.cf e ρ) fun r ρ1=>∀ v H1 G1,FI (Qap H G σ ρ) H1 G1 σ ρ1 → PVR H H1 G1 σ ρ1 v r → Q v H1
inductive PVRs (H0:Hp) (H:Hp) (G:Addr → Prop) (σ:St) (ρ:En):List V → List PV → Prop where
 | nil:PVRs H0 H G σ ρ [] []
 | cons {v r vs rs}:PVR H0 H G σ ρ v r → PVRs H0 H G σ ρ vs rs → PVRs H0 H G σ ρ (v :: vs) (r :: rs)
noncomputable def tA (p:Pr) (es:Es):TA:=fun σ H Q=>∃ G ρ,FI (Qap H G σ ρ) H G σ ρ ∧ Fin p (Qap H G σ ρ) σ (evA p.cf es ρ) fun rs ρ1=>∀ vs H1 G1,FI (Qap H G σ ρ) H1 G1 σ ρ1 → PVRs H H1 G1 σ ρ1 vs rs → Q vs H1
noncomputable def tT (p:Pr) (e:E):TT:=fun σ H Q=>∃ G ρ,FI (Qap H G σ ρ) H G σ ρ ∧ Fin p (Qap H G σ ρ) σ (Qaa (evE p.cf e ρ)) fun b ρ1=>∀ H1 G1,FI (Qap H G σ ρ) H1 G1 σ ρ1 → Q b H1
section
variable {p:Pr} {B:Bs} {H H0 H1 H2:Hp} {G G1:Addr → Prop} {σ:St} {ρ ρ1 ρ2:En} {α β:Type}
theorem Fin.bind {o:Out α} {k:α → En → Out β} {K:β → En → Prop} (h:Fin p B σ (o.bind k) K):Fin p B σ o fun a ρ1=>Fin p B σ (k a ρ1) K:=by
 cases o with
 | ok a ρ1=>exact h
 | xn x ρ1=>exact h
 | no=>exact h
theorem Fin.imp {o:Out α} {K K':α → En → Prop} (h:Fin p B σ o K) (q:∀ a ρ1,K a ρ1 → K' a ρ1):Fin p B σ o K':=by
 cases o with
 | ok a ρ1=>exact q _ _ h
 | xn x ρ1=>exact h
 | no=>exact h
theorem Fin.rebase {o:Out α} {K K':α → En → Prop} (F:FI B H1 G σ ρ1) (h:Fin p B σ o K) (q:∀ a ρ2,K a ρ2 → K' a ρ2):Fin p (Qap H1 G σ ρ1) σ o K':=by
 cases o with
 | ok a ρ1=>exact q _ _ h
 | xn x ρ1=>exact fun cls dx H2 G2 F2=>h cls dx H2 G2 (F.trans F2)
 | no=>exact h
theorem Quw {e:E} {Q:VK} {K:PV → En → Prop} (F:FI B H1 G σ ρ1) (h:Fin p B σ (evE p.cf e ρ1) K) (q:∀ r ρ2 v H2 G2,K r ρ2 → FI B H2 G2 σ ρ2 → FI (Qap H1 G σ ρ1) H2 G2 σ ρ2 → PVR H1 H2 G2 σ ρ2 v r → Q v H2):tE p e σ H1 Q :=
 ⟨G,ρ1,F.self,h.rebase F fun r ρ2 k v H2 G2 F2 pv=>q r ρ2 v H2 G2 k (F.trans F2) F2 pv⟩
theorem Qab4 {es:Es} {Q:List V → Hp → Prop} {K:List PV → En → Prop} (F:FI B H1 G σ ρ1) (h:Fin p B σ (evA p.cf es ρ1) K) (q:∀ r ρ2 v H2 G2,K r ρ2 → FI B H2 G2 σ ρ2 → FI (Qap H1 G σ ρ1) H2 G2 σ ρ2 → PVRs H1 H2 G2 σ ρ2 v r → Q v H2):tA p es σ H1 Q :=
 ⟨G,ρ1,F.self,h.rebase F fun r ρ2 k v H2 G2 F2 pv=>q r ρ2 v H2 G2 k (F.trans F2) F2 pv⟩
theorem Qyy {e:E} {Q:Bool → Hp → Prop} {K:Bool → En → Prop} (F:FI B H1 G σ ρ1) (h:Fin p B σ (Qaa (evE p.cf e ρ1)) K) (q:∀ b ρ2 H2 G2,K b ρ2 → FI B H2 G2 σ ρ2 → FI (Qap H1 G σ ρ1) H2 G2 σ ρ2 → Q b H2):tT p e σ H1 Q :=
 ⟨G,ρ1,F.self,h.rebase F fun r ρ2 k H2 G2 F2=>q r ρ2 H2 G2 k (F.trans F2) F2⟩
theorem tE2 {a b:E} {f:PV → PV → En → Out β} {K:β → En → Prop} {Z:V → V → Hp → Prop} (F:FI (Qap H G σ ρ) H G σ ρ) (h:Fin p (Qap H G σ ρ) σ ((evE p.cf a ρ).bind fun ra ρ1=>(evE p.cf b ρ1).bind fun rb ρ2=>f ra rb ρ2) K)
  (q:∀ ra rb ρ2 x y H2 G2,FI (Qap H G σ ρ) H2 G2 σ ρ2 → PVR H H2 G2 σ ρ2 x ra → PVR H H2 G2 σ ρ2 y rb → Fin p (Qap H G σ ρ) σ (f ra rb ρ2) K → Z x y H2):tE p a σ H fun x H1=>tE p b σ H1 fun y H2=>Z x y H2:=by
 refine ⟨G,ρ,F,h.bind.imp fun ra ρ1 h1 x H1 G1 F1 r1=>?_⟩
 refine Quw F1 h1.bind fun rb ρ2 y H2 G2 h2 F2 F2' r2=>?_
 exact q ra rb ρ2 x y H2 G2 F2 (r1.step F1 F2') (r2.early F1) h2
theorem Qq9 {o:Out PV} {K:Bool → En → Prop} (h:Fin p B σ (Qaa o) K):Fin p B σ o fun r ρ1=>∃ b,r = .fz (.bl b) ∧ K b ρ1:=by
 cases o with
 | ok r ρ1 =>
  cases r with
  | fz t=>cases t <;> first | exact ⟨_,rfl,h⟩ | exact False.elim h
  | ow t=>exact False.elim h
  | sl i=>exact False.elim h
 | xn x ρ1=>exact h
 | no=>exact h
end
theorem QE.weak {X:Cx} {e:Expr} {t t':TE} (h:QE X e t) (q:∀ σ H Q,t' σ H Q → t σ H Q):QE X e t':=⟨h.h.weak q⟩
theorem QA.weak {X:Cx} {e:List Expr} {t t':TA} (h:QA X e t) (q:∀ σ H Q,t' σ H Q → t σ H Q):QA X e t':=⟨h.h.weak q⟩
theorem QT.weak {X:Cx} {e:Expr} {t t':TT} (h:QT X e t) (q:∀ σ H Q,t' σ H Q → t σ H Q):QT X e t':=⟨fun pins s σ H Q I z=>h.h pins s σ H Q I (q _ _ _ z)⟩
theorem QW.weak {X:Cx} {e:Expr} {t t':TT} (h:QW X e t) (q:∀ σ H Q,t' σ H Q → t σ H Q):QW X e t':=⟨fun wh pins s σ H Q I z=>h.h wh pins s σ H Q I (q _ _ _ z)⟩
section
variable {X:Cx} {p:Pr} {e a b:Expr} {es:List Expr} {e' a' b' c':E} {es':Es} {pos p1 p2 p3:Pos} {x:Str}
theorem Qab5 {i:Nat} (hN:X.N[i]? = some x) (hv:Vis X.env.scope x) (hd:(x == ("__debug__" : Str)) = false) (hcd:(x == ("__classdict__" : Str)) = false):QE X (.Name x pos) (tE p (.var i)) :=
 (Qfe i hN hv hd hcd).weak fun σ H Q zz1=>by
  obtain ⟨G,ρ,F,h⟩:=zz1
  have q:=F.slot i
  unfold evE at h
  cases hs:Qb ρ i with
  | un=>rw [hs] at h; exact False.elim h
  | pin _=>rw [hs] at h; exact False.elim h
  | fx t=>rw [hs] at h q; obtain ⟨v,o,e,_,r⟩:=q; exact ⟨_,e,h _ H G F r⟩
  | fz t=>rw [hs] at h q; obtain ⟨v,e,r⟩:=q; exact ⟨v,e,h v H G F r⟩
  | ow t=>rw [hs] at h q; obtain ⟨a,e,_⟩:=q; exact ⟨_,e,h _ H G F e⟩
  | ml t=>rw [hs] at h q; obtain ⟨a,e,_⟩:=q; exact ⟨_,e,h _ H G F e⟩
  | ro t=>rw [hs] at h q; obtain ⟨a,e,_⟩:=q; exact ⟨_,e,h _ H G F e⟩
theorem Qj {i j}:QE X (.Constant (.int i) j pos) (tE p (.int i)):=Qq0.weak fun σ H Q zz1=>by obtain ⟨G,ρ,F,h⟩:=zz1; unfold evE at h; exact h _ H G F pvI
theorem Qws {i j}:QE X (.Constant (.bool i) j pos) (tE p (.bl i)):=q_bl.weak fun σ H Q zz1=>by obtain ⟨G,ρ,F,h⟩:=zz1; unfold evE at h; exact h _ H G F pvB
theorem Qux {j}:QE X (.Constant .none j pos) (tE p .non):=Qaa4.weak fun σ H Q zz1=>by obtain ⟨G,ρ,F,h⟩:=zz1; unfold evE at h; exact h _ H G F pvN
theorem Q8d {i:Int} (h:∃ u,X.mg x = some u ∧ RelV (.int i) u) (hg:Gl X x) (hd:(x == ("__debug__" : Str)) = false):QE X (.Name x pos) (tE p (.int i)) :=
 (Q7m h hg hd).weak fun σ H Q zz1=>by obtain ⟨G,ρ,F,h⟩:=zz1; unfold evE at h; exact h _ H G F pvI
theorem Qg:QA X [] (tA p .nil):=Qeg.weak fun σ H Q zz1=>by obtain ⟨G,ρ,F,h⟩:=zz1; unfold evA at h; exact h [] H G F .nil
theorem PVRs.early {H H1 H2:Hp} {G G1 G2:Addr → Prop} {σ:St} {ρ ρ1 ρ2:En} {vs:List V} {rs:List PV} (h:PVRs H1 H2 G2 σ ρ2 vs rs) (F:FI (Qap H G σ ρ) H1 G1 σ ρ1):PVRs H H2 G2 σ ρ2 vs rs:=by
 induction h with
 | nil=>exact .nil
 | cons a _ ih=>exact .cons (a.early F) ih
theorem Q8e (ha:QE X e (tE p e')) (hr:QA X es (tA p es')) (hs:Qr e = true):QA X (e :: es) (tA p (.cons e' es')) :=
 (Qbv ha hr hs).weak fun σ H Q zz1=>by
  obtain ⟨G,ρ,F,h⟩:=zz1
  unfold evA at h
  refine ⟨G,ρ,F,h.bind.imp fun r ρ1 h1 v H1 G1 F1 r1=>?_⟩
  refine Qab4 F1 h1.bind fun rs ρ2 vs H2 G2 h2 F2 F2' r2=>?_
  exact h2 (v :: vs) H2 G2 F2 (.cons (r1.step F1 F2') (r2.early F1))
noncomputable def Qlq:List V → List PV → Addr → Prop
 | v :: vs,.ow _ :: rs,b=>v = .ref b ∨ Qlq vs rs b
 | _ :: vs,_ :: rs,b=>Qlq vs rs b
 | _,_,_=>False
theorem PVRs.tmp {H0 H:Hp} {G:Addr → Prop} {σ:St} {ρ:En} {vs:List V} {rs:List PV} (h:PVRs H0 H G σ ρ vs rs) {b:Addr} (z:Qlq vs rs b):H0 b = none ∧ ∀ i,¬ PrvAt σ ρ i b:=by
 induction h with
 | nil=>exact False.elim z
 | cons a _ ih =>
  rename_i v r vs rs _
  cases r with
  | fz t=>exact ih z
  | sl i=>exact ih z
  | ow t =>
   rcases z with z | z
   ·obtain ⟨c,e,n,_,np,_⟩:=a
    rw [z] at e
    cases e
    exact ⟨n,np⟩
   ·exact ih z
theorem PVRs.frz {H0 H:Hp} {G G':Addr → Prop} {σ:St} {ρ:En} {vs:List V} {rs:List PV} (h:PVRs H0 H G σ ρ vs rs) (s:∀ b,G' b → G b) (n:∀ b,Qlq vs rs b → ¬ G' b):∀ {ts:List T},Qdq rs = some ts → IsL (dls H G') vs ts:=by
 induction h with
 | nil=>intro ts e; cases e; exact .nil
 | cons a _ ih =>
  intro ts e
  rename_i v r vs rs _
  unfold Qdq at e
  cases h1:L2.frz r with
  | none=>rw [h1] at e; cases e
  | some t =>
   cases h2:Qdq rs with
   | none=>rw [h1,h2] at e; cases e
   | some us =>
    rw [h1,h2] at e
    cases e
    cases r with
    | sl i=>cases h1
    | fz t' =>
     cases h1
     exact .cons (Is.mono (Qdj s) a) (ih (fun b z=>n b z) h2)
    | ow t' =>
     cases h1
     obtain ⟨c,rfl,_,_,_,ob,ec,q⟩:=a
     exact .cons (q.is (by rw [Qb7 (n c (.inl rfl))]; exact ec) (Qdj s)) (ih (fun b z=>n b (.inr z)) h2)
theorem PVRs.lay {B:Bs} {H:Hp} {G:Addr → Prop} {σ:St} {ρ:En} {vs:List V} {rs:List PV} {ts:List T} (h:PVRs B.H H G σ ρ vs rs) (F:FI B H G σ ρ) (e:Qdq rs = some ts):∃ G',FI B H G' σ ρ ∧ IsL (dls H G') vs ts ∧ ∀ b,G' b → G b :=
 ⟨_,F.lessG (Qlq vs rs) fun b z=>h.tmp z,h.frz (fun b z=>z.1) (fun b z y=>y.2 z) e,fun b z=>z.1⟩
theorem PVR.lay {B:Bs} {H:Hp} {G:Addr → Prop} {σ:St} {ρ:En} {v:V} {r:PV} {t:T} (h:PVR B.H H G σ ρ v r) (F:FI B H G σ ρ) (e:L2.frz r = some t):∃ G',FI B H G' σ ρ ∧ Is (dls H G') v t ∧ ∀ b,G' b → G b:=by
 obtain ⟨G',F',i,s⟩:=PVRs.lay (.cons h .nil) F (ts:=[t]) (by unfold Qdq; rw [e]; rfl)
 obtain ⟨v',w,e,a,_⟩:=i.cons_inv
 cases e
 exact ⟨G',F',a,s⟩
theorem Qbe {x1} (h:QA X es (tA p es')):QE X (.Tuple es x1 pos) (tE p (.tup es')) :=
 (Qabb h).weak fun σ H Q zz1=>by
  obtain ⟨G,ρ,F,h⟩:=zz1
  unfold evE at h
  refine ⟨G,ρ,F,h.bind.imp fun rs ρ1 h1 vs H1 G1 F1 r1=>?_⟩
  cases e:Qdq rs with
  | none=>rw [e] at h1; exact False.elim h1
  | some ts =>
   rw [e] at h1
   by_cases z:ts.length ≤ 100000
   ·simp only [if_pos z] at h1
    obtain ⟨G',F',r,_⟩:=PVRs.lay (B:=Qap H G σ ρ) r1 F1 e
    refine Q71 F'.prv r z fun y H2 s2 i2=>h1 y H2 G' (F'.grow s2) i2
   ·simp only [if_neg z] at h1
    exact False.elim h1
theorem Qlr {B:Bs} {H H1:Hp} {G:Addr → Prop} {σ:St} {ρ:En} {l:Addr} {ob:HO} {t:T} (F:FI B H G σ ρ) (hl:H l = none) (s:Same H H1) (e:H1 l = some ob) (r:OwnO (dls H G) t ob) :
  FI B H1 (fun b=>G b ∨ b = l) σ ρ ∧ PVR B.H H1 (fun b=>G b ∨ b = l) σ ρ (.ref l) (.ow t):=by
 refine ⟨F.addG hl s e r.pen,l,rfl,F.free hl,.inr rfl,fun i h=>?_,ob,e,r.mono fun b o eb=>?_⟩
 ·obtain ⟨_,t,o,ea,_⟩:=PrvAt.at F h
  rw [hl] at ea
  cases ea
 ·obtain ⟨nb,eb⟩:=Qs eb
  rw [Qb7 fun z=>?_]
  ·exact s b o eb
  ·rcases z with z | z
   ·exact nb z
   ·rw [z,hl] at eb; cases eb
theorem Qjb {B:Bs} {H H1:Hp} {G:Addr → Prop} {σ:St} {ρ:En} {l:Addr} {vs:List V} {ts:List T} (F:FI B H G σ ρ) (hl:H l = none) (s:Same H H1) (e:H1 l = some (.lst vs)) (r:IsL (dls H G) vs ts) (z:ts.length ≤ 100000) :
  FI B H1 (fun b=>G b ∨ b = l) σ ρ ∧ PVR B.H H1 (fun b=>G b ∨ b = l) σ ρ (.ref l) (.ow (.lst ts)):=Qlr F hl s e ⟨z,r⟩
theorem Qeu (h:QA X es (tA p es')):QE X (.List es pos) (tE p (.lst es')) :=
 (Q4p h).weak fun σ H Q zz1=>by
  obtain ⟨G,ρ,F,h⟩:=zz1
  unfold evE at h
  refine ⟨G,ρ,F,h.bind.imp fun rs ρ1 h1 vs H1 G1 F1 r1=>?_⟩
  cases e:Qdq rs with
  | none=>rw [e] at h1; exact False.elim h1
  | some ts =>
   rw [e] at h1
   by_cases z:ts.length ≤ 100000
   ·simp only [if_pos z] at h1
    obtain ⟨G',F',r,_⟩:=PVRs.lay (B:=Qap H G σ ρ) r1 F1 e
    refine Q72 F'.prv r z fun l H2 s2 n2 e2 i2=>?_
    obtain ⟨F2,r2⟩:=Qjb F' n2 s2 e2 r z
    exact h1 _ H2 _ F2 r2
   ·simp only [if_neg z] at h1
    exact False.elim h1
theorem Qo1 {B:Bs} {σ:St} {ρ:En} {α:Type} {o:Option α} {K:α → En → Prop} (h:Fin p B σ (.opt o ρ) K):∃ a,o = some a ∧ K a ρ:=by
 cases o with
 | none=>exact False.elim h
 | some a=>exact ⟨a,rfl,h⟩
theorem Qyz {B:Bs} {σ:St} {ρ:En} {α:Type} {ra rb:PV} {f:T → T → Out α} {K:α → En → Prop} (h:Fin p B σ (match cont ρ ra,cont ρ rb with | some x,some y=>f x y | _,_=>.no) K):∃ x y,cont ρ ra = some x ∧ cont ρ rb = some y ∧ Fin p B σ (f x y) K:=by
 cases h1:cont ρ ra with
 | none=>rw [h1] at h; exact False.elim h
 | some x =>
  cases h2:cont ρ rb with
  | none=>rw [h1,h2] at h; exact False.elim h
  | some y=>rw [h1,h2] at h; exact ⟨x,y,rfl,rfl,h⟩
noncomputable def Op2 (r:R2) (f:T → T → Option PV):Prop:=∀ (B:Bs) (H:Hp) (G:Addr → Prop) (σ:St) (ρ:En) (x y:V) (t u:T) (w:PV) (Q:VK),FI B H G σ ρ → Rdb H G x t → Rdb H G y u → f t u = some w → (∀ v H1 G1,FI B H1 G1 σ ρ → PVR B.H H1 G1 σ ρ v w → Q v H1) → r x y H Q
theorem Qn5 {op:Operator} {r:R2} {o:BOp} (ho:QOp X (binaryOp op) r) (hs:Op2 r (opB o)) (ha:QE X a (tE p a')) (hb:QE X b (tE p b')):QE X (.BinOp a op b pos) (tE p (.bin o a' b')) :=
 (q_op ho ha hb).weak fun σ H Q zz1=>by
  obtain ⟨G,ρ,F,h⟩:=zz1
  unfold evE at h
  refine tE2 F h fun ra rb ρ2 x y H2 G2 F2 r1 r2 h2=>?_
  obtain ⟨t,u,c1,c2,h3⟩:=Qyz h2
  obtain ⟨w,e,k⟩:=Qo1 h3
  exact hs _ H2 G2 σ ρ2 x y t u w Q F2 (r1.rdb F2 c1) (r2.rdb F2 c2) e fun v H3 G3 F3 pv=>k v H3 G3 F3 pv
theorem Qev {t:T} {i:Int} (e:asI t = some i):t = .int i:=by
 cases t <;> first | (cases e; done) | skip
 cases e
 rfl
theorem Qk4 {o:BOp} {t u:T} {w:PV} (e:opB o t u = some w) (hx:∀ t u,opX o t u = none):∃ i j,t = .int i ∧ u = .int j ∧ opN o i j = some w:=by
 unfold opB at e
 cases h1:asI t with
 | none=>rw [h1] at e; exact absurd e (by simp [hx])
 | some i =>
  cases h2:asI u with
  | none=>rw [h1,h2] at e; exact absurd e (by simp [hx])
  | some j=>rw [h1,h2] at e; exact ⟨i,j,Qev h1,Qev h2,e⟩
theorem Quy {o:BOp} {t u:T} {w:PV} (e:opB o t u = some w):(∃ i j,t = .int i ∧ u = .int j ∧ opN o i j = some w) ∨ opX o t u = some w:=by
 unfold opB at e
 cases h1:asI t with
 | none=>rw [h1] at e; exact .inr e
 | some i =>
  cases h2:asI u with
  | none=>rw [h1,h2] at e; exact .inr e
  | some j=>rw [h1,h2] at e; exact .inl ⟨i,j,Qev h1,Qev h2,e⟩
theorem Q2e (K:PySem.W.Frag):Op2 (Qny K) (opB .add):=by
 intro B H G σ ρ x y t u w Q F hx hy e q
 rcases Quy e with ⟨i,j,rfl,rfl,e⟩ | e1
 ·obtain rfl:=hx.int
  obtain rfl:=hy.int
  cases e
  exact .inl ⟨_,_,rfl,rfl,q _ H G F pvI⟩
 replace e:Q79 t u = some w:=e1
 clear e1
 unfold Q79 at e
 split at e
 ·rename_i ts us
  by_cases z:ts.length + us.length ≤ 100000
  ·rw [if_pos z] at e; cases e
   exact Q70 F.prv hx.tup hy.tup z fun v H1 s1 i1=>q v H1 G (F.grow s1) i1
  ·rw [if_neg z] at e; cases e
 ·rename_i ts us
  by_cases z:ts.length + us.length ≤ 100000
  ·rw [if_pos z] at e; cases e
   obtain ⟨a,vs,rfl,z1,ea,r1⟩:=hx.lst
   obtain ⟨b,ws,rfl,z2,eb,r2⟩:=hy.lst
   refine .inr (.inl ⟨a,b,vs,ws,rfl,rfl,ea,eb,Qbk (by rw [r1.length,r2.length]; exact z),fun l hl=>?_⟩)
   obtain ⟨F2,r3⟩:=Qjb F hl (Same.upd hl) Qo (r1.append r2) (by rw [List.length_append]; exact z)
   exact q _ _ _ F2 r3
  ·rw [if_neg z] at e; cases e
 ·cases e
theorem Q2f:Op2 (rI0 fun i j=>.int (i - j)) (opB .sub):=by
 intro B H G σ ρ x y t u w Q F hx hy e q
 obtain ⟨i,j,rfl,rfl,e⟩:=Qk4 e fun _ _=>rfl
 obtain rfl:=hx.int
 obtain rfl:=hy.int
 cases e
 exact ⟨_,_,rfl,rfl,q _ H G F pvI⟩
theorem Qra {i:Int} (h:i.natAbs < 2 ^ 250):Builtin.Int.intBits i ≤ 2 ^ 20:=by
 have h1:Builtin.Int.intBits i ≤ 250:=by
  unfold Builtin.Int.intBits
  split
  ·exact Nat.zero_le _
  ·rename_i hn
   have h0:i.natAbs ≠ 0:=by
    intro z
    exact hn (by simpa using z)
   have h2:i.natAbs.log2 < 250:=(Nat.log2_lt h0).mpr h
   omega
 exact Nat.le_trans h1 (by decide)
theorem Qrb {i:Int} (h:i.natAbs.log2 < 9000):Builtin.Int.intBits i ≤ 2 ^ 20:=by
 have h1:Builtin.Int.intBits i ≤ 9000:=by
  unfold Builtin.Int.intBits
  split
  ·exact Nat.zero_le _
  ·omega
 exact Nat.le_trans h1 (by decide)
theorem Q2g {i j:Int} (h:Qc2 i j = true):IntMulOk i j:=by
 unfold Qc2 at h
 simp only [Bool.or_eq_true,Bool.and_eq_true,decide_eq_true_eq] at h
 rcases h with h | h | ⟨h1,h2⟩ | ⟨h1,h2⟩
 ·exact CMul.ok (.inl ⟨by omega,by omega⟩)
 ·exact CMul.ok (.inr ⟨by omega,by omega⟩)
 ·exact .of_bits (Qra h1) (Qra h2)
 ·exact .of_bits (Qrb h1) (Qrb h2)
noncomputable def Q43:R2:=fun x y H Q=>(rI (fun i j=>IntMulOk i j) fun i j=>.int (i * j)) x y H Q ∨ Q4m x y H Q
theorem Q8f:QOp X (binaryOp .Mult) Q43:=⟨(opI fun _ _ _ _ _ _ _ hc q=>mul_int q hc).or uMul⟩
theorem Q2h:Op2 Q43 (opB .mul):=by
 intro B H G σ ρ x y t u w Q F hx hy e q
 rcases Quy e with ⟨i,j,rfl,rfl,e⟩ | e1
 ·obtain rfl:=hx.int
  obtain rfl:=hy.int
  have e':(if Qc2 i j = true then some (PV.fz (.int (i * j))) else none) = some w:=e
  by_cases z:Qc2 i j = true
  ·rw [if_pos z] at e'; cases e'
   exact .inl ⟨_,_,rfl,rfl,Q2g z,q _ H G F pvI⟩
  ·rw [if_neg z] at e'; cases e'
 replace e:Q8a t (asI u) = some w:=e1
 clear e1
 unfold Q8a at e
 split at e
 ·rename_i ts k hk
  obtain rfl:=Qev hk
  obtain rfl:=hy.int
  by_cases z:ts.length * k.toNat ≤ 100000 ∧ 1 ≤ k ∧ k.natAbs ≤ 100000 ∧ ts ≠ []
  ·rw [if_pos z] at e; cases e
   obtain ⟨a,vs,rfl,ha,r⟩:=hx.tup.tup_inv
   obtain ⟨z1,z2,z3,z4⟩:=z
   have hl:=r.length
   refine .inr (.inr (.inr ⟨a,k,vs,rfl,rfl,(Qs ha).2,fun e=>?_,z2,by omega,Qbk (by rw [hl]; exact z1),fun l H1 s1 e1 _=>q _ H1 G (F.grow s1) (Qd5 (F.prv.mono s1) e1 ((r.flat k.toNat).mono (Qaq s1)) ?_)⟩))
   ·rw [e] at hl
    exact z4 (List.length_eq_zero_iff.mp hl.symm)
   ·rw [Qi1,Nat.mul_comm]; exact z1
  ·rw [if_neg z] at e; cases e
 ·rename_i ts k hk
  obtain rfl:=Qev hk
  obtain rfl:=hy.int
  by_cases z:ts.length * k.toNat ≤ 100000 ∧ 1 ≤ k ∧ k.natAbs ≤ 100000
  ·rw [if_pos z] at e; cases e
   obtain ⟨a,vs,rfl,z1,ea,r1⟩:=hx.lst
   obtain ⟨z2,z3,z4⟩:=z
   refine .inr (.inr (.inl ⟨a,k,vs,rfl,rfl,ea,by omega,by omega,Qbk (by rw [r1.length]; exact z2),fun l hl=>?_⟩))
   obtain ⟨F2,r3⟩:=Qjb F hl (Same.upd hl) Qo (r1.flat k.toNat) (by rw [Qi1,Nat.mul_comm]; exact z2)
   exact q _ _ _ F2 r3
  ·rw [if_neg z] at e; cases e
 ·cases e
noncomputable def CDvF (i j:Int):Prop:=j ≠ 0 ∧ j.natAbs < 2 ^ 400
theorem Q8g:QOp X (binaryOp .FloorDiv) (rI CDvF fun i j=>.int (i.fdiv j)):=⟨opI fun i j _ _ _ _ _ hc q=>floordiv_int hc.1 q (.inl (PyProof.noPylong_of_log2 (by
 have h1:j.natAbs ≠ 0:=by have:=hc.1; omega
 have h2:j.natAbs.log2 < 400:=(Nat.log2_lt h1).mpr hc.2
 omega)))⟩
theorem Q8h:QOp X (binaryOp .Mod) (rI (fun _ j=>j ≠ 0) fun i j=>.int (i.fmod j)):=⟨Q1g⟩
theorem Q2i:Op2 (rI CDvF fun i j=>.int (i.fdiv j)) (opB .fdv):=by
 intro B H G σ ρ x y t u w Q F hx hy e q
 obtain ⟨i,j,rfl,rfl,e⟩:=Qk4 e fun _ _=>rfl
 obtain rfl:=hx.int
 obtain rfl:=hy.int
 have e':(if 0 < j ∧ j.natAbs < 2 ^ 64 then some (PV.fz (.int (i / j))) else if j ≠ 0 ∧ j.natAbs < 2 ^ 400 then some (.fz (.int (i.fdiv j))) else none) = some w:=e
 by_cases z:0 < j ∧ j.natAbs < 2 ^ 64
 ·rw [if_pos z] at e'; cases e'
  refine ⟨_,_,rfl,rfl,⟨by omega,Nat.lt_trans z.2 (by decide)⟩,?_⟩
  show Q (.int (i.fdiv j)) H
  rw [Int.fdiv_eq_ediv_of_nonneg i (by omega)]
  exact q _ H G F pvI
 ·rw [if_neg z] at e'
  by_cases z2:j ≠ 0 ∧ j.natAbs < 2 ^ 400
  ·rw [if_pos z2] at e'; cases e'
   exact ⟨_,_,rfl,rfl,z2,q _ H G F pvI⟩
  ·rw [if_neg z2] at e'; cases e'
theorem Q2j:Op2 (rI (fun _ j=>j ≠ 0) fun i j=>.int (i.fmod j)) (opB .mod):=by
 intro B H G σ ρ x y t u w Q F hx hy e q
 obtain ⟨i,j,rfl,rfl,e⟩:=Qk4 e fun _ _=>rfl
 obtain rfl:=hx.int
 obtain rfl:=hy.int
 have e':(if 0 < j then some (PV.fz (.int (i % j))) else if j < 0 then some (.fz (.int (i.fmod j))) else none) = some w:=e
 by_cases z:0 < j
 ·rw [if_pos z] at e'; cases e'
  refine ⟨_,_,rfl,rfl,by omega,?_⟩
  show Q (.int (i.fmod j)) H
  rw [Int.fmod_eq_emod_of_nonneg i (by omega)]
  exact q _ H G F pvI
 ·rw [if_neg z] at e'
  by_cases z2:j < 0
  ·rw [if_pos z2] at e'; cases e'
   exact ⟨_,_,rfl,rfl,by omega,q _ H G F pvI⟩
  ·rw [if_neg z2] at e'; cases e'
theorem Q2k:Op2 (rI Q6n fun i j=>.int (i ^ j.toNat)) (opB .pow):=by
 intro B H G σ ρ x y t u w Q F hx hy e q
 obtain ⟨i,j,rfl,rfl,e⟩:=Qk4 e fun _ _=>rfl
 obtain rfl:=hx.int
 obtain rfl:=hy.int
 have e':(if 0 ≤ j ∧ j.natAbs ≤ 1000000 ∧ i.natAbs < 2 ^ 64 then some (PV.fz (.int (i ^ j.toNat))) else none) = some w:=e
 by_cases z:0 ≤ j ∧ j.natAbs ≤ 1000000 ∧ i.natAbs < 2 ^ 64
 ·rw [if_pos z] at e'; cases e'
  exact ⟨_,_,rfl,rfl,⟨z.1,by omega,z.2.2⟩,q _ H G F pvI⟩
 ·rw [if_neg z] at e'; cases e'
theorem Q44 (ha:QE X a (tE p a')):QE X (.UnaryOp .USub a pos) (tE p (.neg a')) :=
 (q_un Qabh ha).weak fun σ H Q zz1=>by
  obtain ⟨G,ρ,F,h⟩:=zz1
  unfold evE at h
  refine ⟨G,ρ,F,h.bind.imp fun r ρ1 h1 v H1 G1 F1 r1=>?_⟩
  cases r with
  | fz t =>
   cases t <;> first | exact False.elim h1 | skip
   obtain rfl:=r1.is.int_inv
   exact ⟨_,rfl,h1 _ H1 G1 F1 pvI⟩
  | ow t=>exact False.elim h1
  | sl i=>exact False.elim h1
theorem PVR.bl {H0 H:Hp} {G:Addr → Prop} {σ:St} {ρ:En} {v:V} {b:Bool} (h:PVR H0 H G σ ρ v (.fz (.bl b))):v = .bl b:=by
 have q:=h.is
 unfold Is at q
 exact q
theorem Qrc {Q:Bool → Hp → Prop} {σ:St} {H:Hp} (h:tT p e' σ H Q):tE p e' σ H fun x H1=>∃ c,x = .bl c ∧ Q c H1:=by
 obtain ⟨G,ρ,F,h⟩:=h
 refine ⟨G,ρ,F,(Qq9 h).imp ?_⟩
 rintro r ρ1 ⟨b,rfl,k⟩ v H1 G1 F1 r1
 exact ⟨b,r1.bl,k H1 G1 F1⟩
theorem Q45 (ha:QE X a (tE p a')):QE X (.UnaryOp .Not a pos) (tE p (.not a')) :=
 (Qaa6 ha).weak fun σ H Q zz1=>by
  obtain ⟨G,ρ,F,h⟩:=zz1
  unfold evE at h
  exact Qrc (Q:=fun c H1=>Q (.bl (!c)) H1) ⟨G,ρ,F,h.bind.imp fun b ρ1 k H1 G1 F1=>k _ H1 G1 F1 pvB⟩
theorem Q46 {rest:List Expr} (ha:QE X a (tE p a')) (hb:QE X (.BoolOp .And (b :: rest) pos) (tE p b')):QE X (.BoolOp .And (a :: b :: rest) pos) (tE p (.and a' b')) :=
 (Qaa8 ha hb).weak fun σ H Q zz1=>by
  obtain ⟨G,ρ,F,h⟩:=zz1
  unfold evE at h
  refine Qrc (Q:=fun c H1=>if c = true then tE p b' σ H1 Q else Q (.bl false) H1) ⟨G,ρ,F,h.bind.imp fun c ρ1 k H1 G1 F1=>?_⟩
  cases c with
  | false=>exact k _ H1 G1 F1 pvB
  | true =>
   show tE p b' σ H1 Q
   refine Quw F1 (Qq9 k.bind) ?_
   rintro r ρ2 v H2 G2 ⟨d,rfl,k2⟩ F2 F2' r2
   exact k2 v H2 G2 F2 r2
theorem Q47 {op} (ha:QE X a (tE p a')):QE X (.BoolOp op [a] pos) (tE p a'):=Qaa7 ha
theorem Qab7 (ha:QE X e (tE p e')) (he:∀ whole,isTrue e X.env whole = (do let v ← whole; standAt e.pos; holding [v] (truthy v))):QT X e (tT p e'):=(Q7n ha he).weak fun σ H Q h=>Qrc h
theorem Qgn (ha:QT X a (tT p a')):QT X (.UnaryOp .Not a pos) (tT p (.not a')) :=
 (Q7o ha).weak fun σ H Q zz1=>by
  obtain ⟨G,ρ,F,h⟩:=zz1
  unfold evE at h
  refine ⟨G,ρ,F,?_⟩
  cases e:Qaa (evE p.cf a' ρ) with
  | ok b ρ1=>rw [e] at h; exact h
  | xn x ρ1=>rw [e] at h; exact h
  | no=>rw [e] at h; exact h
theorem Qab8 {rest:List Expr} (ha:QT X a (tT p a')) (hb:QW X (.BoolOp .And (b :: rest) pos) (tT p b')):QW X (.BoolOp .And (a :: b :: rest) pos) (tT p (.and a' b')) :=
 (Q7q ha hb).weak fun σ H Q zz1=>by
  obtain ⟨G,ρ,F,h⟩:=zz1
  unfold evE at h
  have h2:Fin p (Qap H G σ ρ) σ (Qaa (evE p.cf a' ρ)) fun c ρ1=>Fin p (Qap H G σ ρ) σ (if c then Qaa (evE p.cf b' ρ1) else .ok false ρ1) fun b ρ1=>∀ H1 G1,FI (Qap H G σ ρ) H1 G1 σ ρ1 → Q b H1:=by
   cases e:Qaa (evE p.cf a' ρ) with
   | ok b ρ1 =>
    rw [e] at h
    cases b with
    | false=>exact h
    | true =>
     show Fin _ _ _ (Qaa (evE p.cf b' ρ1)) _
     cases e2:Qaa (evE p.cf b' ρ1) with
     | ok b ρ2=>simp only [Out.bind,if_true,e2] at h; exact h
     | xn x ρ2=>simp only [Out.bind,if_true,e2] at h; exact h
     | no=>simp only [Out.bind,if_true,e2] at h; exact h
   | xn x ρ1=>rw [e] at h; exact h
   | no=>rw [e] at h; exact h
  refine ⟨G,ρ,F,h2.imp fun c ρ1 k H1 G1 F1=>?_⟩
  cases c with
  | false=>exact k H1 G1 F1
  | true=>exact Qyy F1 k fun b ρ2 H2 G2 k2 F2 _=>k2 H2 G2 F2
theorem Qkt {rest:List Expr} (ha:QT X a (tT p a')) (hb:QW X (.BoolOp .Or (b :: rest) pos) (tT p b')):QW X (.BoolOp .Or (a :: b :: rest) pos) (tT p (.or a' b')) :=
 (Qaba ha hb).weak fun σ H Q zz1=>by
  obtain ⟨G,ρ,F,h⟩:=zz1
  unfold evE at h
  have h2:Fin p (Qap H G σ ρ) σ (Qaa (evE p.cf a' ρ)) fun c ρ1=>Fin p (Qap H G σ ρ) σ (if c then .ok true ρ1 else Qaa (evE p.cf b' ρ1)) fun b ρ1=>∀ H1 G1,FI (Qap H G σ ρ) H1 G1 σ ρ1 → Q b H1:=by
   cases e:Qaa (evE p.cf a' ρ) with
   | ok b ρ1 =>
    rw [e] at h
    cases b with
    | true=>exact h
    | false =>
     show Fin _ _ _ (Qaa (evE p.cf b' ρ1)) _
     cases e2:Qaa (evE p.cf b' ρ1) with
     | ok b ρ2=>simp only [Out.bind,e2] at h; exact h
     | xn x ρ2=>simp only [Out.bind,e2] at h; exact h
     | no=>simp only [Out.bind,e2] at h; exact h
   | xn x ρ1=>rw [e] at h; exact h
   | no=>rw [e] at h; exact h
  refine ⟨G,ρ,F,h2.imp fun c ρ1 k H1 G1 F1=>?_⟩
  cases c with
  | true=>exact k H1 G1 F1
  | false=>exact Qyy F1 k fun b ρ2 H2 G2 k2 F2 _=>k2 H2 G2 F2
theorem Qjc {op} (ha:QT X a (tT p a')):QW X (.BoolOp op [a] pos) (tT p a'):=by
 cases op with
 | And=>exact Q14 ha
 | Or=>exact Q7p ha
theorem t_w (h:QW X e (tT p e')):QT X e (tT p e'):=q_wt h
end
section
variable {X:Cx} {p:Pr} {e a b:Expr} {es:List Expr} {e' a' b' c':E} {es':Es} {pos p1 p2 p3:Pos} {x:Str}
noncomputable def Oc2 (r:R2) (f:T → T → Option Bool):Prop:=∀ (H:Hp) (G:Addr → Prop) (x y:V) (t u:T) (k:Bool) (Q:VK),Rdb H G x t → Rdb H G y u → f t u = some k → Q (.bl k) H → r x y H Q
theorem Qy0 {r:R2} {o:COp} (hs:Oc2 r (opC o)) {σ:St} {H:Hp} {Q:VK} (h:tE p (.cmp o a' b') σ H Q):tOp r (tE p a') (tE p b') σ H Q:=by
 obtain ⟨G,ρ,F,h⟩:=h
 unfold evE at h
 refine tE2 F h fun ra rb ρ2 x y H2 G2 F2 r1 r2 h2=>?_
 obtain ⟨t,u,c1,c2,h3⟩:=Qyz h2
 cases e:opC o t u with
 | none=>rw [e] at h3; exact False.elim h3
 | some k =>
  rw [e] at h3
  exact hs H2 G2 x y t u k Q (r1.rdb F2 c1) (r2.rdb F2 c2) e (h3 _ H2 G2 F2 pvB)
theorem Quz {op:CmpOp} {r:R2} {o:COp} (ho:QOp X (compareOp op) r) (hs:Oc2 r (opC o)) (ha:QE X a (tE p a')) (hb:QE X b (tE p b')) (hm:behindInMarks op b = false):QE X (.Compare a [op] [b] pos) (tE p (.cmp o a' b')) :=
 (Qaa9 ho ha hb hm).weak fun σ H Q h=>Qy0 hs h
theorem Qn6 {op:CmpOp} {r:R2} {o:COp} (ho:QOp X (compareOp op) r) (hs:Oc2 r (opC o)) (ha:QE X a (tE p a')) (hb:QE X b (tE p b')) (hm:behindInMarks op b = false):QT X (.Compare a [op] [b] pos) (tT p (.cmp o a' b')) :=
 (Qyc ho ha hb hm).weak fun σ H Q h=>Qy0 hs (Qrc h)
noncomputable def vOf:T → V
 | .non=>.non | .bl b=>.bl b | .int i=>.int i | .str x=>.str x | _=>.non
theorem Rdb.vOf {H:Hp} {G:Addr → Prop} {v:V} {t:T} (h:Rdb H G v t) (e:Qeh t = true):v = vOf t:=by
 cases t with
 | non=>exact h.non
 | bl b=>exact h.bl
 | int i=>exact h.int
 | str x=>exact h.str
 | tup ts=>cases e
 | lst ts=>cases e
 | dct ks ts=>cases e
 | clo ks ts=>cases e
 | dtt ks ts=>cases e
theorem Qrd {t u:T} {k:Bool} (e:eqO t u = some k) (h1:Qeh t = true) (h2:Qeh u = true):Q6t (vOf t) (vOf u) = true ∧ decide (vOf t = vOf u) = k:=by
 cases t <;> first | (cases h1; done) | skip
 all_goals (cases u <;> first | (cases h2; done) | skip)
 all_goals (first | (cases e; done) | skip)
 all_goals (have e':=Option.some.inj e; subst e'; refine ⟨rfl,?_⟩; simp [vOf])
theorem Qre {t u:T} {k:Bool} (e:eqO t u = some k):(Qeh t = true ∧ Qeh u = true) ∨ (Qi 50 t = true ∧ Qi 50 u = true ∧ ((∃ ts us,t = .tup ts ∧ u = .tup us) ∨ ∃ ts us,t = .lst ts ∧ u = .lst us) ∧ k = eqT t u) ∨ (Qwk t u = true ∧ k = false):=by
 have nn:∀ {t u:T},eqN t u = some k → (Qeh t = true ∧ Qeh u = true) ∨ (Qwk t u = true ∧ k = false):=fun {t u} e=>by
  unfold eqN at e
  by_cases z:(Qeh t && Qeh u) = true
  ·exact .inl ((Bool.and_eq_true _ _).mp z)
  ·rw [if_neg z] at e
   by_cases y:Qwk t u = true
   ·rw [if_pos y] at e
    exact .inr ⟨y,(Option.some.inj e).symm⟩
   ·rw [if_neg y] at e; cases e
 cases t with
 | tup ts =>
  cases u with
  | tup us =>
   have e:(if Qi 50 (.tup ts) = true ∧ Qi 50 (.tup us) = true then some (eqT (.tup ts) (.tup us)) else none) = some k:=e
   by_cases z:Qi 50 (.tup ts) = true ∧ Qi 50 (.tup us) = true
   ·rw [if_pos z] at e
    exact .inr (.inl ⟨z.1,z.2,.inl ⟨_,_,rfl,rfl⟩,(Option.some.inj e).symm⟩)
   ·rw [if_neg z] at e; cases e
  | _=>exact (nn e).imp id .inr
 | lst ts =>
  cases u with
  | lst us =>
   have e:(if Qi 50 (.lst ts) = true ∧ Qi 50 (.lst us) = true then some (eqT (.lst ts) (.lst us)) else none) = some k:=e
   by_cases z:Qi 50 (.lst ts) = true ∧ Qi 50 (.lst us) = true
   ·rw [if_pos z] at e
    exact .inr (.inl ⟨z.1,z.2,.inr ⟨_,_,rfl,rfl⟩,(Option.some.inj e).symm⟩)
   ·rw [if_neg z] at e; cases e
  | _=>exact (nn e).imp id .inr
 | _=>exact (nn e).imp id .inr
noncomputable def rEqU:R2:=fun x y H Q=>rEq x y H Q ∨ (Q18 false x y H Q ∨ Q2a false x y H Q)
noncomputable def rNeU:R2:=fun x y H Q=>rNe x y H Q ∨ (Q18 true x y H Q ∨ Q2a true x y H Q)
theorem Q48 (hu:X.A.units + 64 < cLine):QOp X (compareOp .Eq) rEqU:=⟨o_eq.h.or ((Qabs hu).h.or (Qabu hu).h)⟩
theorem Qacb (hu:X.A.units + 64 < cLine):QOp X (compareOp .NotEq) rNeU:=⟨o_ne.h.or ((Qabt hu).h.or (Qabv hu).h)⟩
theorem Qy1:Oc2 rEqU (opC .eq):=by
 intro H G x y t u k Q hx hy e q
 have e:eqO t u = some k:=e
 rcases Qre e with ⟨h1,h2⟩ | ⟨h1,h2,h3,rfl⟩ | ⟨h1,rfl⟩
 ·obtain ⟨z1,z2⟩:=Qrd e h1 h2
  rw [hx.vOf h1,hy.vOf h2]
  exact .inl ⟨z1,by rw [z2]; exact q⟩
 ·exact .inr (.inl ⟨t,u,hx.is,hy.is,h1,h2,h3,q⟩)
 ·exact .inr (.inr ⟨t,u,hx.is,hy.is,h1,q⟩)
theorem Q8i:Oc2 rNeU (opC .ne):=by
 intro H G x y t u k Q hx hy e q
 have e:(eqO t u).map (!·) = some k:=e
 cases e0:eqO t u with
 | none=>rw [e0] at e; cases e
 | some k0 =>
  rw [e0] at e
  cases e
  rcases Qre e0 with ⟨h1,h2⟩ | ⟨h1,h2,h3,rfl⟩ | ⟨h1,rfl⟩
  ·obtain ⟨z1,z2⟩:=Qrd e0 h1 h2
   rw [hx.vOf h1,hy.vOf h2]
   exact .inl ⟨z1,by rw [z2]; exact q⟩
  ·exact .inr (.inl ⟨t,u,hx.is,hy.is,h1,h2,h3,q⟩)
  ·exact .inr (.inr ⟨t,u,hx.is,hy.is,h1,q⟩)
theorem Qls {f:Int → Int → Bool} {t u:T} {k:Bool} (e:Qwq f t u = some k):∃ i j,t = .int i ∧ u = .int j ∧ f i j = k:=by
 unfold Qwq at e
 cases h1:asI t with
 | none=>rw [h1] at e; cases e
 | some i =>
  cases h2:asI u with
  | none=>rw [h1,h2] at e; cases e
  | some j=>rw [h1,h2] at e; exact ⟨i,j,Qev h1,Qev h2,Option.some.inj e⟩
theorem Qy2:Oc2 (rI0 fun i j=>.bl (decide (i < j))) (opC .lt):=by
 intro H G x y t u k Q hx hy e q
 obtain ⟨i,j,rfl,rfl,rfl⟩:=Qls e
 obtain rfl:=hx.int
 obtain rfl:=hy.int
 exact ⟨_,_,rfl,rfl,q⟩
theorem Q8j:Oc2 (rI0 fun i j=>.bl (decide (j < i))) (opC .gt):=by
 intro H G x y t u k Q hx hy e q
 obtain ⟨i,j,rfl,rfl,rfl⟩:=Qls e
 obtain rfl:=hx.int
 obtain rfl:=hy.int
 exact ⟨_,_,rfl,rfl,q⟩
theorem Q8k:Oc2 (rI0 fun i j=>.bl (decide (j ≤ i))) (opC .ge):=by
 intro H G x y t u k Q hx hy e q
 obtain ⟨i,j,rfl,rfl,rfl⟩:=Qls e
 obtain rfl:=hx.int
 obtain rfl:=hy.int
 exact ⟨_,_,rfl,rfl,q⟩
theorem Qu0 {H:Hp} {v:V} {t:T} (h:Is H v t):decide (v = .non) = Qgl t:=by
 cases t with
 | non=>unfold Is at h; subst h; rfl
 | bl b=>unfold Is at h; subst h; rfl
 | int i=>unfold Is at h; subst h; rfl
 | str x=>unfold Is at h; subst h; rfl
 | tup ts=>obtain ⟨a,vs,rfl,_⟩:=h.tup_inv; rfl
 | lst ts=>obtain ⟨a,vs,rfl,_⟩:=h.lst_inv; rfl
 | dct ks ts=>unfold Is at h; obtain ⟨a,vs,rfl,_⟩:=h; rfl
 | clo ks ts=>unfold Is at h; obtain ⟨a,vs,l,rfl,_⟩:=h; rfl
 | dtt ks ts=>unfold Is at h; obtain ⟨_,a,vs,rfl,_⟩:=h; rfl
theorem Qu1:Oc2 rIsN (opC .isn):=by
 intro H G x y t u k Q hx hy e q
 cases u <;> first | (cases e; done) | skip
 have e:some (Qgl t) = some k:=e
 cases e
 exact ⟨hy.non,by rw [Qu0 hx.is]; exact q⟩
theorem Qy3:Oc2 Q4t (opC .isnn):=by
 intro H G x y t u k Q hx hy e q
 cases u <;> first | (cases e; done) | skip
 have e:some (!Qgl t) = some k:=e
 cases e
 exact ⟨hy.non,by rw [Qu0 hx.is]; exact q⟩
theorem Qy4 {n:String} (h:Qlp n = true):n ∈ ["int","bool","tuple","list","dict","str"]:=by
 unfold Qlp at h
 simp only [Bool.or_eq_true,beq_iff_eq] at h
 simp only [List.mem_cons,List.not_mem_nil,or_false]
 rcases h with ((((h | h) | h) | h) | h) | h <;> subst h <;> simp
theorem Qacc {n:String} {tn:Expr} (hm:X.mg "isinstance" = none) (hv:bootBuiltins "isinstance" = some (.builtin "isinstance")) (ha:QE X a (tE p a')) (ht:QE X tn (tC (.ty n))) (hg:Gl X "isinstance") (h1:Qr a = true) (h2:Qr tn = true):QE X (.Call (.Name "isinstance" p1) [a,tn] [] pos) (tE p (.isI a' n)) :=
 (Q7r Q7w hm hv (Qbv ha (Qbv ht Qeg h2) h1) hg (by decide) (by decide) h1 (by rw [Qa5 h2]; rfl)).weak fun σ H Q zz1=>by
  obtain ⟨G,ρ,F,h⟩:=zz1
  unfold evE at h
  refine ⟨G,ρ,F,h.bind.imp fun r ρ1 h1 v H1 G1 F1 r1=>?_⟩
  cases e:cont ρ1 r with
  | none=>rw [e] at h1; exact False.elim h1
  | some t =>
   rw [e] at h1
   by_cases z:(Qlp n && !Qid t) = true
   ·simp only [if_pos z] at h1
    rw [Bool.and_eq_true,Bool.not_eq_true'] at z
    exact ⟨v,n,t,rfl,(r1.rdb F1 e).is,z.2,Qy4 z.1,h1 _ H1 G1 F1 pvB⟩
   ·simp only [if_neg z] at h1
    exact False.elim h1
inductive Rdbs (H:Hp) (G:Addr → Prop):List V → List T → Prop where
 | nil:Rdbs H G [] []
 | cons {v t vs ts}:Rdb H G v t → Rdbs H G vs ts → Rdbs H G (v :: vs) (t :: ts)
theorem PVRs.rdbs {B:Bs} {H0 H:Hp} {G:Addr → Prop} {σ:St} {ρ:En} {vs:List V} {rs:List PV} (h:PVRs H0 H G σ ρ vs rs) (F:FI B H G σ ρ):∀ {ts:List T},Qar ρ rs = some ts → Rdbs H G vs ts:=by
 induction h with
 | nil=>intro ts e; cases e; exact .nil
 | cons a _ ih =>
  intro ts e
  rename_i v r vs rs _
  unfold Qar at e
  cases h1:cont ρ r with
  | none=>rw [h1] at e; cases e
  | some t =>
   cases h2:Qar ρ rs with
   | none=>rw [h1,h2] at e; cases e
   | some us =>
    rw [h1,h2] at e
    cases e
    exact .cons (a.rdb F h1) (ih h2)
noncomputable def Ob (r:List V → Hp → VK → Prop) (b:Bi):Prop:=∀ (B:Bs) (H:Hp) (G:Addr → Prop) (σ:St) (ρ:En) (vs:List V) (ts:List T) (w:PV) (Q:VK),FI B H G σ ρ → Rdbs H G vs ts → Qjy b ts = some w → (∀ v H1 G1,FI B H1 G1 σ ρ → PVR B.H H1 G1 σ ρ v w → Q v H1) → r vs H Q
theorem Q49 {r:List V → Hp → VK → Prop} {b:Bi} (hs:Ob r b) {σ:St} {H:Hp} {Q:VK} (h:tE p (.bi b es') σ H Q):tCB r (tA p es') σ H Q:=by
 obtain ⟨G,ρ,F,h⟩:=h
 unfold evE at h
 refine ⟨G,ρ,F,h.bind.imp fun rs ρ1 h1 vs H1 G1 F1 r1=>?_⟩
 cases e:Qar ρ1 rs with
 | none=>rw [e] at h1; exact False.elim h1
 | some ts =>
  rw [e] at h1
  obtain ⟨w,ew,k⟩:=Qo1 h1
  exact hs _ H1 G1 σ ρ1 vs ts w Q F1 (r1.rdbs F1 e) ew fun v H2 G2 F2 r2=>k v H2 G2 F2 r2
theorem Rdbs.one {H:Hp} {G:Addr → Prop} {vs:List V} {t:T} (h:Rdbs H G vs [t]):∃ v,vs = [v] ∧ Rdb H G v t:=by
 cases h with
 | cons a b=>cases b; exact ⟨_,rfl,a⟩
theorem Rdbs.two {H:Hp} {G:Addr → Prop} {vs:List V} {t u:T} (h:Rdbs H G vs [t,u]):∃ v w,vs = [v,w] ∧ Rdb H G v t ∧ Rdb H G w u:=by
 cases h with
 | cons a b =>
  cases b with
  | cons c d=>cases d; exact ⟨_,_,rfl,a,c⟩
theorem Qjd:∀ {ts:List T} {is:List Int},Qg1 ts = some is → ts = is.map T.int
 | [],is,e=>by cases e; rfl
 | .int i :: ts,is,e=>by
  unfold Qg1 at e
  cases h:Qg1 ts with
  | none=>rw [h] at e; cases e
  | some js=>rw [h] at e; cases e; rw [Qjd h]; rfl
 | .non :: _,_,e=>by cases e
 | .bl _ :: _,_,e=>by cases e
 | .str _ :: _,_,e=>by cases e
 | .tup _ :: _,_,e=>by cases e
 | .lst _ :: _,_,e=>by cases e
 | .dct _ _ :: _,_,e=>by cases e
 | .clo _ _ :: _,_,e=>by cases e
 | .dtt _ _ :: _,_,e=>by cases e
theorem Qrf {D:Hp}:∀ {ts:List T} {bs:List Bool} {vs:List V},Qkr ts = some bs → IsL D vs ts → vs.all Qqy = true ∧ vs.all Qqx = bs.all id ∧ vs.any Qqx = bs.any id
 | [],bs,vs,e,r=>by cases e; rw [r.nil_inv]; exact ⟨rfl,rfl,rfl⟩
 | t :: ts,bs,vs,e,r=>by
  obtain ⟨v,w,rfl,a,q⟩:=r.cons_inv
  unfold Qkr at e
  cases h1:truT t with
  | none=>rw [h1] at e; cases e
  | some b =>
   cases h2:Qkr ts with
   | none=>rw [h1,h2] at e; cases e
   | some cs =>
    rw [h1,h2] at e
    cases e
    obtain ⟨q1,q2,q3⟩:=Qrf h2 q
    have hv:Qqy v = true ∧ Qqx v = b:=by
     cases t <;> first | (cases h1; done) | skip
     ·unfold Is at a; subst a; cases h1; exact ⟨rfl,rfl⟩
     ·obtain rfl:=a.int_inv; cases h1
      refine ⟨rfl,?_⟩
      rename_i i
      show (i != 0) = decide (i ≠ 0)
      by_cases z:i = 0 <;> simp [z]
    rw [List.all_cons,List.all_cons,List.any_cons,List.all_cons,List.any_cons,q1,q2,q3,hv.1,hv.2]
    exact ⟨rfl,rfl,rfl⟩
theorem Qbl (K:PySem.W.Frag):Ob (Q7j K) .len:=by
 intro B H G σ ρ vs ts w Q F r e q
 match ts,e,r with
 | [.lst a],e,r =>
  cases e
  obtain ⟨v,rfl,h⟩:=r.one
  obtain ⟨l,ws,rfl,z,el,rl⟩:=h.lst
  exact ⟨l,ws,rfl,.inl (SqL.of el),by rw [rl.length]; exact q _ H G F pvI⟩
 | [.tup a],e,r =>
  cases e
  obtain ⟨v,rfl,h⟩:=r.one
  obtain ⟨l,ws,rfl,el,rl⟩:=h.tup.tup_inv
  exact ⟨l,ws,rfl,.inr (SqT.of (Qs el).2),by rw [rl.length]; exact q _ H G F pvI⟩
theorem Q8l:Ob rAbs .abs:=by
 intro B H G σ ρ vs ts w Q F r e q
 match ts,e,r with
 | [.int i],e,r =>
  cases e
  obtain ⟨v,rfl,h⟩:=r.one
  obtain rfl:=h.int
  exact ⟨i,rfl,q _ H G F pvI⟩
theorem Qo2 (K:PySem.W.Frag):Ob (Q7k K) .all:=by
 intro B H G σ ρ vs ts w Q F r e q
 match ts,e,r with
 | [.lst a],e,r =>
  obtain ⟨v,rfl,h⟩:=r.one
  obtain ⟨l,ws,rfl,z,el,rl⟩:=h.lst
  have e:(Qkr a).map (fun bs=>PV.fz (.bl (bs.all id))) = some w:=e
  cases h1:Qkr a with
  | none=>rw [h1] at e; cases e
  | some bs =>
   rw [h1] at e
   cases e
   obtain ⟨q1,q2,q3⟩:=Qrf h1 rl
   exact ⟨l,ws,rfl,SqL.of el,q1,by rw [q2]; exact q _ H G F pvB⟩
theorem Qy5 (K:PySem.W.Frag):Ob (Qya K) .sum:=by
 intro B H G σ ρ vs ts w Q F r e q
 match ts,e,r with
 | [.lst a],e,r =>
  obtain ⟨v,rfl,h⟩:=r.one
  obtain ⟨l,ws,rfl,z,el,rl⟩:=h.lst
  have e:(Qg1 a).map (fun is=>PV.fz (.int is.sum)) = some w:=e
  cases h1:Qg1 a with
  | none=>rw [h1] at e; cases e
  | some is =>
   rw [h1] at e
   cases e
   rw [Qjd h1] at rl
   rw [rl.ints_inv] at el
   exact ⟨l,is,rfl,SqL.of el,q _ H G F pvI⟩
theorem Qu2:∀ (xs:List Int) (m:Int),m ≤ Qlo m xs ∧ (∀ a ∈ xs,a ≤ Qlo m xs) ∧ (Qlo m xs = m ∨ Qlo m xs ∈ xs)
 | [],m=>⟨Int.le_refl _,fun _ h=>(nomatch h),.inl rfl⟩
 | x :: xs,m=>by
  unfold Qlo
  obtain ⟨h1,h2,h3⟩:=Qu2 xs (if m < x then x else m)
  have k1:m ≤ (if m < x then x else m):=by split <;> omega
  have k2:x ≤ (if m < x then x else m):=by split <;> omega
  refine ⟨by omega,fun a ha=>?_,?_⟩
  ·rcases List.mem_cons.mp ha with rfl | ha
   ·omega
   ·exact h2 a ha
  ·rcases h3 with h3 | h3
   ·rw [h3]
    split
    ·exact .inr List.mem_cons_self
    ·exact .inl rfl
   ·exact .inr (List.mem_cons_of_mem _ h3)
noncomputable def Q5a (K:PySem.W.Frag):List V → Hp → VK → Prop:=fun xs H Q=>Q4w xs H Q ∨ Qx9 K xs H Q
theorem Q8m (K:PySem.W.Frag) (hK:X.K = K) (hc:X.calm = true):QCl X (.builtin "max") (Q5a K):=⟨(Q7y hc).h.or (Q7x K hK hc).h⟩
theorem Q8n (K:PySem.W.Frag):Ob (Q5a K) .max:=by
 intro B H G σ ρ vs ts w Q F r e q
 match ts,e,r with
 | [.int i,.int j],e,r =>
  cases e
  obtain ⟨v,u,rfl,h1,h2⟩:=r.two
  obtain rfl:=h1.int
  obtain rfl:=h2.int
  exact .inl ⟨i,j,rfl,q _ H G F pvI⟩
 | [.lst a],e,r =>
  obtain ⟨v,rfl,h⟩:=r.one
  obtain ⟨l,ws,rfl,z,el,rl⟩:=h.lst
  have e:(match Qg1 a with | some (x :: xs)=>some (PV.fz (.int (Qlo x xs))) | _=>none) = some w:=e
  cases h1:Qg1 a with
  | none=>rw [h1] at e; cases e
  | some is =>
   rw [h1] at e
   cases is with
   | nil=>cases e
   | cons i is =>
    cases e
    rw [Qjd h1] at rl
    rw [rl.ints_inv] at el
    obtain ⟨k1,k2,k3⟩:=Qu2 is i
    refine .inr ⟨l,i :: is,rfl,SqL.of el,by simp,fun M hM hle=>?_⟩
    have e:M = Qlo i is:=by
     have a1:=hle (Qlo i is) (k3.elim (fun k3=>by rw [k3]; exact List.mem_cons_self) fun k3=>List.mem_cons_of_mem _ k3)
     have a2:M ≤ Qlo i is:=by
      rcases List.mem_cons.mp hM with rfl | hM
      ·exact k1
      ·exact k2 M hM
     omega
    rw [e]
    exact q _ H G F pvI
theorem Q8o:Ob rDvm .dvm:=by
 intro B H G σ ρ vs ts w Q F r e q
 match ts,e,r with
 | [.int i,.int j],e,r =>
  have e:(if 0 < j ∧ j.natAbs < 2 ^ 64 then some (PV.fz (.tup [.int (i / j),.int (i % j)])) else none) = some w:=e
  by_cases z:0 < j ∧ j.natAbs < 2 ^ 64
  ·rw [if_pos z] at e; cases e
   obtain ⟨v,u,rfl,h1,h2⟩:=r.two
   obtain rfl:=h1.int
   obtain rfl:=h2.int
   refine ⟨i,j,rfl,⟨z.1,by omega⟩,fun l hl=>q _ _ G (F.grow (Same.upd hl)) ?_⟩
   exact Qd5 (F.prv.mono (Same.upd hl)) Qo (.cons Is.int (.one Is.int)) (by show 2 ≤ 100000; decide)
  ·rw [if_neg z] at e; cases e
theorem Qy6:Ob Q4x .int:=by
 intro B H G σ ρ vs ts w Q F r e q
 match ts,e,r with
 | [.int i],e,r =>
  cases e
  obtain ⟨v,rfl,h⟩:=r.one
  obtain rfl:=h.int
  exact .inl ⟨i,rfl,q _ H G F pvI⟩
 | [.bl b],e,r =>
  cases e
  obtain ⟨v,rfl,h⟩:=r.one
  obtain rfl:=h.bl
  exact .inr ⟨b,rfl,q _ H G F pvI⟩
theorem Qdv (K:PySem.W.Frag):Ob (Qs7 K) .tup:=by
 intro B H G σ ρ vs ts w Q F r e q
 match ts,e,r with
 | [.lst a],e,r =>
  cases e
  obtain ⟨v,rfl,h⟩:=r.one
  obtain ⟨l,ws,rfl,z,el,rl⟩:=h.lst
  exact ⟨l,ws,rfl,.inl ⟨SqL.of el,fun l2 hl=>q _ _ G (F.grow (Same.upd hl)) (Qd5 (F.prv.mono (Same.upd hl)) Qo (rl.mono (Qaq (Same.upd hl))) z)⟩⟩
 | [.tup a],e,r =>
  cases e
  obtain ⟨v,rfl,h⟩:=r.one
  have h0:=h.tup
  obtain ⟨l,ws,rfl,el,rl⟩:=h.tup.tup_inv
  exact ⟨l,ws,rfl,.inr ⟨SqT.of (Qs el).2,q _ H G F h0⟩⟩
theorem Qg3:∀ {es:List Expr} {env:Env} {pos:Pos},es.all Qr = true → (backTo pos (starEach es env)).any (·.1) = false
 | [],_,_,_=>rfl
 | e :: es,env,pos,h=>by
  rw [List.all_cons,Bool.and_eq_true] at h
  rw [Qa5 h.1]
  have q:=Qg3 (env:=env) (pos:=pos) h.2
  unfold backTo at q ⊢
  rw [List.map_cons,List.any_cons,q]
  rfl
theorem s_bi {id:String} {r:List V → Hp → VK → Prop} {b:Bi} (hc:QCl X (.builtin id) r) (hs:Ob r b) (hm:X.mg x = none) (hv:bootBuiltins x = some (.builtin id)) (ha:QA X (e :: es) (tA p es')) (hg:Gl X x) (hn:x ≠ "__name__") (hdb:(x == ("__debug__" : Str)) = false) (h1:Qr e = true) (h2:es.all Qr = true) :
  QE X (.Call (.Name x p1) (e :: es) [] pos) (tE p (.bi b es')):=(Q7r hc hm hv ha hg hn hdb h1 (Qg3 h2)).weak fun σ H Q h=>Q49 hs h
theorem Qacd {T:String} {r:List V → Hp → VK → Prop} {b:Bi} (hc:QCl X (.type T) r) (hs:Ob r b) (hm:X.mg x = none) (hv:bootBuiltins x = some (.type T)) (ha:QA X (e :: es) (tA p es')) (hg:Gl X x) (hn:x ≠ "__name__") (hdb:(x == ("__debug__" : Str)) = false) (h1:Qr e = true) (h2:es.all Qr = true) :
  QE X (.Call (.Name x p1) (e :: es) [] pos) (tE p (.bi b es')):=(Qabc hc hm hv ha hg hn hdb h1 (Qg3 h2)).weak fun σ H Q h=>Q49 hs h
theorem IsL.atI {D:Hp} {vs:List V} {ts:List T} {i:Int} {t:T} (r:IsL D vs ts) (h:atI ts i = some t):∃ v,L2.atI vs i = some v ∧ Is D v t:=by
 unfold L2.atI at h ⊢
 rw [r.length]
 cases e:ixN ts.length i with
 | none=>rw [e] at h; cases h
 | some j =>
  rw [e] at h
  exact r.getT h
theorem s_ix (K:PySem.W.Frag) (hK:X.K = K) (ha:QE X a (tE p a')) (hb:QE X b (tE p b')) (hs:Qk1 b):QE X (.Subscript a b pos) (tE p (.ix a' b')) :=
 (q_ix (o_ix K hK) ha hb hs).weak fun σ H Q zz1=>by
  obtain ⟨G,ρ,F,h⟩:=zz1
  unfold evE at h
  refine tE2 F h fun ra rb ρ2 x y H2 G2 F2 r1 r2 h2=>?_
  obtain ⟨t,u,c1,c2,h3⟩:=Qyz h2
  have hx:=r1.rdb F2 c1
  have hy:=r2.rdb F2 c2
  cases e:Qyw t u with
  | none=>rw [e] at h3; exact False.elim h3
  | some w =>
   rw [e] at h3
   cases t <;> first | (cases e; done) | skip
   all_goals (cases u <;> first | (cases e; done) | skip)
   ·obtain rfl:=hy.int
    obtain ⟨l,ws,rfl,el,rl⟩:=hx.tup.tup_inv
    obtain ⟨v,ev,iv⟩:=rl.atI e
    exact .inr (.inl ⟨l,ws,_,v,rfl,rfl,SqT.of (Qs el).2,ev,h3 v H2 G2 F2 iv⟩)
   ·obtain rfl:=hy.int
    obtain ⟨l,ws,rfl,z,el,rl⟩:=hx.lst
    obtain ⟨v,ev,iv⟩:=rl.atI e
    exact .inl ⟨l,ws,_,v,rfl,rfl,SqL.of el,ev,h3 v H2 G2 F2 iv⟩
noncomputable def tO (p:Pr) (es:Es):TO:=fun σ H Q=>∃ G ρ,FI (Qap H G σ ρ) H G σ ρ ∧ Fin p (Qap H G σ ρ) σ (evA p.cf es ρ) fun rs ρ1=>∃ i,Qoy rs = some i ∧ ∀ H1 G1,FI (Qap H G σ ρ) H1 G1 σ ρ1 → Q i H1
theorem QO.weak {X:Cx} {e:Option Expr} {t t':TO} (h:QO X e t) (q:∀ σ H Q,t' σ H Q → t σ H Q):QO X e t':=⟨fun pins s σ H Q I z=>h.h pins s σ H Q I (q _ _ _ z)⟩
theorem Q2l:QO X none (tO p .nil):=q_no.weak fun σ H Q zz1=>by
 obtain ⟨G,ρ,F,h⟩:=zz1
 unfold evA at h
 obtain ⟨i,e,k⟩:=h
 cases e
 exact k H G F
theorem Q2m {r:PV} {i:Option Int} (h:Qoy [r] = some i):∃ j,r = .fz (.int j) ∧ i = some j:=by
 cases r with
 | fz t=>cases t <;> first | (cases h; done) | exact ⟨_,rfl,(Option.some.inj h).symm⟩
 | ow t=>cases h
 | sl i=>cases h
theorem Q2n (ha:QE X a (tE p a')):QO X (some a) (tO p (.cons a' .nil)):=(Qs9 ha).weak fun σ H Q zz1=>by
 obtain ⟨G,ρ,F,h⟩:=zz1
 unfold evA at h
 refine ⟨G,ρ,F,h.bind.imp fun r ρ1 h1 v H1 G1 F1 r1=>?_⟩
 have h1:=h1.bind
 unfold evA at h1
 obtain ⟨i,e,k⟩:=h1
 obtain ⟨j,rfl,rfl⟩:=Q2m e
 obtain rfl:=r1.is.int_inv
 exact ⟨j,rfl,k H1 G1 F1⟩
theorem Qace (K:PySem.W.Frag) (hK:X.K = K) {lo hi:Option Expr} {lo' hi':Es} (ha:QE X a (tE p a')) (hl:QO X lo (tO p lo')) (hh:QO X hi (tO p hi')):QE X (.Subscript a (.Slice lo hi none p2) pos) (tE p (.slc a' lo' hi')) :=
 (q_sl (o_sl K hK) ha hl hh).weak fun σ H Q zz1=>by
  obtain ⟨G,ρ,F,h⟩:=zz1
  unfold evE at h
  refine ⟨G,ρ,F,h.bind.imp fun ra ρ1 h1 v H1 G1 F1 r1=>?_⟩
  refine ⟨G1,ρ1,F1.self,h1.bind.rebase F1 fun rl ρ2 h2=>?_⟩
  cases el:Qoy rl with
  | none=>rw [el] at h2; exact False.elim h2
  | some l =>
   rw [el] at h2
   refine ⟨l,rfl,fun H2 G2 F2=>⟨G2,ρ2,F2.self,h2.bind.rebase (F1.trans F2) fun rh ρ3 h3=>?_⟩⟩
   cases eh:Qoy rh with
   | none=>rw [eh] at h3; exact False.elim h3
   | some u =>
    rw [eh] at h3
    refine ⟨u,rfl,fun H3 G3 F3=>?_⟩
    have F12:=F1.trans F2
    have F4:=F12.trans F3
    cases ec:cont ρ3 ra with
    | none=>rw [ec] at h3; exact False.elim h3
    | some t =>
     rw [ec] at h3
     obtain ⟨w,ew,k⟩:=Qo1 h3
     have hx:=((r1.step F1 F2).step F12 F3).rdb F4 ec
     cases t <;> first | (cases ew; done) | skip
     ·cases ew
      exact Qyi F4.prv hx.tup fun y H5 s5 i5=>k y H5 G3 (F4.grow s5) i5
     ·cases ew
      rename_i ts
      obtain ⟨c,ws,rfl,z,ec,rl⟩:=hx.lst
      refine .inl ⟨c,ws,rfl,SqL.of ec,fun q hq=>?_⟩
      obtain ⟨F5,r5⟩:=Qjb F4 hq (Same.upd hq) Qo (rl.cut l u) (by have:=Qq3 ts l u; omega)
      exact k _ _ _ F5 r5
end
theorem Qfs (i:Nat):Qb [] i = .un:=rfl
theorem Qd (s:Slot) (ρ:En):Qb (s :: ρ) 0 = s:=rfl
theorem Qe (s:Slot) (ρ:En) (i:Nat):Qb (s :: ρ) (i + 1) = Qb ρ i:=by unfold Qb; rw [List.getElem?_cons_succ]
theorem Qim {ρ:En} {i j:Nat} {s:Slot}:Qb (ρ.set j s) i = if i = j ∧ j < ρ.length then s else Qb ρ i:=by
 unfold Qb
 by_cases h:i = j ∧ j < ρ.length
 ·rw [if_pos h]
  obtain ⟨rfl,hj⟩:=h
  rw [List.getElem?_set_self hj]
 ·rw [if_neg h]
  by_cases e:i = j
  ·subst e
   have hl:ρ.length ≤ i:=by
    rcases Nat.lt_or_ge i ρ.length with z | z
    ·exact absurd ⟨rfl,z⟩ h
    ·exact z
   rw [List.set_eq_of_length_le hl]
  ·rw [List.getElem?_set_ne (fun z=>e z.symm)]
theorem Qwt {ρ:En} {i:Nat} (h:Qb ρ i ≠ .un):i < ρ.length:=by
 rcases Nat.lt_or_ge i ρ.length with z | z
 ·exact z
 ·exact absurd (by unfold Qb; rw [List.getElem?_eq_none_iff.mpr z]) h
theorem Qbm (rs:List PV) (fin:List T) (i:Nat) (s:Slot):Q4 rs fin i s = s ∨ ∃ k t,Qk rs i = some k ∧ fin[k]? = some t ∧ Q4 rs fin i s = s.put t:=by
 unfold Q4
 cases h1:Qk rs i with
 | none=>exact .inl rfl
 | some k =>
  cases h2:fin[k]? with
  | none=>exact .inl (by simp only [h2])
  | some t=>exact .inr ⟨k,t,rfl,h2,by simp only [h2]⟩
theorem Qgo (rs:List PV) (fin:List T):∀ (ρ:En) (n i:Nat),Qb (Qp rs fin n ρ) i = Q4 rs fin (n + i) (Qb ρ i)
 | [],n,i=>by
  unfold Qp
  rw [Qfs]
  rcases Qbm rs fin (n + i) .un with h | ⟨k,t,_,_,h⟩
  ·exact h.symm
  ·rw [h]; rfl
 | s :: ρ,n,0=>by unfold Qp; rfl
 | s :: ρ,n,i + 1=>by
  unfold Qp
  rw [Qe,Qe,Qgo rs fin ρ (n + 1) i,show n + 1 + i = n + (i + 1) by omega]
theorem Qcr (ρ:En) (rs:List PV) (fin:List T) (i:Nat):Qb (Qa6 ρ rs fin) i = Q4 rs fin i (Qb ρ i):=by
 unfold Qa6
 rw [Qgo,Nat.zero_add]
theorem Qje (rs:List PV) (fin:List T):∀ (ρ:En) (n:Nat),(Qp rs fin n ρ).length = ρ.length
 | [],_=>rfl
 | s :: ρ,n=>by unfold Qp; rw [List.length_cons,List.length_cons,Qje rs fin ρ (n + 1)]
theorem Qjf (ρ:En) (i:Nat):Qav ρ (.sl i) = match Qb ρ i with
 | .ow t=>some (.ml t)
 | .ml t=>some (.ml t)
 | .ro t=>some (.ro t)
 | _=>none:=rfl
theorem PVRs.len {H0 H:Hp} {G:Addr → Prop} {σ:St} {ρ:En} {vs:List V} {rs:List PV} (h:PVRs H0 H G σ ρ vs rs):vs.length = rs.length:=by
 induction h with
 | nil=>rfl
 | cons _ _ ih=>rw [List.length_cons,List.length_cons,ih]
theorem PVRs.get {H0 H:Hp} {G:Addr → Prop} {σ:St} {ρ:En} {vs:List V} {rs:List PV} (h:PVRs H0 H G σ ρ vs rs):∀ {i:Nat} {v:V} {r:PV},vs[i]? = some v → rs[i]? = some r → PVR H0 H G σ ρ v r:=by
 induction h with
 | nil=>intro i v r e; simp at e
 | cons a _ ih =>
  intro i v r e1 e2
  cases i with
  | zero=>simp at e1 e2; subst e1; subst e2; exact a
  | succ i=>rw [List.getElem?_cons_succ] at e1 e2; exact ih e1 e2
theorem Qft {ρ:En}:∀ {rs:List PV} {as:List Arg},Q2 ρ rs = some as → as.length = rs.length ∧ ∀ (i:Nat) (a:Arg),as[i]? = some a → ∃ r,rs[i]? = some r ∧ Qav ρ r = some a
 | [],as,e=>by cases e; exact ⟨rfl,fun i a h=>by simp at h⟩
 | r :: rs,as,e=>by
  unfold Q2 at e
  cases h1:Qav ρ r with
  | none=>rw [h1] at e; cases e
  | some a0 =>
   cases h2:Q2 ρ rs with
   | none=>rw [h1,h2] at e; cases e
   | some as0 =>
    rw [h1,h2] at e
    cases e
    obtain ⟨q1,q2⟩:=Qft h2
    refine ⟨by rw [List.length_cons,List.length_cons,q1],fun i a h=>?_⟩
    cases i with
    | zero=>simp at h; subst h; exact ⟨r,rfl,h1⟩
    | succ i=>rw [List.getElem?_cons_succ] at h ⊢; exact q2 i a h
theorem Qlt:∀ {rs:List PV},Q0 rs = true → ∀ (i j k:Nat),rs[i]? = some (.sl k) → rs[j]? = some (.sl k) → i = j
 | [],_,i,j,k,e,_=>by simp at e
 | r :: rs,h,i,j,k,e1,e2=>by
  have tl:Q0 rs = true:=by
   cases r with
   | sl p=>unfold Q0 at h; rw [Bool.and_eq_true] at h; exact h.2
   | fz t=>exact h
   | ow t=>exact h
  have hd:∀ (m:Nat),r = PV.sl k → rs[m]? = some (PV.sl k) → False:=fun m er em=>by
   subst er
   unfold Q0 at h
   rw [Bool.and_eq_true] at h
   have q:=List.all_eq_true.mp h.1 _ (List.mem_of_getElem? em)
   simp at q
  cases i with
  | zero =>
   cases j with
   | zero=>rfl
   | succ j=>simp at e1; rw [List.getElem?_cons_succ] at e2; exact (hd j e1 e2).elim
  | succ i =>
   cases j with
   | zero=>simp at e2; rw [List.getElem?_cons_succ] at e1; exact (hd i e2 e1).elim
   | succ j =>
    rw [List.getElem?_cons_succ] at e1 e2
    rw [Qlt tl i j k e1 e2]
theorem Qd6:∀ {rs:List PV} {i k:Nat},Qk rs i = some k → rs[k]? = some (.sl i)
 | [],i,k,e=>by cases e
 | .sl j :: rs,i,k,e=>by
  unfold Qk at e
  by_cases h:j = i
  ·rw [if_pos h] at e; cases e; rw [h]; rfl
  ·rw [if_neg h] at e
   cases h2:Qk rs i with
   | none=>rw [h2] at e; cases e
   | some m=>rw [h2] at e; cases e; rw [List.getElem?_cons_succ]; exact Qd6 h2
 | .fz t :: rs,i,k,e=>by
  unfold Qk at e
  cases h2:Qk rs i with
  | none=>rw [h2] at e; cases e
  | some m=>rw [h2] at e; cases e; rw [List.getElem?_cons_succ]; exact Qd6 h2
 | .ow t :: rs,i,k,e=>by
  unfold Qk at e
  cases h2:Qk rs i with
  | none=>rw [h2] at e; cases e
  | some m=>rw [h2] at e; cases e; rw [List.getElem?_cons_succ]; exact Qd6 h2
theorem Qjg:∀ {rs:List PV} {i k:Nat},Qk rs i = none → rs[k]? ≠ some (.sl i)
 | [],i,k,_,e=>by simp at e
 | r :: rs,i,k,h,e=>by
  have tl:Qk rs i = none:=by
   cases r with
   | sl j =>
    unfold Qk at h
    by_cases z:j = i
    ·rw [if_pos z] at h; cases h
    ·rw [if_neg z] at h; simpa using h
   | fz t=>unfold Qk at h; simpa using h
   | ow t=>unfold Qk at h; simpa using h
  cases k with
  | zero =>
   simp at e
   subst e
   unfold Qk at h
   rw [if_pos rfl] at h
   cases h
  | succ k=>rw [List.getElem?_cons_succ] at e; exact Qjg tl e
theorem Qn7:∀ {vs:List V} {rs:List PV} {i:Nat} {t:T} {b:Addr},vs[i]? = some (.ref b) → rs[i]? = some (.ow t) → Qlq vs rs b
 | [],_,_,_,_,e,_=>by simp at e
 | _ :: _,[],_,_,_,_,e=>by simp at e
 | v :: vs,r :: rs,0,t,b,e1,e2=>by
  simp at e1 e2
  subst e1; subst e2
  exact .inl rfl
 | v :: vs,r :: rs,i + 1,t,b,e1,e2=>by
  rw [List.getElem?_cons_succ] at e1 e2
  have q:=Qn7 e1 e2
  cases r with
  | fz t=>exact q
  | sl j=>exact q
  | ow t=>exact .inr q
noncomputable def ArgR (H:Hp) (G:Addr → Prop) (v:V):Arg → Prop
 | .fz t=>Is (dls H G) v t
 | .ml t=>∃ a,v = .ref a ∧ G a ∧ OwnAt H G a t
 | .ro t=>∃ a,v = .ref a ∧ G a ∧ OwnAt H G a t
noncomputable def Arg.prv:Arg → Bool
 | .fz _=>false
 | _=>true
structure ArgsR (H:Hp) (G:Addr → Prop) (vs:List V) (as:List Arg):Prop where
 len:vs.length = as.length
 get:∀ (i:Nat) (v:V) (a:Arg),vs[i]? = some v → as[i]? = some a → ArgR H G v a
 apart:∀ (i j:Nat) (b:Addr) (x y:Arg),as[i]? = some x → as[j]? = some y → x.prv = true → y.prv = true → vs[i]? = some (.ref b) → vs[j]? = some (.ref b) → i = j
noncomputable def Qu3 (vs:List V) (as:List Arg) (b:Addr):Prop:=∃ (i:Nat) (t:T),as[i]? = some (.ml t) ∧ vs[i]? = some (.ref b)
structure CallP (H:Hp) (G:Addr → Prop) (vs:List V) (as:List Arg) (H':Hp) (G':Addr → Prop) (fin:List T):Prop where
 prv:Pen H' G'
 chg:∀ b o,¬ Qu3 vs as b → H b = some o → H' b = some o
 keep:∀ b o,H b = some o → ∃ o',H' b = some o'
 gg:∀ b,G b → G' b
 gn:∀ b,G' b → G b ∨ H b = none
 fin:∀ (i:Nat) (t:T) (a:Addr),as[i]? = some (.ml t) → vs[i]? = some (.ref a) → ∃ t',fin[i]? = some t' ∧ OwnAt H' G' a t'
noncomputable def RetR (H H':Hp) (G':Addr → Prop) (v:V):PV → Prop
 | .fz t=>Is (dls H' G') v t
 | .ow t=>∃ a,v = .ref a ∧ H a = none ∧ G' a ∧ OwnAt H' G' a t
 | .sl _=>False
noncomputable def FROk (mg:Str → Option Value) (H:Hp) (G:Addr → Prop) (vs:List V) (as:List Arg) (o:FR) (Q:VK) (E:XK):Prop:=match o with
 | .ok r fin=>∀ v H' G',CallP H G vs as H' G' fin → RetR H H' G' v r → Q v H'
 | .xn x fin=>∀ cls dx H' G',CallP H G vs as H' G' fin → Q8c mg H' x cls dx → E cls dx H'
 | .no=>False
noncomputable def spF (cf:CF) (mg:Str → Option Value) (f:Nat):Sp:=fun vs H Q E=>∃ G as,ArgsR H G vs as ∧ Pen H G ∧ FROk mg H G vs as (cf f as) Q E
section
variable {p:Pr} {B:Bs} {H H1 H2:Hp} {G G1 G2:Addr → Prop} {σ:St} {ρ:En} {vs:List V} {rs:List PV} {as:List Arg} {fin:List T}
theorem Qn8 {r:PV} {a:Arg} (e:Qav ρ r = some a) (h:a.prv = true):∃ i t,r = .sl i ∧ (Qb ρ i).prv = some t:=by
 cases r with
 | fz t=>cases e; cases h
 | ow t=>cases e; cases h
 | sl i =>
  rw [Qjf] at e
  cases hs:Qb ρ i with
  | un=>rw [hs] at e; cases e
  | pin _=>rw [hs] at e; cases e
  | fx _=>rw [hs] at e; cases e
  | fz t=>rw [hs] at e; cases e
  | ow t=>exact ⟨i,t,rfl,by rw [hs]; rfl⟩
  | ml t=>exact ⟨i,t,rfl,by rw [hs]; rfl⟩
  | ro t=>exact ⟨i,t,rfl,by rw [hs]; rfl⟩
theorem Qy7 {r:PV} {t:T} (e:Qav ρ r = some (.ml t)):∃ i,r = .sl i ∧ (Qb ρ i = .ow t ∨ Qb ρ i = .ml t):=by
 cases r with
 | fz t=>cases e
 | ow t=>cases e
 | sl i =>
  rw [Qjf] at e
  cases hs:Qb ρ i with
  | un=>rw [hs] at e; cases e
  | pin _=>rw [hs] at e; cases e
  | fx _=>rw [hs] at e; cases e
  | fz t=>rw [hs] at e; cases e
  | ow t=>rw [hs] at e; cases e; exact ⟨i,rfl,.inl hs⟩
  | ml t=>rw [hs] at e; cases e; exact ⟨i,rfl,.inr hs⟩
  | ro t=>rw [hs] at e; cases e
theorem Qu4 (F:FI B H G σ ρ) (r:PVRs B.H H G σ ρ vs rs) (ea:Q2 ρ rs = some as) (hb:Q0 rs = true):∃ G',FI B H G' σ ρ ∧ ArgsR H G' vs as:=by
 have F':=F.lessG (Qlq vs rs) fun b z=>r.tmp z
 obtain ⟨l1,g1⟩:=Qft ea
 refine ⟨_,F',by rw [l1]; exact r.len,fun i v a ev e=>?_,fun i j b x y ex ey px py vx vy=>?_⟩
 ·obtain ⟨q,eq,ar⟩:=g1 i a e
  have pv:=r.get ev eq
  cases q with
  | fz t=>cases ar; exact Is.mono (Qdj fun b h=>h.1) pv.is
  | ow t =>
   cases ar
   obtain ⟨c,rfl,_,_,_,ob,ec,ql⟩:=pv
   exact ql.is (by rw [Qb7 fun z=>z.2 (Qn7 ev eq)]; exact ec) (Qdj fun b h=>h.1)
  | sl k =>
   have pv:σ[k]? = some (some v):=pv
   rw [Qjf] at ar
   have sk:=F'.slot k
   cases hs:Qb ρ k with
   | un=>rw [hs] at ar; cases ar
   | pin _=>rw [hs] at ar; cases ar
   | fx _=>rw [hs] at ar; cases ar
   | fz t=>rw [hs] at ar; cases ar
   | ow t=>rw [hs] at ar sk; cases ar; obtain ⟨c,h1,h2,h3⟩:=sk; rw [pv] at h1; cases h1; exact ⟨c,rfl,h2,h3⟩
   | ml t=>rw [hs] at ar sk; cases ar; obtain ⟨c,h1,h2,h3⟩:=sk; rw [pv] at h1; cases h1; exact ⟨c,rfl,h2,h3⟩
   | ro t=>rw [hs] at ar sk; cases ar; obtain ⟨c,h1,h2,h3⟩:=sk; rw [pv] at h1; cases h1; exact ⟨c,rfl,h2,h3⟩
 ·obtain ⟨q1,e1,a1⟩:=g1 i x ex
  obtain ⟨q2,e2,a2⟩:=g1 j y ey
  obtain ⟨k1,t1,rfl,s1⟩:=Qn8 a1 px
  obtain ⟨k2,t2,rfl,s2⟩:=Qn8 a2 py
  have p1:σ[k1]? = some (some (.ref b)):=r.get vx e1
  have p2:σ[k2]? = some (some (.ref b)):=r.get vy e2
  have ek:=F.apart k1 k2 b ⟨⟨t1,s1⟩,p1⟩ ⟨⟨t2,s2⟩,p2⟩
  subst ek
  exact Qlt hb i j k1 e1 e2
theorem Qo3 {s:Slot} {t u:T} (h:(s.put t).prv = some u):∃ w,s.prv = some w:=by
 cases s <;> first | exact ⟨_,rfl⟩ | cases h
theorem Qjh {i:Nat} {u:T} (h:(Qb (Qa6 ρ rs fin) i).prv = some u):∃ w,(Qb ρ i).prv = some w:=by
 rw [Qcr] at h
 rcases Qbm rs fin i (Qb ρ i) with e | ⟨k,t,_,_,e⟩
 ·rw [e] at h; exact ⟨u,h⟩
 ·rw [e] at h; exact Qo3 h
theorem Q2o {i:Nat} {u:T} (h:Qb (Qa6 ρ rs fin) i = .ow u):∃ w,Qb ρ i = .ow w:=by
 rw [Qcr] at h
 rcases Qbm rs fin i (Qb ρ i) with e | ⟨k,t,_,_,e⟩
 ·rw [e] at h; exact ⟨u,h⟩
 ·rw [e] at h
  cases hs:Qb ρ i <;> rw [hs] at h <;> first | exact ⟨_,rfl⟩ | cases h
theorem Qu5 {i:Nat} {u:T} (h:Qb (Qa6 ρ rs fin) i = .ml u):∃ w,Qb ρ i = .ml w:=by
 rw [Qcr] at h
 rcases Qbm rs fin i (Qb ρ i) with e | ⟨k,t,_,_,e⟩
 ·rw [e] at h; exact ⟨u,h⟩
 ·rw [e] at h
  cases hs:Qb ρ i <;> rw [hs] at h <;> first | exact ⟨_,rfl⟩ | cases h
theorem Q2p {i:Nat} {u:T} (h:Qb (Qa6 ρ rs fin) i = .ro u):∃ w,Qb ρ i = .ro w:=by
 rw [Qcr] at h
 rcases Qbm rs fin i (Qb ρ i) with e | ⟨k,t,_,_,e⟩
 ·rw [e] at h; exact ⟨u,h⟩
 ·rw [e] at h
  cases hs:Qb ρ i <;> rw [hs] at h <;> first | exact ⟨_,rfl⟩ | cases h
theorem Q2q {i:Nat} {u:T} (h:Qb (Qa6 ρ rs fin) i = .fx u):∃ w,Qb ρ i = .fx w:=by
 rw [Qcr] at h
 rcases Qbm rs fin i (Qb ρ i) with e | ⟨k,t,_,_,e⟩
 ·rw [e] at h; exact ⟨u,h⟩
 ·rw [e] at h
  cases hs:Qb ρ i <;> rw [hs] at h <;> first | exact ⟨_,rfl⟩ | cases h
theorem FI.called (F:FI B H G σ ρ) (A:ArgsR H G vs as) (hv:∀ (k i:Nat) (v:V),rs[k]? = some (.sl i) → vs[k]? = some v → σ[i]? = some (some v)) (hl:vs.length = rs.length) (ea:Q2 ρ rs = some as) (hb:Q0 rs = true) (C:CallP H G vs as H1 G1 fin):FI B H1 G1 σ (Qa6 ρ rs fin):=by
 have ml:∀ b,Qu3 vs as b → ∃ (k i:Nat) (t:T),rs[k]? = some (.sl i) ∧ as[k]? = some (.ml t) ∧ vs[k]? = some (.ref b) ∧ (Qb ρ i = .ow t ∨ Qb ρ i = .ml t) ∧ σ[i]? = some (some (.ref b)):=fun b h=>by
  obtain ⟨k,t,e1,e2⟩:=h
  obtain ⟨q,eq,ar⟩:=(Qft ea).2 k _ e1
  obtain ⟨i,rfl,hs⟩:=Qy7 ar
  exact ⟨k,i,t,eq,e1,e2,hs,hv k i _ eq e2⟩
 have mp:∀ b,Qu3 vs as b → OwA σ ρ b ∨ MlA σ ρ b:=fun b h=>by
  obtain ⟨k,i,t,_,_,_,hs | hs,e⟩:=ml b h
  ·exact .inl ⟨i,t,hs,e⟩
  ·exact .inr ⟨i,t,hs,e⟩
 have sm:Same (dls H G) (dls H1 G1):=fun b o e=>by
  obtain ⟨n,e⟩:=Qs e
  have e1:=C.chg b o (fun z=>n ((mp b z).elim F.ownG F.mlG)) e
  rw [Qb7 fun z=>?_]
  ·exact e1
  ·rcases C.gn b z with z | z
   ·exact n z
   ·rw [z] at e; cases e
 -- a slot's list that is not lent
 have stay:∀ i a t,(Qb ρ i).prv = some t → σ[i]? = some (some (.ref a)) → OwnAt H G a t → ((∀ t,Qb ρ i ≠ .ow t) ∧ (∀ t,Qb ρ i ≠ .ml t) ∨ Qk rs i = none) → OwnAt H1 G1 a t:=fun i a t e s o h=>by
  refine o.mono sm fun u eu=>C.chg a u (fun z=>?_) eu
  obtain ⟨k,j,t',e1,_,_,hs,e2⟩:=ml a z
  have ej:j = i:=F.apart j i a ⟨⟨t',by rcases hs with hs | hs <;> rw [hs] <;> rfl⟩,e2⟩ ⟨⟨t,e⟩,s⟩
  subst ej
  rcases h with ⟨h1,h2⟩ | h
  ·rcases hs with hs | hs
   ·exact h1 _ hs
   ·exact h2 _ hs
  ·exact Qjg h e1
 -- one that is lent
 have lent:∀ i a t k,(Qb ρ i = .ow t ∨ Qb ρ i = .ml t) → σ[i]? = some (some (.ref a)) → Qk rs i = some k → ∃ t',fin[k]? = some t' ∧ OwnAt H1 G1 a t':=fun i a t k hs s hk=>by
  have e1:=Qd6 hk
  have hk':k < vs.length:=by rw [hl]; exact (List.getElem?_eq_some_iff.mp e1).1
  have e2:=hv k i _ e1 (List.getElem?_eq_getElem hk')
  rw [s] at e2
  have e3:vs[k]? = some (.ref a):=by rw [List.getElem?_eq_getElem hk']; rw [← Option.some.inj (Option.some.inj e2)]
  have hk2:k < as.length:=by rw [← A.len]; exact hk'
  obtain ⟨q,eq,ar⟩:=(Qft ea).2 k _ (List.getElem?_eq_getElem hk2)
  rw [e1] at eq
  cases eq
  have e4:as[k]? = some (.ml t):=by
   rw [List.getElem?_eq_getElem hk2,← ar]
   rw [Qjf]
   rcases hs with hs | hs <;> rw [hs]
  exact C.fin k t a e4 e3
 exact {
  len:=by unfold Qa6; rw [Qje]; exact F.len
  slot:=fun i=>by
   have q:=F.slot i
   have bc:=Qbm rs fin i (Qb ρ i)
   rw [Qcr]
   cases hs:Qb ρ i with
   | un =>
    rw [hs] at bc
    rcases bc with e | ⟨k,t,_,_,e⟩ <;> rw [e] <;> trivial
   | pin a =>
    rw [hs] at q bc
    rcases bc with e | ⟨k,t,_,_,e⟩ <;> rw [e] <;> exact q
   | fz t =>
    rw [hs] at q bc
    obtain ⟨v,e1,e2⟩:=q
    rcases bc with e | ⟨k,t,_,_,e⟩ <;> rw [e] <;> exact ⟨v,e1,e2.mono sm⟩
   | fx t =>
    rw [hs] at q bc
    obtain ⟨v,o,e1,e3,e2⟩:=q
    rcases bc with e | ⟨k,t,_,_,e⟩ <;> rw [e] <;> exact ⟨v,o,e1,sm _ _ e3,e2.mono sm⟩
   | ro t =>
    rw [hs] at q bc
    obtain ⟨a,e1,g,o⟩:=q
    have o':=stay i a t (by rw [hs]; rfl) e1 o (.inl ⟨fun t z=>(by rw [hs] at z; cases z),fun t z=>(by rw [hs] at z; cases z)⟩)
    rcases bc with e | ⟨k,t,_,_,e⟩ <;> rw [e] <;> exact ⟨a,e1,C.gg a g,o'⟩
   | ow t =>
    rw [hs] at q bc
    obtain ⟨a,e1,g,o⟩:=q
    cases hp:Qk rs i with
    | none =>
     have o':=stay i a t (by rw [hs]; rfl) e1 o (.inr hp)
     rcases bc with e | ⟨k,t',h,_,e⟩
     ·rw [e]; exact ⟨a,e1,C.gg a g,o'⟩
     ·rw [hp] at h; cases h
    | some k =>
     obtain ⟨t',ef,o'⟩:=lent i a t k (.inl hs) e1 hp
     have e:Q4 rs fin i (.ow t) = .ow t':=by unfold Q4; rw [hp]; simp only [ef]; rfl
     rw [e]
     exact ⟨a,e1,C.gg a g,o'⟩
   | ml t =>
    rw [hs] at q bc
    obtain ⟨a,e1,g,o⟩:=q
    cases hp:Qk rs i with
    | none =>
     have o':=stay i a t (by rw [hs]; rfl) e1 o (.inr hp)
     rcases bc with e | ⟨k,t',h,_,e⟩
     ·rw [e]; exact ⟨a,e1,C.gg a g,o'⟩
     ·rw [hp] at h; cases h
    | some k =>
     obtain ⟨t',ef,o'⟩:=lent i a t k (.inr hs) e1 hp
     have e:Q4 rs fin i (.ml t) = .ml t':=by unfold Q4; rw [hp]; simp only [ef]; rfl
     rw [e]
     exact ⟨a,e1,C.gg a g,o'⟩
  apart:=fun i j a h1 h2=>F.apart i j a ⟨let ⟨u,e⟩:=h1.1; Qjh e,h1.2⟩ ⟨let ⟨u,e⟩:=h2.1; Qjh e,h2.2⟩
  prv:=C.prv
  chg:=fun b o h1 h2 e=>C.chg b o (fun z=>by
   rcases mp b z with z | z
   ·rcases F.newO b z with z | z
    ·rw [e] at z; cases z
    ·exact h1 z
   ·exact h2 (F.newM b z)) (F.chg b o h1 h2 e)
  keep:=fun b o e=>by
   obtain ⟨o1,e1⟩:=F.keep b o e
   exact C.keep b o1 e1
  newO:=fun a h=>by
   obtain ⟨i,t,e,s⟩:=h
   obtain ⟨w,e⟩:=Q2o e
   exact F.newO a ⟨i,w,e,s⟩
  newM:=fun a h=>by
   obtain ⟨i,t,e,s⟩:=h
   obtain ⟨w,e⟩:=Qu5 e
   exact F.newM a ⟨i,w,e,s⟩
  fix:=fun i a h=>by
   obtain ⟨⟨t,e⟩,s⟩:=h
   refine F.fix i a ⟨?_,s⟩
   rcases e with e | e | e
   ·obtain ⟨w,e⟩:=Qu5 e; exact ⟨w,.inl e⟩
   ·obtain ⟨w,e⟩:=Q2p e; exact ⟨w,.inr (.inl e)⟩
   ·obtain ⟨w,e⟩:=Q2q e; exact ⟨w,.inr (.inr e)⟩
  gg:=fun b h=>C.gg b (F.gg b h)
  gn:=fun b h=>by
   rcases C.gn b h with z | z
   ·exact F.gn b z
   ·exact .inr (F.free z)
  bp:=F.bp }
end
section
variable {X:Cx} {p:Pr} {x:Str} {e:Expr} {es:List Expr} {es':Es} {f k:Nat} {ps:List Str} {pos p1:Pos}
theorem Q2r {σ:St} {H:Hp} {Q:VK} (h:tE p (.call f es') σ H Q):Qyl (spF p.cf p.mg f) p.R (tA p es') σ H Q:=by
 obtain ⟨G,ρ,F,h⟩:=h
 unfold evE at h
 refine ⟨G,ρ,F,h.bind.imp fun rs ρ1 h1 vs H1 G1 F1 r1=>?_⟩
 unfold Qg2 at h1
 by_cases hb:Q0 rs = true
 ·rw [if_pos hb] at h1
  cases ea:Q2 ρ1 rs with
  | none=>rw [ea] at h1; exact False.elim h1
  | some as =>
   rw [ea] at h1
   replace h1:Fin p (Qap H G σ ρ) σ (match p.cf f as with | .ok r fin=>.ok r (Qa6 ρ1 rs fin) | .xn x fin=>.xn x (Qa6 ρ1 rs fin) | .no=>.no) _:=h1
   obtain ⟨G',F',A⟩:=Qu4 (B:=Qap H G σ ρ) F1 r1 ea hb
   have hv:∀ (k i:Nat) (v:V),rs[k]? = some (.sl i) → vs[k]? = some v → σ[i]? = some (some v):=fun k i v e1 e2=>r1.get e2 e1
   refine ⟨G',as,A,F'.prv,?_⟩
   cases ec:p.cf f as with
   | no=>rw [ec] at h1; exact False.elim h1
   | xn z fin =>
    rw [ec] at h1
    exact fun cls dx H' G2 C xr=>h1 cls dx H' G2 (F'.called A hv r1.len ea hb C) xr
   | ok r fin =>
    rw [ec] at h1
    refine fun v H' G2 C rr=>h1 v H' G2 (F'.called A hv r1.len ea hb C) ?_
    cases r with
    | sl i=>exact False.elim rr
    | fz t=>exact rr
    | ow t =>
     obtain ⟨a,rfl,n,g,o⟩:=rr
     refine ⟨a,rfl,F'.free n,g,fun i hp=>?_,o⟩
     obtain ⟨w,e⟩:=Qjh hp.1.choose_spec
     obtain ⟨_,t,ob,ea,_⟩:=PrvAt.at F' ⟨⟨w,e⟩,hp.2⟩
     rw [n] at ea
     cases ea
 ·rw [if_neg hb] at h1
  exact False.elim h1
theorem Q8p (h:Q16 X.prog X.w X.K X.mg X.base x ps k (spF p.cf p.mg f)) (pz:Qkf X p.R) (hr:Room k X.A) (ha:QA X (e :: es) (tA p es')) (hg:Gl X x) (hdb:(x == ("__debug__" : Str)) = false) (h1:Qr e = true) (h2:es.all Qr = true) :
  QE X (.Call (.Name x p1) (e :: es) [] pos) (tE p (.call f es')):=(Qabq h pz hr ha hg hdb (Qa5 h1) (Qg3 h2)).weak fun σ H Q h=>Q2r h
end
section
variable {B:Bs} {H H1:Hp} {G G1:Addr → Prop} {σ:St} {ρ ρ':En} {i:Nat} {v:V} {t:T}
theorem Qo4 {w:Option V} (h:i < σ.length):(σ.set i w)[i]? = some w:=by rw [List.getElem?_set_self h]
theorem Qg4 {j:Nat} {w:Option V} (h:j ≠ i):(σ.set i w)[j]? = σ[j]?:=by rw [List.getElem?_set_ne (fun z=>h z.symm)]
theorem FI.lay (F:FI B H G σ ρ) (hi:i < ρ.length) {s:Slot} {w:Option V} (hs:Qq8 H G (σ.set i w) i s) (hp:∀ a,(∃ t,s.prv = some t) → w = some (.ref a) → ∀ j,j ≠ i → ¬ PrvAt σ ρ j a)
  (ho:∀ t a,s = .ow t → w = some (.ref a) → B.H a = none ∨ B.O a) (hm:∀ t,s ≠ .ml t) (hr:∀ t,s ≠ .ro t) (hx:∀ t,s ≠ .fx t:=by intro _ z; cases z):FI B H G (σ.set i w) (ρ.set i s):=by
 have hl:i < σ.length:=by rw [F.len]; exact hi
 have sa:∀ j,Qb (ρ.set i s) j = if j = i then s else Qb ρ j:=fun j=>by
  rw [Qim]
  by_cases e:j = i
  ·rw [if_pos ⟨e,hi⟩,if_pos e]
  ·rw [if_neg (fun z=>e z.1),if_neg e]
 have old:∀ j a,PrvAt (σ.set i w) (ρ.set i s) j a → j ≠ i → PrvAt σ ρ j a:=fun j a h n=>by
  obtain ⟨⟨u,e⟩,q⟩:=h
  rw [sa,if_neg n] at e
  rw [Qg4 n] at q
  exact ⟨⟨u,e⟩,q⟩
 have here:∀ a,PrvAt (σ.set i w) (ρ.set i s) i a → (∃ t,s.prv = some t) ∧ w = some (.ref a):=fun a h=>by
  obtain ⟨⟨u,e⟩,q⟩:=h
  rw [sa,if_pos rfl] at e
  rw [Qo4 hl] at q
  exact ⟨⟨u,e⟩,Option.some.inj q⟩
 exact {
  len:=by rw [List.length_set,List.length_set]; exact F.len
  slot:=fun j=>by
   rw [sa]
   by_cases e:j = i
   ·rw [if_pos e,e]; exact hs
   ·rw [if_neg e]
    have q:=F.slot j
    cases hh:Qb ρ j with
    | un=>trivial
    | pin a=>rw [hh] at q; show (σ.set i _)[j]? = _; rw [Qg4 e]; exact q
    | fz t=>rw [hh] at q; obtain ⟨v,a,b⟩:=q; exact ⟨v,by rw [Qg4 e]; exact a,b⟩
    | fx t=>rw [hh] at q; obtain ⟨v,o,a,b⟩:=q; exact ⟨v,o,by rw [Qg4 e]; exact a,b⟩
    | ow t=>rw [hh] at q; obtain ⟨v,a,b⟩:=q; exact ⟨v,by rw [Qg4 e]; exact a,b⟩
    | ml t=>rw [hh] at q; obtain ⟨v,a,b⟩:=q; exact ⟨v,by rw [Qg4 e]; exact a,b⟩
    | ro t=>rw [hh] at q; obtain ⟨v,a,b⟩:=q; exact ⟨v,by rw [Qg4 e]; exact a,b⟩
  apart:=fun j k a h1 h2=>by
   by_cases e1:j = i
   ·by_cases e2:k = i
    ·rw [e1,e2]
    ·rw [e1] at h1
     exact (hp a (here a h1).1 (here a h1).2 k e2 (old k a h2 e2)).elim
   ·by_cases e2:k = i
    ·rw [e2] at h2
     exact (hp a (here a h2).1 (here a h2).2 j e1 (old j a h1 e1)).elim
    ·exact F.apart j k a (old j a h1 e1) (old k a h2 e2)
  prv:=F.prv
  chg:=F.chg
  keep:=F.keep
  newO:=fun a h=>by
   obtain ⟨j,u,e,q⟩:=h
   rw [sa] at e
   by_cases z:j = i
   ·rw [if_pos z] at e
    rw [z,Qo4 hl] at q
    exact ho u a e (Option.some.inj q)
   ·rw [if_neg z] at e
    rw [Qg4 z] at q
    exact F.newO a ⟨j,u,e,q⟩
  newM:=fun a h=>by
   obtain ⟨j,u,e,q⟩:=h
   rw [sa] at e
   by_cases z:j = i
   ·rw [if_pos z] at e; exact (hm u e).elim
   ·rw [if_neg z] at e
    rw [Qg4 z] at q
    exact F.newM a ⟨j,u,e,q⟩
  fix:=fun j a h=>by
   obtain ⟨⟨u,e⟩,q⟩:=h
   rw [sa] at e
   by_cases z:j = i
   ·rw [if_pos z] at e
    rcases e with e | e | e
    ·exact (hm u e).elim
    ·exact (hr u e).elim
    ·exact (hx u e).elim
   ·rw [if_neg z] at e
    rw [Qg4 z] at q
    exact F.fix j a ⟨⟨u,e⟩,q⟩
  gg:=F.gg
  gn:=F.gn
  bp:=F.bp }
theorem FI.setFz (F:FI B H G σ ρ) (hi:i < ρ.length) (hv:Is (dls H G) v t):FI B H G (σ.set i (some v)) (ρ.set i (.fz t)) :=
 F.lay hi ⟨v,Qo4 (by rw [F.len]; exact hi),hv⟩ (fun a h=>by obtain ⟨u,e⟩:=h; cases e) (fun _ _ e=>by cases e) (fun _ e=>by cases e) (fun _ e=>by cases e)
theorem Qjz {s:Slot} (h:Qbx i s ρ = some ρ'):i < ρ.length ∧ ρ' = ρ.set i s:=by
 unfold Qbx at h
 by_cases z:i < ρ.length
 ·rw [if_pos z] at h
  cases hs:Qb ρ i <;> rw [hs] at h <;> first | (cases h; done) | exact ⟨z,(Option.some.inj h).symm⟩
 ·rw [if_neg z] at h; cases h
theorem FI.setS (F:FI B H G σ ρ) (h:L2.Qbx i (.fz t) ρ = some ρ') (hv:Is (dls H G) v t):FI B H G (σ.set i (some v)) ρ':=by
 obtain ⟨h1,rfl⟩:=Qjz h
 exact F.setFz h1 hv
theorem FI.setOw {H0:Hp} (F:FI B H G σ ρ) (hb:B.H = H0) (h:L2.Qbx i (.ow t) ρ = some ρ') (hv:TmpR H0 H G σ ρ v t):FI B H G (σ.set i (some v)) ρ':=by
 obtain ⟨h1,rfl⟩:=Qjz h
 obtain ⟨a,rfl,n,g,np,o⟩:=hv
 refine F.lay h1 ⟨a,Qo4 (by rw [F.len]; exact h1),g,o⟩ (fun b _ e j _=>?_) (fun _ b _ e=>?_) (fun _ e=>by cases e) (fun _ e=>by cases e)
 ·cases e; exact np j
 ·cases e; exact .inl (by rw [hb]; exact n)
theorem FI.changeO (F:FI B H G σ ρ) {t0 u0:T} {ob:HO} {s':Slot} (hs:(Qb ρ i = .ow t0 ∧ s' = .ow u0) ∨ (Qb ρ i = .ml t0 ∧ s' = .ml u0)) {a:Addr} (e:σ[i]? = some (some (.ref a))) (il:OwnO (dls H G) u0 ob) :
  FI B (upd H a ob) G σ (ρ.set i s') ∧ Same (dls H G) (dls (upd H a ob) G):=by
 have hpv:(Qb ρ i).prv = some t0:=by rcases hs with ⟨h,_⟩ | ⟨h,_⟩ <;> rw [h] <;> rfl
 have hi:i < ρ.length:=Qwt (by rcases hs with ⟨h,_⟩ | ⟨h,_⟩ <;> rw [h] <;> intro z <;> cases z)
 obtain ⟨a',e',g,o',ea,_⟩:=F.prvAt hpv
 rw [e] at e'
 cases e'
 have sa:∀ j,Qb (ρ.set i s') j = if j = i then s' else Qb ρ j:=fun j=>by
  rw [Qim]
  by_cases e:j = i
  ·rw [if_pos ⟨e,hi⟩,if_pos e]
  ·rw [if_neg (fun z=>e z.1),if_neg e]
 have sm:Same (dls H G) (dls (upd H a ob) G):=fun b o eb=>by
  obtain ⟨n,eb⟩:=Qs eb
  rw [Qb7 n,Q3 (fun (z:b = a)=>n (by rw [z]; exact g))]
  exact eb
 have pv':∀ j b,PrvAt σ (ρ.set i s') j b → PrvAt σ ρ j b:=fun j b h=>by
  obtain ⟨⟨u,e1⟩,q⟩:=h
  rw [sa] at e1
  by_cases hj:j = i
  ·rw [hj] at q ⊢; exact ⟨⟨_,hpv⟩,q⟩
  ·rw [if_neg hj] at e1; exact ⟨⟨u,e1⟩,q⟩
 have own:OwnAt (upd H a ob) G a u0:=⟨ob,Qo,il.mono sm⟩
 refine ⟨{
  len:=by rw [List.length_set]; exact F.len
  slot:=fun j=>by
   rw [sa]
   by_cases hj:j = i
   ·rw [if_pos hj,hj]
    rcases hs with ⟨_,h⟩ | ⟨_,h⟩ <;> rw [h] <;> exact ⟨a,e,g,own⟩
   ·rw [if_neg hj]
    refine Qil (F.slot j) sm fun b o hb1 hb2 eb=>?_
    have nb:b ≠ a:=fun z=>hj (F.apart j i a ⟨hb1,z ▸ hb2⟩ ⟨⟨_,hpv⟩,e⟩)
    exact ⟨by rw [Q3 nb]; exact eb,(PrvAt.at F ⟨hb1,hb2⟩).1⟩
  apart:=fun j k b h1 h2=>F.apart j k b (pv' j b h1) (pv' k b h2)
  prv:=fun b hb=>by
   by_cases h:b = a
   ·exact ⟨ob,by rw [h,Qo],il.pen⟩
   ·rw [Q3 h]; exact F.prv b hb
  chg:=fun b o h1 h2 eb=>by
   have nb:b ≠ a:=fun z=>by
    rcases hs with ⟨h,_⟩ | ⟨h,_⟩
    ·rcases F.newO a ⟨i,_,h,e⟩ with y | y
     ·rw [z,y] at eb; cases eb
     ·exact h1 (z ▸ y)
    ·exact h2 (z ▸ F.newM a ⟨i,_,h,e⟩)
   rw [Q3 nb]
   exact F.chg b o h1 h2 eb
  keep:=fun b o eb=>by
   by_cases h:b = a
   ·exact ⟨_,by rw [h,Qo]⟩
   ·rw [Q3 h]; exact F.keep b o eb
  newO:=fun b h=>by
   obtain ⟨j,u,e1,q⟩:=h
   rw [sa] at e1
   by_cases hj:j = i
   ·rw [if_pos hj] at e1
    rcases hs with ⟨h,h2⟩ | ⟨h,h2⟩
    ·exact F.newO b ⟨i,_,h,hj ▸ q⟩
    ·rw [h2] at e1; cases e1
   ·rw [if_neg hj] at e1; exact F.newO b ⟨j,u,e1,q⟩
  newM:=fun b h=>by
   obtain ⟨j,u,e1,q⟩:=h
   rw [sa] at e1
   by_cases hj:j = i
   ·rw [if_pos hj] at e1
    rcases hs with ⟨h,h2⟩ | ⟨h,h2⟩
    ·rw [h2] at e1; cases e1
    ·exact F.newM b ⟨i,_,h,hj ▸ q⟩
   ·rw [if_neg hj] at e1; exact F.newM b ⟨j,u,e1,q⟩
  fix:=fun j b h=>by
   obtain ⟨⟨u,e1⟩,q⟩:=h
   rw [sa] at e1
   by_cases hj:j = i
   ·rw [if_pos hj] at e1
    rcases hs with ⟨h,h2⟩ | ⟨h,h2⟩
    ·rw [h2] at e1; rcases e1 with e1 | e1 | e1 <;> cases e1
    ·exact F.fix j b ⟨⟨_,.inl (by rw [hj]; exact h)⟩,q⟩
   ·rw [if_neg hj] at e1; exact F.fix j b ⟨⟨u,e1⟩,q⟩
  gg:=F.gg
  gn:=F.gn
  bp:=F.bp },sm⟩
theorem FI.change (F:FI B H G σ ρ) {ts us:List T} {ws:List V} {s':Slot} (hs:(Qb ρ i = .ow (.lst ts) ∧ s' = .ow (.lst us)) ∨ (Qb ρ i = .ml (.lst ts) ∧ s' = .ml (.lst us))) {a:Addr} (e:σ[i]? = some (some (.ref a))) (il:IsL (dls H G) ws us) (z:us.length ≤ 100000) :
  FI B (upd H a (.lst ws)) G σ (ρ.set i s') ∧ Same (dls H G) (dls (upd H a (.lst ws)) G):=F.changeO hs e ⟨z,il⟩
end
theorem QG.weak {X:Cx} {e:Expr} {t t':TG} (h:QG X e t) (q:∀ v σ H Q,t' v σ H Q → t v σ H Q):QG X e t':=⟨fun pins s σ H v u Q I r z=>h.h pins s σ H v u Q I r (q _ _ _ _ z)⟩
theorem QI.weak {X:Cx} {tg e:Expr} {t t':TI} (h:QI X tg e t) (q:∀ σ H R,t' σ H R → t σ H R):QI X tg e t':=⟨fun pins s σ H R I z=>h.h pins s σ H R I (q _ _ _ z)⟩
theorem QC.weak {X:Cx} {e:List Expr} {t t':TT} (h:QC X e t) (q:∀ σ H Q,t' σ H Q → t σ H Q):QC X e t':=⟨fun pins s σ H Q I z=>h.h pins s σ H Q I (q _ _ _ z)⟩
noncomputable def tG (tg:Tg):TG:=fun v σ H Q=>∃ B G ρ t ρ',FI B H G σ ρ ∧ Is (dls H G) v t ∧ Qie tg t ρ = some ρ' ∧ ∀ σ',FI B H G σ' ρ' → (∀ k a,PrvAt σ' ρ' k a → PrvAt σ ρ k a) → Q σ' H
theorem Qrg {i:Nat} {t:T} {σ:St} {ρ ρ':En} {v:V} (h:Qbx i (.fz t) ρ = some ρ'):∀ k a,PrvAt (σ.set i (some v)) ρ' k a → PrvAt σ ρ k a:=fun k a hk=>by
 obtain ⟨h1,rfl⟩:=Qjz h
 obtain ⟨⟨u,e⟩,q⟩:=hk
 rw [Qim] at e
 by_cases z:k = i ∧ i < ρ.length
 ·rw [if_pos z] at e; cases e
 ·rw [if_neg z] at e
  have hk:k ≠ i:=fun y=>z ⟨y,h1⟩
  rw [Qg4 hk] at q
  exact ⟨⟨u,e⟩,q⟩
noncomputable def Qy8:List Nat → TGs
 | []=>Q6e
 | i :: is=>Qxi (Qia i) (Qy8 is)
section
variable {X:Cx} {e:Expr} {es:List Expr} {pos:Pos}
theorem Qai {i:Nat} (h:QG X e (Qia i)):QG X e (tG (.nm i)):=h.weak fun v σ H Q ⟨B,G,ρ,t,ρ',F,hv,hs,q⟩=>q _ (F.setS hs hv) (Qrg hs)
theorem Qu6 {B:Bs} {H:Hp} {G:Addr → Prop} {Q:St → Hp → Prop}:∀ {is:List Nat} {ts:List T} {xs:List V} {σ:St} {ρ ρ':En},FI B H G σ ρ → IsL (dls H G) xs ts → Qb4 is ts ρ = some ρ' → (∀ σ',FI B H G σ' ρ' → (∀ k a,PrvAt σ' ρ' k a → PrvAt σ ρ k a) → Q σ' H) → Qy8 is xs σ H Q
 | [],[],xs,σ,ρ,ρ',F,r,e,q=>by
  cases e
  exact ⟨r.nil_inv,q σ F fun _ _ h=>h⟩
 | i :: is,t :: ts,xs,σ,ρ,ρ',F,r,e,q=>by
  obtain ⟨v,w,rfl,a,r⟩:=r.cons_inv
  unfold Qb4 at e
  cases h:Qbx i (.fz t) ρ with
  | none=>rw [h] at e; cases e
  | some ρ1 =>
   rw [h] at e
   exact ⟨v,w,rfl,Qu6 (F.setS h a) r e fun σ' F' o=>q σ' F' fun k b hk=>Qrg h k b (o k b hk)⟩
 | [],_ :: _,_,_,_,_,_,_,e,_=>by cases e
 | _ :: _,[],_,_,_,_,_,_,e,_=>by cases e
theorem Qkg:∀ {is:List Nat} {ts:List T} {ρ ρ':En},Qb4 is ts ρ = some ρ' → ts.length = is.length
 | [],[],_,_,_=>rfl
 | i :: is,t :: ts,ρ,ρ',e=>by
  unfold Qb4 at e
  cases h:Qbx i (.fz t) ρ with
  | none=>rw [h] at e; cases e
  | some ρ1=>rw [h] at e; rw [List.length_cons,List.length_cons,Qkg e]
 | [],_ :: _,_,_,e=>by cases e
 | _ :: _,[],_,_,e=>by cases e
theorem Qj0 {K:PySem.W.Frag} {n:Nat} {is:List Nat} (h:QG X e (Q1f K n (Qy8 is))) (hn:is.length = n):QG X e (tG (.tp is)):=h.weak fun v σ H Q zz1=>by
 obtain ⟨B,G,ρ,t,ρ',F,hv,hs,q⟩:=zz1
 cases t <;> first | (cases hs; done) | skip
 have hs:Qb4 is _ ρ = some ρ':=hs
 obtain ⟨a,vs,rfl,ea,r⟩:=hv.tup_inv
 exact ⟨a,vs,rfl,SqT.of (Qs ea).2,by rw [r.length,Qkg hs,hn],Qu6 F r hs q⟩
end
structure WkR (J:It) (H0:Hp) (G0:Addr → Prop) (Ok:Hp → Prop) (ts:List T):Prop where
 go:∀ i H,i < ts.length → Ok H → J.go i H
 stop:∀ i H,ts.length ≤ i → Ok H → J.stop i H
 yld:∀ i H x H',i < ts.length → Ok H → J.yld i H x H' → Same H H' ∧ ∃ t,ts[i]? = some t ∧ ∀ G,Pen H G → Same (dls H0 G0) (dls H G) → Is (dls H' G) x t
noncomputable def tW (p:Pr) (w:W):TI:=fun σ H R=>∃ G ρ,FI (Qap H G σ ρ) H G σ ρ ∧ Fin p (Qap H G σ ρ) σ (evW p.cf w ρ) fun its ρ1=>its.2 = none ∧ ∀ J H1 G1 Ok,FI (Qap H G σ ρ) H1 G1 σ ρ1 → WkR J H1 G1 Ok its.1 → (∀ H' G',Same (dls H1 G1) (dls H' G') → Ok H') → R J H1
section
variable {X:Cx} {p:Pr} {e a b tg:Expr} {a' b' e':E} {pos p1:Pos} {K:PySem.W.Frag}
theorem wk_l {H:Hp} {G:Addr → Prop} {l:Addr} {vs:List V} {ts:List T} (r:IsL (dls H G) vs ts):WkR (Itl K l) H G (fun H'=>SqL K H' l vs) ts where
 go:=fun i H' hi ok=>⟨vs,_,ok,List.getElem?_eq_getElem (by rw [r.length]; exact hi)⟩
 stop:=fun i H' hi ok=>⟨vs,ok,by rw [r.length]; exact hi⟩
 yld:=fun i H' x H2 hi ok y=>by
  obtain ⟨rfl,hx⟩:=y
  obtain ⟨t,et,it⟩:=r.get (hx vs ok)
  exact ⟨Same.refl _,t,et,fun G' _ s=>it.mono s⟩
theorem wk_t {H:Hp} {G:Addr → Prop} {l:Addr} {vs:List V} {ts:List T} (r:IsL (dls H G) vs ts):WkR (Itt K l) H G (fun H'=>SqT K H' l vs) ts where
 go:=fun i H' hi ok=>⟨vs,_,ok,List.getElem?_eq_getElem (by rw [r.length]; exact hi)⟩
 stop:=fun i H' hi ok=>⟨vs,ok,by rw [r.length]; exact hi⟩
 yld:=fun i H' x H2 hi ok y=>by
  obtain ⟨rfl,hx⟩:=y
  obtain ⟨t,et,it⟩:=r.get (hx vs ok)
  exact ⟨Same.refl _,t,et,fun G' _ s=>it.mono s⟩
theorem Qaj (lo:Int) (n:Nat):(Qa0 lo n).length = n:=by unfold Qa0; rw [List.length_map,List.length_range]
theorem Qfi {lo:Int} {n i:Nat} (hi:i < n):(Qa0 lo n)[i]? = some (.int (lo + i)):=by
 unfold Qa0
 rw [List.getElem?_map,List.getElem?_range hi]
 rfl
theorem wk_r {H:Hp} {G:Addr → Prop} {lo:Int} {n:Nat}:WkR (Itr lo n) H G (fun _=>True) (Qa0 lo n) where
 go:=fun i H' hi _=>by rw [Qaj] at hi; exact hi
 stop:=fun i H' hi _=>by rw [Qaj] at hi; exact hi
 yld:=fun i H' x H2 hi _ y=>by
  rw [Qaj] at hi
  obtain ⟨rfl,rfl⟩:=y
  exact ⟨Same.refl _,_,Qfi hi,fun _ _ _=>Is.int⟩
theorem Qg5:∀ (ts:List T) (n:Nat),(Qfq n ts).length = ts.length
 | [],_=>rfl
 | t :: ts,n=>by unfold Qfq; rw [List.length_cons,List.length_cons,Qg5 ts]
theorem Qlu:∀ (ts:List T) (n i:Nat) (t:T),ts[i]? = some t → (Qfq n ts)[i]? = some (.tup [.int ((n + i:Nat):Int),t])
 | [],_,_,_,e=>by simp at e
 | t :: ts,n,0,u,e=>by
  simp at e
  subst e
  rfl
 | t :: ts,n,i + 1,u,e=>by
  rw [List.getElem?_cons_succ] at e
  unfold Qfq
  rw [List.getElem?_cons_succ,Qlu ts (n + 1) i u e,show n + 1 + i = n + (i + 1) by omega]
theorem wk_e {H:Hp} {G:Addr → Prop} {l:Addr} {vs:List V} {ts:List T} (r:IsL (dls H G) vs ts):WkR (Ite K l) H G (fun H'=>SqL K H' l vs) (Qfq 0 ts) where
 go:=fun i H' hi ok=>⟨vs,_,ok,List.getElem?_eq_getElem (by rw [Qg5] at hi; rw [r.length]; exact hi)⟩
 stop:=fun i H' hi ok=>⟨vs,ok,by rw [Qg5] at hi; rw [r.length]; exact hi⟩
 yld:=fun i H' x H2 hi ok y=>by
  obtain ⟨q,x,rfl,hq,hx,rfl⟩:=y
  obtain ⟨t,et,it⟩:=r.get (hx vs ok)
  refine ⟨Same.upd hq,_,Qlu ts 0 i t et,fun G' pn s=>?_⟩
  rw [Nat.zero_add]
  exact Qd5 (pn.mono (Same.upd hq)) Qo (.cons Is.int (.one (it.mono (s.trans (Qaq (Same.upd hq)))))) (by show 2 ≤ 100000; decide)
theorem Qach {H:Hp} {G:Addr → Prop} {l:Addr} {vs:List V} {ts:List T} (r:IsL (dls H G) vs ts):WkR (Q76 K l) H G (fun H'=>SqT K H' l vs) (Qfq 0 ts) where
 go:=fun i H' hi ok=>⟨vs,_,ok,List.getElem?_eq_getElem (by rw [Qg5] at hi; rw [r.length]; exact hi)⟩
 stop:=fun i H' hi ok=>⟨vs,ok,by rw [Qg5] at hi; rw [r.length]; exact hi⟩
 yld:=fun i H' x H2 hi ok y=>by
  obtain ⟨q,x,rfl,hq,hx,rfl⟩:=y
  obtain ⟨t,et,it⟩:=r.get (hx vs ok)
  refine ⟨Same.upd hq,_,Qlu ts 0 i t et,fun G' pn s=>?_⟩
  rw [Nat.zero_add]
  exact Qd5 (pn.mono (Same.upd hq)) Qo (.cons Is.int (.one (it.mono (s.trans (Qaq (Same.upd hq)))))) (by show 2 ≤ 100000; decide)
theorem Qlv:∀ (xs ys:List T),(Qh3 xs ys).length = min xs.length ys.length
 | [],ys=>by unfold Qh3; simp
 | x :: xs,[]=>by unfold Qh3; simp
 | x :: xs,y :: ys=>by unfold Qh3; rw [List.length_cons,List.length_cons,List.length_cons,Qlv xs ys]; omega
theorem Qrh:∀ (xs ys:List T) (i:Nat) (x y:T),xs[i]? = some x → ys[i]? = some y → (Qh3 xs ys)[i]? = some (.tup [x,y])
 | [],_,_,_,_,e,_=>by simp at e
 | _ :: _,[],_,_,_,_,e=>by simp at e
 | a :: xs,b :: ys,0,x,y,e,f=>by
  simp at e f
  subst e f
  rfl
 | a :: xs,b :: ys,i + 1,x,y,e,f=>by
  rw [List.getElem?_cons_succ] at e f
  unfold Qh3
  rw [List.getElem?_cons_succ]
  exact Qrh xs ys i x y e f
theorem Q8q {H:Hp} {G:Addr → Prop} {l m:Addr} {vs ws:List V} {ts us:List T} (r:IsL (dls H G) vs ts) (r2:IsL (dls H G) ws us) {lb lc:Bool}:WkR (Itz lb lc K l m) H G (fun H'=>SqB lb K H' l vs ∧ SqB lc K H' m ws) (Qh3 ts us) where
 go:=fun i H' hi ok=>by
  rw [Qlv,← r.length,← r2.length] at hi
  exact ⟨vs,ws,_,_,ok.1,ok.2,List.getElem?_eq_getElem (by omega),List.getElem?_eq_getElem (by omega)⟩
 stop:=fun i H' hi ok=>by
  rw [Qlv,← r.length,← r2.length] at hi
  exact ⟨vs,ws,ok.1,ok.2,by omega⟩
 yld:=fun i H' x H2 hi ok y=>by
  obtain ⟨q,x,y,rfl,hq,hx,hy,rfl⟩:=y
  obtain ⟨t,et,it⟩:=r.get (hx vs ok.1)
  obtain ⟨u,eu,iu⟩:=r2.get (hy ws ok.2)
  refine ⟨Same.upd hq,_,Qrh ts us i t u et eu,fun G' pn s=>?_⟩
  exact Qd5 (pn.mono (Same.upd hq)) Qo (.cons (it.mono (s.trans (Qaq (Same.upd hq)))) (.one (iu.mono (s.trans (Qaq (Same.upd hq)))))) (by show 2 ≤ 100000; decide)
theorem Qlw {r:PV} {ρ:En} {t:T} (h:Qja r = none) (e:cont ρ r = some t):frz r = some t:=by
 cases r with
 | fz t=>exact e
 | ow t=>exact e
 | sl i=>cases h
theorem Qb8 (hK:X.K = K) (ha:QE X e (tE p e')):QI X tg e (tW p (.seq e')):=(Q4q K hK ha).weak fun σ H R zz1=>by
 obtain ⟨G,ρ,F,h⟩:=zz1
 unfold evW at h
 refine ⟨G,ρ,F,h.bind.imp fun r ρ1 h1 v H1 G1 F1 r1=>?_⟩
 cases ec:cont ρ1 r with
 | none=>rw [ec] at h1; exact False.elim h1
 | some t =>
  rw [ec] at h1
  cases es:Qi8 t with
  | none =>
   replace h1:Fin p (Qap H G σ ρ) σ (match Qi8 t with | some ts=>.ok (ts,Qja r) ρ1 | none=>.no) _:=h1
   rw [es] at h1
   exact False.elim h1
  | some ts =>
   replace h1:Fin p (Qap H G σ ρ) σ (match Qi8 t with | some ts=>.ok (ts,Qja r) ρ1 | none=>.no) _:=h1
   rw [es] at h1
   obtain ⟨hn,k⟩:=h1
   obtain ⟨G',F',hv,_⟩:=PVR.lay (B:=Qap H G σ ρ) r1 F1 (Qlw hn ec)
   cases t <;> first | (cases es; done) | skip
   ·cases es
    obtain ⟨l,vs,rfl,el,rl⟩:=hv.tup_inv
    exact ⟨l,rfl,.inr ⟨⟨vs,SqT.of (Qs el).2⟩,k _ H1 G' _ F' (wk_t rl) fun H' G2 s=>SqT.of (Qs (s _ _ el)).2⟩⟩
   ·cases es
    obtain ⟨l,vs,rfl,el,rl⟩:=hv.lst_inv
    exact ⟨l,rfl,.inl ⟨⟨vs,SqL.of (Qs el).2⟩,k _ H1 G' _ F' (wk_l rl) fun H' G2 s=>SqL.of (Qs (s _ _ el)).2⟩⟩
theorem Q2s (hm:X.mg "range" = none) (ha:QE X a (tE p a')) (hg:Gl X "range") (hs:Qr a = true):QI X tg (.Call (.Name "range" p1) [a] [] pos) (tW p (.rng1 a')):=(Q7s hm (Qbv ha Qeg hs) hg hs).weak fun σ H R zz1=>by
 obtain ⟨G,ρ,F,h⟩:=zz1
 unfold evW at h
 refine ⟨G,ρ,F,h.bind.imp fun r ρ1 h1 v H1 G1 F1 r1=>?_⟩
 cases r with
 | ow t=>exact False.elim h1
 | sl i=>exact False.elim h1
 | fz t =>
  cases t <;> first | exact False.elim h1 | skip
  rename_i j
  replace h1:Fin p (Qap H G σ ρ) σ (if j.natAbs ≤ 100000 then .ok (Qa0 0 j.toNat,none) ρ1 else .no) _:=h1
  by_cases z:j.natAbs ≤ 100000
  ·rw [if_pos z] at h1
   obtain rfl:=r1.is.int_inv
   exact ⟨j,rfl,by omega,by omega,h1.2 _ H1 G1 _ F1 wk_r fun _ _ _=>trivial⟩
  ·rw [if_neg z] at h1; exact False.elim h1
theorem Q8r {es:List Expr} {x1} {tp:Pos} (hK:X.K = K) (hm:X.mg "enumerate" = none) (hb:PySem.bootBuiltins "enumerate" = some (.type "enumerate")) (ha:QE X a (tE p a')) (hg:Gl X "enumerate") (hs:Qr a = true):QI X (.Tuple es x1 tp) (.Call (.Name "enumerate" p1) [a] [] pos) (tW p (.enm a')):=(Q2b K hK hm hb (Qbv ha Qeg hs) hg hs).weak fun σ H R zz1=>by
 obtain ⟨G,ρ,F,h⟩:=zz1
 unfold evW at h
 refine ⟨G,ρ,F,h.bind.imp fun r ρ1 h1 v H1 G1 F1 r1=>?_⟩
 cases ec:cont ρ1 r with
 | none=>rw [ec] at h1; exact False.elim h1
 | some t =>
  rw [ec] at h1
  cases t <;> first | exact False.elim h1 | skip
  ·obtain ⟨hn,k⟩:=h1
   obtain ⟨G',F',hv,_⟩:=PVR.lay (B:=Qap H G σ ρ) r1 F1 (Qlw hn ec)
   obtain ⟨l,vs,rfl,el,rl⟩:=hv.tup_inv
   exact ⟨l,vs,rfl,.inr ⟨SqT.of (Qs el).2,k _ H1 G' _ F' (Qach rl) fun H' G2 s=>SqT.of (Qs (s _ _ el)).2⟩⟩
  ·obtain ⟨hn,k⟩:=h1
   obtain ⟨G',F',hv,_⟩:=PVR.lay (B:=Qap H G σ ρ) r1 F1 (Qlw hn ec)
   obtain ⟨l,vs,rfl,el,rl⟩:=hv.lst_inv
   exact ⟨l,vs,rfl,.inl ⟨SqL.of (Qs el).2,k _ H1 G' _ F' (wk_e rl) fun H' G2 s=>SqL.of (Qs (s _ _ el)).2⟩⟩
theorem Q8s {es:List Expr} {x1} {tp:Pos} (hK:X.K = K) (hm:X.mg "zip" = none) (hb:PySem.bootBuiltins "zip" = some (.type "zip")) (ha:QE X a (tE p a')) (hb':QE X b (tE p b')) (hg:Gl X "zip") (hs:Qr a = true) (hs2:Qr b = true):QI X (.Tuple es x1 tp) (.Call (.Name "zip" p1) [a,b] [] pos) (tW p (.zip a' b')):=(Qaby K hK hm hb (Qbv ha (Qbv hb' Qeg hs2) hs) hg hs hs2).weak fun σ H R zz1=>by
 obtain ⟨G,ρ,F,h⟩:=zz1
 unfold evW at h
 refine tE2 F h fun ra rb ρ2 x y H2 G2 F2 r1 r2 h2=>?_
 cases ra with
 | ow t=>cases rb <;> exact False.elim h2
 | sl i=>cases rb <;> exact False.elim h2
 | fz t =>
  cases rb with
  | ow u=>cases t <;> exact False.elim h2
  | sl i=>cases t <;> exact False.elim h2
  | fz u =>
   cases t <;> first | exact False.elim h2 | skip
   ·cases u <;> first | exact False.elim h2 | skip
    obtain ⟨l,vs,rfl,el,rl⟩:=r1.is.tup_inv
    obtain ⟨m,ws,rfl,em,rm⟩:=r2.is.tup_inv
    exact ⟨false,false,l,m,vs,ws,rfl,SqT.of (Qs el).2,SqT.of (Qs em).2,h2.2 _ H2 G2 _ F2 (Q8q (lb:=false) (lc:=false) rl rm) fun H' G3 s=>⟨SqT.of (Qs (s _ _ el)).2,SqT.of (Qs (s _ _ em)).2⟩⟩
   ·cases u <;> first | exact False.elim h2 | skip
    ·obtain ⟨l,vs,rfl,el,rl⟩:=r1.is.lst_inv
     obtain ⟨m,ws,rfl,em,rm⟩:=r2.is.tup_inv
     exact ⟨true,false,l,m,vs,ws,rfl,SqL.of (Qs el).2,SqT.of (Qs em).2,h2.2 _ H2 G2 _ F2 (Q8q (lb:=true) (lc:=false) rl rm) fun H' G3 s=>⟨SqL.of (Qs (s _ _ el)).2,SqT.of (Qs (s _ _ em)).2⟩⟩
    ·obtain ⟨l,vs,rfl,el,rl⟩:=r1.is.lst_inv
     obtain ⟨m,ws,rfl,em,rm⟩:=r2.is.lst_inv
     exact ⟨true,true,l,m,vs,ws,rfl,SqL.of (Qs el).2,SqL.of (Qs em).2,h2.2 _ H2 G2 _ F2 (Q8q (lb:=true) (lc:=true) rl rm) fun H' G3 s=>⟨SqL.of (Qs (s _ _ el)).2,SqL.of (Qs (s _ _ em)).2⟩⟩
end
theorem Qds (js:List (Option Nat)) (ρ:En) (k:Nat):Qb (Qer js ρ) k = match js[k]? with
  | some (some j)=>(Qb ρ j).lend
  | _=>.un:=by
 show (match (js.map fun o=>match o with | none=>Slot.un | some j=>(Qb ρ j).lend)[k]? with | some s=>s | none=>Slot.un) = _
 rw [List.getElem?_map]
 cases js[k]? with
 | none=>rfl
 | some o=>cases o <;> rfl
theorem Qji (js:List (Option Nat)) (σ:St) (k:Nat):(Qfm js σ)[k]? = match js[k]? with
  | some (some j)=>some ((σ[j]?).join)
  | some none=>some none
  | none=>none:=by
 unfold Qfm
 rw [List.getElem?_map]
 cases js[k]? with
 | none=>rfl
 | some o=>cases o <;> rfl
theorem Qg6 (js:List (Option Nat)) (ρi:En):∀ (ρ:En) (n j:Nat),Qb (Qdk js ρi n ρ) j = if j < ρ.length then Qif js ρi (n + j) (Qb ρ j) else .un
 | [],n,j=>by
  unfold Qdk
  rw [if_neg (by simp),Qfs]
 | s :: ρ,n,0=>by unfold Qdk; rw [if_pos (by simp)]; rfl
 | s :: ρ,n,j + 1=>by
  unfold Qdk
  rw [Qe,Qe,Qg6 js ρi ρ (n + 1) j,show n + 1 + j = n + (j + 1) by omega]
  by_cases h:j < ρ.length
  ·rw [if_pos h,if_pos (by rw [List.length_cons]; omega)]
  ·rw [if_neg h,if_neg (by rw [List.length_cons]; omega)]
theorem Qkh (js:List (Option Nat)) (ρi:En):∀ (ρ:En) (n:Nat),(Qdk js ρi n ρ).length = ρ.length
 | [],_=>rfl
 | s :: ρ,n=>by unfold Qdk; rw [List.length_cons,List.length_cons,Qkh js ρi ρ (n + 1)]
theorem Qdt (js:List (Option Nat)) (ρi:En) (j:Nat) (s:Slot):Qif js ρi j s = s ∨ ∃ k t,js.idxOf? (some j) = some k ∧ Qb ρi k = .ml t ∧ Qif js ρi j s = s.put t:=by
 unfold Qif
 cases h1:js.idxOf? (some j) with
 | none=>exact .inl rfl
 | some k =>
  cases h2:Qb ρi k with
  | ml t=>exact .inr ⟨k,t,rfl,h2,by simp only [h2]⟩
  | un=>exact .inl (by simp only [h2])
  | pin _=>exact .inl (by simp only [h2])
  | fx _=>exact .inl (by simp only [h2])
  | fz t=>exact .inl (by simp only [h2])
  | ow t=>exact .inl (by simp only [h2])
  | ro t=>exact .inl (by simp only [h2])
theorem Qg7 (js:List (Option Nat)) (ρi ρ:En) (j:Nat):Qb (Qm4 js ρi ρ) j = Qif js ρi j (Qb ρ j):=by
 unfold Qm4
 rw [Qg6,Nat.zero_add]
 by_cases h:j < ρ.length
 ·rw [if_pos h]
 ·rw [if_neg h]
  have e:Qb ρ j = .un:=by
   unfold Qb
   rw [List.getElem?_eq_none_iff.mpr (by omega)]
  rw [e]
  rcases Qdt js ρi j .un with z | ⟨k,t,_,_,z⟩ <;> rw [z] <;> rfl
theorem Q2t:∀ {js:List (Option Nat)} {j k:Nat},js.idxOf? (some j) = some k → js[k]? = some (some j):=by
 intro js j k h
 have:=List.idxOf?_eq_some_iff.mp h
 obtain ⟨h1,h2,_⟩:=this
 rw [List.getElem?_eq_getElem h1,h2]
theorem Qy9 {js:List (Option Nat)} {j k:Nat} (h:js.idxOf? (some j) = none):js[k]? ≠ some (some j):=fun e=>by
 have:=List.idxOf?_eq_none_iff.mp h
 exact this (List.mem_of_getElem? e)
theorem Qlx:∀ {js:List (Option Nat)},Qcj js = true → ∀ (i k j:Nat),js[i]? = some (some j) → js[k]? = some (some j) → i = k
 | [],_,i,k,j,e,_=>by simp at e
 | r :: js,h,i,k,j,e1,e2=>by
  have tl:Qcj js = true:=by
   cases r with
   | some q=>unfold Qcj at h; rw [Bool.and_eq_true] at h; exact h.2
   | none=>exact h
  have hd:∀ (m:Nat),r = some j → js[m]? = some (some j) → False:=fun m er em=>by
   subst er
   unfold Qcj at h
   rw [Bool.and_eq_true] at h
   have q:=List.all_eq_true.mp h.1 _ (List.mem_of_getElem? em)
   simp at q
  cases i with
  | zero =>
   cases k with
   | zero=>rfl
   | succ k=>simp at e1; rw [List.getElem?_cons_succ] at e2; exact (hd k e1 e2).elim
  | succ i =>
   cases k with
   | zero=>simp at e2; rw [List.getElem?_cons_succ] at e1; exact (hd i e2 e1).elim
   | succ k =>
    rw [List.getElem?_cons_succ] at e1 e2
    rw [Qlx tl i k j e1 e2]
theorem Qn9:∀ {ρ0 ρ:En},Qgm ρ0 ρ = true → ∀ (i:Nat) (t:T),Qb ρ0 i = .ml t → ∃ t',Qb ρ i = .ml t'
 | [],[],_,i,t,e=>by rw [Qfs] at e; cases e
 | [],_ :: _,h,_,_,_=>by cases h
 | s0 :: ρ0,[],h,_,_,_=>by cases s0 <;> cases h
 | s0 :: ρ0,s :: ρ,h,i,t,e=>by
  have tl:Qgm ρ0 ρ = true:=by
   cases s0 <;> first | exact h | skip
   unfold Qgm at h
   rw [Bool.and_eq_true] at h
   exact h.2
  cases i with
  | zero =>
   rw [Qd] at e
   subst e
   unfold Qgm at h
   rw [Bool.and_eq_true] at h
   cases s <;> first | (simp at h; done) | exact ⟨_,rfl⟩
  | succ i =>
   rw [Qe] at e ⊢
   exact Qn9 tl i t e
section
variable {B:Bs} {H H1 H2:Hp} {G G1 G2:Addr → Prop} {σ σ2:St} {ρ ρi:En} {js:List (Option Nat)}
theorem Qza {s:Slot} {t:T} (h:s.lend.prv = some t):s.prv = some t:=by cases s <;> exact h
theorem FI.cap (F:FI B H G σ ρ) (hj:Qcj js = true):FI (Qap H G (Qfm js σ) (Qer js ρ)) H G (Qfm js σ) (Qer js ρ):=by
 have pv:∀ k a,PrvAt (Qfm js σ) (Qer js ρ) k a → ∃ j,js[k]? = some (some j) ∧ PrvAt σ ρ j a:=fun k a h=>by
  obtain ⟨⟨t,e⟩,q⟩:=h
  rw [Qds] at e
  rw [Qji] at q
  cases hk:js[k]? with
  | none=>rw [hk] at e; cases e
  | some o =>
   cases o with
   | none=>rw [hk] at e; cases e
   | some j =>
    rw [hk] at e q
    refine ⟨j,rfl,⟨t,Qza e⟩,?_⟩
    replace q:some (σ[j]?.join) = some (some (.ref a)):=q
    cases hs:σ[j]? with
    | none=>rw [hs] at q; cases q
    | some w=>rw [hs] at q; exact q
 refine ⟨by unfold Qfm Qer; rw [List.length_map,List.length_map],fun k=>?_,fun i k a h1 h2=>?_,F.prv,fun _ _ _ _ e=>e,fun _ o e=>⟨o,e⟩,fun _ h=>.inr h,fun _ h=>h,fun _ _ h=>h,fun _ h=>h,fun _ h=>.inl h,fun b h=>let ⟨xs,e,_⟩:=F.prv b h; ⟨_,e⟩⟩
 ·rw [Qds]
  cases hk:js[k]? with
  | none=>trivial
  | some o =>
   cases o with
   | none=>trivial
   | some j =>
    have q:=F.slot j
    have gt:∀ v,σ[j]? = some (some v) → (Qfm js σ)[k]? = some (some v):=fun v e=>by
     rw [Qji,hk]
     show some (σ[j]?.join) = _
     rw [e]
     rfl
    show Qq8 H G (Qfm js σ) k (Qb ρ j).lend
    cases hs:Qb ρ j with
    | un=>trivial
    | pin a=>trivial
    | fx t=>rw [hs] at q; obtain ⟨v,o,e,_,i⟩:=q; exact ⟨_,gt _ e,i⟩
    | fz t=>rw [hs] at q; obtain ⟨v,e,i⟩:=q; exact ⟨v,gt _ e,i⟩
    | ow t=>rw [hs] at q; obtain ⟨v,e,i⟩:=q; exact ⟨v,gt _ e,i⟩
    | ml t=>rw [hs] at q; obtain ⟨v,e,i⟩:=q; exact ⟨v,gt _ e,i⟩
    | ro t=>rw [hs] at q; obtain ⟨v,e,i⟩:=q; exact ⟨v,gt _ e,i⟩
 ·obtain ⟨j1,e1,p1⟩:=pv i a h1
  obtain ⟨j2,e2,p2⟩:=pv k a h2
  have ej:=F.apart j1 j2 a p1 p2
  subst ej
  exact Qlx hj i k j1 e1 e2
theorem FI.uncap (F:FI B H G σ ρ) (hj:Qcj js = true) (I:FI (Qap H G (Qfm js σ) (Qer js ρ)) H2 G2 σ2 ρi) (hk:Qgm (Qer js ρ) ρi = true):FI B H2 G2 σ (Qm4 js ρi ρ):=by
 have Fc:=F.cap hj
 have sm:=Fc.same I
 have noO:∀ a,¬ OwA (Qfm js σ) (Qer js ρ) a:=fun a h=>by
  obtain ⟨k,t,e,_⟩:=h
  rw [Qds] at e
  cases hk:js[k]? with
  | none=>rw [hk] at e; cases e
  | some o =>
   cases o with
   | none=>rw [hk] at e; cases e
   | some j =>
    rw [hk] at e
    have e:(Qb ρ j).lend = .ow t:=e
    cases hs:Qb ρ j <;> rw [hs] at e <;> cases e
 have isM:∀ a,MlA (Qfm js σ) (Qer js ρ) a → ∃ (k j:Nat) (t:T),js[k]? = some (some j) ∧ (Qb ρ j = .ow t ∨ Qb ρ j = .ml t) ∧ σ[j]? = some (some (.ref a)):=fun a h=>by
  obtain ⟨k,t,e,q⟩:=h
  rw [Qds] at e
  rw [Qji] at q
  cases hk:js[k]? with
  | none=>rw [hk] at e; cases e
  | some o =>
   cases o with
   | none=>rw [hk] at e; cases e
   | some j =>
    rw [hk] at e q
    have e:(Qb ρ j).lend = .ml t:=e
    refine ⟨k,j,t,hk,?_,?_⟩
    ·cases hs:Qb ρ j <;> rw [hs] at e <;> cases e
     ·exact .inl rfl
     ·exact .inr rfl
    ·replace q:some (σ[j]?.join) = some (some (.ref a)):=q
     cases hs:σ[j]? with
     | none=>rw [hs] at q; cases q
     | some w=>rw [hs] at q; exact q
 -- a list of the frame that the block can't change
 have stay:∀ j a t,(Qb ρ j).prv = some t → σ[j]? = some (some (.ref a)) → OwnAt H G a t → ((∀ t,Qb ρ j ≠ .ow t) ∧ (∀ t,Qb ρ j ≠ .ml t) ∨ js.idxOf? (some j) = none) → OwnAt H2 G2 a t:=fun j a t e s o h=>by
  refine o.mono sm fun u eu=>I.chg a u (noO a) (fun z=>?_) eu
  obtain ⟨k,j',t',e1,hs,e2⟩:=isM a z
  have ej:j' = j:=F.apart j' j a ⟨⟨t',by rcases hs with hs | hs <;> rw [hs] <;> rfl⟩,e2⟩ ⟨⟨t,e⟩,s⟩
  subst ej
  rcases h with ⟨h1,h2⟩ | h
  ·rcases hs with hs | hs
   ·exact h1 _ hs
   ·exact h2 _ hs
  ·exact Qy9 h e1
 -- one that it may
 have lent:∀ j a t k,(Qb ρ j = .ow t ∨ Qb ρ j = .ml t) → σ[j]? = some (some (.ref a)) → js.idxOf? (some j) = some k → ∃ t',Qb ρi k = .ml t' ∧ OwnAt H2 G2 a t':=fun j a t k hs s hx=>by
  have e1:=Q2t hx
  have e0:Qb (Qer js ρ) k = .ml t:=by
   rw [Qds,e1]
   show (Qb ρ j).lend = _
   rcases hs with hs | hs <;> rw [hs] <;> rfl
  obtain ⟨t',e2⟩:=Qn9 hk k t e0
  have q:=I.slot k
  rw [e2] at q
  obtain ⟨a',q1,_,q3⟩:=q
  obtain ⟨_,q4⟩:=I.fix k a' ⟨⟨t',.inl e2⟩,q1⟩
  rw [Qji,e1] at q4
  replace q4:some (σ[j]?.join) = some (some (.ref a')):=q4
  rw [s] at q4
  have q5:a = a':=by
   have:=Option.some.inj q4
   have:=Option.some.inj (show some (V.ref a) = some (V.ref a') from this)
   cases this
   rfl
  subst q5
  exact ⟨t',e2,q3⟩
 have kd:∀ j s',Qb (Qm4 js ρi ρ) j = s' → (s' = Qb ρ j ∨ ∃ t,s' = (Qb ρ j).put t):=fun j s' h=>by
  rw [Qg7] at h
  rcases Qdt js ρi j (Qb ρ j) with z | ⟨k,t,_,_,z⟩
  ·rw [z] at h; exact .inl h.symm
  ·rw [z] at h; exact .inr ⟨t,h.symm⟩
 have pv:∀ j a,PrvAt σ (Qm4 js ρi ρ) j a → PrvAt σ ρ j a:=fun j a h=>by
  obtain ⟨⟨u,e⟩,q⟩:=h
  refine ⟨?_,q⟩
  rcases kd j _ rfl with z | ⟨t,z⟩
  ·rw [z] at e; exact ⟨u,e⟩
  ·rw [z] at e; exact Qo3 e
 exact {
  len:=by unfold Qm4; rw [Qkh]; exact F.len
  slot:=fun j=>by
   have q:=F.slot j
   have bc:=Qdt js ρi j (Qb ρ j)
   rw [Qg7]
   cases hs:Qb ρ j with
   | un =>
    rw [hs] at bc
    rcases bc with e | ⟨k,t,_,_,e⟩ <;> rw [e] <;> trivial
   | pin a =>
    rw [hs] at q bc
    rcases bc with e | ⟨k,t,_,_,e⟩ <;> rw [e] <;> exact q
   | fz t =>
    rw [hs] at q bc
    obtain ⟨v,e1,e2⟩:=q
    rcases bc with e | ⟨k,t,_,_,e⟩ <;> rw [e] <;> exact ⟨v,e1,e2.mono sm⟩
   | fx t =>
    rw [hs] at q bc
    obtain ⟨v,o,e1,e3,e2⟩:=q
    rcases bc with e | ⟨k,t,_,_,e⟩ <;> rw [e] <;> exact ⟨v,o,e1,sm _ _ e3,e2.mono sm⟩
   | ro t =>
    rw [hs] at q bc
    obtain ⟨a,e1,g,o⟩:=q
    have o':=stay j a t (by rw [hs]; rfl) e1 o (.inl ⟨fun t z=>(by rw [hs] at z; cases z),fun t z=>(by rw [hs] at z; cases z)⟩)
    rcases bc with e | ⟨k,t,_,_,e⟩ <;> rw [e] <;> exact ⟨a,e1,I.gg a g,o'⟩
   | ow t =>
    rw [hs] at q bc
    obtain ⟨a,e1,g,o⟩:=q
    cases hp:js.idxOf? (some j) with
    | none =>
     have o':=stay j a t (by rw [hs]; rfl) e1 o (.inr hp)
     rcases bc with e | ⟨k,t',h,_,e⟩
     ·rw [e]; exact ⟨a,e1,I.gg a g,o'⟩
     ·rw [hp] at h; cases h
    | some k =>
     obtain ⟨t',ef,o'⟩:=lent j a t k (.inl hs) e1 hp
     have e:Qif js ρi j (.ow t) = .ow t':=by unfold Qif; rw [hp]; simp only [ef]; rfl
     rw [e]
     exact ⟨a,e1,I.gg a g,o'⟩
   | ml t =>
    rw [hs] at q bc
    obtain ⟨a,e1,g,o⟩:=q
    cases hp:js.idxOf? (some j) with
    | none =>
     have o':=stay j a t (by rw [hs]; rfl) e1 o (.inr hp)
     rcases bc with e | ⟨k,t',h,_,e⟩
     ·rw [e]; exact ⟨a,e1,I.gg a g,o'⟩
     ·rw [hp] at h; cases h
    | some k =>
     obtain ⟨t',ef,o'⟩:=lent j a t k (.inr hs) e1 hp
     have e:Qif js ρi j (.ml t) = .ml t':=by unfold Qif; rw [hp]; simp only [ef]; rfl
     rw [e]
     exact ⟨a,e1,I.gg a g,o'⟩
  apart:=fun i j a h1 h2=>F.apart i j a (pv i a h1) (pv j a h2)
  prv:=I.prv
  chg:=fun b o h1 h2 e=>I.chg b o (noO b) (fun z=>by
   obtain ⟨k,j,t,_,hs,q⟩:=isM b z
   rcases hs with hs | hs
   ·rcases F.newO b ⟨j,t,hs,q⟩ with y | y
    ·rw [e] at y; cases y
    ·exact h1 y
   ·exact h2 (F.newM b ⟨j,t,hs,q⟩)) (F.chg b o h1 h2 e)
  keep:=fun b o e=>by
   obtain ⟨o1,e1⟩:=F.keep b o e
   exact I.keep b o1 e1
  newO:=fun a h=>by
   obtain ⟨j,t,e,s⟩:=h
   rcases kd j _ e with z | ⟨u,z⟩
   ·exact F.newO a ⟨j,t,z.symm,s⟩
   ·cases hs:Qb ρ j <;> rw [hs] at z <;> cases z
    exact F.newO a ⟨j,_,hs,s⟩
  newM:=fun a h=>by
   obtain ⟨j,t,e,s⟩:=h
   rcases kd j _ e with z | ⟨u,z⟩
   ·exact F.newM a ⟨j,t,z.symm,s⟩
   ·cases hs:Qb ρ j <;> rw [hs] at z <;> cases z
    exact F.newM a ⟨j,_,hs,s⟩
  fix:=fun j a h=>by
   obtain ⟨⟨t,e⟩,s⟩:=h
   refine F.fix j a ⟨?_,s⟩
   rcases e with e | e | e
   ·rcases kd j _ e with z | ⟨u,z⟩
    ·exact ⟨t,.inl z.symm⟩
    ·cases hs:Qb ρ j <;> rw [hs] at z <;> cases z
     exact ⟨_,.inl rfl⟩
   ·rcases kd j _ e with z | ⟨u,z⟩
    ·exact ⟨t,.inr (.inl z.symm)⟩
    ·cases hs:Qb ρ j <;> rw [hs] at z <;> cases z
     exact ⟨_,.inr (.inl rfl)⟩
   ·rcases kd j _ e with z | ⟨u,z⟩
    ·exact ⟨t,.inr (.inr z.symm)⟩
    ·cases hs:Qb ρ j <;> rw [hs] at z <;> cases z
     exact ⟨_,.inr (.inr rfl)⟩
  gg:=fun b h=>I.gg b (F.gg b h)
  gn:=fun b h=>by
   rcases I.gn b h with z | z
   ·exact F.gn b z
   ·exact .inr (F.free z)
  bp:=F.bp }
end
noncomputable def tCs (p:Pr) (cs:Es):TT:=fun σ H Q=>∃ G ρ,FI (Qap H G σ ρ) H G σ ρ ∧ Fin p (Qap H G σ ρ) σ (evC p.cf cs ρ) fun b ρ1=>∀ H1 G1,FI (Qap H G σ ρ) H1 G1 σ ρ1 → Q b H1
section
variable {X:Cx} {p:Pr} {a:Expr} {a':E}
theorem Qb0:QC X [] (tCs p .nil):=q_c0.weak fun σ H Q zz1=>by obtain ⟨G,ρ,F,h⟩:=zz1; unfold evC at h; exact h H G F
end
noncomputable abbrev Pr.calm (p:Pr):Pr:={ p with R:=fun _ _ _ _=>False }
theorem Qu7 {α β:Type} {o:Out α} {k:α → En → Out β} {b:β} {ρ:En} (h:o.bind k = .ok b ρ):∃ a ρ1,o = .ok a ρ1 ∧ k a ρ1 = .ok b ρ:=by
 cases o with
 | ok a ρ1=>exact ⟨a,ρ1,rfl,h⟩
 | xn x ρ1=>cases h
 | no=>cases h
theorem FI.under {B:Bs} {H:Hp} {G:Addr → Prop} {σ:St} {ρ:En} (F:FI B H G σ ρ) {l:Addr} {ys:List V} (g:G l) (np:∀ k,¬ PrvAt σ ρ k l) (hb:B.H l = none):FI B (upd H l (.lst ys)) G σ ρ ∧ Same (dls H G) (dls (upd H l (.lst ys)) G):=by
 have sm:Same (dls H G) (dls (upd H l (.lst ys)) G):=fun b o eb=>by
  obtain ⟨n,eb⟩:=Qs eb
  rw [Qb7 n,Q3 (fun (z:b = l)=>n (by rw [z]; exact g))]
  exact eb
 refine ⟨{ F with
  slot:=fun j=>Qil (F.slot j) sm fun b o hb1 hb2 eb=>?_
  prv:=fun b hb=>?_
  chg:=fun b o h1 h2 eb=>?_
  keep:=fun b o eb=>?_ },sm⟩
 ·have nb:b ≠ l:=fun z=>np j ⟨hb1,z ▸ hb2⟩
  exact ⟨by rw [Q3 nb]; exact eb,(PrvAt.at F ⟨hb1,hb2⟩).1⟩
 ·by_cases h:b = l
  ·exact ⟨.lst ys,by rw [h,Qo],rfl⟩
  ·rw [Q3 h]; exact F.prv b hb
 ·have nb:b ≠ l:=fun z=>by rw [z,hb] at eb; cases eb
  rw [Q3 nb]
  exact F.chg b o h1 h2 eb
 ·by_cases h:b = l
  ·exact ⟨_,by rw [h,Qo]⟩
  ·rw [Q3 h]; exact F.keep b o eb
theorem Q2u {p:Pr} {js:List (Option Nat)} {w:W} {tg:Tg} {cs:Es} {e':E} {σ:St} {H:Hp} {Q:VK} (h:tE p (.comp w js tg cs e') σ H Q):Qx2 (tW p w) js (tG tg) (tCs p.calm cs) (tE p.calm e') σ H Q:=by
  obtain ⟨G,ρ,F,h⟩:=h
  unfold evE at h
  refine ⟨G,ρ,F,h.bind.imp fun its ρ1 h1=>?_⟩
  obtain ⟨ts,lk⟩:=its
  cases lk with
  | some _=>exact False.elim h1
  | none =>
   refine ⟨rfl,fun J H1 G1 Ok F1 wk stab l hl=>?_⟩
   replace wk:WkR J H1 G1 Ok ts:=wk
   replace h1:Fin p (Qap H G σ ρ) σ (match Qdr tg (evC p.cf cs) (evE p.cf e') ts [] (Qer js ρ1) with
    | .ok us ρi=>if Qgm (Qer js ρ1) ρi = true ∧ Qcj js = true then Out.ok (PV.ow (.lst us)) (Qm4 js ρi ρ1) else .no
    | _=>.no) _:=h1
   cases ec:Qdr tg (evC p.cf cs) (evE p.cf e') ts [] (Qer js ρ1) with
   | no=>rw [ec] at h1; exact False.elim h1
   | xn x ρx=>rw [ec] at h1; exact False.elim h1
   | ok tsF ρF =>
    rw [ec] at h1
    by_cases hz:Qgm (Qer js ρ1) ρF = true ∧ Qcj js = true
    ·simp only [if_pos hz] at h1
     obtain ⟨hkept,hap⟩:=hz
     have Fc:=F1.cap hap
     refine ⟨fun i m ys σ2 H2=>i + m = ts.length ∧ ∃ G2 ρi acc,FI (Qap H1 G1 (Qfm js σ) (Qer js ρ1)) H2 G2 σ2 ρi ∧ G2 l ∧ (∀ k,¬ PrvAt σ2 ρi k l) ∧ H2 l = some (.lst ys) ∧ IsL (dls H2 G2) ys acc ∧ acc.length ≤ 100000 ∧
      Qdr tg (evC p.cf cs) (evE p.cf e') (ts.drop i) acc ρi = .ok tsF ρF,⟨ts.length,Nat.zero_add _,_,_,[],Fc.addG hl (Same.upd hl) Qo rfl,.inr rfl,fun k hk=>?_,Qo,.nil,Nat.zero_le _,ec⟩,?_⟩
     ·obtain ⟨_,t,ob,ea,_⟩:=PrvAt.at Fc hk
      rw [hl] at ea
      cases ea
     rintro i m ys σ2 H2 ⟨him,G2,ρi,acc,I2,gl,np,el,il,zl,cl⟩
     have ok2:Ok H2:=stab H2 G2 (Fc.same I2)
     by_cases hlt:i < ts.length
     ·refine .inr ⟨wk.go i H2 hlt ok2,fun x H3 y=>?_⟩
      obtain ⟨s3,t,et,ix⟩:=wk.yld i H2 x H3 hlt ok2 y
      have I3:=I2.grow s3
      have ix3:=ix G2 I2.prv (Fc.same I2)
      rw [List.drop_eq_getElem_cons hlt] at cl
      have et':ts[i] = t:=by rw [List.getElem?_eq_getElem hlt] at et; exact Option.some.inj et
      rw [et'] at cl
      unfold Qdr at cl
      cases est:Qie tg t ρi with
      | none=>rw [est] at cl; cases cl
      | some ρ4 =>
       rw [est] at cl
       replace cl:(evC p.cf cs ρ4).bind _ = .ok tsF ρF:=cl
       obtain ⟨b,ρ5,eb,cl⟩:=Qu7 cl
       refine ⟨_,G2,ρi,t,ρ4,I3,ix3,est,fun σ4 I4 old=>?_⟩
       have np4:∀ k,¬ PrvAt σ4 ρ4 k l:=fun k hk=>np k (old k l hk)
       refine ⟨G2,ρ4,I4.self,?_⟩
       rw [show p.calm.cf = p.cf from rfl,eb]
       intro H5 G5 I5
       have np5:=I4.nobody I5 (s3 _ _ el) np4
       have I5':=I4.trans I5
       have el5:H5 l = some (.lst ys):=I5.chg l _ (fun z=>by obtain ⟨j,z⟩:=OwA.prv z; exact np4 j z) (fun z=>by obtain ⟨j,z⟩:=MlA.prv z; exact np4 j z) (s3 _ _ el)
       have il5:IsL (dls H5 G5) ys acc:=(il.mono (Qaq s3)).mono (I4.same I5)
       cases b with
       | false =>
        simp only [Bool.false_eq_true,if_false] at cl ⊢
        exact ⟨m - 1,by omega,by omega,G5,ρ5,acc,I5',I5.gg l gl,np5,el5,il5,zl,cl⟩
       | true =>
        simp only [if_true] at cl ⊢
        obtain ⟨r,ρ6,er,cl⟩:=Qu7 cl
        refine ⟨G5,ρ5,I5'.self,?_⟩
        rw [show p.calm.cf = p.cf from rfl,er]
        intro v H6 G6 I6 r6
        cases ef:frz r with
        | none=>rw [ef] at cl; cases cl
        | some t6 =>
         rw [ef] at cl
         replace cl:(if acc.length < 100000 then Qdr tg (evC p.cf cs) (evE p.cf e') (ts.drop (i + 1)) (acc ++ [t6]) ρ6 else .no) = .ok tsF ρF:=cl
         by_cases za:acc.length < 100000
         ·rw [if_pos za] at cl
          have np6:=I5'.nobody I6 el5 np5
          have el6:H6 l = some (.lst ys):=I6.chg l _ (fun z=>by obtain ⟨j,z⟩:=OwA.prv z; exact np5 j z) (fun z=>by obtain ⟨j,z⟩:=MlA.prv z; exact np5 j z) el5
          have il6:IsL (dls H6 G6) ys acc:=il5.mono (I5'.same I6)
          obtain ⟨G7,I7,i7,s7⟩:=PVR.lay (B:=Qap H5 G5 σ4 ρ5) r6 I6 ef
          have g7:G7 l:=I7.gg l (I5.gg l gl)
          have I7':=I5'.trans I7
          have hb:(Qap H1 G1 (Qfm js σ) (Qer js ρ1)).H l = none:=hl
          obtain ⟨I8,s8⟩:=I7'.under (ys:=ys ++ [v]) g7 np6 hb
          have zy:=il6.length
          refine ⟨el6,by rw [zy,sizeLine_eq]; omega,m - 1,by omega,by omega,G7,ρ6,acc ++ [t6],I8,g7,np6,Qo,((il6.mono (Qdj s7)).append (.one i7)).mono s8,by rw [List.length_append,List.length_singleton]; omega,cl⟩
         ·rw [if_neg za] at cl; cases cl
     ·have e0:ts.drop i = []:=List.drop_of_length_le (by omega)
      rw [e0] at cl
      cases cl
      refine .inl ⟨wk.stop i H2 (by omega) ok2,h1 _ H2 G2 (F1.uncap hap I2 hkept) ?_⟩
      refine ⟨l,rfl,F1.free hl,gl,fun k hk=>?_,.lst ys,el,zl,il⟩
      obtain ⟨⟨u,eu⟩,q⟩:=hk
      rw [Qg7] at eu
      have:∃ u,(Qb ρ1 k).prv = some u:=by
       rcases Qdt js ρF k (Qb ρ1 k) with z | ⟨_,t,_,_,z⟩
       ·rw [z] at eu; exact ⟨u,eu⟩
       ·rw [z] at eu; exact Qo3 eu
      obtain ⟨_,t,ob,ea,_⟩:=PrvAt.at F1 ⟨this,q⟩
      rw [hl] at ea
      cases ea
    ·simp only [if_neg hz] at h1
     exact False.elim h1
theorem Q8t {X:Cx} {p:Pr} {tgE elt iter:Expr} {ifs:List Expr} {scope:Scope} {pos:Pos} {N:List Str} {js:List (Option Nat)} {w:W} {tg:Tg} {cs:Es} {e':E} (hcalm:X.calm = true)
  (hi:QI X tgE iter (tW p w)) (hg:∀ s H fp,QG (Qa7 X scope N s H fp) tgE (tG tg)) (hc:∀ s H fp,QC (Qa7 X scope N s H fp) ifs (tCs p.calm cs)) (he:∀ s H fp,QE (Qa7 X scope N s H fp) elt (tE p.calm e'))
  (hk:scope.kind = .function) (h1:scOk X scope = true) (h2:Qnx X scope N js = true) (hs:∀ x,foldedSetIterable iter X.env x = pure x):QE X (.ListComp elt [⟨tgE,iter,ifs,0⟩] scope pos) (tE p (.comp w js tg cs e')) :=
 (Q7t N js hcalm hi hg hc he hk h1 h2 hs).weak fun σ H Q h=>Q2u h
theorem QS.weak {X:Cx} {e:Stmt} {t t':TS} (h:QS X e t) (q:∀ D σ H,t' D σ H → t D σ H):QS X e t':=⟨fun pins s σ H D I z=>h.h pins s σ H D I (q _ _ _ z)⟩
theorem QB.weak {X:Cx} {e:List Stmt} {t t':TS} (h:QB X e t) (q:∀ D σ H,t' D σ H → t D σ H):QB X e t':=⟨fun pins s σ H D I z=>h.h pins s σ H D I (q _ _ _ z)⟩
noncomputable def SFin (p:Pr) (B:Bs) (H:Hp) (G:Addr → Prop) (D:Ends):SO → Prop
 | .nx ρ1=>∀ σ1 H1 G1,FI B H1 G1 σ1 ρ1 → Same (dls H G) (dls H1 G1) → D.nx σ1 H1
 | .bk ρ1=>∀ σ1 H1 G1,FI B H1 G1 σ1 ρ1 → Same (dls H G) (dls H1 G1) → D.bk σ1 H1
 | .ct ρ1=>∀ σ1 H1 G1,FI B H1 G1 σ1 ρ1 → Same (dls H G) (dls H1 G1) → D.ct σ1 H1
 | .rt r ρ1=>∀ v σ1 H1 G1,FI B H1 G1 σ1 ρ1 → PVR B.H H1 G1 σ1 ρ1 v r → D.rt v H1
 | .xn x ρ1=>∀ cls dx σ1 H1 G1,FI B H1 G1 σ1 ρ1 → Q8c p.mg H1 x cls dx → p.R cls dx σ1 H1
 | .no=>False
noncomputable def tS (p:Pr) (s:S):TS:=fun D σ H=>∃ B G ρ,FI B H G σ ρ ∧ (∀ a,¬ B.O a) ∧ SFin p B H G D (exS p.cf s ρ)
section
variable {p:Pr} {B:Bs} {H H1:Hp} {G G1:Addr → Prop} {D:Ends} {σ:St} {ρ ρ1:En} {α:Type}
theorem SFin.late {o:SO} (h:SFin p B H G D o) (s:Same (dls H G) (dls H1 G1)):SFin p B H1 G1 D o:=by
 cases o with
 | nx ρ1=>exact fun σ1 H2 G2 F q=>h σ1 H2 G2 F (s.trans q)
 | bk ρ1=>exact fun σ1 H2 G2 F q=>h σ1 H2 G2 F (s.trans q)
 | ct ρ1=>exact fun σ1 H2 G2 F q=>h σ1 H2 G2 F (s.trans q)
 | rt r ρ1=>exact h
 | xn x ρ1=>exact h
 | no=>exact h
theorem Qly {o:Out α} {k:α → En → SO} (h:SFin p B H G D (ofO o k)):Fin p B σ o fun a ρ1=>SFin p B H G D (k a ρ1):=by
 cases o with
 | ok a ρ1=>exact h
 | xn x ρ1=>exact fun cls dx H1 G1 F xr=>h cls dx σ H1 G1 F xr
 | no=>exact h
theorem Qg8 {o:Option α} {k:α → SO} (h:SFin p B H G D (Qat o k)):∃ a,o = some a ∧ SFin p B H G D (k a):=by
 cases o with
 | none=>exact False.elim h
 | some a=>exact ⟨a,rfl,h⟩
theorem PVR.base {H2:Hp} {G2:Addr → Prop} {ρ2:En} {v:V} {r:PV} (h:PVR H1 H2 G2 σ ρ2 v r) (F:FI B H1 G1 σ ρ1):PVR B.H H2 G2 σ ρ2 v r:=by
 cases r with
 | fz t=>exact h
 | sl i=>exact h
 | ow t =>
  obtain ⟨a,rfl,n,g⟩:=h
  exact ⟨a,rfl,F.free n,g⟩
theorem Qgp {e:E} {Q:VK} {K:PV → En → SO} (F:FI B H G σ ρ) (h:SFin p B H G D (ofO (evE p.cf e ρ) K)) (q:∀ r ρ2 v H2 G2,SFin p B H2 G2 D (K r ρ2) → FI B H2 G2 σ ρ2 → FI (Qap H G σ ρ) H2 G2 σ ρ2 → PVR B.H H2 G2 σ ρ2 v r → Same (dls H G) (dls H2 G2) → Q v H2):tE p e σ H Q :=
 Quw F (Qly h) fun r ρ2 v H2 G2 k F2 F2' r2=>q r ρ2 v H2 G2 (k.late (F.same F2')) F2 F2' (r2.base F) (F.same F2')
theorem Qzb {e:E} {Q:Bool → Hp → Prop} {K:Bool → En → SO} (F:FI B H G σ ρ) (h:SFin p B H G D (ofO (Qaa (evE p.cf e ρ)) K)) (q:∀ b ρ2 H2 G2,SFin p B H2 G2 D (K b ρ2) → FI B H2 G2 σ ρ2 → Same (dls H G) (dls H2 G2) → Q b H2):tT p e σ H Q :=
 Qyy F (Qly h) fun b ρ2 H2 G2 k F2 F2'=>q b ρ2 H2 G2 (k.late (F.same F2')) F2 (F.same F2')
end
section
variable {X:Cx} {p:Pr} {e a b:Expr} {e' a' b' c':E} {st:Stmt} {sts:List Stmt} {s s1 s2:S} {pos p1 p2:Pos} {x:Str}
theorem Qc3:QB X [] (tS p .nil):=Qta.weak fun D σ H ⟨B,G,ρ,F,hO,h⟩=>h σ H G F (Same.refl _)
theorem Qzc {D:Ends} {σ:St} {H:Hp} (h:tS p (.seq s1 s2) D σ H):Qxg (tS p s1) (tS p s2) D σ H:=by
 obtain ⟨B,G,ρ,F,hO,h⟩:=h
 refine ⟨B,G,ρ,F,hO,?_⟩
 unfold exS at h
 cases e:exS p.cf s1 ρ with
 | nx ρ1=>rw [e] at h; exact fun σ1 H1 G1 F1 q=>⟨B,G1,ρ1,F1,hO,SFin.late (p:=p) (D:=D) h q⟩
 | bk ρ1=>rw [e] at h; exact h
 | ct ρ1=>rw [e] at h; exact h
 | rt r ρ1=>rw [e] at h; exact h
 | xn x ρ1=>rw [e] at h; exact h
 | no=>rw [e] at h; exact h
theorem Qn (h1:QS X st (tS p s1)) (h2:QB X sts (tS p s2)):QB X (st :: sts) (tS p (.seq s1 s2)):=(Qk3 h1 h2).weak fun D σ H h=>Qzc h
theorem Qu (h1:QS X st (tS p s1)):QB X [st] (tS p s1):=Qow h1
theorem Q8u (he:QE X e (tE p e')) (hs:swapsWith e none pos.line X.env = pure false):QS X (.Expr e pos) (tS p (.expr e')):=(Qg0 he hs).weak fun D σ H zz1=>by
 obtain ⟨B,G,ρ,F,hO,h⟩:=zz1
 unfold exS at h
 exact Qgp F h fun r ρ2 v H2 G2 k F2 _ _ sm=>k σ H2 G2 F2 (Same.refl _)
theorem Qae (he:QE X e (tE p e')):QS X (.Return (some e) pos) (tS p (.ret e')):=(Qut he).weak fun D σ H zz1=>by
 obtain ⟨B,G,ρ,F,hO,h⟩:=zz1
 unfold exS at h
 exact Qgp F h fun r ρ2 v H2 G2 k F2 _ pv _=>k v σ H2 G2 F2 pv
theorem Qfu {c:Expr} {bs cs:List Stmt} (hc:QT X c (tT p c')) (ha:QB X bs (tS p s1)) (hb:QB X cs (tS p s2)):QS X (.If c bs cs pos) (tS p (.ite c' s1 s2)):=(Qye hc ha hb).weak fun D σ H zz1=>by
 obtain ⟨B,G,ρ,F,hO,h⟩:=zz1
 unfold exS at h
 refine Qzb F h fun k ρ2 H2 G2 h2 F2 sm=>?_
 cases k with
 | true=>exact ⟨B,G2,ρ2,F2,hO,h2⟩
 | false=>exact ⟨B,G2,ρ2,F2,hO,h2⟩
theorem Q2v {B:Bs} {H:Hp} {G:Addr → Prop} {D:Ends} {σ:St} {ρ:En} {i:Nat} {r:PV} {v:V} (F:FI B H G σ ρ) (pv:PVR B.H H G σ ρ v r) (h:SFin p B H G D (Qo0 i r ρ)):D.nx (σ.set i (some v)) H:=by
 cases r with
 | sl j=>exact False.elim h
 | fz t =>
  obtain ⟨ρ',e,k⟩:=Qg8 h
  exact k _ H G (F.setS e pv.is) (Same.refl _)
 | ow t =>
  obtain ⟨ρ',e,k⟩:=Qg8 h
  exact k _ H G (F.setOw rfl e pv) (Same.refl _)
theorem Qig {i:Nat} (h:QS X st (Qqr (tE p e') (Qia i))):QS X st (tS p (.set i e')):=h.weak fun D σ H zz1=>by
 obtain ⟨B,G,ρ,F,hO,h⟩:=zz1
 unfold exS at h
 exact Qgp F h fun r ρ2 v H2 G2 k F2 _ pv _=>Q2v F2 pv k
theorem Qbb {i:Nat} (h:QS X st (Qqr (tE p e') (Qia i))):QS X st (tS p (.setF i e')):=h.weak fun D σ H zz1=>by
 obtain ⟨B,G,ρ,F,hO,h⟩:=zz1
 unfold exS at h
 refine Qgp F h fun r ρ2 v H2 G2 k F2 _ pv _=>?_
 cases ef:frz r with
 | none=>rw [ef] at k; exact False.elim k
 | some t =>
  rw [ef] at k
  obtain ⟨ρ',e,k⟩:=Qg8 k
  obtain ⟨G3,F3,i3,s3⟩:=PVR.lay pv F2 ef
  exact k _ H2 G3 (F3.setS e i3) (Qdj s3)
theorem Qzd {is:List Nat} (h:QS X st (Qqr (tE p e') (tG (.tp is)))):QS X st (tS p (.unp is e')):=h.weak fun D σ H zz1=>by
 obtain ⟨B,G,ρ,F,hO,h⟩:=zz1
 unfold exS at h
 refine Qgp F h fun r ρ2 v H2 G2 k F2 _ pv _=>?_
 cases r with
 | ow t=>exact False.elim k
 | sl i=>exact False.elim k
 | fz t =>
  cases t <;> first | exact False.elim k | skip
  obtain ⟨ρ',e,k⟩:=Qg8 k
  exact ⟨B,G2,ρ2,_,ρ',F2,pv.is,e,fun σ' F' _=>k σ' H2 G2 F' (Same.refl _)⟩
end
section
variable {X:Cx} {p:Pr} {st:Stmt} {es':Es} {i j k:Nat} {x y z:Str} {a b c:Expr} {ta:TA} {px py pz pt pos:Pos} {kt k2 pt2}
end
section
variable {X:Cx} {p:Pr} {e a b:Expr} {e' a' b' c':E} {st:Stmt} {sts:List Stmt} {s s1 s2:S} {pos p1 p2:Pos} {x:Str} {K:PySem.W.Frag}
theorem FI.mutAt {B:Bs} {H:Hp} {G:Addr → Prop} {σ:St} {ρ:En} {i:Nat} (F:FI B H G σ ρ) (h:(Qb ρ i).mut = true):∃ a vs,σ[i]? = some (some (.ref a)) ∧ H a = some (.lst vs):=by
 have:∃ t,(Qb ρ i).prv = some (.lst t):=by
  cases hs:Qb ρ i <;> rw [hs] at h <;> first | (cases h; done) | skip
  all_goals (rename_i t; cases t <;> first | exact ⟨_,rfl⟩ | cases h)
 obtain ⟨t,e⟩:=this
 obtain ⟨a,s,_,o⟩:=F.prvAt e
 obtain ⟨vs,_,ea,_⟩:=o.lst_inv
 exact ⟨a,vs,s,ea⟩
theorem IsL.set {D:Hp} {v:V} {t:T} (hv:Is D v t):∀ {vs:List V} {ts:List T} (n:Nat),IsL D vs ts → IsL D (vs.set n v) (ts.set n t)
 | vs,[],n,r=>by rw [r.nil_inv]; exact .nil
 | vs,u :: us,0,r=>by
  obtain ⟨w,ws,rfl,a,q⟩:=r.cons_inv
  exact .cons hv q
 | vs,u :: us,n + 1,r=>by
  obtain ⟨w,ws,rfl,a,q⟩:=r.cons_inv
  exact .cons a (IsL.set hv n q)
theorem Qoa {i:Nat} (h:QS X st (Qui (tBM K "list" Qk2 (Qon i) (Qkd (tE p e') Qv7)))):QS X st (tS p (.app i e')):=h.weak fun D σ H zz1=>by
 obtain ⟨B,G,ρ,F,hO,h⟩:=zz1
 unfold exS at h
 by_cases hm:(Qb ρ i).mut = true
 ·simp only [if_pos hm] at h
  obtain ⟨a,vs0,sa,ea⟩:=F.mutAt hm
  refine ⟨_,sa,.inl ⟨rfl,_,SqL.of ea⟩,?_⟩
  refine Qgp F h fun r ρ2 v H2 G2 k F2 _ pv _=>?_
  cases ef:frz r with
  | none=>rw [ef] at k; exact False.elim k
  | some t =>
   rw [ef] at k
   obtain ⟨G3,F3,i3,s3⟩:=PVR.lay pv F2 ef
   have sl:=F3.slot i
   replace k:SFin p B H2 G2 D (match Qb ρ2 i with
    | .ow (.lst ts)=>if ts.length < 100000 then .nx (ρ2.set i (.ow (.lst (ts ++ [t])))) else .no
    | .ml (.lst ts)=>if ts.length < 100000 then .nx (ρ2.set i (.ml (.lst (ts ++ [t])))) else .no
    | _=>.no):=k
   have fin:∀ ts s',(Qb ρ2 i = .ow (.lst ts) ∧ s' = Slot.ow (.lst (ts ++ [t]))) ∨ (Qb ρ2 i = .ml (.lst ts) ∧ s' = Slot.ml (.lst (ts ++ [t]))) → SFin p B H2 G2 D (if ts.length < 100000 then .nx (ρ2.set i s') else .no) → Qk2 (.ref a) [v] H2 fun _ H1=>D.nx σ H1:=fun ts s' hs k=>by
    have hp:(Qb ρ2 i).prv = some (.lst ts):=by rcases hs with ⟨h,_⟩ | ⟨h,_⟩ <;> rw [h] <;> rfl
    obtain ⟨a',sa',g,o1⟩:=F3.prvAt hp
    obtain ⟨vs,z,el,il⟩:=o1.lst_inv
    rw [sa] at sa'
    cases sa'
    by_cases zt:ts.length < 100000
    ·rw [if_pos zt] at k
     have lz:=il.length
     obtain ⟨F4,s4⟩:=F3.change hs sa (il.append (.one i3)) (by rw [List.length_append,List.length_singleton]; omega)
     exact ⟨a,vs,v,rfl,rfl,el,by rw [lz,sizeLine_eq]; omega,k σ _ G3 F4 ((Qdj s3).trans s4)⟩
    ·rw [if_neg zt] at k; exact False.elim k
   cases hs:Qb ρ2 i with
   | un=>rw [hs] at k; exact False.elim k
   | pin _=>rw [hs] at k; exact False.elim k
   | fx _=>rw [hs] at k; exact False.elim k
   | fz t=>rw [hs] at k; exact False.elim k
   | ro t=>rw [hs] at k; exact False.elim k
   | ow u =>
    rw [hs] at k sl
    cases u <;> first | exact False.elim k | skip
    exact fin _ _ (.inl ⟨hs,rfl⟩) k
   | ml u =>
    rw [hs] at k sl
    cases u <;> first | exact False.elim k | skip
    exact fin _ _ (.inr ⟨hs,rfl⟩) k
 ·simp only [if_neg hm] at h
  exact False.elim h
theorem Qaci {i:Nat} (h:QS X st (Qui (tBM K "list" (Qgz K) (Qon i) (Qkd (tE p e') Qv7)))):QS X st (tS p (.ext i e')):=h.weak fun D σ H zz1=>by
 obtain ⟨B,G,ρ,F,hO,h⟩:=zz1
 unfold exS at h
 by_cases hm:(Qb ρ i).mut = true
 ·simp only [if_pos hm] at h
  obtain ⟨a,vs0,sa,ea⟩:=F.mutAt hm
  refine ⟨_,sa,.inl ⟨rfl,_,SqL.of ea⟩,?_⟩
  refine Qgp F h fun r ρ2 v H2 G2 k F2 _ pv _=>?_
  cases r with
  | ow t=>exact False.elim k
  | sl j=>exact False.elim k
  | fz t =>
   cases t <;> first | exact False.elim k | skip
   rename_i us
   have iv:=pv.is
   obtain ⟨b,ws,rfl,eb,rb⟩:=iv.tup_inv
   replace k:SFin p B H2 G2 D (match Qb ρ2 i with
    | .ow (.lst ts)=>if ts.length + us.length ≤ 100000 then .nx (ρ2.set i (.ow (.lst (ts ++ us)))) else .no
    | .ml (.lst ts)=>if ts.length + us.length ≤ 100000 then .nx (ρ2.set i (.ml (.lst (ts ++ us)))) else .no
    | _=>.no):=k
   have fin:∀ ts s',(Qb ρ2 i = .ow (.lst ts) ∧ s' = Slot.ow (.lst (ts ++ us))) ∨ (Qb ρ2 i = .ml (.lst ts) ∧ s' = Slot.ml (.lst (ts ++ us))) → SFin p B H2 G2 D (if ts.length + us.length ≤ 100000 then .nx (ρ2.set i s') else .no) → Qgz K (.ref a) [.ref b] H2 fun _ H1=>D.nx σ H1:=fun ts s' hs k=>by
    have hp:(Qb ρ2 i).prv = some (.lst ts):=by rcases hs with ⟨h,_⟩ | ⟨h,_⟩ <;> rw [h] <;> rfl
    obtain ⟨a',sa',g,o1⟩:=F2.prvAt hp
    obtain ⟨vs,z,el,il⟩:=o1.lst_inv
    rw [sa] at sa'
    cases sa'
    by_cases zt:ts.length + us.length ≤ 100000
    ·rw [if_pos zt] at k
     have lz:=il.length
     have lb:=rb.length
     obtain ⟨F4,s4⟩:=F2.change hs sa (il.append rb) (by rw [List.length_append]; exact zt)
     exact ⟨a,b,vs,ws,rfl,rfl,el,SqT.of (Qs eb).2,Qbk (by rw [lz,lb]; exact zt),k σ _ G2 F4 s4⟩
    ·rw [if_neg zt] at k; exact False.elim k
   cases hs:Qb ρ2 i with
   | un=>rw [hs] at k; exact False.elim k
   | pin _=>rw [hs] at k; exact False.elim k
   | fx _=>rw [hs] at k; exact False.elim k
   | fz t=>rw [hs] at k; exact False.elim k
   | ro t=>rw [hs] at k; exact False.elim k
   | ow u =>
    rw [hs] at k
    cases u <;> first | exact False.elim k | skip
    exact fin _ _ (.inl ⟨hs,rfl⟩) k
   | ml u =>
    rw [hs] at k
    cases u <;> first | exact False.elim k | skip
    exact fin _ _ (.inr ⟨hs,rfl⟩) k
 ·simp only [if_neg hm] at h
  exact False.elim h
theorem Q5b {i:Nat} (h:QS X st (Qqr (tE p e') (Q6g (Qon i) (tE p a') Quq))):QS X st (tS p (.put i a' e')):=h.weak fun D σ H zz1=>by
 obtain ⟨B,G,ρ,F,hO,h⟩:=zz1
 unfold exS at h
 refine Qgp F h fun r ρ2 v H2 G2 k F2 _ pv _=>?_
 cases ef:frz r with
 | none=>rw [ef] at k; exact False.elim k
 | some t =>
  rw [ef] at k
  obtain ⟨G3,F3,i3,s3⟩:=PVR.lay pv F2 ef
  by_cases hm:(Qb ρ2 i).mut = true
  ·simp only [if_pos hm] at k
   obtain ⟨a,vs0,sa,ea⟩:=F3.mutAt hm
   refine ⟨_,sa,?_⟩
   refine Qgp F3 (SFin.late k (Qdj s3)) fun rk ρ4 w H4 G4 k4 F4 F4' pk sm=>?_
   have i4:=i3.mono sm
   cases rk with
   | ow t=>exact False.elim k4
   | sl j=>exact False.elim k4
   | fz u =>
    cases u <;> first | exact False.elim k4 | skip
    rename_i j
    obtain rfl:=pk.is.int_inv
    replace k4:SFin p B H4 G4 D (match Qb ρ4 i with
     | .ow (.lst ts)=>Qat (ixN ts.length j) fun n=>.nx (ρ4.set i (.ow (.lst (ts.set n t))))
     | .ml (.lst ts)=>Qat (ixN ts.length j) fun n=>.nx (ρ4.set i (.ml (.lst (ts.set n t))))
     | _=>.no):=k4
    have fin:∀ ts (s':Nat → Slot),(∀ n,(Qb ρ4 i = .ow (.lst ts) ∧ s' n = Slot.ow (.lst (ts.set n t))) ∨ (Qb ρ4 i = .ml (.lst ts) ∧ s' n = Slot.ml (.lst (ts.set n t)))) → SFin p B H4 G4 D (Qat (ixN ts.length j) fun n=>.nx (ρ4.set i (s' n))) → Quq (.ref a) (.int j) v H4 fun H1=>D.nx σ H1:=fun ts s' hs k=>by
     have hp:(Qb ρ4 i).prv = some (.lst ts):=by rcases hs 0 with ⟨h,_⟩ | ⟨h,_⟩ <;> rw [h] <;> rfl
     obtain ⟨a',sa',g,o1⟩:=F4.prvAt hp
     obtain ⟨vs,z,el,il⟩:=o1.lst_inv
     rw [sa] at sa'
     cases sa'
     obtain ⟨n,en,k⟩:=Qg8 k
     have lz:=il.length
     obtain ⟨F5,s5⟩:=F4.change (hs n) sa (il.set i4 n) (by rw [List.length_set]; exact z)
     exact ⟨a,vs,j,n,rfl,rfl,el,by rw [lz]; exact en,k σ _ G4 F5 s5⟩
    cases hs:Qb ρ4 i with
    | un=>rw [hs] at k4; exact False.elim k4
    | pin _=>rw [hs] at k4; exact False.elim k4
    | fx _=>rw [hs] at k4; exact False.elim k4
    | fz t=>rw [hs] at k4; exact False.elim k4
    | ro t=>rw [hs] at k4; exact False.elim k4
    | ow u =>
     rw [hs] at k4
     cases u <;> first | exact False.elim k4 | skip
     exact fin _ _ (fun n=>.inl ⟨hs,rfl⟩) k4
    | ml u =>
     rw [hs] at k4
     cases u <;> first | exact False.elim k4 | skip
     exact fin _ _ (fun n=>.inr ⟨hs,rfl⟩) k4
  ·simp only [if_neg hm] at k
   exact False.elim k
theorem Qob {p:Pr} {B:Bs} {H:Hp} {G:Addr → Prop} {D:Ends} {o:SO} (h:SFin p B H G D (Qn4 o)):SFin p.calm B H G D o:=by
 cases o with
 | xn x ρ1=>exact False.elim h
 | nx ρ1=>exact h
 | bk ρ1=>exact h
 | ct ρ1=>exact h
 | rt r ρ1=>exact h
 | no=>exact h
theorem Q5c {c:Expr} {body:List Stmt} (hc:QT X.nox c (tT p.calm c')) (hb:QB X.nox body (tS p.calm s)):QS X (.While c body [] pos) (tS p (.whl c' s)) :=
 (q_sx (Q15 PassesOwn.never hc hb)).weak fun D σ H zz1=>by
  obtain ⟨B,G,ρ,F,hO,h⟩:=zz1
  unfold exS at h
  have h:=Qob h
  refine ⟨fun m σ2 H2=>∃ G2 ρ2,FI B H2 G2 σ2 ρ2 ∧ SFin p.calm B H2 G2 D (Qfr (fun ρ=>Qaa (evE p.cf c' ρ)) (exS p.cf s) m ρ2),⟨1000000,G,ρ,F,h⟩,?_⟩
  rintro m σ2 H2 ⟨G2,ρ2,F2,h2⟩
  cases m with
  | zero=>exact False.elim h2
  | succ m =>
   unfold Qfr at h2
   refine Qzb (p:=p.calm) F2 h2 fun k ρ3 H3 G3 h3 F3 sm=>?_
   cases k with
   | false=>exact h3 σ2 H3 G3 F3 (Same.refl _)
   | true =>
    refine ⟨fun σ' H'=>∃ G' ρ',FI B H' G' σ' ρ' ∧ SFin p.calm B H' G' D (Qfr (fun ρ=>Qaa (evE p.cf c' ρ)) (exS p.cf s) m ρ'),fun σ' H' q=>⟨m,Nat.lt_succ_self m,q⟩,B,G3,ρ3,F3,hO,?_⟩
    replace h3:SFin p.calm B H3 G3 D (match exS p.cf s ρ3 with
     | .nx ρ2=>Qfr (fun ρ=>Qaa (evE p.cf c' ρ)) (exS p.cf s) m ρ2
     | .ct ρ2=>Qfr (fun ρ=>Qaa (evE p.cf c' ρ)) (exS p.cf s) m ρ2
     | .bk ρ2=>.nx ρ2
     | o=>o):=h3
    show SFin p.calm B H3 G3 _ (exS p.cf s ρ3)
    cases eb:exS p.cf s ρ3 with
    | nx ρ4=>rw [eb] at h3; exact fun σ4 H4 G4 F4 s4=>⟨G4,ρ4,F4,SFin.late h3 s4⟩
    | ct ρ4=>rw [eb] at h3; exact fun σ4 H4 G4 F4 s4=>⟨G4,ρ4,F4,SFin.late h3 s4⟩
    | bk ρ4=>rw [eb] at h3; exact h3
    | rt r ρ4=>rw [eb] at h3; exact h3
    | xn x ρ4=>rw [eb] at h3; exact h3
    | no=>rw [eb] at h3; exact h3
theorem Q8v {w:W} {tg:Tg} {D:Ends} {σ:St} {H:Hp} {B:Bs} {G:Addr → Prop} {ρ:En} (F:FI B H G σ ρ) (hO:∀ a,¬ B.O a) (h:SFin p B H G D (ofO (evW p.cf w ρ) fun its ρ1=>match its.2 with
  | some _=>.no
  | none=>Qde tg (exS p.cf s) its.1 ρ1)):Qxo (tW p w) (tG tg) (tS p s) D σ H:=by
 refine ⟨G,ρ,F.self,(Qly (σ:=σ) h).rebase F fun its ρ1 h1=>?_⟩
 obtain ⟨ts,lk⟩:=its
 cases lk with
 | some _=>exact False.elim h1
 | none =>
  refine ⟨rfl,fun J H1 G1 Ok F1 wk stab=>?_⟩
  replace wk:WkR J H1 G1 Ok ts:=wk
  have F1':=F.trans F1
  have s1:=F.same F1
  refine ⟨fun i m σ2 H2=>i + m = ts.length ∧ ∃ G2 ρ2,FI B H2 G2 σ2 ρ2 ∧ Same (dls H1 G1) (dls H2 G2) ∧ SFin p B H2 G2 D (Qde tg (exS p.cf s) (ts.drop i) ρ2),⟨ts.length,Nat.zero_add _,G1,ρ1,F1',Same.refl _,SFin.late h1 s1⟩,?_⟩
  rintro i m σ2 H2 ⟨him,G2,ρ2,F2,s2,h2⟩
  have ok2:=stab H2 G2 s2
  by_cases hlt:i < ts.length
  ·refine .inr ⟨wk.go i H2 hlt ok2,fun σ' H'=>∃ G' ρ',FI B H' G' σ' ρ' ∧ Same (dls H1 G1) (dls H' G') ∧ SFin p B H' G' D (Qde tg (exS p.cf s) (ts.drop (i + 1)) ρ'),fun σ' H' q=>⟨m - 1,by omega,by omega,q⟩,fun x H3 y=>?_⟩
   obtain ⟨s3,t,et,ix⟩:=wk.yld i H2 x H3 hlt ok2 y
   have F3:=F2.grow s3
   have ix3:=ix G2 F2.prv s2
   rw [List.drop_eq_getElem_cons hlt] at h2
   have et':ts[i] = t:=by rw [List.getElem?_eq_getElem hlt] at et; exact Option.some.inj et
   rw [et'] at h2
   unfold Qde at h2
   cases est:Qie tg t ρ2 with
   | none=>rw [est] at h2; exact False.elim h2
   | some ρ4 =>
    rw [est] at h2
    refine ⟨B,G2,ρ2,t,ρ4,F3,ix3,est,fun σ4 F4 _=>⟨B,G2,ρ4,F4,hO,?_⟩⟩
    replace h2:SFin p B H2 G2 D (match exS p.cf s ρ4 with
     | .nx ρ2=>Qde tg (exS p.cf s) (ts.drop (i + 1)) ρ2
     | .ct ρ2=>Qde tg (exS p.cf s) (ts.drop (i + 1)) ρ2
     | .bk ρ2=>.nx ρ2
     | o=>o):=h2
    have s23:Same (dls H2 G2) (dls H3 G2):=Qaq s3
    have h2:=SFin.late h2 s23
    have s13:=s2.trans s23
    show SFin p B H3 G2 _ (exS p.cf s ρ4)
    cases eb:exS p.cf s ρ4 with
    | nx ρ5=>rw [eb] at h2; exact fun σ5 H5 G5 F5 s5=>⟨G5,ρ5,F5,s13.trans s5,SFin.late h2 s5⟩
    | ct ρ5=>rw [eb] at h2; exact fun σ5 H5 G5 F5 s5=>⟨G5,ρ5,F5,s13.trans s5,SFin.late h2 s5⟩
    | bk ρ5=>rw [eb] at h2; exact h2
    | rt r ρ5=>rw [eb] at h2; exact h2
    | xn x ρ5=>rw [eb] at h2; exact h2
    | no=>rw [eb] at h2; exact h2
  ·have e0:ts.drop i = []:=List.drop_of_length_le (by omega)
   rw [e0] at h2
   exact .inl ⟨wk.stop i H2 (by omega) ok2,h2 σ2 H2 G2 F2 (Same.refl _)⟩
theorem Qacj {iter tgE:Expr} {body:List Stmt} {w:W} {tg:Tg} (hc:X.calm = true) (hi:QI X.nox tgE iter (tW p.calm w)) (hg:QG X.nox tgE (tG tg)) (hb:QB X.nox body (tS p.calm s)) (hs:∀ x,foldedSetIterable iter X.env x = pure x):QS X (.For tgE iter body [] pos) (tS p (.for_ w tg s)) :=
 (q_sx (Q4r PassesOwn.never hc hi hg hb hs)).weak fun D σ H zz1=>by
  obtain ⟨B,G,ρ,F,hO,h⟩:=zz1
  unfold exS at h
  exact Q8v (p:=p.calm) F hO (Qob h)
end
section
variable {X:Cx} {p:Pr} {s:S} {pos:Pos} {K:PySem.W.Frag}
end
noncomputable def Qth:Arg → Slot
 | .fz t=>.fz t
 | .ml t=>.ml t
 | .ro t=>.ro t
theorem Qoc (fn:Fn) (as:List Arg):Qe8 fn as = as.map Qth ++ List.replicate (fn.sz - fn.ps) .un:=by
 unfold Qe8
 congr 1
theorem Qc4 (fn:Fn) (as:List Arg) (i:Nat):Qb (Qe8 fn as) i = match as[i]? with
  | some a=>Qth a
  | none=>.un:=by
 rw [Qoc]
 unfold Qb
 rcases Nat.lt_or_ge i as.length with h | h
 ·rw [List.getElem?_append_left (by rw [List.length_map]; exact h),List.getElem?_map,List.getElem?_eq_getElem h]
  rfl
 ·rw [List.getElem?_append_right (by rw [List.length_map]; exact h),List.getElem?_eq_none_iff.mpr h,List.getElem?_replicate]
  split <;> rename_i e
  ·split at e
   ·cases e; rfl
   ·cases e
  ·rfl
theorem Qod {N:List Str} {vs:List V} {i:Nat} {v:V} (h:vs[i]? = some v):(Qbd N vs)[i]? = some (some v):=by
 unfold Qbd
 have hi:i < vs.length:=(List.getElem?_eq_some_iff.mp h).1
 rw [List.getElem?_append_left (by rw [List.length_map]; exact hi),List.getElem?_map,h]
 rfl
theorem Qj1 {N:List Str} {vs:List V} {i:Nat} {v:V} (h:(Qbd N vs)[i]? = some (some v)):vs[i]? = some v:=by
 unfold Qbd at h
 rcases Nat.lt_or_ge i vs.length with hi | hi
 ·rw [List.getElem?_append_left (by rw [List.length_map]; exact hi),List.getElem?_map] at h
  cases e:vs[i]? with
  | none=>rw [e] at h; cases h
  | some w=>rw [e] at h; cases h; rfl
 ·rw [List.getElem?_append_right (by rw [List.length_map]; exact hi),List.getElem?_replicate] at h
  split at h <;> cases h
noncomputable abbrev Qze (H:Hp) (G:Addr → Prop) (vs:List V) (as:List Arg):Bs:=⟨H,G,fun _=>False,Qu3 vs as,fun i a=>(∃ x,as[i]? = some x ∧ x.prv = true) ∧ vs[i]? = some (.ref a)⟩
section
variable {H H1:Hp} {G G1:Addr → Prop} {vs:List V} {as:List Arg} {fn:Fn} {N:List Str} {σ1:St} {ρ1:En} {fin:List T} {mg:Str → Option Value}
theorem Qti {x:Arg} {t:T} (h:(Qth x).prv = some t):x.prv = true:=by
 cases x <;> first | rfl | cases h
theorem Qzf (A:ArgsR H G vs as) (pn:Pen H G) (h1:vs.length ≤ N.length) (h2:fn.ps = as.length) (h3:fn.sz = N.length):FI (Qze H G vs as) H G (Qbd N vs) (Qe8 fn as):=by
 have pv:∀ i a,PrvAt (Qbd N vs) (Qe8 fn as) i a → (∃ x,as[i]? = some x ∧ x.prv = true) ∧ vs[i]? = some (.ref a):=fun i a h=>by
  obtain ⟨⟨t,e⟩,q⟩:=h
  rw [Qc4] at e
  cases hx:as[i]? with
  | none=>rw [hx] at e; cases e
  | some x=>rw [hx] at e; exact ⟨⟨x,rfl,Qti e⟩,Qj1 q⟩
 refine ⟨?_,fun i=>?_,fun i j a h1 h2=>?_,pn,fun _ _ _ _ e=>e,fun _ o e=>⟨o,e⟩,fun a h=>?_,fun a h=>?_,fun i a h=>?_,fun _ h=>h,fun _ h=>.inl h,fun b h=>let ⟨xs,e,_⟩:=pn b h; ⟨_,e⟩⟩
 ·rw [Qoc]
  unfold Qbd
  have:=A.len
  simp only [List.length_append,List.length_map,List.length_replicate]
  omega
 ·rw [Qc4]
  cases hx:as[i]? with
  | none=>trivial
  | some x =>
   have hi:i < vs.length:=by rw [A.len]; exact (List.getElem?_eq_some_iff.mp hx).1
   have ev:vs[i]? = some vs[i]:=List.getElem?_eq_getElem hi
   have q:=A.get i _ x ev hx
   have s:=Qod (N:=N) ev
   cases x with
   | fz t=>exact ⟨_,s,q⟩
   | ml t=>obtain ⟨a,e,g,o⟩:=q; rw [e] at s; exact ⟨a,s,g,o⟩
   | ro t=>obtain ⟨a,e,g,o⟩:=q; rw [e] at s; exact ⟨a,s,g,o⟩
 ·obtain ⟨⟨x,ex,px⟩,vx⟩:=pv i a h1
  obtain ⟨⟨y,ey,py⟩,vy⟩:=pv j a h2
  exact A.apart i j a x y ex ey px py vx vy
 ·obtain ⟨i,t,e,q⟩:=h
  rw [Qc4] at e
  cases hx:as[i]? with
  | none=>rw [hx] at e; cases e
  | some x=>rw [hx] at e; cases x <;> cases e
 ·obtain ⟨i,t,e,q⟩:=h
  rw [Qc4] at e
  cases hx:as[i]? with
  | none=>rw [hx] at e; cases e
  | some x =>
   rw [hx] at e
   cases x <;> cases e
   exact ⟨i,_,hx,Qj1 q⟩
 ·obtain ⟨⟨t,e⟩,q⟩:=h
  refine pv i a ⟨⟨t,?_⟩,q⟩
  rcases e with e | e | e
  ·rw [e]; rfl
  ·rw [e]; rfl
  ·rw [Qc4] at e
   cases hx:as[i]? with
   | none=>rw [hx] at e; cases e
   | some x=>rw [hx] at e; cases x <;> cases e
theorem Qhw:∀ {as:List Arg} {ρ:En} {fin:List T},Qw as ρ = some fin → ∀ (i:Nat) (t:T),as[i]? = some (.ml t) → ∃ t',Qb ρ i = .ml t' ∧ fin[i]? = some t'
 | [],_,_,_,i,t,h=>by simp at h
 | .ml u :: as,[],fin,e,_,_,_=>by cases e
 | .fz u :: as,[],fin,e,_,_,_=>by cases e
 | .ro u :: as,[],fin,e,_,_,_=>by cases e
 | .ml u :: as,s :: ρ,fin,e,i,t,h=>by
  cases s <;> first | (cases e; done) | skip
  rename_i w
  replace e:(Qw as ρ).map (w :: ·) = some fin:=e
  cases e2:Qw as ρ with
  | none=>rw [e2] at e; cases e
  | some f2 =>
   rw [e2] at e
   cases e
   cases i with
   | zero=>exact ⟨w,rfl,rfl⟩
   | succ i=>rw [List.getElem?_cons_succ] at h ⊢; rw [Qe]; exact Qhw e2 i t h
 | .fz u :: as,s :: ρ,fin,e,i,t,h=>by
  replace e:(Qw as ρ).map (T.non :: ·) = some fin:=e
  cases e2:Qw as ρ with
  | none=>rw [e2] at e; cases e
  | some f2 =>
   rw [e2] at e
   cases e
   cases i with
   | zero=>simp at h
   | succ i=>rw [List.getElem?_cons_succ] at h ⊢; rw [Qe]; exact Qhw e2 i t h
 | .ro u :: as,s :: ρ,fin,e,i,t,h=>by
  replace e:(Qw as ρ).map (T.non :: ·) = some fin:=e
  cases e2:Qw as ρ with
  | none=>rw [e2] at e; cases e
  | some f2 =>
   rw [e2] at e
   cases e
   cases i with
   | zero=>simp at h
   | succ i=>rw [List.getElem?_cons_succ] at h ⊢; rw [Qe]; exact Qhw e2 i t h
theorem Qlz (F:FI (Qze H G vs as) H1 G1 σ1 ρ1) (e:Qw as ρ1 = some fin):CallP H G vs as H1 G1 fin where
 prv:=F.prv
 chg:=fun b o h e=>F.chg b o (fun z=>z) h e
 keep:=F.keep
 gg:=F.gg
 gn:=F.gn
 fin:=fun i t a h1 h2=>by
  obtain ⟨t',e1,e2⟩:=Qhw e i t h1
  have q:=F.slot i
  rw [e1] at q
  obtain ⟨a',q1,_,q3⟩:=q
  have q4:=(F.fix i a' ⟨⟨t',.inl e1⟩,q1⟩).2
  rw [h2] at q4
  cases q4
  exact ⟨t',e2,q3⟩
theorem Q2w {v:V} {r r':PV} (F:FI (Qze H G vs as) H1 G1 σ1 ρ1) (pv:PVR H H1 G1 σ1 ρ1 v r) (e:Qal ρ1 r = some r'):RetR H H1 G1 v r':=by
 cases r with
 | fz t=>cases e; exact pv
 | ow t =>
  cases e
  obtain ⟨a,rfl,n,g,_,o⟩:=pv
  exact ⟨a,rfl,n,g,o⟩
 | sl i =>
  have e:(match Qb ρ1 i with | .ow t=>some (PV.ow t) | _=>none) = some r':=e
  have q:=F.slot i
  cases hs:Qb ρ1 i with
  | un=>rw [hs] at e; cases e
  | pin _=>rw [hs] at e; cases e
  | fx _=>rw [hs] at e; cases e
  | fz t=>rw [hs] at e; cases e
  | ml t=>rw [hs] at e; cases e
  | ro t=>rw [hs] at e; cases e
  | ow t =>
   rw [hs] at e q
   cases e
   obtain ⟨a,q1,g,o⟩:=q
   have pv:σ1[i]? = some (some v):=pv
   rw [q1] at pv
   cases pv
   refine ⟨a,rfl,?_,g,o⟩
   rcases F.newO a ⟨i,t,hs,q1⟩ with z | z
   ·exact z
   ·exact z.elim
theorem Qzg {cf:CF} {Q:VK} {E:XK} (A:ArgsR H G vs as) (pn:Pen H G) (h1:vs.length ≤ N.length) (h3:fn.sz = N.length) (h:FROk mg H G vs as (Qa2 cf fn as) Q E):tS ⟨cf,fun cls dx _ H=>E cls dx H,mg⟩ fn.body { nx:=fun _ H'=>Q .non H',rt:=Q } (Qbd N vs) H:=by
 unfold Qa2 at h
 by_cases h2:as.length = fn.ps
 ·rw [if_pos h2] at h
  refine ⟨_,G,_,Qzf A pn h1 h2.symm h3,fun _ z=>z,?_⟩
  show SFin _ _ _ _ _ (exS cf fn.body (Qe8 fn as))
  cases e:exS cf fn.body (Qe8 fn as) with
  | no=>rw [e] at h; exact False.elim h
  | bk ρ=>rw [e] at h; exact False.elim h
  | ct ρ=>rw [e] at h; exact False.elim h
  | nx ρ =>
   rw [e] at h
   intro σ1 H1 G1 F _
   cases ef:Qw as ρ with
   | none=>simp only [ef] at h; exact False.elim h
   | some fin=>simp only [ef] at h; exact h .non H1 G1 (Qlz F ef) (show Is (dls H1 G1) .non .non from Is.non)
  | rt r ρ =>
   rw [e] at h
   intro v σ1 H1 G1 F pv
   cases er:Qal ρ r with
   | none=>simp only [er] at h; exact False.elim h
   | some r' =>
    cases ef:Qw as ρ with
    | none=>simp only [er,ef] at h; exact False.elim h
    | some fin=>simp only [er,ef] at h; exact h v H1 G1 (Qlz F ef) (Q2w F pv er)
  | xn x ρ =>
   rw [e] at h
   intro cls dx σ1 H1 G1 F xr
   cases ef:Qw as ρ with
   | none=>simp only [ef] at h; exact False.elim h
   | some fin=>simp only [ef] at h; exact h cls dx H1 G1 (Qlz F ef) xr
 ·rw [if_neg h2] at h
  exact False.elim h
end
theorem Q1 {X:Cx}:Qkf X (fun _ _ _ _=>False):=fun pins σ H s e s' I h=>by
 obtain ⟨a,cls,dx,H',_,_,_,_,_,_,z⟩:=h
 exact z.elim
structure Df where
 x:Str
 st:Stmt
 N:List Str
 ps:List Str
 fn:Fn
 fc:Str → Bool:=fun _=>true
 f1:Str → Bool:=fc
structure DfOk (K:PySem.W.Frag) (mg:Str → Option Value) (d:Df):Prop where
 dfn:Dfn K mg d.x d.st
 sc:FnScope d.N d.ps (Qf d.st)
 bd:Qz d.x d.st d.ps
 ps:d.fn.ps = d.ps.length
 sz:d.fn.sz = d.N.length
noncomputable def Ql0 (P:Program) (w:World) (K:PySem.W.Frag) (mg:Str → Option Value) (base:Heap) (ds:List Df) (cf:CF) (n:Nat):Prop:=∀ (f:Nat) (d:Df),ds[f]? = some d → Q16 P w K mg base d.x d.ps n (spF cf mg f)
section
variable {P:Program} {w:World} {K:PySem.W.Frag} {mg:Str → Option Value} {base:Heap} {ds:List Df}
end
section
variable {X:Cx} {p:Pr} {e a b c:Expr} {es rest:List Expr} {e' a' b' c':E} {es':Es} {pos p1 p2 p3:Pos} {x:Str} {st:Stmt} {s:S} {K:PySem.W.Frag}
theorem Qzh:QS X st (tS p .bad):=Q17.weak fun D σ H ⟨B,G,ρ,F,hO,h⟩=>False.elim h
theorem Qc (i:Nat) (hN:X.N[i]? = some x:=by rfl) (hv:Vis X.env.scope x:=by first | exact Or.inl rfl | exact Or.inr (Or.inl rfl) | exact Or.inr (Or.inr rfl)) (hd:(x == ("__debug__" : Str)) = false:=by decide)
  (hcd:(x == ("__classdict__" : Str)) = false:=by decide):QE X (.Name x pos) (tE p (.var i)):=Qab5 hN hv hd hcd
theorem Ql1 {i:Int} (h:∃ u,X.mg x = some u ∧ RelV (.int i) u) (hg:Gl X x:=by rfl) (hd:(x == ("__debug__" : Str)) = false:=by decide):QE X (.Name x pos) (tE p (.int i)):=Q8d h hg hd
theorem Qa (ha:QE X e (tE p e')) (hr:QA X es (tA p es')) (hs:Qr e = true:=by rfl):QA X (e :: es) (tA p (.cons e' es')):=Q8e ha hr hs
theorem Qki (hK:X.K = K) (ha:QE X a (tE p a')) (hb:QE X b (tE p b')):QE X (.BinOp a .Add b pos) (tE p (.bin .add a' b')):=Qn5 (Q4s K hK) (Q2e K) ha hb
theorem Qu8 (ha:QE X a (tE p a')) (hb:QE X b (tE p b')):QE X (.BinOp a .Sub b pos) (tE p (.bin .sub a' b')):=Qn5 Qabf Q2f ha hb
theorem Qgq (ha:QE X a (tE p a')) (hb:QE X b (tE p b')):QE X (.BinOp a .Mult b pos) (tE p (.bin .mul a' b')):=Qn5 Q8f Q2h ha hb
theorem Qack (ha:QE X a (tE p a')) (hb:QE X b (tE p b')):QE X (.BinOp a .FloorDiv b pos) (tE p (.bin .fdv a' b')):=Qn5 Q8g Q2i ha hb
theorem Ql2 (ha:QE X a (tE p a')) (hb:QE X b (tE p b')):QE X (.BinOp a .Mod b pos) (tE p (.bin .mod a' b')):=Qn5 Q8h Q2j ha hb
theorem Qu9 (ha:QE X a (tE p a')) (hb:QE X b (tE p b')):QE X (.BinOp a .Pow b pos) (tE p (.bin .pow a' b')):=Qn5 Qabg Q2k ha hb
theorem Qm5 {op:CmpOp} (h1:op ≠ .In) (h2:op ≠ .NotIn):behindInMarks op b = false:=by
 unfold behindInMarks
 cases b <;> try rfl
 cases op <;> simp_all
theorem g_eq (hu:X.A.units + 64 < cLine) (ha:QE X a (tE p a')) (hb:QE X b (tE p b')):QE X (.Compare a [.Eq] [b] pos) (tE p (.cmp .eq a' b')):=Quz (Q48 hu) Qy1 ha hb (Qm5 (by decide) (by decide))
theorem g_lt (ha:QE X a (tE p a')) (hb:QE X b (tE p b')):QE X (.Compare a [.Lt] [b] pos) (tE p (.cmp .lt a' b')):=Quz Q7u Qy2 ha hb (Qm5 (by decide) (by decide))
theorem g_ge (ha:QE X a (tE p a')) (hb:QE X b (tE p b')):QE X (.Compare a [.GtE] [b] pos) (tE p (.cmp .ge a' b')):=Quz o_ge Q8k ha hb (Qm5 (by decide) (by decide))
theorem Qacm (ha:QE X a (tE p a')) (hb:QE X b (tE p b')):QE X (.Compare a [.Is] [b] pos) (tE p (.cmp .isn a' b')):=Quz Q4u Qu1 ha hb (Qm5 (by decide) (by decide))
theorem t_eq (hu:X.A.units + 64 < cLine) (ha:QE X a (tE p a')) (hb:QE X b (tE p b')):QT X (.Compare a [.Eq] [b] pos) (tT p (.cmp .eq a' b')):=Qn6 (Q48 hu) Qy1 ha hb (Qm5 (by decide) (by decide))
theorem Qzi (hu:X.A.units + 64 < cLine) (ha:QE X a (tE p a')) (hb:QE X b (tE p b')):QT X (.Compare a [.NotEq] [b] pos) (tT p (.cmp .ne a' b')):=Qn6 (Qacb hu) Q8i ha hb (Qm5 (by decide) (by decide))
theorem Qwu (ha:QE X a (tE p a')) (hb:QE X b (tE p b')):QT X (.Compare a [.Lt] [b] pos) (tT p (.cmp .lt a' b')):=Qn6 Q7u Qy2 ha hb (Qm5 (by decide) (by decide))
theorem Q2x (ha:QE X a (tE p a')) (hb:QE X b (tE p b')):QT X (.Compare a [.Gt] [b] pos) (tT p (.cmp .gt a' b')):=Qn6 o_gt Q8j ha hb (Qm5 (by decide) (by decide))
theorem Qacn (ha:QE X a (tE p a')) (hb:QE X b (tE p b')):QT X (.Compare a [.Is] [b] pos) (tT p (.cmp .isn a' b')):=Qn6 Q4u Qu1 ha hb (Qm5 (by decide) (by decide))
theorem Q8w (ha:QE X a (tE p a')) (hb:QE X b (tE p b')):QT X (.Compare a [.IsNot] [b] pos) (tT p (.cmp .isnn a' b')):=Qn6 Q7v Qy3 ha hb (Qm5 (by decide) (by decide))
theorem Qdf (ha:QE X e (tE p e')) (he:∀ whole,isTrue e X.env whole = (do let v ← whole; standAt e.pos; holding [v] (truthy v)):=by intro _; rfl):QT X e (tT p e'):=Qab7 ha he
theorem Qkj {n:String} {tn:Expr} (hm:X.mg "isinstance" = none) (hv:bootBuiltins "isinstance" = some (.builtin "isinstance")) (ha:QE X a (tE p a')) (ht:QE X tn (tC (.ty n))) (hg:Gl X "isinstance" := by rfl) (h1:Qr a = true:=by rfl) (h2:Qr tn = true:=by rfl):QE X (.Call (.Name "isinstance" p1) [a,tn] [] pos) (tE p (.isI a' n)):=Qacc hm hv ha ht hg h1 h2
theorem Qda {id:String} {r:List V → Hp → VK → Prop} {b:Bi} (hc:QCl X (.builtin id) r) (hs:Ob r b) (hm:X.mg x = none) (hv:bootBuiltins x = some (.builtin id)) (ha:QA X (e :: es) (tA p es')) (hg:Gl X x:=by rfl) (hn:x ≠ "__name__" := by decide) (hdb:(x == ("__debug__" : Str)) = false:=by decide) (h1:Qr e = true:=by rfl) (h2:es.all Qr = true:=by rfl) :
  QE X (.Call (.Name x p1) (e :: es) [] pos) (tE p (.bi b es')):=s_bi hc hs hm hv ha hg hn hdb h1 h2
theorem Qd0 {T:String} {r:List V → Hp → VK → Prop} {b:Bi} (hc:QCl X (.type T) r) (hs:Ob r b) (hm:X.mg x = none) (hv:bootBuiltins x = some (.type T)) (ha:QA X (e :: es) (tA p es')) (hg:Gl X x:=by rfl) (hn:x ≠ "__name__" := by decide) (hdb:(x == ("__debug__" : Str)) = false:=by decide) (h1:Qr e = true:=by rfl) (h2:es.all Qr = true:=by rfl) :
  QE X (.Call (.Name x p1) (e :: es) [] pos) (tE p (.bi b es')):=Qacd hc hs hm hv ha hg hn hdb h1 h2
theorem Qdg (hK:X.K = K) (ha:QE X a (tE p a')) (hb:QE X b (tE p b')) (hs:Qk1 b:=by exact fun _ _=>rfl):QE X (.Subscript a b pos) (tE p (.ix a' b')):=s_ix K hK ha hb hs
theorem Qaco (hK:X.K = K) {lo hi:Option Expr} {lo' hi':Es} (ha:QE X a (tE p a')) (hl:QO X lo (tO p lo')) (hh:QO X hi (tO p hi')):QE X (.Subscript a (.Slice lo hi none p2) pos) (tE p (.slc a' lo' hi')):=Qace K hK ha hl hh
theorem Qt {f k:Nat} {ps:List Str} (h:Q16 X.prog X.w X.K X.mg X.base x ps k (spF p.cf p.mg f)) (pz:Qkf X p.R) (hr:Room k X.A) (ha:QA X (e :: es) (tA p es')) (hg:Gl X x:=by rfl) (hdb:(x == ("__debug__" : Str)) = false:=by decide) (h1:Qr e = true:=by rfl) (h2:es.all Qr = true:=by rfl) :
  QE X (.Call (.Name x p1) (e :: es) [] pos) (tE p (.call f es')):=Q8p h pz hr ha hg hdb h1 h2
theorem Qb1 {tgE elt iter:Expr} {ifs:List Expr} {scope:Scope} (N:List Str) (js:List (Option Nat)) {w:W} {tg:Tg} {cs:Es} (hcalm:X.calm = true)
  (hi:QI X tgE iter (tW p w)) (hg:∀ s H fp,QG (Qa7 X scope N s H fp) tgE (tG tg)) (hc:∀ s H fp,QC (Qa7 X scope N s H fp) ifs (tCs p.calm cs)) (he:∀ s H fp,QE (Qa7 X scope N s H fp) elt (tE p.calm e'))
  (hk:scope.kind = .function:=by rfl) (h1:scOk X scope = true:=by rfl) (h2:Qnx X scope N js = true:=by rfl) (hs:∀ x,foldedSetIterable iter X.env x = pure x:=by intro _; rfl):QE X (.ListComp elt [⟨tgE,iter,ifs,0⟩] scope pos) (tE p (.comp w js tg cs e')):=Q8t hcalm hi hg hc he hk h1 h2 hs
variable {tg:Expr}
theorem Qe9 (hm:X.mg "range" = none) (ha:QE X a (tE p a')) (hg:Gl X "range" := by rfl) (hs:Qr a = true:=by rfl):QI X tg (.Call (.Name "range" p1) [a] [] pos) (tW p (.rng1 a')):=Q2s hm ha hg hs
theorem Q5d {es:List Expr} {x1} {tp:Pos} (hK:X.K = K) (hm:X.mg "enumerate" = none) (hb:PySem.bootBuiltins "enumerate" = some (.type "enumerate")) (ha:QE X a (tE p a')) (hg:Gl X "enumerate" := by rfl) (hs:Qr a = true:=by rfl):QI X (.Tuple es x1 tp) (.Call (.Name "enumerate" p1) [a] [] pos) (tW p (.enm a')):=Q8r hK hm hb ha hg hs
theorem Qacp {es:List Expr} {x1} {tp:Pos} (hK:X.K = K) (hm:X.mg "zip" = none) (hb:PySem.bootBuiltins "zip" = some (.type "zip")) (ha:QE X a (tE p a')) (hb':QE X b (tE p b')) (hg:Gl X "zip" := by rfl) (hs:Qr a = true:=by rfl) (hs2:Qr b = true:=by rfl):QI X (.Tuple es x1 tp) (.Call (.Name "zip" p1) [a,b] [] pos) (tW p (.zip a' b')):=Q8s hK hm hb ha hb' hg hs hs2
theorem Qtj (he:QE X e (tE p e')) (hs:swapsWith e none pos.line X.env = pure false:=by rfl):QS X (.Expr e pos) (tS p (.expr e')):=Q8u he hs
theorem Qgr {iter tgE:Expr} {body:List Stmt} {w:W} {tg:Tg} (hc:X.calm = true) (hi:QI X.nox tgE iter (tW p.calm w)) (hg:QG X.nox tgE (tG tg)) (hb:QB X.nox body (tS p.calm s)) (hs:∀ x,foldedSetIterable iter X.env x = pure x:=by intro _; rfl):QS X (.For tgE iter body [] pos) (tS p (.for_ w tg s)):=Qacj hc hi hg hb hs
end
end L2
set_option maxHeartbeats 2000000
namespace L2
open PySem PySem.Spec PyProof.Rows PySem.W PySem.Calls
variable {X:Cx} {p:Pr} {st:Stmt}
end L2
namespace L2
open PySem PySem.Spec PyProof.Rows PySem.W PySem.Calls
section
variable {X:Cx} {pins:List (Addr × Obj)} {σ σ0:St} {H H0:Hp} {s s0:Shared}
end
section
variable {X:Cx} {x:Str} {ps:List Str} {k:Nat} {sp:Sp} {e eb:Expr} {te:TE} {p1 p2 k1 k2 pos:Pos}
end
section
variable {X:Cx} {p:Pr} {f:Nat} {e':E} {K:PySem.W.Frag}
end
section
variable {X:Cx} {p:Pr} {f k:Nat} {e':E} {x:Str} {ps:List Str} {e:Expr} {p1 p2 k1 k2 kp pos:Pos}
end
end L2
namespace L2
open PySem PySem.Spec PyProof.Rows PySem.W PySem.Calls
section
variable {X:Cx} {p:Pr} {st:Stmt} {B:Bs} {H H1:Hp} {G G1:Addr → Prop} {σ σ1:St} {ρ ρ1:En} {i:Nat} {ts:List T}
end
theorem Qva {a b:List (List Int)} (h:kIs a = kIs b):a = b:=h
theorem Qoe:∀ {ts:List T} {k:List (List Int)},Qln ts = some k → ts = k.map fun r=>T.tup (r.map T.int)
 | [],k,e=>by cases e; rfl
 | .tup us :: ts,k,e=>by
  unfold Qln at e
  split at e
  ·rename_i r ks e1 e2
   cases e
   rw [Qjd e1,Qoe e2]
   rfl
  ·cases e
 | .lst _ :: ts,k,e=>by cases e
 | .non :: ts,k,e=>by cases e
 | .bl _ :: ts,k,e=>by cases e
 | .int _ :: ts,k,e=>by cases e
 | .str _ :: ts,k,e=>by cases e
 | .dct _ _ :: ts,k,e=>by cases e
 | .dtt _ _ :: ts,k,e=>by cases e
 | .clo _ _ :: ts,k,e=>by cases e
theorem Qzj {D:Hp}:∀ {k:List (List Int)} {vs:List V},IsL D vs (k.map fun r=>T.tup (r.map T.int)) → ∃ bs:List Addr,vs = bs.map V.ref ∧ Paired (fun (r:List Int) (b:Addr)=>D b = some (.tup (r.map V.int))) k bs
 | [],vs,h=>⟨[],h.nil_inv,.nil⟩
 | r :: k,vs,h=>by
  obtain ⟨v,w,rfl,a,q⟩:=h.cons_inv
  obtain ⟨b,us,rfl,e,l⟩:=a.tup_inv
  rw [l.ints_inv] at e
  obtain ⟨bs,rfl,p⟩:=Qzj q
  exact ⟨b :: bs,rfl,.cons e p⟩
theorem Qg9 {D:Hp} (k:List (List Int)):∀ (ks:List (List (List Int))) {vs:List V} {ts:List T},ks.length = vs.length → IsL D vs ts → (∃ v t,Qh2 ((ks.map kIs).zip vs) (kIs k) = some v ∧ Qfh ks ts k = some t ∧ Is D v t) ∨ (Qh2 ((ks.map kIs).zip vs) (kIs k) = none ∧ Qfh ks ts k = none)
 | [],vs,ts,_,_=>.inr ⟨rfl,by unfold Qfh; rfl⟩
 | j :: ks,[],ts,h,_=>by cases h
 | j :: ks,v :: vs,[],_,r=>by cases r.nil_inv
 | j :: ks,v :: vs,t :: ts,h,r=>by
  obtain ⟨v',vs',e,a,q⟩:=r.cons_inv
  cases e
  rw [List.map_cons,List.zip_cons_cons]
  unfold Qfh
  by_cases hj:j = k
  ·exact .inl ⟨v,t,Qi2 (by rw [hj]),by rw [if_pos hj],a⟩
  ·rw [Qi3 (fun z=>hj (Qva z)),if_neg hj]
   exact Qg9 k ks (by simpa using h) q
noncomputable def Qm6:List (List (List Int)) → List V → List (List Int) → V → List V
 | j :: ks,v :: vs,k,u=>(if j = k then u else v) :: Qm6 ks vs k u
 | _,_,_,_=>[]
theorem Qri (k:List (List Int)) (u:V):∀ (ks:List (List (List Int))) (vs:List V),ks.length = vs.length → ks.length = (Qm6 ks vs k u).length
 | [],_,_=>by unfold Qm6; rfl
 | j :: ks,[],h=>by cases h
 | j :: ks,v :: vs,h=>by
  unfold Qm6
  rw [List.length_cons,List.length_cons,← Qri k u ks vs (by simpa using h)]
theorem Qrj (k:List (List Int)) (u:V):∀ (ks:List (List (List Int))) (vs:List V),ks.length = vs.length → ((ks.map kIs).zip vs).map (fun kv=>if kv.1 = kIs k then (kv.1,u) else kv) = (ks.map kIs).zip (Qm6 ks vs k u)
 | [],_,_=>rfl
 | j :: ks,[],h=>by cases h
 | j :: ks,v :: vs,h=>by
  unfold Qm6
  rw [List.map_cons,List.zip_cons_cons,List.zip_cons_cons,List.map_cons,Qrj k u ks vs (by simpa using h)]
  by_cases hj:j = k
  ·rw [if_pos hj,if_pos (by rw [hj])]
  ·rw [if_neg hj,if_neg (fun z=>hj (Qva z))]
theorem Qvb {D:Hp} (k:List (List Int)) {u:V} {x:T} (hu:Is D u x):∀ (ks:List (List (List Int))) {vs:List V} {ts:List T},ks.length = vs.length → IsL D vs ts → IsL D (Qm6 ks vs k u) (Qyu ks ts k x)
 | [],vs,ts,_,_=>by unfold Qm6 Qyu; exact .nil
 | j :: ks,[],ts,h,_=>by cases h
 | j :: ks,v :: vs,[],_,r=>by cases r.nil_inv
 | j :: ks,v :: vs,t :: ts,h,r=>by
  obtain ⟨v',vs',e,a,q⟩:=r.cons_inv
  cases e
  unfold Qm6 Qyu
  refine .cons ?_ (Qvb k hu ks (by simpa using h) q)
  by_cases hj:j = k
  ·rw [if_pos hj,if_pos hj]; exact hu
  ·rw [if_neg hj,if_neg hj]; exact a
theorem Qzk {D:Hp} {ks:List (List (List Int))} {vs:List V} {ts:List T} {k:List (List Int)} {u:V} {x:T} (h:ks.length = vs.length) (r:IsL D vs ts) (hu:Is D u x) (z:ks.length < 100000):OwnO D (Qks ks ts k x) (.dT (Qii ((ks.map kIs).zip vs) (kIs k) u)):=by
 unfold Qks
 rcases Qg9 k ks h r with ⟨v,t,e1,e2,_⟩ | ⟨e1,e2⟩
 ·rw [e2]
  refine ⟨by omega,Qm6 ks vs k u,?_,Qri k u ks vs h,Qvb k hu ks h r⟩
  unfold Qii
  rw [Qi4,e1,if_pos (show (some v).isSome = true from rfl),Qrj k u ks vs h]
 ·rw [e2]
  refine ⟨by rw [List.length_append,List.length_singleton]; omega,vs ++ [u],?_,by rw [List.length_append,List.length_append,h]; rfl,r.append (.one hu)⟩
  rw [Qxw u e1,List.map_append,List.zip_append (by rw [List.length_map,h])]
  rfl
theorem Rdb.dtt {H:Hp} {G:Addr → Prop} {v:V} {ks:List (List (List Int))} {ts:List T} (h:Rdb H G v (.dtt ks ts)):∃ a vs,v = .ref a ∧ H a = some (.dT ((ks.map kIs).zip vs)) ∧ ks.length = vs.length ∧ IsL (dls H G) vs ts:=by
 rcases h with h | ⟨a,rfl,o,e,q⟩
 ·unfold Is at h
  obtain ⟨_,a,vs,rfl,e,l,q⟩:=h
  exact ⟨a,vs,rfl,(Qs e).2,l,q⟩
 ·cases o with
  | dT kvs=>obtain ⟨_,vs,rfl,l,r⟩:=q; exact ⟨a,vs,rfl,e,l,r⟩
  | _=>exact q.elim
theorem Qhx {H0 H:Hp} {G:Addr → Prop} {σ:St} {ρ:En} {v:V} {r:PV} {ns:List (List Int)} (h:PVR H0 H G σ ρ v r) (e:Qi9 r = some ns):∃ b,v = .ref b ∧ KAt H (kIs ns) b:=by
 cases r with
 | ow t=>cases e
 | sl i=>cases e
 | fz t =>
  cases t <;> first | (cases e; done) | skip
  rename_i us
  have e:Qln us = some ns:=e
  obtain ⟨b,vs,rfl,el,rl⟩:=h.is.tup_inv
  rw [Qoe e] at rl
  obtain ⟨bs,rfl,p⟩:=Qzj rl
  refine ⟨b,rfl,bs,(Qs el).2,?_⟩
  show Paired _ ns bs
  exact Paired.mapP p fun _ _ x=>(Qs x).2
section
variable {X:Cx} {p:Pr} {e a b:Expr} {e' a' b':E} {pos p1 p2 pos':Pos} {x:Str}
theorem Qzl:QE X (.Dict [] [] pos) (tE p .dnew):=(QE.mk Qxz).weak fun σ H Q zz1=>by
 obtain ⟨G,ρ,F,h⟩:=zz1
 unfold evE at h
 intro l hl
 obtain ⟨F2,r2⟩:=Qlr F hl (Same.upd (o:=.dT []) hl) Qo (t:=.dtt [] []) ⟨Nat.zero_le _,[],rfl,rfl,.nil⟩
 exact h _ _ _ F2 r2
theorem Q8x {ng:Bool} {σ:St} {H:Hp} {Q:VK} (h:tE p (.din ng a' b') σ H Q):tE p a' σ H fun y H1=>tE p b' σ H1 fun x H2=>∃ l o,x = .ref l ∧ DGet H2 l y o ∧ Q (.bl (if ng then !o.isSome else o.isSome)) H2:=by
 obtain ⟨G,ρ,F,h⟩:=h
 unfold evE at h
 refine tE2 F h fun ra rb ρ2 x y H2 G2 F2 r1 r2 h2=>?_
 cases ek:Qi9 ra with
 | none=>rw [ek] at h2; exact False.elim h2
 | some ns =>
  cases ec:cont ρ2 rb with
  | none=>rw [ek,ec] at h2; exact False.elim h2
  | some t =>
   rw [ek,ec] at h2
   cases t <;> first | exact False.elim h2 | skip
   rename_i ks ts
   obtain ⟨l,vs,rfl,el,hl,il⟩:=(r2.rdb F2 ec).dtt
   obtain ⟨b,rfl,eb⟩:=Qhx r1 ek
   refine ⟨l,_,rfl,DGet.t el eb,?_⟩
   have hs:(Qh2 ((ks.map kIs).zip vs) (kIs ns)).isSome = (Qfh ks ts ns).isSome:=by
    rcases Qg9 ns ks hl il with ⟨v,t,e1,e2,_⟩ | ⟨e1,e2⟩ <;> rw [e1,e2] <;> rfl
   rw [hs]
   exact h2 _ H2 G2 F2 pvB
theorem Qo5 (hu:X.A.units + 64 < cLine) (ha:QE X a (tE p a')) (hb:QE X b (tE p b')) (hm:behindInMarks .NotIn b = false:=by rfl):QT X (.Compare a [.NotIn] [b] pos) (tT p (.din true a' b')) :=
 (QT.mk (Q52 (Qwb (by omega) ha.h hb.h) hm)).weak fun σ H Q h=>Q8x (Qrc h)
theorem Q5e (hu:X.A.units + 64 < cLine) (ha:QE X a (tE p a')) (hb:QE X b (tE p b')) (hs:Q7c b:=by intro _ _; rfl):QE X (.Subscript a b pos) (tE p (.dix a' b')) :=
 (QE.mk (Q1v (by omega) ha.h hb.h hs)).weak fun σ H Q zz1=>by
  obtain ⟨G,ρ,F,h⟩:=zz1
  unfold evE at h
  refine tE2 F h fun ra rb ρ2 x y H2 G2 F2 r1 r2 h2=>?_
  cases ek:Qi9 rb with
  | none=>rw [ek] at h2; exact False.elim h2
  | some ns =>
   cases ec:cont ρ2 ra with
   | none=>rw [ek,ec] at h2; exact False.elim h2
   | some t =>
    rw [ek,ec] at h2
    cases t <;> first | exact False.elim h2 | skip
    rename_i ks ts
    obtain ⟨l,vs,rfl,el,hl,il⟩:=(r1.rdb F2 ec).dtt
    obtain ⟨b,rfl,eb⟩:=Qhx r2 ek
    rcases Qg9 ns ks hl il with ⟨v,t,e1,e2,iv⟩ | ⟨e1,e2⟩
    ·replace h2:Fin p (Qap H G σ ρ) σ (match Qfh ks ts ns with | some t=>.ok (PV.fz t) ρ2 | none=>.no) _:=h2
     rw [e2] at h2
     refine ⟨l,v,rfl,?_,h2 v H2 G2 F2 iv⟩
     rw [← e1]
     exact DGet.t el eb
    ·replace h2:Fin p (Qap H G σ ρ) σ (match Qfh ks ts ns with | some t=>.ok (PV.fz t) ρ2 | none=>.no) _:=h2
     rw [e2] at h2
     exact False.elim h2
theorem Qzm {t:Option T} (h:Qlm t = true):∃ ks ts,t = some (.dtt ks ts):=by
 unfold Qlm at h
 split at h
 ·exact ⟨_,_,rfl⟩
 ·cases h
theorem Q8y {D:Hp} {ks:List (List (List Int))} {vs:List V} {ts:List T} (k:List (List Int)) (h:ks.length = vs.length) (r:IsL D vs ts) {v:V} {u:T} (hu:Is D v u):Is D ((Qh2 ((ks.map kIs).zip vs) (kIs k)).getD v) ((Qfh ks ts k).getD u):=by
 rcases Qg9 k ks h r with ⟨w,t,e1,e2,i⟩ | ⟨e1,e2⟩ <;> rw [e1,e2]
 ·exact i
 ·exact hu
theorem Q5f {apos:Pos} (hu:X.A.units + 64 < cLine) (ha:QE X a (tE p a')) (hb:QE X b (tE p b')) (m:M1 X a "get" apos b pos:=by exact ⟨rfl,rfl,rfl,rfl⟩):QE X (.Call (.Attribute a "get" apos) [b] [] pos) (tE p (.dg1 a' b')) :=
 (QE.mk (Qx0 (by omega) ha.h hb.h m)).weak fun σ H Q zz1=>by
  obtain ⟨G,ρ,F,h⟩:=zz1
  unfold evE at h
  refine ⟨G,ρ,F,h.bind.imp fun rd ρ1 h1 v H1 G1 F1 r1=>?_⟩
  by_cases z:Qlm (cont ρ1 rd) = true
  ·rw [if_pos z] at h1
   obtain ⟨ks0,ts0,ec0⟩:=Qzm z
   obtain ⟨l,vs0,rfl,el0,_⟩:=(r1.rdb F1 ec0).dtt
   refine ⟨l,rfl,.inr ⟨_,.inl el0⟩,Quw F1 h1.bind fun rk ρ2 w H2 G2 h2 F2 F2' r2=>?_⟩
   cases ek:Qi9 rk with
   | none=>rw [ek] at h2; exact False.elim h2
   | some ns =>
    cases ec:cont ρ2 rd with
    | none=>rw [ek,ec] at h2; exact False.elim h2
    | some t =>
     rw [ek,ec] at h2
     cases t <;> first | exact False.elim h2 | skip
     rename_i ks ts
     obtain ⟨l',vs,e',el,hl,il⟩:=((r1.step F1 F2').rdb F2 ec).dtt
     cases e'
     obtain ⟨b,rfl,eb⟩:=Qhx r2 ek
     exact ⟨_,DGet.t el eb,h2 _ H2 G2 F2 (Q8y ns hl il Is.non)⟩
  ·rw [if_neg z] at h1; exact False.elim h1
theorem FI.mutDAt {B:Bs} {H:Hp} {G:Addr → Prop} {σ:St} {ρ:En} {i:Nat} (F:FI B H G σ ρ) (h:(Qb ρ i).mutD = true):∃ a,σ[i]? = some (some (.ref a)):=by
 have:∃ t,(Qb ρ i).prv = some t:=by
  cases hs:Qb ρ i <;> rw [hs] at h <;> first | (cases h; done) | exact ⟨_,rfl⟩
 obtain ⟨t,e⟩:=this
 obtain ⟨a,s,_⟩:=F.prvAt e
 exact ⟨a,s⟩
theorem Qo6 {i:Nat} {value:Expr} (hu:X.A.units + 64 < cLine) (ho:QE X a (Qon i)) (hb:QE X b (tE p b')) (hv:QE X value (tE p e')) (hs:swapsWith value (some (.Subscript a b pos')) pos.line X.env = pure false:=by rfl):QS X (.Assign [.Subscript a b pos'] value pos) (tS p (.dput i b' e')) :=
 (QS.mk (Q1w (by omega) ho.h hb.h hv.h hs)).weak fun D σ H zz1=>by
  obtain ⟨B,G,ρ,F,hO,h⟩:=zz1
  unfold exS at h
  refine Qgp F h fun r ρ2 v H2 G2 k F2 _ pv _=>?_
  cases ef:frz r with
  | none=>rw [ef] at k; exact False.elim k
  | some t =>
   rw [ef] at k
   obtain ⟨G3,F3,i3,s3⟩:=PVR.lay pv F2 ef
   by_cases hm:(Qb ρ2 i).mutD = true
   ·simp only [if_pos hm] at k
    obtain ⟨l,sa⟩:=F3.mutDAt hm
    refine ⟨_,sa,?_⟩
    refine Qgp F3 (SFin.late k (Qdj s3)) fun rk ρ4 w H4 G4 k4 F4 F4' pk sm=>?_
    have i4:=i3.mono sm
    cases ek:Qi9 rk with
    | none=>rw [ek] at k4; exact False.elim k4
    | some ns =>
     rw [ek] at k4
     obtain ⟨b,rfl,eb⟩:=Qhx pk ek
     replace k4:SFin p B H4 G4 D (match Qb ρ4 i with
      | .ow (.dtt ks ts)=>if ks.length < 100000 then .nx (ρ4.set i (.ow (Qks ks ts ns t))) else .no
      | .ml (.dtt ks ts)=>if ks.length < 100000 then .nx (ρ4.set i (.ml (Qks ks ts ns t))) else .no
      | _=>.no):=k4
     have fin:∀ ks ts s',(Qb ρ4 i = .ow (.dtt ks ts) ∧ s' = Slot.ow (Qks ks ts ns t)) ∨ (Qb ρ4 i = .ml (.dtt ks ts) ∧ s' = Slot.ml (Qks ks ts ns t)) → SFin p B H4 G4 D (if ks.length < 100000 then .nx (ρ4.set i s') else .no) → ∃ a H5,V.ref l = .ref a ∧ DPut H4 a (.ref b) v H5 ∧ D.nx σ H5:=fun ks ts s' hs k=>by
      have hp:(Qb ρ4 i).prv = some (.dtt ks ts):=by rcases hs with ⟨h,_⟩ | ⟨h,_⟩ <;> rw [h] <;> rfl
      obtain ⟨a',sa',g,o1⟩:=F4.prvAt hp
      rw [sa] at sa'
      cases sa'
      obtain ⟨ob,eo,q⟩:=o1
      cases ob with
      | dT kvs =>
       obtain ⟨_,vs,rfl,hl,il⟩:=q
       by_cases z:ks.length < 100000
       ·rw [if_pos z] at k
        obtain ⟨F5,s5⟩:=F4.changeO hs sa (Qzk hl il i4 z (k:=ns))
        refine ⟨l,_,rfl,DPut.t eo eb ?_,k σ _ G4 F5 s5⟩
        have:((ks.map kIs).zip vs).length = ks.length:=by rw [List.length_zip,List.length_map,← hl,Nat.min_self]
        rw [this]
        exact Nat.lt_of_lt_of_le z (Qbk (Nat.le_refl _))
       ·rw [if_neg z] at k; exact False.elim k
      | _=>exact q.elim
     cases hs:Qb ρ4 i with
     | un=>rw [hs] at k4; exact False.elim k4
     | pin _=>rw [hs] at k4; exact False.elim k4
     | fx _=>rw [hs] at k4; exact False.elim k4
     | fz t=>rw [hs] at k4; exact False.elim k4
     | ro t=>rw [hs] at k4; exact False.elim k4
     | ow u =>
      rw [hs] at k4
      cases u <;> first | exact False.elim k4 | skip
      exact fin _ _ _ (.inl ⟨hs,rfl⟩) k4
     | ml u =>
      rw [hs] at k4
      cases u <;> first | exact False.elim k4 | skip
      exact fin _ _ _ (.inr ⟨hs,rfl⟩) k4
   ·simp only [if_neg hm] at k
    exact False.elim k
end
section
variable {P:Program} {w:World} {H:Hp}
end
section
variable {X:Cx} {p:Pr} {a b:Expr} {a' b':E} {pos:Pos}
end
section
variable {X:Cx} {k v:Expr} {tk tv:TE} {pos:Pos}
end
section
variable {X:Cx} {p:Pr} {a b:Expr} {a' b':E} {pos:Pos}
end
section
variable {prog:Program} {w:World} {A:Around} {E:Value → Shared → Prop} {s:Shared}
theorem Qzn {es:Array DictEntry} (hn:(es.toList.map (·.hash)).Nodup) {e:DictEntry} (he:e ∈ es.toList):(es.filter (·.hash == e.hash)).size ≤ 1:=by
 rw [← Array.length_toList,Array.toList_filter]
 generalize es.toList = l at hn he
 induction l with
 | nil=>cases he
 | cons x l ih =>
  rw [List.map_cons,List.nodup_cons] at hn
  rw [List.filter_cons]
  rcases List.mem_cons.mp he with rfl | he
  ·rw [if_pos (by simp)]
   have:l.filter (fun y=>y.hash == e.hash) = []:=by
    rw [List.filter_eq_nil_iff]
    intro y hy c
    exact hn.1 (List.mem_map.mpr ⟨y,hy,by simpa using c⟩)
   rw [this]
   exact Nat.le_refl _
  ·have:¬ (x.hash == e.hash) = true:=fun c=>hn.1 (List.mem_map.mpr ⟨e,he,(by simpa using c:x.hash = e.hash).symm⟩)
   rw [if_neg this]
   exact ih hn.2 he
theorem Qrk {id:String} {d:Addr} {o:Obj} {ep:Nat} {es:Array DictEntry} {Q:Array DictEntry → Shared → Prop} (ho:s.heap.get? d = some o) (hd:o.data = .dict es ep) (hT:∀ e ∈ es.toList,∃ a,e.key = .ref a ∧ s.TypeIs (.ref a) "tuple") (hn:(es.toList.map (·.hash)).Nodup)
  (h:Q es s):wpAny (model prog w) A (Builtin.Dict.entriesForEmpty id d) Q E s:=by
 unfold Builtin.Dict.entriesForEmpty
 refine wpAny_bind (wpAny_dictEntries ho hd ?_)
 refine wpAny_bind ?_
 rw [← Array.forIn_toList]
 refine wpAny_forIn_list _ (fun rest _ s'=>s' = s ∧ ∀ e ∈ rest,e ∈ es.toList) _ ?_ ?_ _ _ ⟨rfl,fun e he=>he⟩
 ·rintro e rest b s' ⟨rfl,hm⟩
  obtain ⟨a,ek,ht⟩:=hT e (hm e (.head _))
  have hs:=Qzn hn (hm e (.head _))
  rw [ek]
  refine wpAny_bind ?_
  unfold Builtin.Dict.quietEq
  refine wpAny_bind (wpAny_specialOf ht PySem.F.slot_tuple_eq.lookup (wpAny_pure ?_))
  rw [if_pos (by decide),if_neg (by omega)]
  exact wpAny_pure ⟨rfl,fun e he=>hm e (.tail _ he)⟩
 ·rintro b s' ⟨rfl,_⟩
  exact wpAny_pure h
theorem Qzo {o:Addr} {xs:List (List (List Int) × Addr × Value)} {Q:Value → Shared → Prop} (hoS:(o == sysModules) = false) (ho:s.heap.DictOfH (nestKind prog w) o xs) (hx:xs ≠ []) (hh:(xs.map fun x=>nestHash prog w x.1).Nodup) (hlen:xs.length ≤ sizeLine)
  (h:∀ h',h'.DictOfH (nestKind prog w) s.heap.objs.size xs → Heap.SameBut s.heap.objs.size (s.heap.push { cls:=.type "dict",data:=.dict #[] }) h' → Q (.ref s.heap.objs.size) { s with heap:=h' }) :
  wpAny (model prog w) A (call (.type "dict") [.ref o]) Q E s:=by
 refine callType_codes (Q₁:=fun obj s₁=>obj = .ref s.heap.objs.size ∧ s₁ = { s with heap:=s.heap.push { cls:=.type "dict",data:=.dict #[] } }) F.kt_called_dict (F.kt_typeCall_dict_1 _) F.entry_dict_init (kt_code_dict_new _ ⟨rfl,rfl⟩) ?_
 rintro obj s₁ ⟨rfl,rfl⟩
 have hnew:(s.heap.push { cls:=.type "dict",data:=.dict #[] }).DictOf (Qd4 prog w) s.heap.objs.size []:=Heap.DictOf.new s.heap
 obtain ⟨oo,es,ep,h1,h2,h3,h4,h5,h6⟩:=ho
 have hg:(s.heap.push { cls:=.type "dict",data:=.dict #[] }).get? o = some oo:=Heap.get?_push_of_some _ h1
 have hdo:s.heap.objs.size ≠ o:=fun e=>absurd (Heap.lt_size h1) (by rw [e]; exact Nat.lt_irrefl _)
 have hty:Shared.TypeIs { s with heap:=s.heap.push { cls:=.type "dict",data:=.dict #[] } } (.ref o) "dict" := ⟨oo,hg,h2.1⟩
 have up:∀ {k:List (List Int)} {a:Addr},IsNest prog w s.heap k a → IsNest prog w (s.heap.push { cls:=.type "dict",data:=.dict #[] }) k a:=fun {k a} z=>by
  obtain ⟨oa,its,n,a1,a2,a3,a4⟩:=z
  refine ⟨oa,its,n,Heap.get?_push_of_some _ a1,a2,a3,?_⟩
  clear a1 a3
  generalize its.toList = l at a4 ⊢
  induction a4 with
  | nil=>exact .nil
  | cons x _ ih =>
   obtain ⟨ob,it,m,b1,b2,b3,b4⟩:=x
   exact .cons ⟨ob,it,m,Heap.get?_push_of_some _ b1,b2,b3,b4⟩ ih
 have hkeys:∀ e ∈ es.toList,∃ a,e.key = .ref a ∧ Shared.TypeIs { s with heap:=s.heap.push { cls:=.type "dict",data:=.dict #[] } } (.ref a) "tuple" := fun e he=>by
  rw [h4] at he
  obtain ⟨x,hx,rfl⟩:=List.mem_map.mp he
  exact ⟨x.2.1,rfl,(up (h5 x hx)).typeIs (s:={ s with heap:=s.heap.push { cls:=.type "dict",data:=.dict #[] } })⟩
 have hn:(es.toList.map (·.hash)).Nodup:=by
  rw [h4,List.map_map]
  exact hh
 have hse:es.isEmpty = false:=by
  cases es with
  | mk l =>
   have h4:l = xs.map (entryOfKey (nestKind prog w)):=h4
   subst h4
   cases xs with
   | nil=>exact absurd rfl hx
   | cons x xs=>rfl
 have hfew:(decide (es.size ≤ 8) && es.all fun e=>(keyPart e.key).isSome) = false:=by
  cases es with
  | mk l =>
   have h4:l = xs.map (entryOfKey (nestKind prog w)):=h4
   subst h4
   cases xs with
   | nil=>exact absurd rfl hx
   | cons x xs =>
    rw [Bool.and_eq_false_iff]
    refine .inr ?_
    rw [Array.all_eq_false]
    exact ⟨0,by simp,by simp [entryOfKey,keyPart]⟩
 obtain ⟨od,esd,epd,hod,hcd,hdd,hkd,hpd,hnd⟩:=id hnew
 have hesd:esd = #[]:=by
  have:=hpd.length
  cases esd with
  | mk l=>cases l with
   | nil=>rfl
   | cons x r=>cases this
 subst hesd
 refine ⟨hnew.typeIs,F.args_dict_init_2 _ _,?_⟩
 unfold Builtin.«dict.__init__»
 refine wpAny_bind ?_
 unfold Builtin.Dict.selfAndRest
 refine wpAny_bind (wpAny_notOrdered_dict hnew.typeIs ?_)
 show wpAny _ _ (pure (s.heap.objs.size,[Value.ref o])) _ _ _
 refine wpAny_pure ?_
 show wpAny _ _ (Builtin.Dict.updateFrom "dict.__init__" s.heap.objs.size (.ref o) [] .none) _ _ _
 unfold Builtin.Dict.updateFrom
 refine wpAny_bind (wpAny_typeOf hty ?_)
 rw [if_neg (by decide)]
 refine wpAny_bind ?_
 unfold Builtin.Dict.merge
 refine wpAny_bind ?_
 unfold Builtin.Dict.readDirectly
 refine wpAny_bind (wpAny_isInstance hty isSubtype_dict_dict ?_)
 simp only [Bool.not_true,Bool.false_eq_true,if_false]
 refine wpAny_bind (wpAny_specialOf hty F.slot_dict_iter.lookup (wpAny_pure ?_))
 simp only [beq_self_eq_true,if_true]
 refine wpAny_bind (wpAny_pure ?_)
 unfold Builtin.Dict.mergeDict
 rw [if_neg (by simpa using hdo)]
 unfold Builtin.Dict.showsAll
 rw [if_neg (by rw [hoS]; exact Bool.false_ne_true)]
 refine wpAny_bind (wpAny_pure ?_)
 refine wpAny_bind (wpAny_dictEntries hg h3 ?_)
 rw [if_pos (by rw [hfew]; rfl)]
 refine wpAny_bind (wpAny_dictEntries hod hdd ?_)
 rw [if_pos (by rfl)]
 refine wpAny_bind (Qrk hg h3 hkeys hn ?_)
 rw [if_pos (by rw [hse]; rfl)]
 have hz:es.size ≤ sizeLine:=by rw [size_of_entries h4]; exact hlen
 refine wpAny_bind (wpAny_updateDictKeysTo hod hdd (wpAny_pure ?_) (Nat.le_succ_of_le hz))
 show wpAny _ _ (Builtin.Dict.addKeywords s.heap.objs.size [] >>= _) _ _ _
 refine wpAny_bind (wpAny_pure (wpAny_pure ⟨rfl,h _ ⟨_,_,epd + 1,Heap.get?_update_self _ hod (Obj.isFreed_of_dict (Obj.data_mapDictKeys hdd _)),hcd.mapDictKeys _,Obj.data_mapDictKeys hdd _,h4,fun x hx=>?_,h6⟩ (Heap.SameBut.update ..)⟩))
 exact (nestKind prog w).keeps (up (h5 x hx)) hod hdd (Heap.SameBut.update ..)
end
section
variable {X:Cx}
theorem KT.keys {H:Hp} {kvs:List (List (List Int) × V)} {xs:List (List (List Int) × Addr × Value)} (r:KT H kvs xs):xs.map (·.1) = kvs.map (·.1):=by
 induction r with
 | nil=>rfl
 | cons h _ ih=>rw [List.map_cons,List.map_cons,ih,h.1]
noncomputable def Qtk:List V → Hp → VK → Prop:=fun xs H Q=>∃ p kvs,xs = [.ref p] ∧ H p = some (.dT kvs) ∧ kvs ≠ [] ∧ (kvs.map fun x=>Qei x.1).Nodup ∧ ∀ l,H l = none → Q (.ref l) (upd H l (.dT kvs))
theorem Qtl:CallR X (.type "dict") Qtk:=by
 intro pins s σ H xs us Q I r h
 obtain ⟨p,kvs,rfl,e,hne,hh,q⟩:=h
 obtain ⟨u,rfl,rx⟩:=Qib r
 cases rx
 obtain ⟨z,hd,ys,rel,dd⟩:=Qxx I.hok e
 have ek:=rel.keys
 have hl:kvs.length = ys.length:=Paired.length rel
 have hh':(ys.map fun x=>nestHash X.prog X.w x.1).Nodup:=by
  have e1:(ys.map fun x=>nestHash X.prog X.w x.1) = (ys.map (·.1)).map Qei:=by rw [List.map_map]; rfl
  have e2:(kvs.map fun x=>Qei x.1) = (kvs.map (·.1)).map Qei:=by rw [List.map_map]; rfl
  rw [e1,ek,← e2]
  exact hh
 refine Qzo hd dd (fun c=>hne (List.length_eq_zero_iff.mp (by rw [hl,c]; rfl))) hh' (by omega) fun h' dd' hs=>⟨.ref s.heap.objs.size,_,?_,rfl,q _ (I.hok.fresh (Nat.le_refl _))⟩
 obtain ⟨o,es,ep,hq,h2,h3,h4,_,h5⟩:=dd'
 refine I.laid (t':=s.toks) (fun b w hb=>?_) (Nat.le_refl _) ⟨z,beq_eq_false_iff_ne.mpr (Nat.ne_of_gt I.big),_,KT.keeps rel fun b ys hb=>?_,o,es,ep,hq,h2,h3,h4,h5⟩
 ·exact (hs.2 b (Nat.ne_of_lt (Heap.lt_size hb))).trans (Heap.get?_push_of_some _ hb)
 ·rw [Q3 (Qbj hb (I.hok.fresh (Nat.le_refl _)))]
  exact hb
theorem Q2y:QCl X (.type "dict") Qtk:=⟨Qtl⟩
theorem Qzp:Ob Qtk .dct:=by
 intro B H G σ ρ vs ts w Q F r e q
 match ts,e,r with
 | [.dtt ks us],e,r =>
  have e:(if ks ≠ [] ∧ (ks.map Qei).Nodup then some (PV.ow (.dtt ks us)) else none) = some w:=e
  by_cases z:ks ≠ [] ∧ (ks.map Qei).Nodup
  ·rw [if_pos z] at e
   cases e
   obtain ⟨v,rfl,h⟩:=r.one
   have hz:ks.length ≤ 100000:=by
    rcases h with h | ⟨_,_,o,_,qo⟩
    ·unfold Is at h; exact h.1
    ·cases o <;> first | exact qo.elim | exact qo.1
   obtain ⟨l,ws,rfl,el,hl,il⟩:=h.dtt
   have hk:((ks.map kIs).zip ws).map (·.1) = ks:=by
    rw [List.map_fst_zip (by rw [List.length_map]; omega)]
    exact List.map_id'' (fun _=>rfl) ks
   have em:(((ks.map kIs).zip ws).map fun x=>Qei x.1) = ks.map Qei:=by
    have:(((ks.map kIs).zip ws).map fun x=>Qei x.1) = (((ks.map kIs).zip ws).map (·.1)).map Qei:=by rw [List.map_map]; rfl
    rw [this,hk]
   refine ⟨l,_,rfl,el,fun c=>z.1 (by rw [← hk,c]; rfl),by rw [em]; exact z.2,fun l2 hl2=>?_⟩
   obtain ⟨F2,r2⟩:=Qlr F hl2 (Same.upd (o:=.dT ((ks.map kIs).zip ws)) hl2) Qo (t:=.dtt ks us) ⟨hz,ws,rfl,hl,il⟩
   exact q _ _ _ F2 r2
  ·rw [if_neg z] at e; cases e
end
end L2
namespace L2
open PySem PySem.Spec PyProof.Rows PySem.W
noncomputable def DAt (h:Heap) (d:Addr) (es:Array DictEntry) (ep:Nat):Prop:=∃ o,h.get? d = some o ∧ o.ExactDict ∧ o.data = .dict es ep
theorem DAt.lt {h:Heap} {d:Addr} {es:Array DictEntry} {ep:Nat} (x:DAt h d es ep):d < h.objs.size:=let ⟨_,ho,_⟩:=x; Heap.lt_size ho
theorem DAt.at' {h h':Heap} {d:Addr} {es:Array DictEntry} {ep:Nat} (x:DAt h d es ep) (e:∀ o,h.get? d = some o → h'.get? d = some o):DAt h' d es ep:=let ⟨o,ho,r⟩:=x; ⟨o,e _ ho,r⟩
theorem DAt.typeIs {s:Shared} {d:Addr} {es:Array DictEntry} {ep:Nat} (x:DAt s.heap d es ep):s.TypeIs (.ref d) "dict" := let ⟨o,ho,hc,_⟩:=x; ⟨o,ho,hc.1⟩
section
variable {prog:Program} {w:World} {A:Around} {E:Value → Shared → Prop} {s:Shared} {it d:Addr} {i ep:Nat} {es:Array DictEntry}
theorem Qzq {Q:Value → Shared → Prop} (hd:(d == sysModules) = false) (hm:DAt s.heap d es ep)
  (hQ:Q (.ref s.heap.objs.size) { s with heap:=s.heap.push { cls:=.type "dict_keyiterator",data:=.fields #[.ref d,.int 0 0,.int es.size 0,.int ep 0] } }):wpAny (model prog w) A (pyIter (.ref d)) Q E s:=by
 obtain ⟨o,ho,hc,hdat⟩:=id hm
 have hT:=hm.typeIs
 refine wpAny_pyIter_slot hT PySem.F.slot_dict_iter (wpAny_call_entry PySem.F.slot_dict_iter hT PySem.F.entry_dict_iter ?_ (PySem.F.args_dict_iter_1 _))
 unfold Builtin.«dict.__iter__»
 refine wpAny_bind ?_
 unfold Builtin.Dict.dictSlotNone
 refine wpAny_bind (wpAny_notOrdered_dict hT ?_)
 show wpAny _ _ (pure (Value.ref d)) _ _ s
 refine wpAny_pure ?_
 show wpAny _ _ (Builtin.Dict.showsAll d >>= _) _ _ s
 unfold Builtin.Dict.showsAll
 rw [if_neg (by rw [hd]; exact Bool.false_ne_true)]
 refine wpAny_bind (wpAny_pure ?_)
 refine wpAny_bind (wpAny_dictEntries ho hdat ?_)
 refine wpAny_bind (wpAny_dictEpoch ho hdat ?_)
 refine wpAny_bind (wpAny_newObj_type (wpAny_pure ⟨_,rfl,"dict_keyiterator",_,⟨_,Heap.get?_push_size _ rfl,rfl⟩,PySem.F.slot_dict_keyiterator_next.lookup,?_⟩))
 simpa [rawInt] using hQ
theorem Qzr {Q:Option Value → Shared → Prop} (hit:s.heap.IsKeyIter it d i es.size ep) (hm:DAt s.heap d es ep) (hlt':i < es.size)
  (hQ:∀ h',h'.IsKeyIter it d (i + 1) es.size ep → Heap.SameBut it s.heap h' → Q (some es[i].key) { s with heap:=h' }):wpAny (model prog w) A (pyNext (.ref it)) Q E s:=by
 obtain ⟨o,ho,hc,hd⟩:=id hit
 obtain ⟨od,hod,hcd,hdd⟩:=id hm
 unfold pyNext
 refine wpAny_bind (wpAny_attempt (wpAny_callSpecial?_slot (name:=Str.ofString "__next__") hit.typeIs PySem.F.slot_dict_keyiterator_next
  (wpAny_call_entry PySem.F.slot_dict_keyiterator_next hit.typeIs PySem.F.entry_dict_keyiterator_next ?_ (PySem.F.args_dict_keyiterator_next_1 _))))
 refine wpAny_bind (wpAny_pure ?_)
 refine wpAny_bind ?_
 refine wpAny_bind ?_
 first | refine wpAny_bind (wpAny_typeNameOfWhole_keyiter hit.typeIs (wpAny_pure ?_)) | refine wpAny_bind (wpAny_typeNameOf_keyiter hit.typeIs (wpAny_pure ?_))
 refine wpAny_bind (wpAny_fieldsOf ho hd ?_)
 have hown:Builtin.Dict_items.ownsTuple "dict_keyiterator" = false:=by decide
 simp only [hown,Bool.false_eq_true,if_false]
 show wpAny _ _ (if (Value.ref d == Value.none) = true then _ else _) _ _ s
 rw [if_neg (show ¬ ((Value.ref d == Value.none) = true) from Bool.false_ne_true)]
 refine wpAny_bind (wpAny_pure ?_)
 refine wpAny_bind (wpAny_dictEntries hod hdd ?_)
 rw [if_neg (by simp)]
 refine wpAny_bind (wpAny_pure ?_)
 refine wpAny_bind (wpAny_dictEpoch hod hdd ?_)
 rw [if_neg (by simp)]
 refine wpAny_pure ?_
 simp only [show ¬ ((i:Int) < 0) from by omega,if_false,Int.toNat_natCast,Array.getElem?_eq_getElem hlt']
 refine wpAny_bind ?_
 first | refine wpAny_bind (wpAny_typeNameOfWhole_keyiter hit.typeIs (wpAny_pure ?_)) | refine wpAny_bind (wpAny_typeNameOf_keyiter hit.typeIs (wpAny_pure ?_))
 refine wpAny_bind (wpAny_isOneOf_keyiter hit.typeIs ?_)
 show wpAny _ _ (setField (.ref it) 1 (rawInt ((i:Int) + 1)) >>= _) _ _ s
 refine wpAny_bind (wpAny_setField ho hd (by simp) ?_)
 have hit':(s.heap.update it (Obj.mapFields (·.setIfInBounds 1 (rawInt ((i:Int) + 1))))).IsKeyIter it d (i + 1) es.size ep :=
  ⟨_,Heap.get?_update_self _ ho (Obj.isFreed_of_fields (Obj.data_mapFields hd _)),(Obj.cls_mapFields ..).trans hc,by rw [Obj.data_mapFields hd]; simp [rawInt]⟩
 refine wpAny_bind (wpAny_holding ?_)
 refine wpAny_bind (wpAny_isOneOf_keyiter (s:={ s with heap:=s.heap.update it (Obj.mapFields (·.setIfInBounds 1 (rawInt ((i:Int) + 1)))) }) hit'.typeIs ?_)
 show wpAny _ _ (pure es[i].key) _ _ _
 exact wpAny_pure (wpAny_pure ⟨_,rfl,wpAny_pure (hQ _ hit' (Heap.SameBut.update ..))⟩)
theorem Q2z {Q:Option Value → Shared → Prop} (hh:A.handled = none) (hit:s.heap.IsKeyIter it d i es.size ep) (hm:DAt s.heap d es ep) (hi:es.size ≤ i)
  (hQ:∀ h',Heap.ExtBut it s.heap h' → Q none { s with heap:=h' }):wpAny (model prog w) A (pyNext (.ref it)) Q E s:=by
 obtain ⟨o,ho,hc,hd⟩:=id hit
 obtain ⟨od,hod,hcd,hdd⟩:=id hm
 unfold pyNext
 refine wpAny_bind (wpAny_attempt (wpAny_callSpecial?_slot (name:=Str.ofString "__next__") hit.typeIs PySem.F.slot_dict_keyiterator_next
  (wpAny_call_entry PySem.F.slot_dict_keyiterator_next hit.typeIs PySem.F.entry_dict_keyiterator_next ?_ (PySem.F.args_dict_keyiterator_next_1 _))))
 refine wpAny_bind (wpAny_pure ?_)
 refine wpAny_bind ?_
 refine wpAny_bind ?_
 first | refine wpAny_bind (wpAny_typeNameOfWhole_keyiter hit.typeIs (wpAny_pure ?_)) | refine wpAny_bind (wpAny_typeNameOf_keyiter hit.typeIs (wpAny_pure ?_))
 refine wpAny_bind (wpAny_fieldsOf ho hd ?_)
 have hown:Builtin.Dict_items.ownsTuple "dict_keyiterator" = false:=by decide
 simp only [hown,Bool.false_eq_true,if_false]
 show wpAny _ _ (if (Value.ref d == Value.none) = true then _ else _) _ _ s
 rw [if_neg (show ¬ ((Value.ref d == Value.none) = true) from Bool.false_ne_true)]
 refine wpAny_bind (wpAny_pure ?_)
 refine wpAny_bind (wpAny_dictEntries hod hdd ?_)
 rw [if_neg (by simp)]
 refine wpAny_bind (wpAny_pure ?_)
 refine wpAny_bind (wpAny_dictEpoch hod hdd ?_)
 rw [if_neg (by simp)]
 refine wpAny_pure ?_
 simp only [show ¬ ((i:Int) < 0) from by omega,if_false,Int.toNat_natCast,Array.getElem?_eq_none hi]
 refine wpAny_bind ?_
 first | refine wpAny_bind (wpAny_typeNameOfWhole_keyiter hit.typeIs (wpAny_pure ?_)) | refine wpAny_bind (wpAny_typeNameOf_keyiter hit.typeIs (wpAny_pure ?_))
 show wpAny _ _ (setField (.ref it) 0 .none >>= _) _ _ s
 refine wpAny_bind (wpAny_setField ho hd (by simp) ?_)
 show wpAny _ _ (newExc (.type "StopIteration") [] >>= _) _ _ _
 refine wpAny_bind ?_
 simp only [newExc,newTuple]
 refine wpAny_bind (wpAny_newObj_type ?_ (by size_fits))
 refine wpAny_bind (m:=firstArgMember _ _) (wpAny_of_eq (a:=Value.none) (by first | rfl | (simp only [firstArgMember]; rfl)) ?_)
 refine wpAny_newObj_type ?_ (by size_fits)
 simp only [raiseNew]
 refine wpAny_bind (wpAny_handled ?_)
 rw [show A.in1.handled = none from hh]
 refine wpAny_bind (wpAny_pure (wpAny_throw ?_))
 refine wpAny_bind (wpAny_isInstance (T := "StopIteration") (b:=true) ⟨_,Heap.get?_push_size _ rfl,rfl⟩ isSubtype_stop ?_)
 exact wpAny_pure (hQ _ (((Heap.SameBut.update ..).extBut.push _).push _))
theorem Q8z (hh:A.handled = none) (I d:Addr) (hne:d ≠ I) (es:Array DictEntry) (ep:Nat) :
  Walks prog w A I [I,d] [I] es.size (fun i v=>∃ h:i < es.size,v = es[i].key) (fun i h=>h.IsKeyIter I d i es.size ep ∧ DAt h d es ep) where
 sub:=fun b hb=>by simp at hb; simp [hb]
 frame:=fun _ _ _ st hk=>⟨st.1.at fun o e=>hk I (by simp) o e,st.2.at' fun o e=>hk d (by simp) o e⟩
 item:=fun i s Q E hi st hQ=>by
  refine Qzr st.1 st.2 hi fun h' hit' hs'=>?_
  exact hQ _ h' s.toks ⟨hi,rfl⟩ ⟨hit',st.2.at' fun o e=>hs'.extBut d o hne e⟩ fun b o hb e=>hs'.extBut b o (fun h=>hb (by simp [h])) e
 done:=fun s Q E st hQ=>Q2z hh st.1 st.2 (Nat.le_refl _) fun h' he'=>hQ h' s.toks fun b o hb e=>he' b o (fun h=>hb (by simp [h])) e
 self:=fun _ _ _ _ st hQ=>wpAny_pyIter_keyiter st.1 hQ
theorem Qacq (lo:(d == sysModules) = false):KdlSrc prog w "dict" d d es.size (fun i v=>∃ h:i < es.size,v = es[i].key) (fun h=>DAt h d es ep) where
 type:=fun _ hm=>hm.typeIs
 there:=fun _ hm=>⟨hm.lt,hm.lt⟩
 keep:=fun _ _ hm hk=>hm.at' fun o e=>hk d (.inl rfl) o e
 notList:=by decide
 notTuple:=by decide
 hint:=fun _ _ _ _ hm hq=>kdl_hint_dict hm.typeIs hq
 iter:=fun _ _ hh hm=>⟨_,_,(fun _ _ hq=>Qzq lo hm hq),Q8z hh _ d (Nat.ne_of_lt hm.lt) es ep,⟨⟨_,Heap.get?_push_size _ rfl,rfl,rfl⟩,hm.at' fun o e=>Heap.get?_push_of_some _ e⟩⟩
end
section
variable {X:Cx}
noncomputable abbrev KeysAt (H:Hp):List (List (List Int) × V) → List V → Prop:=Paired fun p y=>∃ b,y = .ref b ∧ KAt H p.1 b
noncomputable def Qtm:List V → Hp → VK → Prop:=fun xs H Q=>∃ p kvs,xs = [.ref p] ∧ H p = some (.dT kvs) ∧ ∀ l ys,H l = none → KeysAt H kvs ys → Q (.ref l) (upd H l (.lst ys))
theorem KT.places {H:Hp}:∀ {kvs:List (List (List Int) × V)} {xs:List (List (List Int) × Addr × Value)},KT H kvs xs → KeysAt H kvs (xs.map fun x=>.ref x.2.1)
 | [],_,r=>by cases r; exact .nil
 | _ :: _,_,r=>by
  cases r with
  | cons h t=>exact .cons ⟨_,rfl,h.2.1⟩ (KT.places t)
theorem Qof:∀ (xs:List (List (List Int) × Addr × Value)),Vals (xs.map fun x=>V.ref x.2.1) (xs.map fun x=>Value.ref x.2.1)
 | []=>.nil
 | x :: xs=>.cons rfl (Qof xs)
theorem Qtn (hc:X.calm = true):CallR X (.type "list") Qtm:=by
 intro pins s σ H xs us Q I r h
 have hh:=I.ok.hd hc
 obtain ⟨p,kvs,rfl,e,q⟩:=h
 obtain ⟨u,rfl,rx⟩:=Qib r
 cases rx
 obtain ⟨z,hd,ys,rel,o,es,ep,h1,h2,h3,h4,h5,h6⟩:=Qxx I.hok e
 have hn:es.size = ys.length:=size_of_entries h4
 have hl:kvs.length = ys.length:=Paired.length rel
 refine kdl_call (Qacq (es:=es) (ep:=ep) hd) hh ⟨o,h1,h2,h3⟩ (by rw [hn,← hl]; exact z) fun h' tk acc' c' hk hS hacc=>⟨.ref s.heap.objs.size,_,?_,rfl,q _ _ (I.hok.fresh (Nat.le_refl _)) rel.places⟩
 have ea:acc' = (ys.map fun x=>Value.ref x.2.1).toArray:=by
  apply Array.ext_getElem?
  intro j
  rcases Nat.lt_or_ge j es.size with g | g
  ·have ga:j < acc'.size:=by rw [hacc.1]; exact g
   obtain ⟨_,ev⟩:=hacc.2 j acc'[j] (Array.getElem?_eq_getElem ga)
   have gy:j < ys.length:=by omega
   rw [Array.getElem?_eq_getElem ga,ev]
   have e2:=entry_at h4 j
   rw [Array.getElem?_eq_getElem g,List.getElem?_eq_getElem gy] at e2
   have e3:=Option.some.inj e2
   rw [e3]
   simp [gy,entryOfKey]
  ·rw [Array.getElem?_eq_none (by rw [hacc.1]; exact g)]
   refine (Array.getElem?_eq_none ?_).symm
   rw [List.size_toArray,List.length_map,← hn]
   exact g
 subst ea
 exact I.laid (t':=tk) hk (Nat.le_refl _) ⟨by rw [List.length_map,← hl]; exact z,_,c',Qof ys,hS⟩
theorem Q20 (hc:X.calm = true):QCl X (.type "list") Qtm:=⟨Qtn hc⟩
theorem Qog {D:Hp}:∀ {k:List (List Int)} {bs:List Addr},Paired (fun (r:List Int) (b:Addr)=>D b = some (.tup (r.map V.int))) k bs → (∀ r ∈ k,r.length ≤ 100000) → IsL D (bs.map V.ref) (k.map fun r=>T.tup (r.map T.int))
 | [],_,p,_=>by cases p; exact .nil
 | r :: k,_,p,z=>by
  cases p with
  | cons e t=>exact .cons (.tup e (IsL.ints _) (by rw [List.length_map]; exact z r (.head _))) (Qog t fun r hr=>z r (.tail _ hr))
theorem Q21 {D:Hp} {k:List (List Int)} {b:Addr} (e:KAt D k b) (z:Qyv k = true):Is D (.ref b) (Q2d k):=by
 obtain ⟨bs,e,p⟩:=e
 have z:(decide (k.length ≤ 100000) && k.all fun r=>decide (r.length ≤ 100000)) = true:=z
 rw [Bool.and_eq_true] at z
 exact .tup e (Qog p fun r hr=>of_decide_eq_true (List.all_eq_true.mp z.2 r hr)) (by rw [List.length_map]; exact of_decide_eq_true z.1)
theorem Qrl {D:Hp}:∀ {ks:List (List (List Int))} {vs:List V} {ys:List V},ks.length = vs.length → KeysAt D ((ks.map kIs).zip vs) ys → (∀ k ∈ ks,Qyv k = true) → IsL D ys (ks.map Q2d)
 | [],_,_,_,r,_=>by
  rw [List.map_nil,List.zip_nil_left] at r
  cases r
  exact .nil
 | k :: ks,[],_,h,_,_=>by cases h
 | k :: ks,v :: vs,_,h,r,z=>by
  rw [List.map_cons,List.zip_cons_cons] at r
  cases r with
  | cons a t =>
   obtain ⟨b,rfl,e⟩:=a
   exact .cons (Q21 e (z k (.head _))) (Qrl (by simpa using h) t fun k hk=>z k (.tail _ hk))
theorem Q22 {H:Hp} {G:Addr → Prop} (hp:Pen H G) {b:Addr} {us:List V} (e:H b = some (.tup us)):dls H G b = some (.tup us):=by
 rw [Qb7 fun z=>?_]
 ·exact e
 ·obtain ⟨o,eo,po⟩:=hp b z
  rw [e] at eo
  cases eo
  cases po
theorem KeysAt.dls {H:Hp} {G:Addr → Prop} (hp:Pen H G) {kvs:List (List (List Int) × V)} {ys:List V} (r:KeysAt H kvs ys):KeysAt (dls H G) kvs ys :=
 Paired.mapP r fun _ _ ⟨b,e,k⟩=>⟨b,e,k.keeps fun _ _ x=>Q22 hp x⟩
theorem Q23:Ob Qtm .lstD:=by
 intro B H G σ ρ vs ts w Q F r e q
 match ts,e,r with
 | [.dtt ks us],e,r =>
  have e:(if ks.length ≤ 100000 ∧ ks.all Qyv = true then some (PV.ow (.lst (ks.map Q2d))) else none) = some w:=e
  by_cases z:ks.length ≤ 100000 ∧ ks.all Qyv = true
  ·rw [if_pos z] at e
   cases e
   obtain ⟨v,rfl,h⟩:=r.one
   obtain ⟨l,ws,rfl,el,hl,il⟩:=h.dtt
   refine ⟨l,_,rfl,el,fun l2 ys hl2 ky=>?_⟩
   obtain ⟨F2,r2⟩:=Qjb F hl2 (Same.upd hl2) Qo (Qrl hl (ky.dls F.prv) fun k hk=>List.all_eq_true.mp z.2 k hk) (by rw [List.length_map]; exact z.1)
   exact q _ _ _ F2 r2
  ·rw [if_neg z] at e; cases e
end
section
variable {prog:Program} {w:World} {A:Around} {E:Value → Shared → Prop} {h:Heap} {g:Array GenState} {d:Drawn} {t:Nat} {os:OsState} {a:Addr} {its:Array Value} {n:Nat}
end
section
variable {prog:Program} {w:World} {A:Around} {E:Value → Shared → Prop} {s:Shared} {l:Addr} {xs:Array (Int × Tok)}
end
section
variable {X:Cx}
end
section
variable {prog:Program} {w:World} {A:Around} {E:Value → Shared → Prop} {s:Shared} {l:Addr} {xs:Array (Int × Tok)}
end
section
variable {X:Cx}
end
end L2
namespace L2
open PySem PySem.Spec PyProof.Rows PySem.W PySem.Calls
section
variable {prog:Program} {w:World} {A:Around} {E:Value → Shared → Prop} {s:Shared}
end
inductive TupsI (h:Heap):List Value → List (List Int) → Prop
 | nil:TupsI h [] []
 | cons {a:Addr} {its:List Value} {k:List Int} {vs:List Value} {ks:List (List Int)} (ht:h.IsTuple a its.toArray) (hi:IntsAre its k) (t:TupsI h vs ks):TupsI h (.ref a :: vs) (k :: ks)
section
variable {prog:Program} {w:World} {A:Around} {E:Value → Shared → Prop} {s:Shared}
end
section
variable {prog:Program} {w:World} {A:Around} {E:Value → Shared → Prop} {s:Shared}
end
inductive TupsV (K:PySem.W.Frag) (H:Hp):List V → List (List Int) → Prop
 | nil:TupsV K H [] []
 | cons {b:Addr} {k:List Int} {ys:List V} {ks:List (List Int)} (hq:SqT K H b (k.map V.int)) (t:TupsV K H ys ks):TupsV K H (.ref b :: ys) (k :: ks)
section
variable {X:Cx}
end
end L2
namespace L2
open PySem PySem.Spec PyProof.Rows PySem.W PySem.Calls
inductive PairI (h:Heap):List Value → List (List Int) → Prop
 | nil:PairI h [] []
 | cons {a b:Addr} {i:Int} {tk:Tok} {its:List Value} {k:List Int} {vs:List Value} {ks:List (List Int)} (ha:h.IsTuple a #[.int i tk,.ref b]) (hb:h.IsTuple b its.toArray) (hi:IntsAre its k) (t:PairI h vs ks):PairI h (.ref a :: vs) ((i :: k) :: ks)
section
variable {prog:Program} {w:World} {A:Around} {E:Value → Shared → Prop} {s:Shared}
end
inductive PairV (K:PySem.W.Frag) (H:Hp):List V → List (List Int) → Prop
 | nil:PairV K H [] []
 | cons {a b:Addr} {i:Int} {k:List Int} {ys:List V} {ks:List (List Int)} (ha:SqT K H a [.int i,.ref b]) (hb:SqT K H b (k.map V.int)) (t:PairV K H ys ks):PairV K H (.ref a :: ys) ((i :: k) :: ks)
section
variable {X:Cx}
end
end L2
namespace L2
open PySem PySem.Spec PyProof.Rows PySem.W PySem.Calls
section
variable {prog:Program} {w:World} {A:Around} {E:Value → Shared → Prop} {s:Shared}
end
section
variable {X:Cx}
end
end L2
namespace L2
open PySem PySem.Spec PyProof.Rows PySem.W PySem.Calls
section
variable {prog:Program} {w:World} {A:Around} {E:Value → Shared → Prop} {s:Shared}
noncomputable def elt (vs:List Value) (ks:List (List Int)) (j:Nat):Int × Value:=(Q40 (Qab0 ks j),vs.getD j Value.none)
structure MOk (ks:List (List Int)) (led:Bool) (r:SetTable × Array Nat):Prop where
 fits:r.1.fits r.2.size = true
 plain:r.1.plain = true
 gave:r.1.gaveWay = false
 led:r.1.led = led
 size:r.2.size ≤ 1000
 lt:∀ x ∈ r.2,x < ks.length
end
section
variable {prog:Program} {w:World} {A:Around} {R:Result → Shared → Prop} {I:Addr} {fp wr:List Addr} {G:Array GenState → Array GenState → Prop} {n:Nat} {P:Nat → Value → Prop} {St:Nat → Shared → Prop}
end
section
variable {prog:Program} {w:World} {A:Around} {E:Value → Shared → Prop} {s:Shared}
end
end L2
namespace L2
open PySem PySem.Spec PyProof.Rows PySem.W PySem.Calls
section
variable {prog:Program} {w:World} {A:Around} {E:Value → Shared → Prop} {s:Shared}
end
section
variable {X:Cx}
end
section
variable {H H1:Hp} {b:Addr} {o:HO}
end
section
variable {X:Cx}
end
section
variable {X:Cx} {p:Pr} {e a b:Expr} {e' a' k':E} {st:Stmt} {pos p1 apos:Pos} {x:Str} {K:PySem.W.Frag}
end
section
variable {B:Bs} {H H1:Hp} {G G1:Addr → Prop} {σ σ1:St} {ρ ρ1:En} {b:Addr} {o:HO}
noncomputable def RowR (H:Hp) (G:Addr → Prop) (r:Addr) (is:List Int):Prop:=¬ G r ∧ H r = some (.lst (is.map V.int)) ∧ is.length ≤ 1000
noncomputable def TabR (H:Hp) (G:Addr → Prop) (q:Addr × List Addr) (M:List (List Int)):Prop:=¬ G q.1 ∧ H q.1 = some (.lst (q.2.map V.ref)) ∧ Paired (RowR H G) q.2 M ∧ M.length ≤ 1000
noncomputable abbrev Q24 (ps:List (Addr × List Addr)):List Addr:=ps.map (·.1) ++ ps.flatMap (·.2)
structure Tree (H:Hp) (G:Addr → Prop) (lf:Addr) (ps:List (Addr × List Addr)) (Ms:List (List (List Int))):Prop where
 own:G lf
 top:H lf = some (.lst (ps.map fun q=>V.ref q.1))
 tabs:Paired (TabR H G) ps Ms
 nd:(Q24 ps).Nodup
structure Lv (B:Bs) (iF iR:Nat) (H:Hp) (G:Addr → Prop) (σ:St) (ρ:En) (lf lr:Addr) (ps:List (Addr × List Addr)) (Ms:List (List (List Int))) (rs:List Addr) (R:List (List Int)):Prop where
 F:FI B H G σ ρ
 sF:Qb ρ iF = .ow (.lst (Ms.map Q42))
 eF:σ[iF]? = some (some (.ref lf))
 sR:Qb ρ iR = .ow (.lst (R.map Q41))
 eR:σ[iR]? = some (some (.ref lr))
 tr:Tree H G lf ps Ms
 hr:H lr = some (.lst (rs.map V.ref))
 rows:Paired (RowR H G) rs R
 nd:(rs ++ Q24 ps).Nodup
 fr:∀ b ∈ rs ++ Q24 ps,B.H b = none
structure Lf (B:Bs) (iF:Nat) (H:Hp) (G:Addr → Prop) (σ:St) (ρ:En) (lf:Addr) (ps:List (Addr × List Addr)) (Ms:List (List (List Int))):Prop where
 F:FI B H G σ ρ
 sF:Qb ρ iF = .ow (.lst (Ms.map Q42))
 eF:σ[iF]? = some (some (.ref lf))
 tr:Tree H G lf ps Ms
 fr:∀ b ∈ Q24 ps,B.H b = none
variable {iF iR iH:Nat} {lf lr:Addr} {ps:List (Addr × List Addr)} {Ms:List (List (List Int))} {rs:List Addr} {R:List (List Int)} {is:List Int}
end
structure Rw (B:Bs) (H:Hp) (G:Addr → Prop) (σ:St) (ρ:En) (l:Addr) (rs:List Addr) (M:List (List Int)):Prop where
 F:FI B H G σ ρ
 g:∀ b ∈ l :: rs,G b
 nd:(l :: rs).Nodup
 np:∀ b ∈ l :: rs,∀ k,¬ PrvAt σ ρ k b
 fr:∀ b ∈ l :: rs,B.H b = none
 el:H l = some (.lst (rs.map V.ref))
 row:Paired (fun r (is:List Int)=>H r = some (.lst (is.map V.int))) rs M
section
variable {B:Bs} {H H1 H2 H3:Hp} {G G1:Addr → Prop} {σ:St} {ρ ρ1:En} {l r:Addr} {rs:List Addr} {M:List (List Int)} {is is':List Int} {i y:Nat}
end
section
variable {B:Bs} {H:Hp} {G:Addr → Prop} {σ:St} {ρ:En} {K:PySem.W.Frag} {p:Pr} {D:Ends} {a v:E} {i j k:Nat}
end
section
variable {B:Bs} {H:Hp} {G:Addr → Prop} {σ:St} {ρ:En} {l:Addr} {rs:List Addr} {M M':List (List Int)} {K:PySem.W.Frag} {p:Pr} {i j k w s:Nat} {v:ME} {x:Int} {Q:VK} {D:Ends}
end
section
variable {X:Cx} {p:Pr} {body suite:List Stmt} {b0:Stmt} {n:Str} {np hpos pos:Pos} {i:Nat} {b:S} {h:Nat → List Int → Option T}
end
section
variable {X:Cx} {p:Pr} {e:Expr} {es:List Expr} {es':Es} {x nm:Str} {np cpos pos:Pos} {c k:Nat} {D:Ends} {σ:St} {H:Hp}
end
section
variable {X:Cx} {p:Pr} {body suite:List Stmt} {b0:Stmt} {n:Str} {np hpos pos:Pos} {i:Nat} {b:S} {h:Nat → List Int → Option T}
end
section
variable {X:Cx} {p:Pr} {body suite:List Stmt} {b0:Stmt} {n:Str} {np hpos pos:Pos} {i j:Nat} {b:S} {h:Nat → List Int → Option T}
end
section
variable {X:Cx} {p:Pr} {a b c:Expr} {a' b' c':E} {pos:Pos}
end
section
variable {prog:Program} {w:World} {A:Around} {E:Value → Shared → Prop} {s:Shared}
end
section
variable {X:Cx} {a b:Expr} {rest:List Expr} {ta tb:TE} {pos:Pos}
end
section
variable {cf:CF} {ρ:En}
end
theorem Qwv {pos:Pos} {a b:Int} {c cv:Value} (l:List Value) (h:TriplesOk l) (e:codeAmong pos (l ++ [rawInt a,rawInt b,c]) = some cv):codeAmong pos l = some cv ∨ cv = c:=by
 fun_induction TriplesOk l with
 | case1 =>
  simp only [List.nil_append,codeAmong,rawInt] at e
  split at e
  ·exact .inr (Option.some.inj e).symm
  ·cases e
 | case2 a' t b' u x rest ih =>
  simp only [List.cons_append,codeAmong] at e ⊢
  split at e
  ·rename_i hc; rw [if_pos hc]; exact .inl e
  ·rename_i hc; rw [if_neg hc]; exact ih h e
 | case3 l h1 h2=>exact h.elim
section
variable {X:Cx} {pins:List (Addr × Obj)} {σ:St} {H:Hp} {s:Shared}
theorem Inv.trackC (I:Inv X pins σ H s) {x:Str} {c:Addr} {u:Value} (hc:X.env.cells.lookup x = some c) (hf:X.fn x = false) (hab:X.s₀.heap.objs.size ≤ c) (z:s.heap.IsCell c (some u)) :
  ∃ H1,Same H H1 ∧ Inv X pins σ H1 s ∧ ∃ oc w,H1 c = some (.frz oc w) ∧ oc.data = .cell (some u):=by
 obtain ⟨oc,ho,hd⟩:=z
 rcases I.freeC x c hc with n | ⟨_,o,w,e⟩
 ·have sm:Same H (upd H c (.frz oc (.own c))):=Same.upd n
  refine ⟨upd H c (.frz oc (.own c)),sm,⟨I.ok,I.os,I.bare,⟨I.base.keep,I.base.slot,fun b o e n' hx=>?_,I.base.there,fun b xs e=>sm _ _ (I.base.tups b xs e),fun b o u e=>sm _ _ (I.base.frzs b o u e),fun b q e=>sm _ _ (I.base.tbls b q e)⟩,I.loc,I.cell,?_,fun y d e=>?_,fun p hp=>?_,fun b u e=>?_,I.len⟩,oc,_,Qo,hd⟩
  ·rw [Q3 (Nat.ne_of_lt (Nat.lt_of_lt_of_le (Heap.lt_size e) hab))]
   exact I.base.free b o e n' hx
  ·rw [Q3 (Ne.symm (I.cne x c hc))]; exact I.free
  ·by_cases h:d = c
   ·subst h
    have:y = x:=I.ok.inj y x d e hc
    subst this
    exact .inr ⟨hf,oc,_,Qo⟩
   ·rw [Q3 h]; exact I.freeC y d e
  ·obtain ⟨e,n',r⟩:=I.pin p hp
   refine ⟨e,?_,r⟩
   rw [Q3]
   ·exact n'
   ·intro z
    rw [z,ho] at e
    cases e
    exact r.2.2 _ hd
  ·by_cases h:b = c
   ·subst h
    rw [Qo] at e
    cases e
    exact ⟨ho,oc,ho⟩
   ·rw [Q3 h] at e
    exact (I.hok b u e).stay (fun _ _ _ q=>q) (fun _ q=>sm _ _ q) (fun _ _ q=>sm _ _ q) fun _ _ q=>sm _ _ q
 ·have e1:=(I.hok c _ e).1
  rw [ho] at e1
  cases e1
  exact ⟨H,Same.refl _,I,oc,w,e,hd⟩
noncomputable def Ql3 (X:Cx):List Str → List Addr → List Nat → Prop
 | [],[],[]=>True
 | x :: xs,c :: cs,j :: js=>(X.N[j]? = some x ∧ X.env.scope.names.lookup x = some .cell ∧ X.env.cells.lookup x = some c ∧ X.fn x = false ∧ X.s₀.heap.objs.size ≤ c) ∧ Ql3 X xs cs js
 | _,_,_=>False
noncomputable def Qk5 (σ:St):List Nat → List V → Prop
 | [],us=>us = []
 | j :: js,us=>∃ v r,us = v :: r ∧ σ[j]? = some (some v) ∧ Qk5 σ js r
theorem Inv.trackAll:∀ {xs:List Str} {cs:List Addr} {js:List Nat} {us:List V} {H:Hp},Inv X pins σ H s → Ql3 X xs cs js → Qk5 σ js us → ∃ H1,Same H H1 ∧ Inv X pins σ H1 s ∧ CellsAt H1 cs us
 | [],[],[],us,H,I,_,h=>⟨H,Same.refl _,I,h⟩
 | x :: xs,c :: cs,j :: js,us,H,I,k,h=>by
  obtain ⟨v,r,rfl,hv,h⟩:=h
  obtain ⟨⟨k1,k2,k3,k4,k5⟩,k⟩:=k
  obtain ⟨m,hn,hl⟩:=I.loc
  obtain ⟨u,rv,lk⟩:=hl j x v k1 hv (.inr (.inl k2))
  have ic:s.heap.IsCell c (some u):=by
   rcases lk with ⟨z,_⟩ | ⟨_,c2,e2,z⟩
   ·have z:X.env.scope.names.lookup x = some .local:=z
    rw [k2] at z
    cases z
   ·rw [k3] at e2
    cases e2
    exact z
  obtain ⟨H1,s1,I1,oc,w,e1,d1⟩:=I.trackC k3 k4 k5 ic
  obtain ⟨H2,s2,I2,q⟩:=Inv.trackAll I1 k h
  exact ⟨H2,s1.trans s2,I2,v,r,oc,u,w,rfl,s2 _ _ e1,d1,rv,q⟩
 | [],[],_ :: _,_,_,_,k,_=>k.elim
 | [],_ :: _,_,_,_,_,k,_=>k.elim
 | _ :: _,[],_,_,_,_,k,_=>k.elim
 | _ :: _,_ :: _,[],_,_,_,k,_=>k.elim
noncomputable def tLam (l:LamT) (js:List Nat):TE:=fun σ H Q=>∃ us,Qk5 σ js us ∧ ∀ f H1,Same H H1 → CloAt H1 f l us → Q (.ref f) H1
theorem Q80 {l:LamT} {js:List Nat} {c tb:Addr} {pos:Pos} {cs:List Addr} (hcode:X.env.code = .ref c) (hC:X.K.In X.base → PySem.W.CodeHd X.base c tb) (hT:Qsy X.K tb l.qual) (hq:X.env.qual ++ "<lambda>" = l.qual)
  (hdef:defaultsOf l.params X.env = ([],[])) (hcl:closureFor l.scope X.env = pure (l.caps.zip cs)) (hcp:Ql3 X l.caps cs js) (nd:cs.Nodup) (hlen:cs.length = l.caps.length) :
  PE X (.Lambda l.params l.body l.scope pos) (tLam l js):=by
 intro pins s σ H Q I h
 obtain ⟨us,hus,h⟩:=h
 refine PySem.W.kla_eval hdef ?_
 rw [hq]
 have ht:=I.tab tb l.qual hT
 obtain ⟨ps,hP,htr,hal⟩:=(show ObjOk X.prog X.w H s.heap tb (.tbl l.qual) from I.hok tb _ ht)
 have hg:s.heap.Ns mainGlobals X.mg:=I.mod.glob.keeps I.bk
 have hC':=(hC I.mod.kin).keeps I.bk
 obtain ⟨bm,ob,b1,b2,b3,b4,b5,b6⟩:=I.mod.bm
 have hbt:bm ≠ tb:=fun z=>by
  have q:=(I.bs bm ob b3).2
  rw [z,ht] at q
  cases q
 have hbG:bm ≠ mainGlobals:=fun z=>by
  obtain ⟨o,es,ep,e,hd,_⟩:=hg
  have e':=(I.bs bm ob b3).1
  rw [z,e] at e'
  cases e'
  rw [hd] at b6
  cases b6
 have hgP:mainGlobals ≠ tb:=fun z=>by
  obtain ⟨o,es,ep,e,hd,_⟩:=hg
  rw [z,hP] at e
  cases e
  cases hd
 have hB:s.heap.BuiltinsAt X.mg tb:=⟨bm,ob,b1,b2,hbG,hbt,(I.bs bm ob b3).1,b4,b5,b6⟩
 have fin:∀ (H1:Hp) (s1:Shared) (f c':Addr) (pm ctv:Value),Same H H1 → Inv X pins σ H1 s1 → H1 f = some (.frz (PySem.W.kla_obj "<lambda>" l.qual l.params l.body l.scope (l.caps.zip cs) pm c' ctv) (.own f)) → H1 c' = some (.cod l.qual) → EP X pins σ Q (.ref f) s1 :=
  fun H1 s1 f c' pm ctv sm I1 e1 e2=>by
   obtain ⟨H2,s2,I2,q⟩:=I1.trackAll hcp hus
   exact ⟨.ref f,H2,I2,rfl,h f H2 (sm.trans s2) ⟨cs,c',pm,ctv,nd,hlen,s2 _ _ e1,s2 _ _ e2,q⟩⟩
 cases e:codeAmong pos ps.toList with
 | some cv =>
  obtain ⟨c',rfl,hc'⟩:=hal pos cv e
  refine PySem.W.kla_makeFunctionHit (mg:=X.mg) hcl I.ok.glob hg hcode hC' hP htr e hB fun ctv h' tk hk hsz=>?_
  have n1:H h'.objs.size = none:=I.hok.fresh hsz
  exact fin (upd H h'.objs.size (.frz _ (.own _))) _ _ c' _ ctv (Same.upd n1) (I.laid (t':=tk) (fun b u q=>Heap.get?_push_of_some _ (hk b u q)) hsz ⟨Heap.get?_push_size _ rfl,_,Heap.get?_push_size _ rfl⟩) Qo (Same.upd n1 _ _ hc')
 | none =>
  refine PySem.W.kla_makeFunction (mg:=X.mg) hcl I.ok.glob hg hcode hC' hP htr e hgP hB fun c' ctv h' tk hx hge hlt hrec htb=>?_
  have hcn:H c' = none:=I.hok.fresh hge
  have sm:Same H (upd H c' (.cod l.qual)):=Same.upd hcn
  have hne:∀ b,H b = none → b ≠ tb:=fun b n z=>by rw [z,ht] at n; cases n
  have I0:Inv X pins σ (upd H c' (.cod l.qual)) { s with heap:=h',toks:=tk }:=by
   refine I.un (t':=tk) ⟨fun b o q n _ _=>hx b o (hne b n) q,fun b o q n _ _=>⟨o.slots,hx b o (hne b n) q⟩,fun b o q n _=>?_,fun b o q _=>?_,fun b xs q=>sm _ _ q,fun b o u q=>sm _ _ q,fun b z q=>sm _ _ q⟩ fun b u q=>?_
   ·rw [Q3 (Nat.ne_of_lt (Nat.lt_of_lt_of_le (Heap.lt_size q) hge))]; exact n
   ·by_cases hb:b = tb
    ·subst hb; exact ⟨_,htb⟩
    ·exact ⟨o,hx b o hb q⟩
   ·by_cases hb:b = c'
    ·subst hb
     rw [Qo] at q
     cases q
     exact hrec
    ·rw [Q3 hb] at q
     by_cases hbt:b = tb
     ·subst hbt
      rw [ht] at q
      cases q
      refine ⟨_,htb,by rw [Array.toList_append]; exact TriplesOk_snoc _ _ _ _ htr,fun p cv hcv=>?_⟩
      rw [Array.toList_append] at hcv
      rcases Qwv _ htr hcv with z | z
      ·obtain ⟨d,rfl,hd⟩:=hal p cv z
       exact ⟨d,rfl,sm _ _ hd⟩
      ·exact ⟨c',z,Qo⟩
     ·refine (I.hok b u q).stay (fun d v hd r=>hx d v ?_ r) (fun _ r=>sm _ _ r) (fun _ _ r=>sm _ _ r) fun _ _ r=>sm _ _ r
      rcases hd with z | z
      ·rw [z]; exact hbt
      ·intro z2; rw [z2,ht] at z; cases z
  have n1:(upd H c' (.cod l.qual)) h'.objs.size = none:=I0.hok.fresh (Nat.le_refl _)
  exact fin (upd (upd H c' (.cod l.qual)) h'.objs.size (.frz _ (.own _))) _ _ c' _ ctv (sm.trans (Same.upd n1)) (I0.laid (t':=tk) (fun b u q=>Heap.get?_push_of_some _ q) (Nat.le_refl _) ⟨Heap.get?_push_size _ rfl,_,Heap.get?_push_size _ rfl⟩) Qo (Same.upd n1 _ _ Qo)
end
theorem CellsAt.dls {H:Hp} {G:Addr → Prop} (hp:Pen H G):∀ {cs:List Addr} {vs:List V},CellsAt H cs vs → CellsAt (dls H G) cs vs
 | [],_,r=>r
 | c :: cs,_,r=>by
  obtain ⟨v,w,oc,u,w',e,a,b,d,q⟩:=r
  refine ⟨v,w,oc,u,w',e,?_,b,d,CellsAt.dls hp q⟩
  rw [Qb7]
  ·exact a
  ·intro z
   obtain ⟨o,e1,e2⟩:=hp c z
   rw [a] at e1
   cases e1
   cases e2
theorem CloAt.dls {H:Hp} {G:Addr → Prop} {f:Addr} {l:LamT} {us:List V} (hp:Pen H G) (r:CloAt H f l us):CloAt (dls H G) f l us:=by
 obtain ⟨cs,c',pm,ctv,a,b,c,d,e⟩:=r
 refine ⟨cs,c',pm,ctv,a,b,?_,?_,e.dls hp⟩
 ·rw [Qb7]
  ·exact c
  ·intro z
   obtain ⟨o,e1,e2⟩:=hp f z
   rw [c] at e1
   cases e1
   cases e2
 ·rw [Qb7]
  ·exact d
  ·intro z
   obtain ⟨o,e1,e2⟩:=hp c' z
   rw [d] at e1
   cases e1
   cases e2
theorem CloAt.undls {H:Hp} {G:Addr → Prop} {f:Addr} {l:LamT} {us:List V} (r:CloAt (L2.dls H G) f l us):CloAt H f l us:=r.mono fun b o e=>(Qs e).2
theorem Qrm {B:Bs} {H:Hp} {G:Addr → Prop} {σ:St} {ρ:En} (F:FI B H G σ ρ):∀ {js:List Nat} {ts:List T},Qoz js ρ = some ts → ∃ us,Qk5 σ js us ∧ IsL (dls H G) us ts
 | [],ts,e=>by cases e; exact ⟨[],rfl,.nil⟩
 | j :: js,ts,e=>by
  unfold Qoz at e
  cases hs:Qb ρ j with
  | fz t =>
   cases e2:Qoz js ρ with
   | none=>rw [hs,e2] at e; cases e
   | some us =>
    rw [hs,e2] at e
    cases e
    obtain ⟨vs,a,b⟩:=Qrm F e2
    have q:=F.slot j
    rw [hs] at q
    obtain ⟨v,q1,q2⟩:=q
    exact ⟨v :: vs,⟨v,vs,rfl,q1,a⟩,.cons q2 b⟩
  | _=>rw [hs] at e; cases e
section
variable {X:Cx} {p:Pr}
theorem Qact {k:Nat} {l:LamT} {js:List Nat} {c tb:Addr} {pos:Pos} {cs:List Addr} (hl:Qc0.lookup k = some l) (hcode:X.env.code = .ref c) (hC:X.K.In X.base → PySem.W.CodeHd X.base c tb) (hT:Qsy X.K tb l.qual) (hq:X.env.qual ++ "<lambda>" = l.qual)
  (hdef:defaultsOf l.params X.env = ([],[])) (hcl:closureFor l.scope X.env = pure (l.caps.zip cs)) (hcp:Ql3 X l.caps cs js) (nd:cs.Nodup) (hlen:cs.length = l.caps.length) :
  QE X (.Lambda l.params l.body l.scope pos) (tE p (.lam k js)):=(⟨Q80 hcode hC hT hq hdef hcl hcp nd hlen⟩:QE X _ (tLam l js)).weak fun σ H Q zz1=>by
 obtain ⟨G,ρ,F,h⟩:=zz1
 unfold evE at h
 cases e:Qoz js ρ with
 | none=>rw [e] at h; exact h.elim
 | some ts =>
  rw [e] at h
  obtain ⟨us,h1,h2⟩:=Qrm F e
  refine ⟨us,h1,fun f H1 sm q=>h (.ref f) H1 G (F.grow sm) ?_⟩
  show Is (dls H1 G) (.ref f) (.clo k ts)
  unfold Is
  exact ⟨f,us,l,rfl,hl,q.dls (F.prv.mono sm),h2.mono (Qaq sm)⟩
end
noncomputable def Ql4 (P:Program) (w:World) (K:PySem.W.Frag) (mg:Str → Option Value) (base:Heap) (cf:CF) (n:Nat):Prop :=
 ∀ (k:Nat) (l:LamT),Qc0.lookup k = some l → ∀ (A:Around) (outer:List Env) (s:Shared) (H:Hp) (f:Addr) (us vs:List V) (ws:List Value) (Q:VK),Room n A → Env0 P w K mg base A outer s H → CloAt H f l us → Vals vs ws →
  spF cf mg k (vs ++ us) H Q (fun _ _ _=>False) → codeAny (model P w) A (.call (.ref f) ⟨ws,[]⟩) (CR CX0 outer P w H s Q fun _ _ _=>False) s
theorem CloAt.fnAt {P:Program} {w:World} {H:Hp} {h:Heap} {f:Addr} {l:LamT} {us:List V} (r:CloAt H f l us) (ok:HOk P w H h):PySem.W.FnAt f h:=by
 obtain ⟨cs,c',pm,ctv,a,b,c,d,e⟩:=r
 exact ⟨_,_,_,_,(ok f _ c).1⟩
theorem PVRs.app {H0 H:Hp} {G:Addr → Prop} {σ:St} {ρ:En}:∀ {vs:List V} {rs:List PV} {us:List V} {ts:List T},PVRs H0 H G σ ρ vs rs → IsL (dls H G) us ts → PVRs H0 H G σ ρ (vs ++ us) (rs ++ ts.map PV.fz)
 | _,_,us,[],.nil,q=>by unfold IsL at q; subst q; exact .nil
 | _,_,us,t :: ts,.nil,q=>by
  unfold IsL at q
  obtain ⟨v,r,rfl,a,b⟩:=q
  exact .cons a (PVRs.app (vs:=[]) (rs:=[]) .nil b)
 | _,_,us,ts,.cons a b,q=>.cons a (PVRs.app b q)
section
variable {X:Cx} {p:Pr} {x:Str} {i n:Nat} {e:Expr} {es:List Expr} {es':Es} {p1 pos:Pos}
noncomputable def tApp (i:Nat) (mg:Str → Option Value) (cf:CF) (t:TA):TE:=fun σ H Q=>∃ f,σ[i]? = some (some (.ref f)) ∧ t σ H fun vs H1=>∃ k l us,Qc0.lookup k = some l ∧ CloAt H1 f l us ∧ spF cf mg k (vs ++ us) H1 Q fun _ _ _=>False
theorem Q81 {t:TA} {cf:CF} (hL:Ql4 X.prog X.w X.K X.mg X.base cf n) (hr:Room n X.A) (hN:X.N[i]? = some x) (hv:Vis X.env.scope x) (ha:PA X (e :: es) t) (hd:(x == ("__debug__" : Str)) = false) (hcd:(x == ("__classdict__" : Str)) = false)
  (he:starEach (e :: es) X.env = (false,eval e X.env) :: starEach es X.env) (hpl:(backTo pos (starEach es X.env)).any (·.1) = false):PE X (.Call (.Name x p1) (e :: es) [] pos) (tApp i X.mg cf t):=by
 intro pins s σ H Q I h
 obtain ⟨f,hf,h⟩:=h
 refine wpAny_Call_Name_kw (thn (Qxd hN hv hd hcd pins s σ H (fun v H1=>v = .ref f ∧ H1 = H) I ⟨_,hf,rfl,rfl⟩) fun u s1 ⟨v,H1,I1,rv,e1,e2⟩=>?_)
 subst e1
 subst e2
 obtain rfl:u = Value.ref f:=rv
 have key:=thn (ha pos pins s1 σ H1 _ I1 h) (Q':=fun us s2=>PySem.W.FnAt f s2.heap ∧ wpAny (model X.prog X.w) X.A (call (.ref f) ([] ++ us)) (EP X pins σ Q) X.xe s2) fun us s2 ⟨vs,H2,I2,r,k,l,cs,hl,hc,q⟩=>⟨hc.fnAt I2.hok,?_⟩
 ·show wpAny _ _ (callWith pos (.ref f) [] (backTo pos (starEach (e :: es) X.env)) []) _ _ _
  rw [he] at key ⊢
  exact PySem.W.callWith_of (by show ((false || (backTo pos (starEach es X.env)).any (·.1)) || false) = false; rw [hpl]; rfl) PySem.W.keeps_F (PySem.Calls.evalArgs_plain key)
 ·refine wpAny_call (codeAny_mono (hL k l hl X.A X.stack s2 H2 f cs vs us Q hr I2.env0 hc r q) fun rr s' hq'=>?_)
  cases rr with
  | error ev=>exact False.elim hq'
  | ok fl =>
   cases fl with
   | ret u=>exact I2.after hq'
   | next=>exact False.elim hq'
   | brk=>exact False.elim hq'
   | cont=>exact False.elim hq'
theorem Q82 {σ:St} {H:Hp} {Q:VK} (h:tE p (.app i es') σ H Q):∃ f,σ[i]? = some (some (.ref f)) ∧ tA p es' σ H fun vs H1=>∃ k l us,Qc0.lookup k = some l ∧ CloAt H1 f l us ∧ spF p.cf p.mg k (vs ++ us) H1 Q fun _ _ _=>False:=by
 obtain ⟨G,ρ,F,h⟩:=h
 unfold evE at h
 have hs:∃ k ts,Qb ρ i = .fz (.clo k ts):=by
  cases e:Qb ρ i with
  | fz t =>
   cases t with
   | clo k ts=>exact ⟨k,ts,rfl⟩
   | _=>rw [e] at h; exact False.elim h
  | _=>rw [e] at h; exact False.elim h
 obtain ⟨k0,ts0,e0⟩:=hs
 rw [if_pos (by rw [e0]; rfl)] at h
 have q0:=F.slot i
 rw [e0] at q0
 obtain ⟨v0,hv0,i0⟩:=q0
 unfold Is at i0
 obtain ⟨f,us0,l0,rfl,_,_,_⟩:=i0
 refine ⟨f,hv0,G,ρ,F,h.bind.imp fun rs ρ1 h1 vs H1 G1 F1 r1=>?_⟩
 unfold Qyx at h1
 cases e1:Qb ρ1 i with
 | fz t =>
  cases t with
  | clo k ts =>
   rw [e1] at h1
   have q1:=F1.slot i
   rw [e1] at q1
   obtain ⟨v1,hv1,i1⟩:=q1
   rw [hv0] at hv1
   cases hv1
   unfold Is at i1
   obtain ⟨f1,us,l,ef,hl,hc,il⟩:=i1
   cases ef
   refine ⟨k,l,us,hl,hc.undls,?_⟩
   replace h1:Fin p (Qap H G σ ρ) σ (Quv (Qg2 p.cf k (rs ++ ts.map PV.fz) ρ1)) _:=h1
   have r2:=r1.app il
   unfold Qg2 at h1
   by_cases hb:Q0 (rs ++ ts.map PV.fz) = true
   ·rw [if_pos hb] at h1
    cases ea:Q2 ρ1 (rs ++ ts.map PV.fz) with
    | none=>rw [ea] at h1; exact False.elim h1
    | some as =>
     rw [ea] at h1
     obtain ⟨G',F',A⟩:=Qu4 (B:=Qap H G σ ρ) F1 r2 ea hb
     have hv:∀ (k i:Nat) (v:V),(rs ++ ts.map PV.fz)[k]? = some (.sl i) → (vs ++ us)[k]? = some v → σ[i]? = some (some v):=fun k i v e1 e2=>r2.get e2 e1
     refine ⟨G',as,A,F'.prv,?_⟩
     cases ec:p.cf k as with
     | no=>simp only [ec] at h1; exact False.elim h1
     | xn z fin=>simp only [ec] at h1; exact False.elim h1
     | ok r fin =>
      simp only [ec] at h1
      refine fun v H' G2 C rr=>h1 v H' G2 (F'.called A hv r2.len ea hb C) ?_
      cases r with
      | sl i=>exact False.elim rr
      | fz t=>exact rr
      | ow t =>
       obtain ⟨a,rfl,n,g,o⟩:=rr
       refine ⟨a,rfl,F'.free n,g,fun i hp=>?_,o⟩
       obtain ⟨w,e⟩:=Qjh hp.1.choose_spec
       obtain ⟨_,t,ob,ea,_⟩:=PrvAt.at F' ⟨⟨w,e⟩,hp.2⟩
       rw [n] at ea
       cases ea
   ·rw [if_neg hb] at h1
    exact False.elim h1
  | _=>rw [e1] at h1; exact False.elim h1
 | _=>rw [e1] at h1; exact False.elim h1
theorem Qacv (hL:Ql4 X.prog X.w X.K X.mg X.base p.cf n) (hm:p.mg = X.mg) (hr:Room n X.A) (hN:X.N[i]? = some x) (hv:Vis X.env.scope x) (ha:QA X (e :: es) (tA p es')) (hd:(x == ("__debug__" : Str)) = false) (hcd:(x == ("__classdict__" : Str)) = false)
  (h1:Qr e = true) (h2:es.all Qr = true):QE X (.Call (.Name x p1) (e :: es) [] pos) (tE p (.app i es')) :=
 (⟨Q81 hL hr hN hv ha.h hd hcd (Qa5 h1) (Qg3 h2)⟩:QE X _ (tApp i X.mg p.cf (tA p es'))).weak fun σ H Q h=>by
  have q:=Q82 h
  rw [hm] at q
  exact q
end
structure LamSc (l:LamT):Prop where
 kind:l.scope.kind = .function
 co:l.scope.isCoroutine = false
 gen:l.scope.isGenerator = false
 nd:(l.ps ++ l.caps).Nodup
 par:∀ x ∈ l.ps,l.scope.names.lookup x = some .local
 cap:∀ x ∈ l.caps,l.scope.names.lookup x = some .free
 nocell:∀ y ∈ l.scope.names,y.2 ≠ .cell
 free:∀ y ∈ l.scope.names,y.2 = .free → y.1 ∈ l.caps
 bind:∀ (cl:List (Str × Addr)) (pm cdv ctv:Value) (us:List Value),us.length = l.ps.length → bindArgs (PySem.W.kla_fn "<lambda>" l.qual l.params l.body l.scope cl pm cdv ctv) ⟨us,[]⟩ = pure (l.ps.zip us)
noncomputable def Qvc (P:Program) (w:World) (K:PySem.W.Frag) (mg:Str → Option Value) (base:Heap) (N:List Str) (qual:Str) (scope:Scope) (f:Addr) (cd:Value) (cl:List (Str × Addr)) (A:Around) (outer:List Env) (s:Shared) (H:Hp):Cx where
 prog:=P
 w:=w
 K:=K
 mg:=mg
 base:=base
 A:=A.deeper (PySem.W.envX qual scope s.heap.objs.size f cd cl)
 N:=N
 s₀:=s
 H₀:=H
 env:=PySem.W.envX qual scope s.heap.objs.size f cd cl
 outer:=outer
 stack:=PySem.W.envX qual scope s.heap.objs.size f cd cl :: outer
 ex:=[]
 calm:=true
 fn:=fun _=>false
 pn:=[]
 xe:=fun _ _=>False
theorem Qo7 {α:Type} {x:Str} {v:α}:∀ {l:List (Str × α)},(l.map (·.1)).Nodup → (x,v) ∈ l → l.lookup x = some v
 | [],_,h=>by cases h
 | (y,w) :: l,nd,h=>by
  rw [List.map_cons,List.nodup_cons] at nd
  rw [List.lookup_cons]
  rcases List.mem_cons.mp h with z | z
  ·cases z; rw [beq_self_eq_true]
  ·have ne:x ≠ y:=fun e=>nd.1 (by subst e; exact List.mem_map_of_mem (f:=(·.1)) z)
   rw [beq_eq_false_iff_ne.mpr ne]
   exact Qo7 nd.2 z
theorem Ql5 {α:Type}:∀ {xs:List Str} {ys:List α},ys.length = xs.length → (xs.zip ys).map (·.1) = xs
 | [],_,_=>by simp
 | x :: xs,[],h=>by cases h
 | x :: xs,y :: ys,h=>by rw [List.zip_cons_cons,List.map_cons,Ql5 (by simpa using h)]
theorem CellsAt.at {H:Hp}:∀ {cs:List Addr} {us:List V},CellsAt H cs us → us.length = cs.length ∧ ∀ (i:Nat) (c:Addr),cs[i]? = some c → ∃ v oc u w,us[i]? = some v ∧ H c = some (.frz oc w) ∧ oc.data = .cell (some u) ∧ RelV v u
 | [],us,h=>by
  have h:us = []:=h
  subst h
  exact ⟨rfl,fun i c e=>by simp at e⟩
 | c :: cs,us,h=>by
  obtain ⟨v,r,oc,u,w,rfl,a,b,d,q⟩:=h
  obtain ⟨q1,q2⟩:=q.at
  refine ⟨by simp [q1],fun i d e=>?_⟩
  cases i with
  | zero=>simp at e; subst e; exact ⟨v,oc,u,w,rfl,a,b,‹_›⟩
  | succ i =>
   rw [List.getElem?_cons_succ] at e ⊢
   exact q2 i d e
section
variable {P:Program} {w:World} {K:PySem.W.Frag} {mg:Str → Option Value} {base:Heap}
theorem Q25 {l:LamT} {f:Addr} {cd:Value} {A:Around} {outer:List Env} {s:Shared} {H:Hp} {h1:Heap} {tk:Nat} {cs:List Addr} {us vs:List V} {ws:List Value} (S:LamSc l) (hd:A.handled = none) (e0:Env0 P w K mg base A outer s H)
  (nd:cs.Nodup) (hl:cs.length = l.caps.length) (hc:CellsAt H cs us) (hv:ws.length = l.ps.length) (r:Vals vs ws) (hns:h1.Ns s.heap.objs.size fun x=>(l.ps.zip ws).reverse.lookup x) (hk:∀ b o,s.heap.get? b = some o → h1.get? b = some o) :
  Inv (Qvc P w K mg base (l.ps ++ l.caps) l.qual l.scope f cd (l.caps.zip cs) A outer s H) [] (Qbd (l.ps ++ l.caps) (vs ++ us)) H { s with heap:=h1,toks:=tk }:=by
 obtain ⟨hu,hca⟩:=hc.at
 have noA:∀ b:Addr,b ∉ (Qvc P w K mg base (l.ps ++ l.caps) l.qual l.scope f cd (l.caps.zip cs) A outer s H).ex:=fun b z=>absurd (show b ∈ ([]:List Addr) from z) (by simp)
 have ndc:l.caps.Nodup:=(List.nodup_append.mp S.nd).2.1
 have ndp:l.ps.Nodup:=(List.nodup_append.mp S.nd).1
 have key:∀ x c,(l.caps.zip cs).lookup x = some c → ∃ i,l.caps[i]? = some x ∧ cs[i]? = some c:=fun x c e=>by
  obtain ⟨i,hi⟩:=List.getElem?_of_mem (PySem.mem_of_lookup e)
  rw [List.getElem?_zip_eq_some] at hi
  exact ⟨i,hi⟩
 have kc:∀ i x c,l.caps[i]? = some x → cs[i]? = some c → (l.caps.zip cs).lookup x = some c:=fun i x c h1 h2 =>
  Qo7 (by rw [Ql5 hl]; exact ndc) (List.mem_of_getElem? (i:=i) (by rw [List.getElem?_zip_eq_some]; exact ⟨h1,h2⟩))
 have vl:vs.length = l.ps.length:=by rw [r.length,hv]
 refine ⟨⟨e0.mod,S.kind,rfl,rfl,Nat.le_refl _,fun y z c h1 h2=>?_,fun y hy=>?_,fun y c z _=>absurd (show false = true from z) (by decide),fun _=>hd,Around.frames_deeper e0.frames,.inr ⟨rfl,rfl⟩,fun b z=>absurd z (noA b),e0.bs,e0.bsz,fun b _ _=>noA b,fun b z=>absurd z (noA b),e0.funs,e0.frf⟩,
  rfl,e0.bare,Un.kept hk,⟨_,hns,fun i y v h1 h2 h3=>?_⟩,fun y c h=>?_,e0.hok.fresh (Nat.le_refl _),fun y c h=>?_,fun p hp=>absurd (show p ∈ ([]:List (Addr × Obj)) from hp) (by simp),e0.hok.kept hk,?_⟩
 ·obtain ⟨i,i1,i2⟩:=key y c h1
  obtain ⟨j,j1,j2⟩:=key z c h2
  have:i = j:=by
   obtain ⟨p1,p2⟩:=List.getElem?_eq_some_iff.mp i2
   obtain ⟨r1,r2⟩:=List.getElem?_eq_some_iff.mp j2
   exact (List.getElem_inj nd).mp (p2.trans r2.symm)
  subst this
  rw [i1] at j1
  exact Option.some.inj j1
 ·have hy:l.scope.names.lookup y = some .cell ∨ l.scope.names.lookup y = some .free:=hy
  rcases hy with hy | hy
  ·exact absurd rfl (S.nocell _ (PySem.mem_of_lookup hy))
  ·obtain ⟨i,hi⟩:=List.getElem?_of_mem (S.free _ (PySem.mem_of_lookup hy) rfl)
   have:i < cs.length:=by rw [hl]; exact (List.getElem?_eq_some_iff.mp hi).1
   exact ⟨_,kc i y _ hi (List.getElem?_eq_getElem this)⟩
 ·have e:=Qj1 h2
  rcases Nat.lt_or_ge i l.ps.length with hi | hi
  ·rw [List.getElem?_append_left (by rw [vl]; exact hi)] at e
   obtain ⟨u,eu,rv⟩:=r.get e
   have h1:(l.ps ++ l.caps)[i]? = some y:=h1
   rw [List.getElem?_append_left hi] at h1
   refine ⟨u,rv,.inl ⟨S.par y (List.mem_of_getElem? h1),?_⟩⟩
   refine Qo7 ?_ (List.mem_reverse.mpr (List.mem_of_getElem? (i:=i) (by rw [List.getElem?_zip_eq_some]; exact ⟨h1,eu⟩)))
   rw [List.map_reverse,Ql5 hv]
   exact ((List.reverse_perm _).nodup_iff).mpr ndp
  ·rw [List.getElem?_append_right (by rw [vl]; exact hi),vl] at e
   have h1:(l.ps ++ l.caps)[i]? = some y:=h1
   rw [List.getElem?_append_right hi] at h1
   have hlt:i - l.ps.length < cs.length:=by rw [hl]; exact (List.getElem?_eq_some_iff.mp h1).1
   obtain ⟨v',oc,u,w',q1,q2,q3,q4⟩:=hca _ _ (List.getElem?_eq_getElem hlt)
   rw [e] at q1
   cases q1
   refine ⟨u,q4,.inr ⟨.inr (S.cap y (List.mem_of_getElem? h1)),_,kc _ y _ h1 (List.getElem?_eq_getElem hlt),oc,?_,q3⟩⟩
   exact hk _ _ (e0.hok _ _ q2).1
 ·obtain ⟨i,i1,i2⟩:=key y c h
  obtain ⟨v',oc,u,w',q1,q2,q3,q4⟩:=hca _ _ i2
  exact ⟨some u,oc,hk _ _ (e0.hok _ _ q2).1,q3⟩
 ·obtain ⟨i,i1,i2⟩:=key y c h
  obtain ⟨v',oc,u,w',q1,q2,q3,q4⟩:=hca _ _ i2
  exact .inr ⟨rfl,oc,w',q2⟩
 ·show (Qbd (l.ps ++ l.caps) (vs ++ us)).length = (l.ps ++ l.caps).length
  unfold Qbd
  rw [List.length_append,List.length_map,List.length_replicate,List.length_append,List.length_append]
  omega
noncomputable def Qo8 (P:Program) (w:World) (K:PySem.W.Frag) (mg:Str → Option Value) (base:Heap) (ds:List Df) (l:LamT) (e:E):Prop :=
 ∀ (cf:CF) (n:Nat) (R:XR) (f:Addr) (cdv:Value) (cl:List (Str × Addr)) (A:Around) (outer:List Env) (s:Shared) (H:Hp),Ql0 P w K mg base ds cf n → Ql4 P w K mg base cf n →
  Qkf (Qvc P w K mg base (l.ps ++ l.caps) l.qual l.scope f cdv cl A outer s H) R → Room n (A.deeper (PySem.W.envX l.qual l.scope s.heap.objs.size f cdv cl)) →
  QE (Qvc P w K mg base (l.ps ++ l.caps) l.qual l.scope f cdv cl A outer s H) l.body (tE ⟨cf,R,mg⟩ e)
noncomputable abbrev swX (X:Cx) (g:Str → Bool):Cx:={ X with fn:=g }
theorem Inv.sw {X:Cx} {pins:List (Addr × Obj)} {σ:St} {H:Hp} {s:Shared} {g:Str → Bool} (hle:∀ x,g x = true → X.fn x = true) (I:Inv X pins σ H s):Inv (swX X g) pins σ H s :=
 ⟨⟨I.ok.mod,I.ok.kind,I.ok.glob,I.ok.blt,I.ok.above,I.ok.inj,I.ok.has,fun x c h e=>I.ok.cab x c (hle x h) e,I.ok.hd,I.ok.frames,I.ok.stk,I.ok.exf,I.ok.bs,I.ok.bsz,I.ok.noex,I.ok.exfs,I.ok.funs,I.ok.frf⟩,
  I.os,I.bare,I.base,I.loc,I.cell,I.free,fun x c e=>(I.freeC x c e).imp (fun z=>z) fun ⟨hf,r⟩=>⟨(show g x = false from Bool.eq_false_iff.mpr fun hg=>Bool.false_ne_true (hf.symm.trans (hle x hg))),r⟩,I.pin,I.hok,I.len⟩
structure QB0 (X:Cx) (g:Str → Bool) (st:List Stmt) (t:TS):Prop where
 h:∀ (pins:List (Addr × Obj)) (s:Shared) (σ:St) (H:Hp) (D:Ends),Inv X pins σ H s → t D σ H → wpAny (model X.prog X.w) X.A (execs st X.env) (SP (swX X g) pins D) X.xe s
theorem q0 {X:Cx} {g:Str → Bool} {st:List Stmt} {t:TS} (hle:∀ x,g x = true → X.fn x = true) (h:QB (swX X g) st t):QB0 X g st t:=⟨fun pins s σ H D I q=>h.h pins s σ H D (I.sw hle) q⟩
theorem Q26 {X:Cx} {g:Str → Bool} {s0:Stmt} {st:List Stmt} {p:Pr} {s1 s2:S} (hle:∀ x,g x = true → X.fn x = true) (h1:QS X s0 (tS p s1)) (h2:QB0 X g st (tS p s2)):QB0 X g (s0 :: st) (tS p (.seq s1 s2)):=⟨fun pins s σ H D I h=>by
 refine wpAny_execs_cons (thn (h1.h pins s σ H { D with nx:=tS p s2 D } I (Qzc h)) fun f s1 q=>?_)
 cases f with
 | next =>
  obtain ⟨σ',H',I',q⟩:=q
  exact h2.h pins s1 σ' H' D I' q
 | ret v=>obtain ⟨w,σ',H',I',q⟩:=q; exact ⟨w,σ',H',I'.sw hle,q⟩
 | brk=>obtain ⟨σ',H',I',q⟩:=q; exact ⟨σ',H',I'.sw hle,q⟩
 | cont=>obtain ⟨σ',H',I',q⟩:=q; exact ⟨σ',H',I'.sw hle,q⟩⟩
theorem Q83 {g1 g2:Str → Bool} {CX:CXT} {P:Program} {w:World} {K:PySem.W.Frag} {mg:Str → Option Value} {base:Heap} {k:Nat} {f:Addr} {name qual:Str} {params:Arguments} {body:List Stmt} {scope:Scope} {dV kV doc pm cdv ct oc:Value} {an od:Option Addr}
  {osl:Array (Option Value)} {N ps:List Str} {sp:Sp} (lk:K.lookup f = some ⟨oc,od,.func (PySem.W.fnOf name qual params body scope dV kV doc pm an cdv ct),osl⟩) (hcd:PySem.W.codeIn K cdv qual = true) (S:FnScope N ps scope)
  (len:∀ vs H Q E,sp vs H Q E → vs.length = ps.length)
  (hbody:∀ (A:Around) (outer:List Env) (s:Shared) (H:Hp) (vs:List V) (Q:VK) (E:XK),Room k (A.deeper (envOfC qual scope s.heap.objs.size f cdv)) → sp vs H Q E →
   ∃ t,QB0 (Qh1 g1 CX P w K mg base N qual scope f cdv A outer s H E) g2 body t ∧ t { nx:=fun _ H'=>Q .non H',rt:=Q } (Qbd N vs) H) :
  FnOk P w K mg base CX (k + 1) f (PySem.W.fnOf name qual params body scope dV kV doc pm an cdv ct) ps sp:=by
 refine ⟨len,fun A outer s H args us vs Q E hr e0 hb r hsp=>?_⟩
 have hl:=len _ _ _ _ hsp
 have KX:K.In s.heap:=e0.mod.kin.keeps fun b o e=>(e0.bs b o e).1
 have lim:s.heap.NoLimit:=e0.mod.nolimit.keeps fun b o e=>(e0.bs b o e).1
 have hkind:∀ y ∈ ps.zip us,scope.names.lookup y.1 = some .local ∨ (scope.names.lookup y.1 = some .cell ∧ ((cellsFrom (s.heap.objs.size + 1) scope.names []).lookup y.1).isSome = true):=fun zz1 hy=>by
  obtain ⟨n,v⟩:=zz1
  rcases S.par n (List.of_mem_zip hy).1 with q | q
  ·exact .inl q
  ·exact .inr ⟨q,PySem.W.cellsFrom_some _ _ _ (.inl q)⟩
 refine codeAny_call_function hr.depth (KX _ _ lk) rfl S.co S.gen rfl (PySem.W.codeRec_of KX hcd) (hb _ _ _ _ ?_)
 refine wpAny_newFunctionEnv_cells S.kind hkind fun env he s1 x=>?_
 subst he
 refine ⟨lim.keeps x.toInCall.keep,codeAny_func ?_⟩
 obtain ⟨t,ht,hq⟩:=hbody A outer s H vs Q E (hr.deeper _) hsp
 have I:Inv (Qh1 g1 CX P w K mg base N qual scope f cdv A outer s H E) [] (Qbd N vs) H s1:=Qns S hr.hd e0 hl r x
 refine wpAny_mono (ht.h [] s1 (Qbd N vs) H _ I hq) (fun fl s' hs=>?_) fun e s' hs=>hs
 cases fl with
 | ret u =>
  obtain ⟨v,σ',H',J,rv,q⟩:=hs
  exact ⟨v,H',J.os,J.bare,J.base,J.hok,rv,q⟩
 | next =>
  obtain ⟨σ',H',J,q⟩:=hs
  exact ⟨.non,H',J.os,J.bare,J.base,J.hok,rfl,q⟩
 | brk =>
  obtain ⟨_,_,_,q⟩:=hs
  exact False.elim q
 | cont =>
  obtain ⟨_,_,_,q⟩:=hs
  exact False.elim q
noncomputable def Qx (P:Program) (w:World) (K:PySem.W.Frag) (mg:Str → Option Value) (base:Heap) (ds:List Df) (d:Df):Prop :=
 ∀ (cf:CF) (n:Nat) (R:XR) (f:Addr) (cdv:Value) (A:Around) (outer:List Env) (s:Shared) (H:Hp) (E:XK),Ql0 P w K mg base ds cf n → Ql4 P w K mg base cf n → CodeOf K mg d.x cdv → Qkf (Qh1 d.f1 (CXE P w) P w K mg base d.N d.x (Qf d.st) f cdv A outer s H E) R →
  Qkf (Qh1 d.fc (CXE P w) P w K mg base d.N d.x (Qf d.st) f cdv A outer s H E) R → Room n (A.deeper (envOfC d.x (Qf d.st) s.heap.objs.size f cdv)) →
  QB0 (Qh1 d.f1 (CXE P w) P w K mg base d.N d.x (Qf d.st) f cdv A outer s H E) d.fc (Qa1 d.st) (tS ⟨cf,R,mg⟩ d.fn.body)
noncomputable abbrev Qvd (l:LamT) (e:E):Fn:=⟨(l.ps ++ l.caps).length,(l.ps ++ l.caps).length,.ret e⟩
theorem Q84 {p:Pr} {e':E} {D:Ends} {σ:St} {H:Hp} (h:tS p (.ret e') D σ H):tE p e' σ H D.rt:=by
 obtain ⟨B,G,ρ,F,hO,h⟩:=h
 unfold exS at h
 exact Qgp F h fun r ρ2 v H2 G2 k F2 _ pv _=>k v σ H2 G2 F2 pv
theorem Q27 {ds:List Df} {cf cf1:CF} {n k:Nat} {l:LamT} {e:E} (S:LamSc l) (b:Qo8 P w K mg base ds l e) (hc:Ql0 P w K mg base ds cf n) (hL:Ql4 P w K mg base cf n) (hcf:∀ as,cf1 k as = Qa2 cf (Qvd l e) as)
  (A:Around) (outer:List Env) (s:Shared) (H:Hp) (f:Addr) (us vs:List V) (ws:List Value) (Q:VK) (hr:Room (n + 1) A) (e0:Env0 P w K mg base A outer s H) (ca:CloAt H f l us) (rv:Vals vs ws) (hs:spF cf1 mg k (vs ++ us) H Q fun _ _ _=>False) :
  codeAny (model P w) A (.call (.ref f) ⟨ws,[]⟩) (CR CX0 outer P w H s Q fun _ _ _=>False) s:=by
 obtain ⟨cs,c',pm,ctv,nd,hl,hf,hcd,hcells⟩:=ca
 obtain ⟨hu,_⟩:=hcells.at
 obtain ⟨G,as,a,pn,z⟩:=hs
 rw [hcf] at z
 have h2:as.length = (l.ps ++ l.caps).length:=by
  unfold Qa2 at z
  by_cases h2:as.length = (Qvd l e).ps
  ·exact h2
  ·rw [if_neg h2] at z; exact z.elim
 have hw:ws.length = l.ps.length:=by
  have q:=a.len
  rw [List.length_append,h2,List.length_append,hu,hl,rv.length] at q
  omega
 have ht:=Q84 (Qzg (N:=l.ps ++ l.caps) a pn (by rw [a.len,h2]; exact Nat.le_refl _) rfl z)
 have lim:s.heap.NoLimit:=e0.mod.nolimit.keeps fun b o e=>(e0.bs b o e).1
 refine PySem.W.kla_callFunE hr.depth (e0.hok f _ hf).1 rfl S.co S.gen rfl (e0.hok c' _ hcd) ?_
 rw [S.bind _ _ _ _ ws hw]
 refine wpAny_pure (wpAny_newFunctionEnv S.nocell (fun y hy=>S.par _ (List.of_mem_zip hy).1) (fun h1 hns hsb=>⟨lim.fresh _ hsb,?_⟩) S.kind)
 show codeAny _ _ (.expr l.body (PySem.W.envX l.qual l.scope s.heap.objs.size f (.ref c') (l.caps.zip cs))) _ _
 have hk:∀ b o,s.heap.get? b = some o → h1.get? b = some o:=fun b o e=>hsb.extBut b o (Nat.ne_of_lt (Heap.lt_size e)) (Heap.get?_push_of_some _ e)
 have I:=Q25 (f:=f) (cd:=.ref c') (tk:=s.toks + (l.ps.zip ws).length) S hr.hd e0 nd hl hcells hw rv hns hk
 refine PySem.W.kla_codeExpr (wpAny_mono ((b cf n (fun _ _ _ _=>False) f (.ref c') (l.caps.zip cs) A outer s H hc hL Q1 (hr.deeper _)).h [] _ _ H Q I ht) (fun u s' ⟨v,H',J,rvv,q⟩=>?_) fun _ _ z=>False.elim z)
 exact ⟨v,H',J.os,J.bare,J.base,J.hok,rvv,q⟩
noncomputable def Qjj (ds:List Df) (ls:List (Nat × Fn)):Nat → Option Fn:=fun f=>match ds[f]? with
 | some d=>some d.fn
 | none=>ls.lookup f
theorem Ql6 {ds:List Df} {ls:List (Nat × Fn)} (ok:∀ (f:Nat) (d:Df),ds[f]? = some d → DfOk K mg d ∧ Qx P w K mg base ds d)
  (okl:∀ (k:Nat) (l:LamT),Qc0.lookup k = some l → ds[k]? = none ∧ LamSc l ∧ ∃ e,ls.lookup k = some (Qvd l e) ∧ Qo8 P w K mg base ds l e) :
  ∀ n,Ql0 P w K mg base ds (evF (Qjj ds ls) n) n ∧ Ql4 P w K mg base (evF (Qjj ds ls) n) n
 | 0=>by
  have no:∀ {f:Nat} {vs:List V} {H:Hp} {Q:VK} {E:XK},spF (evF (Qjj ds ls) 0) mg f vs H Q E → False:=fun h=>by
   obtain ⟨G,as,_,_,z⟩:=h
   exact z
  refine ⟨fun f d e=>?_,fun k l hl A outer s H f us vs ws Q _ _ _ _ h=>(no h).elim⟩
  obtain ⟨g,fd,F,m⟩:=(ok f d e).1.dfn.ex
  exact ⟨g,fd,F.kp,m,F.binds (ok f d e).1.bd,⟨fun vs H Q E h=>(no h).elim,fun A outer s H args us vs Q E _ _ _ _ h=>(no h).elim⟩⟩
 | n + 1=>by
  obtain ⟨ih,ihl⟩:=Ql6 ok okl n
  refine ⟨fun f d e=>?_,fun k l hl A outer s H f us vs ws Q hr e0 ca rv h=>?_⟩
  ·obtain ⟨o,b⟩:=ok f d e
   have hcf:∀ as,evF (Qjj ds ls) (n + 1) f as = Qa2 (evF (Qjj ds ls) n) d.fn as:=fun as=>by
    show (match Qjj ds ls f with | some fn=>Qa2 (evF (Qjj ds ls) n) fn as | none=>.no) = _
    unfold Qjj
    rw [e]
   obtain ⟨ff,ffd,F,m⟩:=o.dfn.ex
   refine ⟨ff,ffd,F.kp,m,F.binds o.bd,?_⟩
   obtain ⟨oc,od,kV,doc,pm,an,cdv,ct,osl,rfl,lk,hcd'⟩:=F.ex
   refine Q83 (g1:=d.f1) (g2:=d.fc) lk hcd' o.sc (fun vs H Q E h=>?_) fun A outer s H vs Q E hr h=>?_
   ·obtain ⟨G,as,a,_,z⟩:=h
    rw [hcf] at z
    unfold Qa2 at z
    by_cases h2:as.length = d.fn.ps
    ·rw [a.len,h2,o.ps]
    ·rw [if_neg h2] at z; exact z.elim
   ·obtain ⟨G,as,a,pn,z⟩:=h
    refine ⟨_,b (evF (Qjj ds ls) n) n _ ff cdv A outer s H E ih ihl ⟨ff,_,_,_,_,m,lk,rfl⟩ Q4y Q4y hr,?_⟩
    rw [hcf] at z
    have hl:as.length = d.fn.ps:=by
     unfold Qa2 at z
     by_cases h2:as.length = d.fn.ps
     ·exact h2
     ·rw [if_neg h2] at z; exact z.elim
    have hN:d.ps.length ≤ d.N.length:=by
     have:=congrArg List.length o.sc.pre
     rw [List.length_take] at this
     omega
    exact Qzg a pn (by rw [a.len,hl,o.ps]; exact hN) o.sz z
  ·obtain ⟨hk,S,e,he,b⟩:=okl k l hl
   refine Q27 (cf:=evF (Qjj ds ls) n) S b ih ihl (fun as=>?_) A outer s H f us vs ws Q hr e0 ca rv h
   show (match Qjj ds ls k with | some fn=>Qa2 (evF (Qjj ds ls) n) fn as | none=>.no) = _
   unfold Qjj
   rw [hk,he]
end
noncomputable def Qacw (tb:Addr) (q:Str) (H:Hp):Prop:=H tb = some (.tbl q) ∧ ∀ b,b ≠ tb → H b = none ∨ ∃ o xs,H b = some (.frz o (.lst xs))
theorem Qww {P:Program} {w:World} {K:PySem.W.Frag} {mg mb:Str → Option Value} {CX:CXT} {k:Nat} {fa a tb:Addr} {qn:Str} {fd:FuncData} {x:Str} {sp:Sp} {s₁:Shared} {vs:List Value} {ns:List Int}
  (KX:K.In s₁.heap) (hns:s₁.heap.Ns mainGlobals mg) (hb:s₁.heap.Ns builtinsNs mb) (hbb:∀ x:Str,x ≠ "__name__" → mb x = bootBuiltins x) (hlim:s₁.heap.NoLimit) (hg:s₁.gens = #[])
  (ha:s₁.heap.get? a = some { cls:=.type "list",data:=.seq vs.toArray }) (hi:IntsAre vs ns) (hl:ns.length ≤ sizeLine) (hr:Room k callerA)
  (ht:s₁.heap.get? tb = some { cls:=.none,data:=.fields #[] }) (hc:isCodeTable s₁.heap tb) (hKt:K.lookup tb = none) (hT:∀ b q,Qsy K b q → b = tb ∧ q = qn)
  (hbm:∃ bm ob,mg "__builtins__" = some (.ref bm) ∧ bm ≠ builtinsNs ∧ s₁.heap.get? bm = some ob ∧ ob.cls = .type "module" ∧ ob.dict = some builtinsNs ∧ ob.data = .plain)
  (F:∀ base:Heap,K.In base → base.Ns mainGlobals mg → FnOk P w K mg base CX k fa fd [x] sp) (hbind:∀ (s:Shared) (u:Value),BindsTo s fd ⟨[u],[]⟩ [(x,u)])
  (hsp:∀ H:Hp,SqL K H a (ns.map V.int) → sp [.ref a] H (fun v _=>v = .bl true) fun _ _ _=>False)
  (hCX:∀ H e s',CX [] H s₁ (fun _ _ _=>False) e s' → False) :
  codeAny (model P w) callerA (.call (.ref fa) ⟨[.ref a],[]⟩) (fun r s'=>r = .ok (.ret (.bool true)) ∧ OldK s₁.heap s'.heap ∧ s'.os = s₁.os ∧ AllBare s'.gens) s₁:=by
 have rv:=Qnu hi
 have lenV:=hi.length
 have hat:a ≠ tb:=fun z=>by rw [z,ht] at ha; cases ha
 have core:∀ H:Hp,Qacw tb qn H → SqL K H a (ns.map V.int) → HOk P w H s₁.heap → (∀ b,H b ≠ none → b = a ∨ b = tb) → (H a ≠ none → K.lookup a = none) →
   codeAny (model P w) callerA (.call (.ref fa) ⟨[.ref a],[]⟩) (fun r s'=>r = .ok (.ret (.bool true)) ∧ OldK s₁.heap s'.heap ∧ s'.os = s₁.os ∧ AllBare s'.gens) s₁:=by
  intro H hO hS hok hA hK
  have base_of:∀ {b:Addr} {o:Obj},s₁.heap.get? b = some o → H b = none → (Qom s₁.heap H).get? b = some o:=fun e n=>Qxb e n
  have noD:∀ {b:Addr} {o:Obj},s₁.heap.get? b = some o → (∀ xs n,o.data ≠ .seq xs n) → (∀ xs,o.data ≠ .fields xs) → H b = none:=fun {b o} e d1 d2=>by
   cases q:H b with
   | none=>rfl
   | some u =>
    rcases hA b (by rw [q]; simp) with e' | e'
    ·subst e'
     rw [ha] at e; cases e
     exact absurd rfl (d1 _ _)
    ·subst e'
     rw [ht] at e; cases e
     exact absurd rfl (d2 _)
  have nsK:∀ {b:Addr} {m:Str → Option Value},s₁.heap.Ns b m → (Qom s₁.heap H).Ns b m:=fun {b m} ⟨o,es,ep,e,d,r⟩=>⟨o,es,ep,base_of e (noD e (fun _ _ z=>by rw [d] at z; cases z) fun _ z=>by rw [d] at z; cases z),d,r⟩
  have hKb:K.In (Qom s₁.heap H):=fun b o e=>base_of (KX b o e) (by
   cases q:H b with
   | none=>rfl
   | some u =>
    rcases hA b (by rw [q]; simp) with e' | e'
    ·subst e'
     rw [hK (by rw [q]; simp)] at e; cases e
    ·subst e'
     rw [hKt] at e; cases e)
  have hM:Mod K mg (Qom s₁.heap H):=⟨hKb,nsK hns,⟨mb,nsK hb,hbb⟩,let ⟨mc,h1,h2⟩:=hlim; ⟨mc,nsK h1,h2⟩,
   let ⟨bm,ob,b1,b2,b3,b4,b5,b6⟩:=hbm; ⟨bm,ob,b1,b2,base_of b3 (noD b3 (fun _ _ z=>by rw [b6] at z; cases z) fun _ z=>by rw [b6] at z; cases z),b4,b5,b6⟩⟩
  have e0:Env0 P w K mg (Qom s₁.heap H) callerA [] s₁ H:=⟨rfl,hM,fun b o e=>Q05 e,Nat.le_of_eq (Qvy _ _),trivial,⟨fun b hb=>absurd (show b ∈ ([]:List Addr) from hb) (by simp),fun b q z=>by
   obtain ⟨rfl,rfl⟩:=hT b q z
   exact hO.1⟩,hok,.of_eq hg⟩
  refine codeAny_mono ((F _ hKb (nsK hns)).run callerA [] s₁ H ⟨[.ref a],[]⟩ [.ref a] [.ref a] _ _ hr e0 (hbind s₁ (.ref a)) (.cons rfl .nil) (hsp H hS)) fun r s' h=>?_
  cases r with
  | error e=>exact (hCX H e s' h).elim
  | ok fl =>
   cases fl with
   | next=>exact False.elim h
   | brk=>exact False.elim h
   | cont=>exact False.elim h
   | ret u =>
    obtain ⟨v,H',os,bare,un,hok',r',q⟩:=h
    have q':v = .bl true:=q
    subst q'
    obtain rfl:u = Value.bool true:=r'
    have kept:∀ b o,s₁.heap.get? b = some o → b ≠ tb → s'.heap.get? b = some o:=fun b o e hbt=>by
     cases q:H b with
     | none=>exact un.keep b o e q (by intro z; exact absurd (show b ∈ ([]:List Addr) from z) (by simp)) (by simp)
     | some u =>
      rcases hO.2 b hbt with z | ⟨ob,xs,z⟩
      ·rw [q] at z; cases z
      ·have z2:=un.frzs b ob _ z
       obtain ⟨e1,_⟩:=hok b _ z
       obtain ⟨e2,_⟩:=hok' b _ z2
       rw [e] at e1; cases e1
       exact e2
    obtain ⟨ps,et,_⟩:=(show ObjOk P w H' s'.heap tb (.tbl qn) from hok' tb _ (un.tbls tb qn hO.1))
    refine ⟨rfl,⟨fun b o e=>?_,fun b o e=>?_⟩,os,bare⟩
    ·by_cases hbt:b = tb
     ·subst hbt
      rw [ht] at e
      cases e
      exact .inr (.inl ⟨hc,rfl,#[],ps,rfl,by rw [Array.empty_append]; exact et⟩)
     ·exact .inl (kept b o e hbt)
    ·by_cases hbt:b = tb
     ·exact ⟨_,by rw [hbt]; exact et⟩
     ·exact ⟨o,kept b o e hbt⟩
 have tok:∀ H:Hp,ObjOk P w H s₁.heap tb (.tbl qn):=fun H=>⟨#[],ht,trivial,fun p cv z=>by cases z⟩
 cases hk:K.lookup a with
 | some o =>
  have e:=KX a o hk
  rw [ha] at e
  cases e
  refine core (fun b=>if b = tb then some (.tbl qn) else none) ⟨if_pos rfl,fun b hb=>.inl (if_neg hb)⟩ (.inr ⟨_,vs.toArray,_,hk,rfl,rfl,rfl,by rw [List.size_toArray,lenV]; exact hl,by simpa using rv⟩) (fun b u z=>?_) (fun b z=>?_) fun z=>absurd (if_neg hat) z
  ·by_cases hb:b = tb
   ·have z':=(if_pos hb).symm.trans z
    cases z'
    subst hb
    exact tok _
   ·have z':=(if_neg hb).symm.trans z
    cases z'
  ·by_cases hb:b = tb
   ·exact .inr hb
   ·exact absurd (if_neg hb) z
 | none =>
  refine core (fun b=>if b = tb then some (.tbl qn) else if b = a then some (.frz { cls:=.type "list",data:=.seq vs.toArray } (.lst (ns.map V.int))) else none) ⟨if_pos rfl,fun b hb=>?_⟩ (.inl (.inr ⟨{ cls:=.type "list",data:=.seq vs.toArray },by show (if a = tb then _ else _) = _; rw [if_neg hat,if_pos rfl]⟩)) (fun b u z=>?_) (fun b z=>?_) fun _=>hk
  ·by_cases hba:b = a
   ·exact .inr ⟨_,_,by show (if b = tb then _ else _) = _; rw [if_neg hb,if_pos hba]⟩
   ·exact .inl (by show (if b = tb then _ else _) = _; rw [if_neg hb,if_neg hba])
  ·by_cases hb:b = tb
   ·have z':=(if_pos hb).symm.trans z
    cases z'
    subst hb
    exact tok _
   ·have z':=(if_neg hb).symm.trans z
    by_cases hba:b = a
    ·have z':=(if_pos hba).symm.trans z'
     cases z'
     subst hba
     exact ⟨ha,by rw [List.length_map]; exact hl,vs,_,rv,ha⟩
    ·have z':=(if_neg hba).symm.trans z'
     cases z'
  ·by_cases hb:b = tb
   ·exact .inr hb
   ·by_cases hba:b = a
    ·exact .inl hba
    ·exact absurd (by show (if b = tb then _ else _) = _; rw [if_neg hb,if_neg hba]) z
noncomputable def Qjk (K:PySem.W.Frag) (tb:Addr):PySem.W.Frag:=K.filter fun p=>!(p.1 == tb)
noncomputable def Qve (tb:Addr) (q:Str):Obj:={ cls:=.none,data:=.fields #[.ref tb,.str q 0] }
noncomputable def Qcs (K:PySem.W.Frag) (tb:Addr) (q:Str):PySem.W.Frag:=match Qjk K tb with
 | []=>[]
 | p :: r=>p :: r ++ [(p.1,Qve tb q)]
theorem Ql7 (tb:Addr):∀ K:PySem.W.Frag,(Qjk K tb).lookup tb = none
 | []=>rfl
 | (a,o) :: K=>by
  have ih:=Ql7 tb K
  unfold Qjk at ih ⊢
  rw [List.filter_cons]
  by_cases h:a = tb
  ·subst h
   rw [if_neg (by simp)]
   exact ih
  ·rw [if_pos (by simpa using h),List.lookup_cons,beq_eq_false_iff_ne.mpr (Ne.symm h)]
   exact ih
theorem Qrn {tb b:Addr} (hb:b ≠ tb):∀ K:PySem.W.Frag,(Qjk K tb).lookup b = K.lookup b
 | []=>rfl
 | (a,o) :: K=>by
  have ih:=Qrn hb K
  unfold Qjk at ih ⊢
  rw [List.filter_cons,List.lookup_cons]
  by_cases h:a = tb
  ·subst h
   rw [if_neg (by simp),beq_eq_false_iff_ne.mpr hb]
   exact ih
  ·rw [if_pos (by simpa using h),List.lookup_cons,ih]
theorem Qoh {p:Addr × Obj} {o:Obj} {b:Addr}:∀ {r:PySem.W.Frag},p ∈ r → (r ++ [(p.1,o)]).lookup b = r.lookup b
 | [],h=>by cases h
 | (a,u) :: r,h=>by
  rw [List.cons_append,List.lookup_cons,List.lookup_cons]
  by_cases hb:b = a
  ·subst hb; rw [beq_self_eq_true]
  ·rw [beq_eq_false_iff_ne.mpr hb]
   rcases List.mem_cons.mp h with z | z
   ·cases r with
    | nil=>simp [z,hb]
    | cons q r =>
     clear h
     have:∀ (r:PySem.W.Frag),(r ++ [(p.1,o)]).lookup b = r.lookup b:=fun r=>by
      induction r with
      | nil=>simp [z,hb]
      | cons q r ih=>rw [List.cons_append,List.lookup_cons,List.lookup_cons,ih]
     exact this _
   ·exact Qoh z
theorem Ql8 {K:PySem.W.Frag} {tb b:Addr} {q:Str}:(Qcs K tb q).lookup b = (Qjk K tb).lookup b:=by
 unfold Qcs
 cases e:Qjk K tb with
 | nil=>rfl
 | cons p r=>exact Qoh (.head _)
theorem Ql9 {K:PySem.W.Frag} {tb:Addr} {q:Str}:(Qcs K tb q).lookup tb = none:=by rw [Ql8]; exact Ql7 _ _
theorem Qha {K:PySem.W.Frag} {tb b:Addr} {q:Str} (h:b ≠ tb):(Qcs K tb q).lookup b = K.lookup b:=by rw [Ql8]; exact Qrn h _
theorem Qto {K:PySem.W.Frag} {tb b:Addr} {q:Str} {o:Obj} (h:(Qcs K tb q).lookup b = some o):K.lookup b = some o:=by
 by_cases hb:b = tb
 ·subst hb
  rw [Ql9] at h
  cases h
 ·rw [Qha hb] at h
  exact h
theorem Qzs {K:PySem.W.Frag} {tb:Addr} {q:Str} {h:Heap} (x:K.In h):(Qcs K tb q).In h:=fun a o e=>x a o (Qto e)
theorem Qwx {K:PySem.W.Frag} {tb:Addr} {q:Str} {c:Addr} {o:Obj} (h:(Qcs K tb q).lookup c = some o):Qsy (Qcs K tb q) tb q:=by
 unfold Qcs at h ⊢
 cases e:Qjk K tb with
 | nil=>rw [e] at h; cases h
 | cons p r=>exact ⟨p.1,0,by show (p :: r ++ [(p.1,Qve tb q)]).getLast? = _; rw [List.getLast?_append]; rfl⟩
theorem Qwy {K:PySem.W.Frag} {tb:Addr} {q:Str} {a:Addr} {z:Str} (h:Qsy (Qcs K tb q) a z):a = tb ∧ z = q:=by
 obtain ⟨b,t,h⟩:=h
 unfold Qcs at h
 cases e:Qjk K tb with
 | nil=>rw [e] at h; cases h
 | cons p r =>
  rw [e] at h
  replace h:(p :: r ++ [(p.1,Qve tb q)]).getLast? = _:=h
  rw [List.getLast?_append] at h
  have h:=Option.some.inj h
  have h:=(Prod.mk.inj h).2
  unfold Qve at h
  injection h with _ _ h
  injection h with h
  have h:=congrArg Array.toList h
  simp at h
  exact ⟨h.1.symm,h.2.1.symm⟩
section
variable {K:PySem.W.Frag} {tb:Addr} {qn:Str} {mg:Str → Option Value}
theorem Qro (ht:K.lookup tb = none) {cdv:Value} {q:Str} (h:PySem.W.codeIn K cdv q = true):PySem.W.codeIn (Qcs K tb qn) cdv q = true:=by
 cases cdv with
 | ref c =>
  have hne:c ≠ tb:=fun z=>by
   subst z
   unfold PySem.W.codeIn at h
   simp only [ht] at h
   cases h
  unfold PySem.W.codeIn at h ⊢
  simp only [Qha hne]
  exact h
 | _=>exact h
theorem Qtp {K:PySem.W.Frag} {f:Addr} {oc:Value} {od:Option Addr} {fd:FuncData} {osl:Array (Option Value)} (h:K.lookup f = some ⟨oc,od,.func fd,osl⟩):PySem.W.keepIn K (.ref f) = true:=by
 unfold PySem.W.keepIn
 simp only [h]
theorem Dfn.mark (ht:K.lookup tb = none) {x:Str} {st:Stmt} (d:Dfn K mg x st):Dfn (Qcs K tb qn) mg x st:=by
 obtain ⟨f,fd,F,m⟩:=d.ex
 obtain ⟨oc,od,kV,doc,pm,an,cdv,ct,osl,e,lk,hcd⟩:=F.ex
 have hne:f ≠ tb:=fun z=>by
  subst z
  rw [ht] at lk
  cases lk
 have lk':(Qcs K tb qn).lookup f = some ⟨oc,od,.func fd,osl⟩:=by rw [Qha hne]; exact lk
 exact ⟨⟨f,fd,⟨⟨oc,od,kV,doc,pm,an,cdv,ct,osl,e,lk',Qro ht hcd⟩,Qtp lk'⟩,m⟩⟩
structure MakesL (K:PySem.W.Frag) (mg:Str → Option Value) (x:Str) (c tb:Addr):Prop where
 tab:K.lookup tb = none
 of:CodeOf K mg x (.ref c)
 hd:∃ o vs file tf flags tg inF text tt,K.lookup c = some o ∧ o.cls = .type "code" ∧ o.data = .fields vs ∧ vs[11]? = some (.ref tb) ∧ vs.getD 11 .none = .ref tb ∧ vs.getD 18 .none = .str file tf ∧ vs.getD 7 .none = .int flags tg ∧ vs.getD 9 .none = .bool inF ∧ vs.getD 10 .none = .int text tt
theorem MakesL.mk' {x:Str} {f c:Addr} {oc:Value} {od:Option Addr} {fd:FuncData} {osl:Array (Option Value)} {o:Obj} {vs:Array Value} {file:Str} {tf:Tok} {flags:Int} {tg:Tok} {inF:Bool} {text:Int} {tt:Tok}
  (m:mg x = some (.ref f)) (lk:K.lookup f = some ⟨oc,od,.func fd,osl⟩) (hc:fd.code = .ref c) (h:K.lookup c = some o) (h1:o.cls = .type "code") (h2:o.data = .fields vs) (h3:vs[11]? = some (.ref tb)) (h4:vs.getD 11 .none = .ref tb) (h5:vs.getD 18 .none = .str file tf)
  (h6:vs.getD 7 .none = .int flags tg) (h7:vs.getD 9 .none = .bool inF) (h8:vs.getD 10 .none = .int text tt) (ht:K.lookup tb = none):MakesL K mg x c tb :=
 ⟨ht,⟨f,oc,od,fd,osl,m,lk,hc⟩,o,vs,file,tf,flags,tg,inF,text,tt,h,h1,h2,h3,h4,h5,h6,h7,h8⟩
noncomputable def Qzt (K:PySem.W.Frag) (mg:Str → Option Value) (x q:Str):Prop:=∃ c tb,Qsy K tb q ∧ CodeOf K mg x (.ref c) ∧ ∀ base:Heap,K.In base → PySem.W.CodeHd base c tb
theorem MakesL.mark {x:Str} {c:Addr} (m:MakesL K mg x c tb):Qzt (Qcs K tb qn) mg x qn:=by
 obtain ⟨ht,⟨f,oc,od,fd,osl,hm,lk,hc⟩,o,vs,file,tf,flags,tg,inF,text,tt,h,h1,h2,h3,h4,h5,h6,h7,h8⟩:=m
 have hnf:f ≠ tb:=fun z=>by subst z; rw [ht] at lk; cases lk
 have hnc:c ≠ tb:=fun z=>by subst z; rw [ht] at h; cases h
 have lk':(Qcs K tb qn).lookup c = some o:=by rw [Qha hnc]; exact h
 exact ⟨c,tb,Qwx lk',⟨f,oc,od,fd,osl,hm,by rw [Qha hnf]; exact lk,hc⟩,fun base hb=>⟨o,vs,file,tf,flags,tg,inF,text,tt,hb _ _ lk',h1,h2,h3,h4,h5,h6,h7,h8,hnc⟩⟩
theorem MakesL.code {x:Str} {c:Addr} (m:MakesL K mg x c tb):∃ c o vs,K.lookup c = some o ∧ o.cls = .type "code" ∧ o.data = .fields vs ∧ vs[11]? = some (.ref tb):=by
 obtain ⟨ht,_,o,vs,file,tf,flags,tg,inF,text,tt,h,h1,h2,h3,_⟩:=m
 exact ⟨c,o,vs,h,h1,h2,h3⟩
end
theorem Qzu {l:PySem.W.OpenLaw} {n k:Nat} {q:Program} {loose:List Str} {XP:(Str → Option Value) → Heap → Prop} {YP:World → Heap → Prop} {d:DefRec} {K:Params → PySem.W.Frag} {CX:CXT} {sp:PySem.W.Frag → Sp} {x qn mf:Str} {ts:List Addr}
  (hn:l.most = some n) (hn2:n ≤ sizeLine) (hdf:d.params.defaults = []) (hr:Room k callerA)
  (hY:∀ (w:World) (h:Heap),YP w h → (K w.params).In h ∧ ∀ P ∈ ts,h.get? P = some { cls:=.none,data:=.fields #[] })
  (F:∀ (w:World) (mg:Str → Option Value) (fa:Addr) (h:Heap),(K w.params).In h → h.Ns mainGlobals mg → mg d.name = some (.ref fa) →
   ∃ c tb,(tb ∈ ts ∧ MakesL (K w.params) mg mf c tb) ∧ (MakesL (K w.params) mg mf c tb → ∃ fd:FuncData,(∀ (s:Shared) (u:Value),BindsTo s fd ⟨[u],[]⟩ [(x,u)]) ∧
    ∀ base:Heap,(Qcs (K w.params) tb qn).In base → base.Ns mainGlobals mg → FnOk l.prog w (Qcs (K w.params) tb qn) mg base CX k fa fd [x] (sp (Qcs (K w.params) tb qn))))
  (hsp:∀ (K:PySem.W.Frag) (H:Hp) (a:Addr) (ns:List Int),ns.length ≤ n → SqL K H a (ns.map V.int) → sp K [.ref a] H (fun v _=>v = .bl true) fun _ _ _=>False)
  (hCX:∀ (H:Hp) (s:Shared) (e:Value) (s':Shared),CX [] H s (fun _ _ _=>False) e s' → False) :
  PySem.W.WalkO q loose XP YP l.row.toRowW d [] (fun f vs=>PySem.call f vs):=by
 refine Att.attach_call hn hdf fun w s₀ s₁ mg mb fa o pm cd doc a vs ns G Y ho hd hcd hmg hobj hints hlen hg=>?_
 obtain ⟨KX,TX⟩:=hY w _ Y
 obtain ⟨c0,tb,⟨hts,mk⟩,hh⟩:=F w mg fa _ KX G.T.g hmg
 obtain ⟨fd,hb,hF⟩:=hh mk
 obtain ⟨c,oc,cv,hc1,hc2,hc3,hc4⟩:=mk.code
 exact Qww (Qzs KX) G.T.g G.T.b G.T.builtins G.T.nolimit hg hobj hints (Nat.le_trans hlen hn2) hr (TX _ hts) ⟨c,oc,cv,KX _ _ hc1,hc2,hc3,hc4⟩ Ql9 (fun _ _ z=>Qwy z) G.T.bmain hF hb (fun H hS=>hsp _ H a ns hlen hS) fun H e s'=>hCX H s₁ e s'
section
variable {X:Cx} {p:Pr} {x:Str} {e:Expr} {es:List Expr} {es':Es} {p1 pos:Pos}
theorem Qacx {n:Nat} (i:Nat) (hL:Ql4 X.prog X.w X.K X.mg X.base p.cf n) (hr:Room n X.A) (ha:QA X (e :: es) (tA p es')) (hm:p.mg = X.mg:=by rfl) (hN:X.N[i]? = some x:=by rfl)
  (hv:Vis X.env.scope x:=by first | exact Or.inl rfl | exact Or.inr (Or.inl rfl) | exact Or.inr (Or.inr rfl)) (hd:(x == ("__debug__" : Str)) = false:=by decide) (hcd:(x == ("__classdict__" : Str)) = false:=by decide)
  (h1:Qr e = true:=by rfl) (h2:es.all Qr = true:=by rfl):QE X (.Call (.Name x p1) (e :: es) [] pos) (tE p (.app i es')):=Qacv hL hm hr hN hv ha hd hcd h1 h2
theorem Qacy {k:Nat} {l:LamT} {js:List Nat} {c:Value} {y:Str} {cs:List Addr} (ct:Qzt X.K X.mg y l.qual) (co:CodeOf X.K X.mg y c) (hl:Qc0.lookup k = some l) (hcode:X.env.code = c)
  (hdef:defaultsOf l.params X.env = ([],[])) (hcl:closureFor l.scope X.env = pure (l.caps.zip cs)) (hcp:Ql3 X l.caps cs js) (nd:cs.Nodup) (hq:X.env.qual ++ "<lambda>" = l.qual:=by rfl) (hlen:cs.length = l.caps.length:=by rfl) :
  QE X (.Lambda l.params l.body l.scope pos) (tE p (.lam k js)):=by
 obtain ⟨c',tb,t1,t2,t3⟩:=ct
 have e:=co.one t2
 subst e
 exact Qact hl hcode (t3 _) t1 hq hdef hcl hcp nd hlen
end
theorem nd2 (a:Nat):[a,a + 1].Nodup:=by simp
theorem nd2' (a:Nat):[a + 1,a].Nodup:=by simp
noncomputable abbrev uns (n:Nat):En:=List.replicate n .un
theorem Qck (n i:Nat):Qb (uns n) i = .un:=by
 unfold Qb uns
 rw [List.getElem?_replicate]
 split <;> rename_i e
 ·split at e <;> cases e
  rfl
 ·rfl
noncomputable abbrev bs0 (H:Hp):Bs:=⟨H,fun _=>False,fun _=>False,fun _=>False,fun _ _=>False⟩
theorem Qzv (H:Hp) {σ:St} {n:Nat} (hl:σ.length = n):FI (bs0 H) H (fun _=>False) σ (uns n) where
 len:=by rw [hl,List.length_replicate]
 slot:=fun i=>by rw [Qck]; trivial
 apart:=fun i j a h _=>by obtain ⟨⟨t,e⟩,_⟩:=h; rw [Qck] at e; cases e
 prv:=fun b h=>h.elim
 chg:=fun _ _ _ _ e=>e
 keep:=fun _ o e=>⟨o,e⟩
 newO:=fun a h=>by obtain ⟨i,t,e,_⟩:=h; rw [Qck] at e; cases e
 newM:=fun a h=>by obtain ⟨i,t,e,_⟩:=h; rw [Qck] at e; cases e
 fix:=fun i a h=>by obtain ⟨⟨t,e⟩,_⟩:=h; rw [Qck] at e; rcases e with e | e | e <;> cases e
 gg:=fun _ h=>h
 gn:=fun _ h=>.inl h
 bp:=fun _ h=>h.elim
theorem Q85 {p:Pr} {c':E} {σ:St} {H:Hp} {n:Nat} {ρ1:En} {Q:Bool → Hp → Prop} {b:Bool} (hl:σ.length = n) (e:Qaa (evE p.cf c' (uns n)) = .ok b ρ1) (q:∀ H1,Same H H1 → Q b H1):tT p c' σ H Q:=by
 refine ⟨fun _=>False,uns n,(Qzv H hl).self,?_⟩
 rw [e]
 intro H1 G1 F1
 refine q H1 fun b o eb=>F1.chg b o (fun h=>?_) (fun h=>?_) eb
 ·obtain ⟨i,t,e,_⟩:=h; rw [Qck] at e; cases e
 ·obtain ⟨i,t,e,_⟩:=h; rw [Qck] at e; cases e
noncomputable def Qma (K:PySem.W.Frag):Sp:=fun vs H Q _=>∃ (a:Addr) (ns:List Int) (k:Nat),vs = [.ref a,.int k] ∧ SqL K H a (ns.map V.int) ∧ ∀ i:Int,Q (.int i) H
noncomputable abbrev Qzw (K:PySem.W.Frag) (hi:Int):TI:=Q12 K (tOp (Qny K) (Q4o (Qkd (Qum (Qma K) [] E0 (Qkd (Qon 0) (Qkd (tC (.int 0)) Qv7))) Qv7)) (tSl (Qx7 K) (Qon 0) (Quo (tC (.int 1))) (Quo (tC (.int hi)))))
theorem Qzx {p:Pr} {K:PySem.W.Frag} {σ:St} {H:Hp} {D:Ends} {a:Addr} {ns:List Int} {ic n:Nat} {body:S} {hi:Int} (hσ:σ[0]? = some (some (.ref a))) (hs:SqL K H a (ns.map V.int)) (hns:ns.length ≤ 63) (hl:σ.length = n) (hic:ic < n)
  (hb:∀ m:Int,∃ ρ',exS p.cf body ((uns n).set ic (.fz (.int m))) = .nx ρ' ∧ ρ'.length = n) (hD:∀ σ' H',D.nx σ' H'):Qxo (Qzw K hi) (Qia ic) (tS p body) D σ H:=by
 refine ⟨_,hσ,a,ns,0,rfl,hs,fun c0=>⟨by show 1 ≤ sizeLine; decide,fun l7 n7=>?_⟩⟩
 have hs7:=(Same.upd (o:=.lst [.int c0]) n7).seq hs
 refine ⟨_,hσ,_,rfl,_,rfl,.inl ⟨a,_,rfl,hs7,fun l8 n8=>?_⟩⟩
 have n78:l7 ≠ l8:=Qbj Qo n8
 have hcl:=Qgy (ns.map V.int) (some 1) (some hi)
 refine .inr (.inl ⟨l7,l8,_,_,rfl,rfl,by rw [Q3 n78,Qo],Qo,?_,fun l9 n9=>?_⟩)
 ·refine Qbk ?_
  rw [List.length_map] at hcl
  show 1 + _ ≤ 100000
  omega
 generalize hH9:upd (upd (upd H l7 (.lst [.int c0])) l8 (.lst (Qgx (ns.map V.int) (some 1) (some hi)))) l9 (.lst ([.int c0] ++ Qgx (ns.map V.int) (some 1) (some hi))) = H9
 have e9:H9 l9 = some (.lst ([.int c0] ++ Qgx (ns.map V.int) (some 1) (some hi))):=by rw [← hH9,Qo]
 have allI:∀ x ∈ [V.int c0] ++ Qgx (ns.map V.int) (some 1) (some hi),∃ i:Int,x = .int i:=fun x hx=>by
  rcases List.mem_append.mp hx with hx | hx
  ·exact ⟨c0,List.mem_singleton.mp hx⟩
  ·have hx:=List.mem_of_mem_drop (List.mem_of_mem_take hx)
   obtain ⟨n,_,e⟩:=List.mem_map.mp hx
   exact ⟨n,e.symm⟩
 refine ⟨l9,rfl,.inl ⟨⟨_,SqL.of e9⟩,Qxp (K:=K) (a:=l9) (xs:=[V.int c0] ++ Qgx (ns.map V.int) (some 1) (some hi)) (fun i σ H10=>σ.length = n ∧ H10 l9 = some (.lst ([.int c0] ++ Qgx (ns.map V.int) (some 1) (some hi)))) ⟨hl,e9⟩ (fun i σ H10 _ h=>SqL.of h.2) ?_ ?_⟩⟩
 ·rintro i x σ2 H2 hx ⟨hl2,e2⟩
  obtain ⟨m,rfl⟩:=allI x (List.mem_of_getElem? hx)
  obtain ⟨ρ',eb,lb⟩:=hb m
  have F0:=(Qzv H2 hl2).setFz (i:=ic) (v:=.int m) (t:=.int m) (by rw [List.length_replicate]; exact hic) Is.int
  refine ⟨bs0 H2,fun _=>False,_,F0,fun _ z=>z,?_⟩
  rw [eb]
  exact fun σ1 H1 G1 F1 _=>⟨by rw [F1.len,lb],F1.chg l9 _ (fun z=>z) (fun z=>z) e2⟩
 ·rintro σ2 H2 _
  exact hD σ2 H2
noncomputable def Qtq (K:PySem.W.Frag):Sp:=fun vs H Q _=>∃ (a:Addr) (ns:List Int),vs = [.ref a] ∧ SqL K H a (ns.map V.int) ∧ ns.length ≤ 63 ∧ ∀ H',Q (.bl true) H'
noncomputable abbrev Q5g (p:Pr) (K:PySem.W.Frag) (c:E) (ic:Nat) (hi:Int) (body:S):TS:=Qxg (Q6c (tT p c) (fun _ _ _=>False) Qxf) (Qxg (Qxo (Qzw K hi) (Qia ic) (tS p body)) (Q6a (tC (.bl true))))
theorem Q28 {p:Pr} {K:PySem.W.Frag} {H:Hp} {vs:List V} {Q:VK} {E:XK} {N:List Str} {c:L2.E} {ic:Nat} {hi:Int} {body:S} {ρ1:En} (h:Qtq K vs H Q E) (hN:1 ≤ N.length) (hic:ic < N.length) (hc:Qaa (evE p.cf c (uns N.length)) = .ok false ρ1)
  (hb:∀ m:Int,∃ ρ',exS p.cf body ((uns N.length).set ic (.fz (.int m))) = .nx ρ' ∧ ρ'.length = N.length):Q5g p K c ic hi body { nx:=fun _ H'=>Q .non H',rt:=Q } (Qbd N vs) H:=by
 obtain ⟨a,ns,rfl,hs,hns,q⟩:=h
 have hl:(Qbd N [.ref a]).length = N.length:=by unfold Qbd; simp only [List.length_append,List.length_map,List.length_replicate,List.length_cons,List.length_nil]; omega
 refine Q85 hl hc fun H1 s1=>?_
 refine iteF ?_
 refine Qzx (Qod rfl) (s1.seq hs) hns hl hic hb fun σ' H'=>q H'
noncomputable def Qhb:Slot → Bool
 | .ml _=>false
 | _=>true
theorem Qvf:∀ {ρ:En},ρ.all Qhb = true → ∀ k t,Qb ρ k ≠ .ml t
 | [],_,k,t,e=>by rw [Qfs] at e; cases e
 | s :: ρ,h,0,t,e=>by
  rw [Qd] at e
  subst e
  simp [Qhb] at h
 | s :: ρ,h,k + 1,t,e=>by
  rw [List.all_cons,Bool.and_eq_true] at h
  rw [Qe] at e
  exact Qvf h.2 k t e
theorem Qmb {js:List (Option Nat)} {ρi:En} (h:ρi.all Qhb = true):∀ (ρ:En) (n:Nat),Qdk js ρi n ρ = ρ
 | [],_=>rfl
 | s :: ρ,n=>by
  unfold Qdk
  rw [Qmb h ρ (n + 1)]
  rcases Qdt js ρi n s with e | ⟨k,t,_,e,_⟩
  ·rw [e]
  ·exact absurd e (Qvf h k t)
theorem Qvg {js:List (Option Nat)} {ρi ρ:En} (h:ρi.all Qhb = true):Qm4 js ρi ρ = ρ:=Qmb h ρ 0
theorem Qmc:∀ {ρ0 ρ:En},ρ0.all Qhb = true → ρ0.length = ρ.length → Qgm ρ0 ρ = true
 | [],[],_,_=>rfl
 | [],_ :: _,_,h=>by cases h
 | _ :: _,[],_,h=>by cases h
 | s0 :: ρ0,s :: ρ,h,hl=>by
  rw [List.all_cons,Bool.and_eq_true] at h
  have q:=Qmc (ρ0:=ρ0) (ρ:=ρ) h.2 (by simpa using hl)
  cases s0 <;> first | exact q | (simp [Qhb] at h)
noncomputable def Qax:Slot → Bool
 | .un=>true
 | .fz _=>true
 | _=>false
theorem Qrp {s:Slot} {rest:En} {x:T} (h:Qax s = true):Qie (.nm 0) x (s :: rest) = some (.fz x :: rest):=by
 cases s <;> first | rfl | cases h
theorem Qmd {c:En → Out Bool} {el:En → Out PV} {rest:En} {g:T → Bool} {f:T → T}:∀ {xs acc:List T} {s0:Slot},Qax s0 = true → (∀ x ∈ xs,c (.fz x :: rest) = .ok (g x) (.fz x :: rest)) → (∀ x ∈ xs,g x = true → ∃ r,el (.fz x :: rest) = .ok r (.fz x :: rest) ∧ frz r = some (f x)) → acc.length + xs.length ≤ 100000 →
  ∃ s,Qdr (.nm 0) c el xs acc (s0 :: rest) = .ok (acc ++ (xs.filter g).map f) (s :: rest) ∧ Qax s = true
 | [],acc,s0,h0,hc,he,hz=>⟨s0,by unfold Qdr; simp,h0⟩
 | x :: xs,acc,s0,h0,hc,he,hz=>by
  rw [List.length_cons] at hz
  have ih:=fun acc' (hz':acc'.length + xs.length ≤ 100000)=>Qmd (c:=c) (el:=el) (rest:=rest) (g:=g) (f:=f) (xs:=xs) (acc:=acc') (s0:=.fz x) rfl (fun y hy=>hc y (List.mem_cons_of_mem _ hy)) (fun y hy=>he y (List.mem_cons_of_mem _ hy)) hz'
  unfold Qdr
  rw [Qrp h0]
  simp only [hc x List.mem_cons_self,Out.bind]
  cases hg:g x with
  | false =>
   obtain ⟨s,e,o⟩:=ih acc (by omega)
   refine ⟨s,?_,o⟩
   simp only [Bool.false_eq_true,if_false,e,List.filter_cons,hg]
  | true =>
   obtain ⟨r,er,fr⟩:=he x List.mem_cons_self hg
   simp only [if_true,er,fr]
   have za:acc.length < 100000:=by omega
   rw [if_pos za]
   obtain ⟨s,e,o⟩:=ih (acc ++ [f x]) (by rw [List.length_append,List.length_singleton]; omega)
   refine ⟨s,?_,o⟩
   simp only [e,List.filter_cons,hg,if_true,List.map_cons,List.append_assoc,List.singleton_append]
theorem Q29 {cf:CF} {w:W} {js:List (Option Nat)} {cs:Es} {e:E} {ρ rest:En} {xs:List T} {g:T → Bool} {f:T → T} (hw:evW cf w ρ = .ok (xs,none) ρ) (hcap:Qer js ρ = .un :: rest) (hml:rest.all Qhb = true) (hap:Qcj js = true)
  (hc:∀ x ∈ xs,evC cf cs (.fz x :: rest) = .ok (g x) (.fz x :: rest)) (he:∀ x ∈ xs,g x = true → ∃ r,evE cf e (.fz x :: rest) = .ok r (.fz x :: rest) ∧ frz r = some (f x)) (hz:xs.length ≤ 100000) :
  evE cf (.comp w js (.nm 0) cs e) ρ = .ok (.ow (.lst ((xs.filter g).map f))) ρ:=by
 obtain ⟨s,e1,o⟩:=Qmd (c:=evC cf cs) (el:=evE cf e) (rest:=rest) (g:=g) (f:=f) (xs:=xs) (acc:=[]) (s0:=.un) rfl hc he (by simpa using hz)
 have hs:(s :: rest).all Qhb = true:=by
  rw [List.all_cons,hml]
  cases s <;> first | rfl | cases o
 unfold evE
 rw [hw]
 simp only [Out.bind,hcap,e1]
 rw [if_pos ⟨Qmc (by rw [List.all_cons,hml]; rfl) rfl,hap⟩,Qvg hs]
 rfl
theorem Qbg {cf:CF} {w:W} {js:List (Option Nat)} {e:E} {ρ rest:En} {xs:List T} {f:T → T} (hw:evW cf w ρ = .ok (xs,none) ρ) (hcap:Qer js ρ = .un :: rest) (hml:rest.all Qhb = true) (hap:Qcj js = true)
  (he:∀ x ∈ xs,∃ r,evE cf e (.fz x :: rest) = .ok r (.fz x :: rest) ∧ frz r = some (f x)) (hz:xs.length ≤ 100000) :
  evE cf (.comp w js (.nm 0) .nil e) ρ = .ok (.ow (.lst (xs.map f))) ρ:=by
 rw [Q29 (g:=fun _=>true) (f:=f) hw hcap hml hap (fun x _=>by unfold evC; rfl) (fun x hx _=>he x hx) hz,List.filter_eq_self.mpr (fun _ _=>rfl)]
theorem Qcc {tg:Tg} {b:En → SO} (J:Nat → En → Prop):∀ {xs:List T} {n:Nat} {ρ:En},J n ρ → (∀ (i:Nat) x ρ,xs[i]? = some x → J (n + i) ρ → ∃ ρ1 ρ2,Qie tg x ρ = some ρ1 ∧ (b ρ1 = .nx ρ2 ∨ b ρ1 = .ct ρ2) ∧ J (n + i + 1) ρ2) → ∃ ρ',Qde tg b xs ρ = .nx ρ' ∧ J (n + xs.length) ρ'
 | [],n,ρ,h,_=>⟨ρ,rfl,h⟩
 | x :: xs,n,ρ,h,hs=>by
  obtain ⟨ρ1,ρ2,e1,e2,j⟩:=hs 0 x ρ rfl h
  obtain ⟨ρ',e3,j3⟩:=Qcc (tg:=tg) (b:=b) J (xs:=xs) (n:=n + 1) (ρ:=ρ2) (by simpa using j) fun i y ρ hy hj=>by
   have:=hs (i + 1) y ρ (by rw [List.getElem?_cons_succ]; exact hy) (by rw [show n + (i + 1) = n + 1 + i by omega]; exact hj)
   rw [show n + (i + 1) + 1 = n + 1 + i + 1 by omega] at this
   exact this
  refine ⟨ρ',?_,by rw [List.length_cons,show n + (xs.length + 1) = n + 1 + xs.length by omega]; exact j3⟩
  unfold Qde
  rw [e1]
  rcases e2 with e2 | e2 <;> simp only [e2] <;> exact e3
noncomputable def isF:Out Bool → Bool
 | .ok false _=>true
 | _=>false
theorem Q86 {o:Out Bool} (h:isF o = true):∃ ρ,o = .ok false ρ:=by
 cases o with
 | ok b ρ=>cases b <;> first | exact ⟨ρ,rfl⟩ | cases h
 | xn x ρ=>cases h
 | no=>cases h
noncomputable def Q87 (Q:Df → Prop):List Df → Prop
 | []=>True
 | d :: ds=>Q d ∧ Q87 Q ds
theorem Qzy {Q:Df → Prop}:∀ {ds:List Df},Q87 Q ds → ∀ (f:Nat) (d:Df),ds[f]? = some d → Q d
 | [],_,f,d,e=>by simp at e
 | c :: ds,h,0,d,e=>by simp at e; subst e; exact h.1
 | c :: ds,h,f + 1,d,e=>by rw [List.getElem?_cons_succ] at e; exact Qzy h.2 f d e
theorem Qzz {X:Cx} {sts:List Stmt}:QB X sts (fun _ _ _=>False):=⟨fun _ _ _ _ _ _ h=>h.elim⟩
variable {cf:CF} {ρ ρ1 ρ2:En} {α β:Type}
theorem Q5 {a:α} {k:α → En → Out β}:(Out.ok a ρ).bind k = k a ρ:=rfl
noncomputable def Qac (i:Nat) (ρ:En):Slot → Out PV
 | .fz t=>.ok (.fz t) ρ
 | .un=>.no
 | .pin _=>.no
 | .fx t=>.ok (.fz t) ρ
 | _=>.ok (.sl i) ρ
theorem Qv {i:Nat}:evE cf (.var i) ρ = Qac i ρ (Qb ρ i):=by rw [evE]; cases Qb ρ i <;> rfl
theorem Qct {i:Int}:evE cf (.int i) ρ = .ok (.fz (.int i)) ρ:=by rw [evE]
theorem x_bl {i:Bool}:evE cf (.bl i) ρ = .ok (.fz (.bl i)) ρ:=by rw [evE]
theorem Qvh:evE cf .non ρ = .ok (.fz .non) ρ:=by rw [evE]
noncomputable def Qrq (rs:List PV) (ρ:En):Out PV:=match Qdq rs with
 | some ts=>if ts.length ≤ 100000 then .ok (.fz (.tup ts)) ρ else .no
 | none=>.no
noncomputable def Qo9 (rs:List PV) (ρ:En):Out PV:=match Qdq rs with
 | some ts=>if ts.length ≤ 100000 then .ok (.ow (.lst ts)) ρ else .no
 | none=>.no
theorem Qme {es:Es}:evE cf (.tup es) ρ = (evA cf es ρ).bind Qrq:=by rw [evE]; rfl
theorem Qkk {es:Es}:evE cf (.lst es) ρ = (evA cf es ρ).bind Qo9:=by rw [evE]; rfl
noncomputable def Qd1 (o:BOp) (ρ:En):Option T → Option T → Out PV
 | some x,some y=>.opt (opB o x y) ρ
 | _,_=>.no
noncomputable def Qd2 (o:BOp) (ra rb:PV) (ρ:En):Out PV:=Qd1 o ρ (cont ρ ra) (cont ρ rb)
noncomputable def Qd3 (cf:CF) (o:BOp) (b:E) (ra:PV) (ρ:En):Out PV:=(evE cf b ρ).bind (Qd2 o ra)
theorem Qej {o:BOp} {a b:E}:evE cf (.bin o a b) ρ = (evE cf a ρ).bind (Qd3 cf o b):=by rw [evE]; rfl
noncomputable def yNeg:PV → En → Out PV
 | .fz (.int i),ρ=>.ok (.fz (.int (-i))) ρ
 | _,_=>.no
theorem Qac0 {a:E}:evE cf (.neg a) ρ = (evE cf a ρ).bind yNeg:=by rw [evE]; congr 1; funext r ρ1; cases r with
 | fz t=>cases t <;> rfl
 | ow t=>rfl
 | sl i=>rfl
noncomputable def yBl:PV → En → Out Bool
 | .fz (.bl b),ρ=>.ok b ρ
 | _,_=>.no
theorem Qaf {o:Out PV}:Qaa o = o.bind yBl:=by unfold Qaa; congr 1; funext r ρ1; cases r with
 | fz t=>cases t <;> rfl
 | ow t=>rfl
 | sl i=>rfl
noncomputable def Qpa (b:Bool) (ρ:En):Out PV:=.ok (.fz (.bl (!b))) ρ
theorem Qkl {a:E}:evE cf (.not a) ρ = (Qaa (evE cf a ρ)).bind Qpa:=by rw [evE]; rfl
noncomputable def yB (b:Bool) (ρ:En):Out PV:=.ok (.fz (.bl b)) ρ
noncomputable def yAnd (cf:CF) (b:E):Bool → En → Out PV
 | true,ρ=>(Qaa (evE cf b ρ)).bind yB
 | false,ρ=>.ok (.fz (.bl false)) ρ
noncomputable def yOr (cf:CF) (b:E):Bool → En → Out PV
 | false,ρ=>(Qaa (evE cf b ρ)).bind yB
 | true,ρ=>.ok (.fz (.bl true)) ρ
theorem Qac2 {a b:E}:evE cf (.and a b) ρ = (Qaa (evE cf a ρ)).bind (yAnd cf b):=by rw [evE]; congr 1; funext c ρ1; cases c <;> rfl
theorem Qtr {a b:E}:evE cf (.or a b) ρ = (Qaa (evE cf a ρ)).bind (yOr cf b):=by rw [evE]; congr 1; funext c ρ1; cases c <;> rfl
noncomputable def Qcu (ρ:En):Option Bool → Out PV
 | some k=>.ok (.fz (.bl k)) ρ
 | none=>.no
noncomputable def Qcv (o:COp) (ρ:En):Option T → Option T → Out PV
 | some x,some y=>Qcu ρ (opC o x y)
 | _,_=>.no
noncomputable def Qcw (o:COp) (ra rb:PV) (ρ:En):Out PV:=Qcv o ρ (cont ρ ra) (cont ρ rb)
noncomputable def Qcx (cf:CF) (o:COp) (b:E) (ra:PV) (ρ:En):Out PV:=(evE cf b ρ).bind (Qcw o ra)
theorem Qc5 {o:COp} {a b:E}:evE cf (.cmp o a b) ρ = (evE cf a ρ).bind (Qcx cf o b):=by
 rw [evE]
 rfl
noncomputable def Qrr (n:String) (ρ:En):Option T → Out PV
 | some t=>if Qlp n && !Qid t then .ok (.fz (.bl (Qli (tyT t) n))) ρ else .no
 | none=>.no
noncomputable def Qz0 (n:String) (ra:PV) (ρ:En):Out PV:=Qrr n ρ (cont ρ ra)
theorem Qvi {a:E} {n:String}:evE cf (.isI a n) ρ = (evE cf a ρ).bind (Qz0 n):=by
 rw [evE]
 rfl
theorem Qao {f:Nat} {es:Es}:evE cf (.call f es) ρ = (evA cf es ρ).bind (Qg2 cf f):=by rw [evE]
noncomputable def Qb9 (b:Bi) (ρ:En):Option (List T) → Out PV
 | some ts=>.opt (Qjy b ts) ρ
 | none=>.no
noncomputable def yBi (b:Bi) (rs:List PV) (ρ:En):Out PV:=Qb9 b ρ (Qar ρ rs)
theorem Qcd {b:Bi} {es:Es}:evE cf (.bi b es) ρ = (evA cf es ρ).bind (yBi b):=by
 rw [evE]
 rfl
noncomputable def Qgs (ρ:En):Option T → Out PV
 | some t=>.ok (.fz t) ρ
 | none=>.no
noncomputable def Qgt (ρ:En):Option T → Option T → Out PV
 | some x,some y=>Qgs ρ (Qyw x y)
 | _,_=>.no
noncomputable def Qgu (ra rb:PV) (ρ:En):Out PV:=Qgt ρ (cont ρ ra) (cont ρ rb)
noncomputable def Qgv (cf:CF) (b:E) (ra:PV) (ρ:En):Out PV:=(evE cf b ρ).bind (Qgu ra)
theorem Qhc {a b:E}:evE cf (.ix a b) ρ = (evE cf a ρ).bind (Qgv cf b):=by
 rw [evE]
 rfl
noncomputable def ySl4 (l h:Option Int) (ρ:En):Option T → Out PV
 | some x=>.opt (Q8b x l h) ρ
 | none=>.no
noncomputable def Q5h (ra:PV) (l:Option Int) (ρ:En):Option (Option Int) → Out PV
 | none=>.no
 | some h=>ySl4 l h ρ (cont ρ ra)
noncomputable def ySl3 (ra:PV) (l:Option Int) (rh:List PV) (ρ:En):Out PV:=Q5h ra l ρ (Qoy rh)
noncomputable def Q5i (cf:CF) (hi:Es) (ra:PV) (ρ:En):Option (Option Int) → Out PV
 | none=>.no
 | some l=>(evA cf hi ρ).bind (ySl3 ra l)
noncomputable def ySl2 (cf:CF) (hi:Es) (ra:PV) (rl:List PV) (ρ:En):Out PV:=Q5i cf hi ra ρ (Qoy rl)
noncomputable def ySl1 (cf:CF) (lo hi:Es) (ra:PV) (ρ:En):Out PV:=(evA cf lo ρ).bind (ySl2 cf hi ra)
theorem Qac7 {a:E} {lo hi:Es}:evE cf (.slc a lo hi) ρ = (evE cf a ρ).bind (ySl1 cf lo hi):=by
 rw [evE]
 rfl
theorem Qy:evA cf .nil ρ = .ok [] ρ:=by rw [evA]
noncomputable def yC2 (r:PV) (rs:List PV) (ρ:En):Out (List PV):=.ok (r :: rs) ρ
noncomputable def yC1 (cf:CF) (es:Es) (r:PV) (ρ:En):Out (List PV):=(evA cf es ρ).bind (yC2 r)
theorem Qm {e:E} {es:Es}:evA cf (.cons e es) ρ = (evE cf e ρ).bind (yC1 cf es):=by rw [evA]; rfl
noncomputable def Qvj (r:PV) (ρ:En):Option (List T) → Out (List T × Option Nat)
 | some ts=>.ok (ts,Qja r) ρ
 | none=>.no
noncomputable def Qvk (r:PV) (ρ:En):Option T → Out (List T × Option Nat)
 | some t=>Qvj r ρ (Qi8 t)
 | none=>.no
noncomputable def Q3a (r:PV) (ρ:En):Out (List T × Option Nat):=Qvk r ρ (cont ρ r)
theorem Qz1 {e:E}:evW cf (.seq e) ρ = (evE cf e ρ).bind Q3a:=by
 rw [evW]
 rfl
noncomputable def Qz2:PV → En → Out (List T × Option Nat)
 | .fz (.int j),ρ=>if j.natAbs ≤ 100000 then .ok (Qa0 0 j.toNat,none) ρ else .no
 | _,_=>.no
theorem Qfa {a:E}:evW cf (.rng1 a) ρ = (evE cf a ρ).bind Qz2:=by
 rw [evW]
 congr 1; funext r ρ1
 cases r with
 | fz t=>cases t <;> rfl
 | ow t=>rfl
 | sl i=>rfl
noncomputable def Q5j:PV → PV → En → Out (List T × Option Nat)
 | .fz (.tup xs),.fz (.tup ys),ρ=>.ok (Qh3 xs ys,none) ρ
 | .fz (.lst xs),.fz (.tup ys),ρ=>.ok (Qh3 xs ys,none) ρ
 | .fz (.lst xs),.fz (.lst ys),ρ=>.ok (Qh3 xs ys,none) ρ
 | _,_,_=>.no
noncomputable def yZip (cf:CF) (b:E) (r:PV) (ρ:En):Out (List T × Option Nat):=(evE cf b ρ).bind (Q5j r)
theorem Qac9 {a b:E}:evW cf (.zip a b) ρ = (evE cf a ρ).bind (yZip cf b):=by
 rw [evW]
 congr 1; funext r ρ1
 show _ = (evE cf b ρ1).bind _
 congr 1; funext r2 ρ2
 cases r with
 | fz t=>cases t <;> cases r2 <;> first | rfl | (rename_i u; cases u <;> rfl)
 | ow t=>cases r2 <;> rfl
 | sl i=>cases r2 <;> rfl
noncomputable def Qz3 (r:PV) (ρ:En):Option T → Out (List T × Option Nat)
 | some (.lst ts)=>.ok (Qfq 0 ts,Qja r) ρ
 | some (.tup ts)=>.ok (Qfq 0 ts,Qja r) ρ
 | _=>.no
noncomputable def Q88 (r:PV) (ρ:En):Out (List T × Option Nat):=Qz3 r ρ (cont ρ r)
theorem Q5k {e:E}:evW cf (.enm e) ρ = (evE cf e ρ).bind Q88:=by
 rw [evW]
 rfl
noncomputable def Qag (rs:List PV) (ρ:En):FR → Out PV
 | .ok r fin=>.ok r (Qa6 ρ rs fin)
 | .xn x fin=>.xn x (Qa6 ρ rs fin)
 | .no=>.no
noncomputable def Qah (cf:CF) (f:Nat) (rs:List PV) (ρ:En):Option (List Arg) → Out PV
 | some as=>Qag rs ρ (cf f as)
 | none=>.no
theorem Q3b {f:Nat} {rs:List PV} (h:Q0 rs = true):Qg2 cf f rs ρ = Qah cf f rs ρ (Q2 ρ rs):=by
 unfold Qg2
 rw [if_pos h]
 cases Q2 ρ rs with
 | none=>rfl
 | some as =>
  show (match cf f as with | .ok r fin=>Out.ok r (Qa6 ρ rs fin) | .xn x fin=>.xn x (Qa6 ρ rs fin) | .no=>.no) = Qag rs ρ (cf f as)
  cases cf f as <;> rfl
theorem Qas {a:α} {k:α → En → SO}:ofO (.ok a ρ) k = k a ρ:=rfl
theorem Qb5 {k:En → SO}:(SO.nx ρ).seq k = k ρ:=rfl
theorem Q3c {r:PV} {k:En → SO}:(SO.rt r ρ).seq k = .rt r ρ:=rfl
theorem Qdb:exS cf .nil ρ = .nx ρ:=by rw [exS]
theorem Qay {a b:S}:exS cf (.seq a b) ρ = (exS cf a ρ).seq (exS cf b):=by rw [exS]
noncomputable def Q5l (_:PV) (ρ:En):SO:=.nx ρ
theorem Q89 {e:E}:exS cf (.expr e) ρ = ofO (evE cf e ρ) Q5l:=by rw [exS]; rfl
theorem Qoi {i:Nat} {e:E}:exS cf (.set i e) ρ = ofO (evE cf e ρ) (Qo0 i):=by rw [exS]
noncomputable def Qbw (i:Nat) (ρ:En):Option T → SO
 | some t=>Qat (Qbx i (.fz t) ρ) .nx
 | none=>.no
noncomputable def Qdc (i:Nat) (r:PV) (ρ:En):SO:=Qbw i ρ (frz r)
theorem Qbn {i:Nat} {e:E}:exS cf (.setF i e) ρ = ofO (evE cf e ρ) (Qdc i):=by
 rw [exS]
 rfl
noncomputable def Q3d (is:List Nat):PV → En → SO
 | .fz (.tup ts),ρ=>Qat (Qb4 is ts ρ) .nx
 | _,_=>.no
theorem Qz4 {is:List Nat} {e:E}:exS cf (.unp is e) ρ = ofO (evE cf e ρ) (Q3d is):=by
 rw [exS]
 congr 1; funext r ρ1
 cases r with
 | fz t=>cases t <;> rfl
 | ow t=>rfl
 | sl i=>rfl
noncomputable def Qmf (i:Nat) (ρ:En) (t:T):Slot → SO
 | .ow (.lst ts)=>if ts.length < 100000 then .nx (ρ.set i (.ow (.lst (ts ++ [t])))) else .no
 | .ml (.lst ts)=>if ts.length < 100000 then .nx (ρ.set i (.ml (.lst (ts ++ [t])))) else .no
 | _=>.no
noncomputable def Qmg (i:Nat) (ρ:En):Option T → SO
 | none=>.no
 | some t=>Qmf i ρ t (Qb ρ i)
noncomputable def Qrs (i:Nat) (r:PV) (ρ:En):SO:=Qmg i ρ (frz r)
theorem Qada {i:Nat} {e:E} (h:(Qb ρ i).mut = true):exS cf (.app i e) ρ = ofO (evE cf e ρ) (Qrs i):=by
 rw [exS,if_pos h]
 rfl
noncomputable def Qz5 (i:Nat) (t:T) (j:Int) (ρ:En):Slot → SO
 | .ow (.lst ts)=>Qat (ixN ts.length j) fun n=>.nx (ρ.set i (.ow (.lst (ts.set n t))))
 | .ml (.lst ts)=>Qat (ixN ts.length j) fun n=>.nx (ρ.set i (.ml (.lst (ts.set n t))))
 | _=>.no
noncomputable def Qvl (i:Nat) (t:T):PV → En → SO
 | .fz (.int j),ρ=>Qz5 i t j ρ (Qb ρ i)
 | _,_=>.no
noncomputable def Qz6 (cf:CF) (i:Nat) (k:E) (ρ:En):Option T → SO
 | none=>.no
 | some t=>if (Qb ρ i).mut = true then ofO (evE cf k ρ) (Qvl i t) else .no
noncomputable def Q3e (cf:CF) (i:Nat) (k:E) (r:PV) (ρ:En):SO:=Qz6 cf i k ρ (frz r)
theorem Q5m {i:Nat} {k e:E}:exS cf (.put i k e) ρ = ofO (evE cf e ρ) (Q3e cf i k):=by
 rw [exS]
 congr 1; funext r ρ1
 unfold Q3e
 cases frz r with
 | none=>rfl
 | some t =>
  show _ = (if (Qb ρ1 i).mut = true then ofO (evE cf k ρ1) (Qvl i t) else .no)
  by_cases h:(Qb ρ1 i).mut = true
  ·simp only [if_pos h]
   congr 1; funext rk ρ2
   cases rk with
   | fz u=>cases u <;> rfl
   | ow u=>rfl
   | sl j=>rfl
  ·simp only [if_neg h]
theorem Qj2 {i:Nat} {e:E}:exS cf (.app i e) ρ = if (Qb ρ i).mut = true then ofO (evE cf e ρ) (Qrs i) else .no:=by
 by_cases h:(Qb ρ i).mut = true
 ·rw [if_pos h,Qada h]
 ·rw [if_neg h,exS,if_neg h]
theorem Q7 {f:Nat} {rs:List PV}:Qg2 cf f rs ρ = if Q0 rs = true then Qah cf f rs ρ (Q2 ρ rs) else .no:=by
 by_cases h:Q0 rs = true
 ·rw [if_pos h,Q3b h]
 ·rw [if_neg h]; unfold Qg2; rw [if_neg h]
noncomputable def Qby (r:PV) (ρ:En):SO:=.rt r ρ
theorem Qaz {e:E}:exS cf (.ret e) ρ = ofO (evE cf e ρ) Qby:=by rw [exS]; rfl
noncomputable def yIf (cf:CF) (a b:S):Bool → En → SO
 | true,ρ=>exS cf a ρ
 | false,ρ=>exS cf b ρ
theorem Qbt {c:E} {a b:S}:exS cf (.ite c a b) ρ = ofO (Qaa (evE cf c ρ)) (yIf cf a b):=by rw [exS]; congr 1; funext k ρ1; cases k <;> rfl
noncomputable def Qku (cf:CF) (tg:Tg) (b:S):List T × Option Nat → En → SO
 | (ts,none),ρ=>Qde tg (exS cf b) ts ρ
 | (_,some _),_=>.no
theorem Qhd {w:W} {tg:Tg} {b:S}:exS cf (.for_ w tg b) ρ = Qn4 (ofO (evW cf w ρ) (Qku cf tg b)):=by
 rw [exS]
 congr 2; funext its ρ1
 obtain ⟨ts,lk⟩:=its
 cases lk <;> rfl
noncomputable def Qam (r:PV):Option (List T) → FR
 | some fin=>.ok r fin
 | none=>.no
noncomputable def Qau (o:Option (List T)):Option PV → FR
 | some r=>Qam r o
 | none=>.no
noncomputable def Qbi (as:List Arg):SO → FR
 | .nx ρ=>Qam (.fz .non) (Qw as ρ)
 | .rt r ρ=>Qau (Qw as ρ) (Qal ρ r)
 | .xn x ρ=>match Qw as ρ with
  | some fin=>.xn x fin
  | none=>.no
 | _=>.no
theorem Qaw {fn:Fn} {as:List Arg} (h:as.length = fn.ps):Qa2 cf fn as = Qbi as (exS cf fn.body (Qe8 fn as)):=by
 unfold Qa2
 rw [if_pos h]
 cases exS cf fn.body (Qe8 fn as) with
 | nx ρ=>show (match Qw as ρ with | some fin=>FR.ok (.fz .non) fin | none=>.no) = Qam _ (Qw as ρ); cases Qw as ρ <;> rfl
 | rt r ρ =>
  show (match Qal ρ r,Qw as ρ with | some r,some fin=>FR.ok r fin | _,_=>.no) = Qau (Qw as ρ) (Qal ρ r)
  cases Qal ρ r <;> cases Qw as ρ <;> rfl
 | xn x ρ=>rfl
 | bk ρ=>rfl
 | ct ρ=>rfl
 | no=>rfl
section
variable {b:Bool} {i:Int} {x:Str} {ts:List T}
theorem Qmh:Qlp "tuple" = true:=rfl
theorem Q3f:Qlp "list" = true:=rfl
theorem Qfv:Qli (tyT (.tup ts)) "tuple" = true:=rfl
theorem Qrt:Qli (tyT (.lst ts)) "list" = true:=rfl
end
theorem Qts {as:List Arg} {ρ:En}:Qbi as (.nx ρ) = Qam (.fz .non) (Qw as ρ):=rfl
theorem Qad {as:List Arg} {ρ:En} {r:PV}:Qbi as (.rt r ρ) = Qau (Qw as ρ) (Qal ρ r):=rfl
theorem Qc6 {ρ:En}:Qn4 (.nx ρ) = .nx ρ:=rfl
theorem Qru {α:Type} (g:α → Bool):∀ (xs:List α),Qkr (xs.map fun x=>T.bl (g x)) = some (xs.map g)
 | []=>rfl
 | x :: xs=>by
  rw [List.map_cons,List.map_cons]
  unfold Qkr
  rw [Qru g xs]
  rfl
theorem Qoj (n:Nat) (xs:List Int):Qi (n + 1) (.tup (xs.map T.int)) = true:=by
 rw [Qi,List.all_eq_true]
 intro t ht
 obtain ⟨i,_,rfl⟩:=List.mem_map.mp ht
 simp [Qi]
theorem Qrv:∀ (xs ys:List Int),eqL (xs.map T.int) (ys.map T.int) = decide (xs = ys)
 | [],[]=>by rw [List.map_nil,Qhv]; rfl
 | [],y :: ys=>by rw [Qfo (by simp)]; simp
 | x :: xs,[]=>by rw [Qfo (by simp)]; simp
 | x :: xs,y :: ys=>by
  rw [List.map_cons,List.map_cons,Qfg,Qrv xs ys,eqT]
  by_cases h:x = y
  ·subst h; simp
  ·simp [h]
theorem Qvm {xs ys:List Int}:eqO (.tup (xs.map T.int)) (.tup (ys.map T.int)) = some (decide (xs = ys)):=by
 show (if _ then _ else _) = _
 rw [if_pos ⟨Qoj 49 xs,Qoj 49 ys⟩,eqT,Qrv]
theorem at_0 {a:T} {l:List T}:atI (a :: l) 0 = some a:=by
 have:atI (a :: l) ((0:Nat):Int) = some a:=Qan rfl
 exact this
theorem at_1 {a b:T} {l:List T}:atI (a :: b :: l) 1 = some b:=by
 have:atI (a :: b :: l) ((1:Nat):Int) = some b:=Qan rfl
 exact this
theorem Q5n {n:Nat}:ixN (n + 1) 0 = some 0:=by
 unfold ixN
 rw [if_pos (by omega),if_pos (by omega)]
 rfl
inductive All2 (F:T → T → Prop):List T → List T → Prop where
 | nil:All2 F [] []
 | cons {x y xs ys}:F x y → All2 F xs ys → All2 F (x :: xs) (y :: ys)
inductive Ran (F:T → T → Prop):List T → List T → Prop where
 | nil:Ran F [] []
 | skip {x xs ys}:Ran F xs ys → Ran F (x :: xs) ys
 | take {x y xs ys}:F x y → Ran F xs ys → Ran F (x :: xs) (y :: ys)
variable {cf:CF} {P:T → Prop} {F:T → T → Prop} {rest:T → En}
theorem Qok {el:En → Out PV}:∀ {xs acc:List T} {s0:Slot} {q:T},Qax s0 = true → P q → (∀ x ∈ xs,∀ q,P q → ∃ r y q',el (.fz x :: rest q) = .ok r (.fz x :: rest q') ∧ frz r = some y ∧ P q' ∧ F x y) → acc.length + xs.length ≤ 100000 →
  ∃ s ys q',Qdr (.nm 0) (evC cf .nil) el xs acc (s0 :: rest q) = .ok (acc ++ ys) (s :: rest q') ∧ Qax s = true ∧ P q' ∧ All2 F xs ys
 | [],acc,s0,q,h0,hp,he,hz=>⟨s0,[],q,by unfold Qdr; simp,h0,hp,.nil⟩
 | x :: xs,acc,s0,q,h0,hp,he,hz=>by
  rw [List.length_cons] at hz
  obtain ⟨r,y,q1,er,fr,p1,f1⟩:=he x List.mem_cons_self q hp
  obtain ⟨s,ys,q2,e2,o,p2,f2⟩:=Qok (el:=el) (xs:=xs) (acc:=acc ++ [y]) (s0:=.fz x) (q:=q1) rfl p1 (fun z hz=>he z (List.mem_cons_of_mem _ hz)) (by rw [List.length_append,List.length_singleton]; omega)
  refine ⟨s,y :: ys,q2,?_,o,p2,.cons f1 f2⟩
  unfold Qdr
  rw [Qrp h0]
  have ec:evC cf .nil (.fz x :: rest q) = .ok true (.fz x :: rest q):=by rw [evC]
  simp only [ec,Out.bind,if_true,er,fr]
  have za:acc.length < 100000:=by omega
  rw [if_pos za,e2,List.append_assoc,List.singleton_append]
theorem Q9a {w:W} {js:List (Option Nat)} {e:E} {ρ:En} {ρ':T → En} {xs:List T} {q:T} (hq:P q) (hw:evW cf w ρ = .ok (xs,none) ρ) (hcap:Qer js ρ = .un :: rest q) (hk:∀ s q',Qgm (.un :: rest q) (s :: rest q') = true) (hap:Qcj js = true) (hb:∀ s q',Qax s = true → Qm4 js (s :: rest q') ρ = ρ' q')
  (he:∀ x ∈ xs,∀ q,P q → ∃ r y q',evE cf e (.fz x :: rest q) = .ok r (.fz x :: rest q') ∧ frz r = some y ∧ P q' ∧ F x y) (hz:xs.length ≤ 100000) :
  ∃ ys q',evE cf (.comp w js (.nm 0) .nil e) ρ = .ok (.ow (.lst ys)) (ρ' q') ∧ P q' ∧ All2 F xs ys:=by
 obtain ⟨s,ys,q',e1,o,p1,f1⟩:=Qok (cf:=cf) (el:=evE cf e) (rest:=rest) (P:=P) (F:=F) (xs:=xs) (acc:=[]) (s0:=.un) (q:=q) rfl hq he (by simpa using hz)
 refine ⟨ys,q',?_,p1,f1⟩
 unfold evE
 rw [hw]
 simp only [Out.bind,hcap,e1]
 rw [if_pos ⟨hk s q',hap⟩,hb s q' o]
 rfl
theorem Qz7 {s t:Slot} {rest:En} {x y:T} (hs:Qax s = true) (ht:Qax t = true):Qie (.tp [0,1]) (.tup [x,y]) (s :: t :: rest) = some (.fz x :: .fz y :: rest):=by
 cases s <;> first | (cases hs; done) | (cases t <;> first | (cases ht; done) | rfl)
theorem Qmi {α:Type} {el:En → Out PV} {rest:En} {a b f:α → T}:∀ {xs:List α} {acc:List T} {s0 s1:Slot},Qax s0 = true → Qax s1 = true → (∀ p ∈ xs,∃ r,el (.fz (a p) :: .fz (b p) :: rest) = .ok r (.fz (a p) :: .fz (b p) :: rest) ∧ frz r = some (f p)) → acc.length + xs.length ≤ 100000 →
  ∃ s t,Qdr (.tp [0,1]) (evC cf .nil) el (xs.map fun p=>T.tup [a p,b p]) acc (s0 :: s1 :: rest) = .ok (acc ++ xs.map f) (s :: t :: rest) ∧ Qax s = true ∧ Qax t = true
 | [],acc,s0,s1,h0,h1,he,hz=>⟨s0,s1,by rw [List.map_nil]; unfold Qdr; simp,h0,h1⟩
 | p :: xs,acc,s0,s1,h0,h1,he,hz=>by
  rw [List.length_cons] at hz
  obtain ⟨r,er,fr⟩:=he p List.mem_cons_self
  obtain ⟨s,t,e,o,o1⟩:=Qmi (el:=el) (rest:=rest) (a:=a) (b:=b) (f:=f) (xs:=xs) (acc:=acc ++ [f p]) (s0:=.fz (a p)) (s1:=.fz (b p)) rfl rfl (fun z hz=>he z (List.mem_cons_of_mem _ hz)) (by rw [List.length_append,List.length_singleton]; omega)
  refine ⟨s,t,?_,o,o1⟩
  rw [List.map_cons]
  unfold Qdr
  rw [Qz7 h0 h1]
  have ec:evC cf .nil (.fz (a p) :: .fz (b p) :: rest) = .ok true (.fz (a p) :: .fz (b p) :: rest):=by rw [evC]
  simp only [ec,Out.bind,if_true,er,fr]
  have za:acc.length < 100000:=by omega
  rw [if_pos za,e,List.append_assoc,List.singleton_append,List.map_cons]
theorem Qwz {α:Type} {w:W} {js:List (Option Nat)} {e:E} {ρ rest:En} {xs:List α} {a b f:α → T} (hw:evW cf w ρ = .ok (xs.map fun p=>T.tup [a p,b p],none) ρ) (hcap:Qer js ρ = .un :: .un :: rest) (hml:rest.all Qhb = true) (hap:Qcj js = true)
  (he:∀ p ∈ xs,∃ r,evE cf e (.fz (a p) :: .fz (b p) :: rest) = .ok r (.fz (a p) :: .fz (b p) :: rest) ∧ frz r = some (f p)) (hz:xs.length ≤ 100000) :
  evE cf (.comp w js (.tp [0,1]) .nil e) ρ = .ok (.ow (.lst (xs.map f))) ρ:=by
 obtain ⟨s,t,e1,o,o1⟩:=Qmi (cf:=cf) (el:=evE cf e) (rest:=rest) (a:=a) (b:=b) (f:=f) (xs:=xs) (acc:=[]) (s0:=.un) (s1:=.un) rfl rfl he (by simpa using hz)
 have hs:(s :: t :: rest).all Qhb = true:=by
  rw [List.all_cons,List.all_cons,hml]
  cases s <;> first | (cases o; done) | (cases t <;> first | rfl | (cases o1; done))
 unfold evE
 rw [hw]
 simp only [Out.bind,hcap,e1]
 rw [if_pos ⟨Qmc (by rw [List.all_cons,List.all_cons,hml]; rfl) rfl,hap⟩,Qvg hs]
 rfl
theorem rngI {j:Int} {ρ:En} (h0:0 ≤ j) (h:j ≤ 100000):Qz2 (.fz (.int j)) ρ = .ok (Qa0 0 j.toNat,none) ρ:=by
 show (if j.natAbs ≤ 100000 then _ else _) = _
 rw [if_pos (by omega)]
theorem Qm7 {n:Nat} {ρ:En} (h:n ≤ 100000):Qz2 (.fz (.int (n:Int))) ρ = .ok (Qa0 0 n,none) ρ:=by
 rw [rngI (by omega) (by omega),Int.toNat_natCast]
theorem Qpb {α:Type} {xs:List α}:Qkr (xs.map fun _=>T.bl true) = some (xs.map fun _=>true):=Qru (fun _=>true) xs
theorem Qtt {α:Type} {xs:List α}:(xs.map fun _=>true).all id = true:=by rw [List.all_eq_true]; intro b hb; obtain ⟨_,_,rfl⟩:=List.mem_map.mp hb; rfl
theorem Qjl {i j:Int}:eqO (.int i) (.int j) = some (decide (i = j)):=rfl
end L2
namespace L2
variable {i j:Int} {a b:List T} {x y:T} {lo hi:Option Int} {c:Bool}
theorem uo1:opB .add (.int i) (.int j) = some (.fz (.int (i + j))):=rfl
theorem uo2:opB .add (.tup a) (.tup b) = if a.length + b.length ≤ 100000 then some (.fz (.tup (a ++ b))) else none:=rfl
theorem uo4:opB .sub (.int i) (.int j) = some (.fz (.int (i - j))):=rfl
theorem uo5:opB .mul (.int i) (.int j) = if Qc2 i j = true then some (.fz (.int (i * j))) else none:=rfl
theorem uo6:opB .mul (.tup a) (.int j) = if a.length * j.toNat ≤ 100000 ∧ 1 ≤ j ∧ j.natAbs ≤ 100000 ∧ a ≠ [] then some (.fz (.tup (List.replicate j.toNat a).flatten)) else none:=rfl
theorem uo7:opB .fdv (.int i) (.int j) = if 0 < j ∧ j.natAbs < 2 ^ 64 then some (.fz (.int (i / j))) else if j ≠ 0 ∧ j.natAbs < 2 ^ 400 then some (.fz (.int (i.fdiv j))) else none:=rfl
theorem uo8:opB .mod (.int i) (.int j) = if 0 < j then some (.fz (.int (i % j))) else if j < 0 then some (.fz (.int (i.fmod j))) else none:=rfl
theorem uo9:opB .pow (.int i) (.int j) = if 0 ≤ j ∧ j.natAbs ≤ 1000000 ∧ i.natAbs < 2 ^ 64 then some (.fz (.int (i ^ j.toNat))) else none:=rfl
theorem uc1:opC .eq x y = eqO x y:=rfl
theorem uc2:opC .ne x y = (eqO x y).map (!·):=rfl
theorem uc3:opC .lt (.int i) (.int j) = some (decide (i < j)):=rfl
theorem uc5:opC .gt (.int i) (.int j) = some (decide (j < i)):=rfl
theorem uc6:opC .ge (.int i) (.int j) = some (decide (j ≤ i)):=rfl
theorem uc7:opC .isn x .non = some (Qgl x):=rfl
theorem uc8:opC .isnn x .non = some (!Qgl x):=rfl
theorem ui1:Qyw (.lst a) (.int i) = atI a i:=rfl
theorem ui2:Qyw (.tup a) (.int i) = atI a i:=rfl
theorem ui4:Q8b (.tup a) lo hi = some (.fz (.tup (Qm2 a lo hi))):=rfl
theorem ub1:Qjy .len [.lst a] = some (.fz (.int a.length)):=rfl
theorem ub2:Qjy .len [.tup a] = some (.fz (.int a.length)):=rfl
theorem ub3:Qjy .all [.lst a] = (Qkr a).map fun bs=>.fz (.bl (bs.all id)):=rfl
theorem ub5:Qjy .sum [.lst a] = (Qg1 a).map fun is=>.fz (.int is.sum):=rfl
theorem ub6:Qjy .max [.int i,.int j] = some (.fz (.int (if j > i then j else i))):=rfl
theorem ub7:Qjy .dvm [.int i,.int j] = if 0 < j ∧ j.natAbs < 2 ^ 64 then some (.fz (.tup [.int (i / j),.int (i % j)])) else none:=rfl
theorem ub8:Qjy .int [.bl c] = some (.fz (.int (if c then 1 else 0))):=rfl
theorem ub9:Qjy .tup [.lst a] = some (.fz (.tup a)):=rfl
section
variable {cf:CF} {ρ:En}
noncomputable def yLam (k:Nat) (ρ:En):Option (List T) → Out PV
 | some ts=>.ok (.fz (.clo k ts)) ρ
 | none=>.no
theorem Qade {k:Nat} {js:List Nat}:evE cf (.lam k js) ρ = yLam k ρ (Qoz js ρ):=by rw [evE]; cases Qoz js ρ <;> rfl
noncomputable def yApl (cf:CF) (rs:List PV) (ρ:En):Slot → Out PV
 | .fz (.clo k ts)=>Quv (Qg2 cf k (rs ++ ts.map PV.fz) ρ)
 | _=>.no
theorem Q9b {i:Nat} {rs:List PV}:Qyx cf i rs ρ = yApl cf rs ρ (Qb ρ i):=by
 unfold Qyx
 cases Qb ρ i with
 | fz t=>cases t <;> rfl
 | _=>rfl
theorem Qadg {i:Nat} {es:Es}:evE cf (.app i es) ρ = if Qtg (Qb ρ i) = true then (evA cf es ρ).bind (Qyx cf i) else .no:=by rw [evE]
theorem Q3g {r:PV}:Quv (.ok r ρ) = .ok r ρ:=rfl
theorem Qz8 {k:Nat} {ts:List T}:Qtg (.fz (.clo k ts)) = true:=rfl
noncomputable def Qjm (ng:Bool) (ρ:En):Option (List (List Int)) → Option T → Out PV
 | some is,some (.dtt ks ts)=>.ok (.fz (.bl (if ng then !(Qfh ks ts is).isSome else (Qfh ks ts is).isSome))) ρ
 | _,_=>.no
noncomputable def Qjn (ng:Bool) (rk rd:PV) (ρ:En):Out PV:=Qjm ng ρ (Qi9 rk) (cont ρ rd)
noncomputable def Qpc (cf:CF) (ng:Bool) (d:E) (rk:PV) (ρ:En):Out PV:=(evE cf d ρ).bind (Qjn ng rk)
theorem Qkm {ng:Bool} {k d:E}:evE cf (.din ng k d) ρ = (evE cf k ρ).bind (Qpc cf ng d):=by
 rw [evE]; rfl
noncomputable def Qz9 (ρ:En):Option T → Out PV
 | some t=>.ok (.fz t) ρ
 | none=>.no
noncomputable def Q0a (ρ:En):Option (List (List Int)) → Option T → Out PV
 | some is,some (.dtt ks ts)=>Qz9 ρ (Qfh ks ts is)
 | _,_=>.no
noncomputable def Q0b (rd rk:PV) (ρ:En):Out PV:=Q0a ρ (Qi9 rk) (cont ρ rd)
noncomputable def Q9c (cf:CF) (k:E) (rd:PV) (ρ:En):Out PV:=(evE cf k ρ).bind (Q0b rd)
theorem Q5o {d k:E}:evE cf (.dix d k) ρ = (evE cf d ρ).bind (Q9c cf k):=by
 rw [evE]; rfl
noncomputable def Q9d (ρ:En):Option (List (List Int)) → Option T → Out PV
 | some is,some (.dtt ks ts)=>.ok (.fz ((Qfh ks ts is).getD .non)) ρ
 | _,_=>.no
noncomputable def Q9e (rd rk:PV) (ρ:En):Out PV:=Q9d ρ (Qi9 rk) (cont ρ rd)
noncomputable def yDg (cf:CF) (k:E) (rd:PV) (ρ:En):Out PV:=if Qlm (cont ρ rd) = true then (evE cf k ρ).bind (Q9e rd) else .no
theorem Q5p {d k:E}:evE cf (.dg1 d k) ρ = (evE cf d ρ).bind (yDg cf k):=by
 rw [evE]; rfl
noncomputable def Q0c (i:Nat) (ρ:En) (is:List (List Int)) (t:T):Slot → SO
 | .ow (.dtt ks ts)=>if ks.length < 100000 then .nx (ρ.set i (.ow (Qks ks ts is t))) else .no
 | .ml (.dtt ks ts)=>if ks.length < 100000 then .nx (ρ.set i (.ml (Qks ks ts is t))) else .no
 | _=>.no
noncomputable def Q0d (i:Nat) (ρ:En) (t:T):Option (List (List Int)) → SO
 | some is=>Q0c i ρ is t (Qb ρ i)
 | none=>.no
noncomputable def Q0e (i:Nat) (t:T) (rk:PV) (ρ:En):SO:=Q0d i ρ t (Qi9 rk)
noncomputable def Q0f (cf:CF) (i:Nat) (k:E) (ρ:En):Option T → SO
 | none=>.no
 | some t=>if (Qb ρ i).mutD = true then ofO (evE cf k ρ) (Q0e i t) else .no
noncomputable def yDp (cf:CF) (i:Nat) (k:E) (r:PV) (ρ:En):SO:=Q0f cf i k ρ (frz r)
theorem Qpd {i:Nat} {k e:E}:exS cf (.dput i k e) ρ = ofO (evE cf e ρ) (yDp cf i k):=by
 rw [exS]; rfl
end
section
variable {cf:CF} {ρ ρ1 ρ2:En}
theorem intL_mp:∀ (xs:List Int),Qg1 (xs.map T.int) = some xs
 | []=>rfl
 | x :: xs=>by
  show (match Qg1 (xs.map T.int) with | some is=>some (x :: is) | none=>none) = _
  rw [intL_mp xs]
theorem whl_run {c:En → Out Bool} {b:En → SO} {Z:En → Prop} (J:Nat → En → Prop) (h:∀ i ρ,J i ρ → (∃ ρ1,c ρ = .ok false ρ1 ∧ Z ρ1) ∨ (∃ i' ρ1 ρ2,i = i' + 1 ∧ c ρ = .ok true ρ1 ∧ b ρ1 = .nx ρ2 ∧ J i' ρ2)) :
  ∀ (i fuel:Nat) (ρ:En),i < fuel → J i ρ → ∃ ρ',Qfr c b fuel ρ = .nx ρ' ∧ Z ρ'
 | i,0,ρ,hf,_=>absurd hf (Nat.not_lt_zero _)
 | i,fuel + 1,ρ,hf,hj=>by
  rcases h i ρ hj with ⟨ρ1,e,z⟩ | ⟨i',ρ1,ρ2,rfl,e1,e2,j⟩
  ·refine ⟨ρ1,?_,z⟩
   unfold Qfr
   rw [e]
   rfl
  ·obtain ⟨ρ',e3,z⟩:=whl_run J h i' fuel ρ2 (by omega) j
   refine ⟨ρ',?_,z⟩
   unfold Qfr
   rw [e1]
   show (match b ρ1 with | .nx ρ2=>Qfr c b fuel ρ2 | .ct ρ2=>Qfr c b fuel ρ2 | .bk ρ2=>.nx ρ2 | o=>o) = _
   rw [e2]
   exact e3
end
section
variable {fA f0:En → SO} {fc:En → Out Bool} {fV f1 f2:En → Out PV} {iF iR iH iW iS iT iN:Nat} {Ms:List (List (List Int))} {R M:List (List Int)} {is:List Int} {ρ ρ1 ρ2 ρ3:En}
end
section
variable {cf:CF} {ρ ρ1 ρ2:En}
end
end L2
namespace L2
open PySem PySem.Spec PyProof.Rows
section
variable {cf:CF} {ρ:En} {x:Xn} {α β:Type}
end
section
variable {X:Cx} {p:Pr} {a:Expr} {a':E} {pos p1 p2:Pos}
end
end L2
set_option maxHeartbeats 4000000
namespace My
open PySem L2
noncomputable def top (i:Nat):Stmt:=PySem.Challenge.pw_noughtways_k26_shortest_ways_by_rests.main.body.getD i (.Pass ⟨0,0,0,0⟩)
theorem Qj3 {x:Str} {st:Stmt} {p0:Str} (h:∀ (kV doc pm:Value) (an:Option Addr) (cdv ct:Value) (a0:Value),bindArgs (PySem.W.fnOf x x (Qdh st) (Qa1 st) (Qf st) .none kV doc pm an cdv ct) ⟨[a0],[]⟩ = pure [(p0,a0)]):Qz x st [p0]:=fun a b c d e f us hl=>match us,hl with | [a0],_=>h a b c d e f a0
theorem Qek {x:Str} {st:Stmt} {p0 p1:Str} (h:∀ (kV doc pm:Value) (an:Option Addr) (cdv ct:Value) (a0 a1:Value),bindArgs (PySem.W.fnOf x x (Qdh st) (Qa1 st) (Qf st) .none kV doc pm an cdv ct) ⟨[a0,a1],[]⟩ = pure [(p0,a0),(p1,a1)]):Qz x st [p0,p1]:=fun a b c d e f us hl=>match us,hl with | [a0,a1],_=>h a b c d e f a0 a1
theorem bdN3 {x:Str} {st:Stmt} {p0 p1 p2:Str} (h:∀ (kV doc pm:Value) (an:Option Addr) (cdv ct:Value) (a0 a1 a2:Value),bindArgs (PySem.W.fnOf x x (Qdh st) (Qa1 st) (Qf st) .none kV doc pm an cdv ct) ⟨[a0,a1,a2],[]⟩ = pure [(p0,a0),(p1,a1),(p2,a2)]):Qz x st [p0,p1,p2]:=fun a b c d e f us hl=>match us,hl with | [a0,a1,a2],_=>h a b c d e f a0 a1 a2
theorem bdN4 {x:Str} {st:Stmt} {p0 p1 p2 p3:Str} (h:∀ (kV doc pm:Value) (an:Option Addr) (cdv ct:Value) (a0 a1 a2 a3:Value),bindArgs (PySem.W.fnOf x x (Qdh st) (Qa1 st) (Qf st) .none kV doc pm an cdv ct) ⟨[a0,a1,a2,a3],[]⟩ = pure [(p0,a0),(p1,a1),(p2,a2),(p3,a3)]):Qz x st [p0,p1,p2,p3]:=fun a b c d e f us hl=>match us,hl with | [a0,a1,a2,a3],_=>h a b c d e f a0 a1 a2 a3
noncomputable abbrev Qfw:Stmt:=top 10
theorem Qrw:FnScope ["thing"] ["thing"] (Qf Qfw):=⟨rfl,rfl,rfl,by decide +kernel,rfl,by decide +kernel,by decide +kernel⟩
theorem Qrx:Qz "is_whole" Qfw ["thing"]:=Qj3 fun _ _ _ _ _ _ _=>rfl
noncomputable abbrev Qjo:Stmt:=top 11
theorem Qw0:FnScope ["thing","size"] ["thing","size"] (Qf Qjo):=⟨rfl,rfl,rfl,by decide +kernel,rfl,by decide +kernel,by decide +kernel⟩
theorem Qw1:Qz "is_row" Qjo ["thing","size"]:=Qek fun _ _ _ _ _ _ _ _=>rfl
noncomputable abbrev Qhy:Stmt:=top 12
theorem Qtu:FnScope ["thing"] ["thing"] (Qf Qhy):=⟨rfl,rfl,rfl,by decide +kernel,rfl,by decide +kernel,by decide +kernel⟩
theorem Qtv:Qz "is_grid" Qhy ["thing"]:=Qj3 fun _ _ _ _ _ _ _=>rfl
noncomputable abbrev Qd7:Stmt:=top 13
theorem Qfb:FnScope ["grid","numbers","row"] ["grid"] (Qf Qd7):=⟨rfl,rfl,rfl,by decide +kernel,rfl,by decide +kernel,by decide +kernel⟩
theorem Qm8:Qz "numbers_of" Qd7 ["grid"]:=Qj3 fun _ _ _ _ _ _ _=>rfl
noncomputable abbrev Qd8:Stmt:=top 14
theorem Qm9:FnScope ["grid"] ["grid"] (Qf Qd8):=⟨rfl,rfl,rfl,by decide +kernel,rfl,by decide +kernel,by decide +kernel⟩
theorem Qna:Qz "is_bounded" Qd8 ["grid"]:=Qj3 fun _ _ _ _ _ _ _=>rfl
noncomputable abbrev Qfx:Stmt:=top 15
theorem Qkn:FnScope ["thing","bounded","at"] ["thing","bounded"] (Qf Qfx):=⟨rfl,rfl,rfl,by decide +kernel,rfl,by decide +kernel,by decide +kernel⟩
theorem Qry:Qz "wrong_at" Qfx ["thing","bounded"]:=Qek fun _ _ _ _ _ _ _ _=>rfl
noncomputable abbrev Qdl:Stmt:=top 16
theorem Qhe:FnScope ["thing","at"] ["thing"] (Qf Qdl):=⟨rfl,rfl,rfl,by decide +kernel,rfl,by decide +kernel,by decide +kernel⟩
theorem Qmj:Qz "need_tables" Qdl ["thing"]:=Qj3 fun _ _ _ _ _ _ _=>rfl
noncomputable abbrev Qew:Stmt:=top 17
theorem Qpe:FnScope ["thing"] ["thing"] (Qf Qew):=⟨rfl,rfl,rfl,by decide +kernel,rfl,by decide +kernel,by decide +kernel⟩
theorem Qpf:Qz "need_rest" Qew ["thing"]:=Qj3 fun _ _ _ _ _ _ _=>rfl
noncomputable abbrev Qfy:Stmt:=top 18
theorem Qex:FnScope ["number","often","told","turn"] ["number","often"] (Qf Qfy):=⟨rfl,rfl,rfl,by decide +kernel,rfl,by decide +kernel,by decide +kernel⟩
theorem Qrz:Qz "power_of" Qfy ["number","often"]:=Qek fun _ _ _ _ _ _ _ _=>rfl
noncomputable abbrev Qey:Stmt:=top 19
theorem Qc7:FnScope ["ways","fresh","step","many","later","thing","at","met"] ["ways","fresh","step","many"] (Qf Qey):=⟨rfl,rfl,rfl,by decide +kernel,rfl,by decide +kernel,by decide +kernel⟩
theorem Qpg:Qz "walked_on" Qey ["ways","fresh","step","many"]:=bdN4 fun _ _ _ _ _ _ _ _ _ _=>rfl
noncomputable abbrev Qd9:Stmt:=top 20
theorem Qdm:FnScope ["begun","step","many","ways","fresh"] ["begun","step","many"] (Qf Qd9):=⟨rfl,rfl,rfl,by decide +kernel,rfl,by decide +kernel,by decide +kernel⟩
theorem Qnb:Qz "first_ways" Qd9 ["begun","step","many"]:=bdN3 fun _ _ _ _ _ _ _ _ _=>rfl
noncomputable abbrev Qez:Stmt:=top 22
theorem Qph:FnScope ["table","at"] ["table","at"] (Qf Qez):=⟨rfl,rfl,rfl,by decide +kernel,rfl,by decide +kernel,by decide +kernel⟩
theorem Qpi:Qz "column_at" Qez ["table","at"]:=Qek fun _ _ _ _ _ _ _ _=>rfl
noncomputable abbrev Qea:Stmt:=top 23
theorem Qnc:FnScope ["table"] ["table"] (Qf Qea):=⟨rfl,rfl,rfl,by decide +kernel,rfl,by decide +kernel,by decide +kernel⟩
theorem Qnd:Qz "columns_of" Qea ["table"]:=Qj3 fun _ _ _ _ _ _ _=>rfl
noncomputable abbrev Qbo:Stmt:=top 24
theorem Qh4:FnScope ["row","column"] ["row","column"] (Qf Qbo):=⟨rfl,rfl,rfl,by decide +kernel,rfl,by decide +kernel,by decide +kernel⟩
theorem Qh5:Qz "row_times_column" Qbo ["row","column"]:=Qek fun _ _ _ _ _ _ _ _=>rfl
noncomputable abbrev Qbf:Stmt:=top 25
theorem Qhf:FnScope ["row","columns"] ["row","columns"] (Qf Qbf):=⟨rfl,rfl,rfl,by decide +kernel,rfl,by decide +kernel,by decide +kernel⟩
theorem Qhg:Qz "row_times_columns" Qbf ["row","columns"]:=Qek fun _ _ _ _ _ _ _ _=>rfl
noncomputable abbrev Qk6:Stmt:=top 26
theorem Qr0:FnScope ["one","other","columns"] ["one","other"] (Qf Qk6):=⟨rfl,rfl,rfl,by decide +kernel,rfl,by decide +kernel,by decide +kernel⟩
theorem Q0g:Qz "times" Qk6 ["one","other"]:=Qek fun _ _ _ _ _ _ _ _=>rfl
noncomputable abbrev Qc8:Stmt:=top 29
theorem Qkv:FnScope ["row","m"] ["row","m"] (Qf Qc8):=⟨rfl,rfl,rfl,by decide +kernel,rfl,by decide +kernel,by decide +kernel⟩
theorem Qkw:Qz "rests_of_row" Qc8 ["row","m"]:=Qek fun _ _ _ _ _ _ _ _=>rfl
noncomputable abbrev Qfz:Stmt:=top 30
theorem Qr1:FnScope ["table","m"] ["table","m"] (Qf Qfz):=⟨rfl,rfl,rfl,by decide +kernel,rfl,by decide +kernel,by decide +kernel⟩
theorem Qr2:Qz "rests_of" Qfz ["table","m"]:=Qek fun _ _ _ _ _ _ _ _=>rfl
noncomputable abbrev Qc9:Stmt:=top 31
theorem Qkx:FnScope ["tables","m"] ["tables","m"] (Qf Qc9):=⟨rfl,rfl,rfl,by decide +kernel,rfl,by decide +kernel,by decide +kernel⟩
theorem Qky:Qz "rests_of_all" Qc9 ["tables","m"]:=Qek fun _ _ _ _ _ _ _ _=>rfl
noncomputable abbrev Qbp:Stmt:=top 32
theorem Qh6:FnScope ["size","m"] ["size","m"] (Qf Qbp):=⟨rfl,rfl,rfl,by decide +kernel,rfl,by decide +kernel,by decide +kernel⟩
theorem Qh7:Qz "rest_tables_many" Qbp ["size","m"]:=Qek fun _ _ _ _ _ _ _ _=>rfl
noncomputable abbrev Qa3:Stmt:=top 33
theorem Qcy:FnScope ["size","m","many"] ["size","m"] (Qf Qa3):=⟨rfl,rfl,rfl,by decide +kernel,rfl,by decide +kernel,by decide +kernel⟩
theorem Qfj:Qz "need_few_rest_tables" Qa3 ["size","m"]:=Qek fun _ _ _ _ _ _ _ _=>rfl
noncomputable abbrev Qch:Stmt:=top 34
theorem Qb6:FnScope ["tables","m","rests","begun","at"] ["tables","m"] (Qf Qch):=⟨rfl,rfl,rfl,by decide +kernel,rfl,by decide +kernel,by decide +kernel⟩
theorem Qj4:Qz "ways_to_rests" Qch ["tables","m"]:=Qek fun _ _ _ _ _ _ _ _=>rfl
noncomputable abbrev Qe0:Stmt:=top 35
theorem Qpj:FnScope ["size"] ["size"] (Qf Qe0):=⟨rfl,rfl,rfl,by decide +kernel,rfl,by decide +kernel,by decide +kernel⟩
theorem Qpk:Qz "nought_of" Qe0 ["size"]:=Qj3 fun _ _ _ _ _ _ _=>rfl
noncomputable abbrev Qf0:Stmt:=top 36
theorem Qr3:FnScope ["tables","m"] ["tables","m"] (Qf Qf0):=⟨rfl,rfl,rfl,by decide +kernel,rfl,by decide +kernel,by decide +kernel⟩
theorem Qr4:Qz "rest_way" Qf0 ["tables","m"]:=Qek fun _ _ _ _ _ _ _ _=>rfl
noncomputable abbrev Qel:Stmt:=top 38
theorem Qr5:FnScope ["_law_script","_law_k"] ["_law_script","_law_k"] (Qf Qel):=⟨rfl,rfl,rfl,by decide +kernel,rfl,by decide +kernel,by decide +kernel⟩
theorem Qr6:Qz "_law_cell" Qel ["_law_script","_law_k"]:=Qek fun _ _ _ _ _ _ _ _=>rfl
noncomputable abbrev Qhz:Stmt:=top 39
theorem Qmk:FnScope ["_law_cell_here","_law_left"] ["_law_cell_here"] (Qf Qhz):=⟨rfl,rfl,rfl,by decide +kernel,rfl,by decide +kernel,by decide +kernel⟩
theorem Qtw:Qz "_law_pen" Qhz ["_law_cell_here"]:=Qj3 fun _ _ _ _ _ _ _=>rfl
noncomputable abbrev Qf1:Stmt:=top 40
theorem Qdu:FnScope ["_law_pen_here","_law_many","_law_left","_law_found","_law_stir"] ["_law_pen_here","_law_many"] (Qf Qf1):=⟨rfl,rfl,rfl,by decide +kernel,rfl,by decide +kernel,by decide +kernel⟩
theorem Qr7:Qz "_law_draw" Qf1 ["_law_pen_here","_law_many"]:=Qek fun _ _ _ _ _ _ _ _=>rfl
noncomputable abbrev Qe1:Stmt:=top 41
theorem Qpl:FnScope ["_law_thing"] ["_law_thing"] (Qf Qe1):=⟨rfl,rfl,rfl,by decide +kernel,rfl,by decide +kernel,by decide +kernel⟩
theorem Qpm:Qz "_law_whole" Qe1 ["_law_thing"]:=Qj3 fun _ _ _ _ _ _ _=>rfl
noncomputable abbrev Qeb:Stmt:=top 42
theorem Qbc:FnScope ["_law_pen_here","_law_size","_law_most","_law_many","_law_kind","_law_found","_law_turn","_law_rows","_law_i"] ["_law_pen_here","_law_size","_law_most"] (Qf Qeb):=⟨rfl,rfl,rfl,by decide +kernel,rfl,by decide +kernel,by decide +kernel⟩
theorem Qne:Qz "_law_tables" Qeb ["_law_pen_here","_law_size","_law_most"]:=bdN3 fun _ _ _ _ _ _ _ _ _=>rfl
noncomputable abbrev Qec:Stmt:=top 43
theorem Qnf:FnScope ["_law_pen_here","_law_kind"] ["_law_pen_here","_law_kind"] (Qf Qec):=⟨rfl,rfl,rfl,by decide +kernel,rfl,by decide +kernel,by decide +kernel⟩
theorem Qng:Qz "_law_number" Qec ["_law_pen_here","_law_kind"]:=Qek fun _ _ _ _ _ _ _ _=>rfl
noncomputable abbrev Qe2:Stmt:=top 44
theorem Qf2:FnScope ["_law_one","_law_other","_law_found","_law_row"] ["_law_one","_law_other"] (Qf Qe2):=⟨rfl,rfl,rfl,by decide +kernel,rfl,by decide +kernel,by decide +kernel⟩
theorem Qpn:Qz "_law_times" Qe2 ["_law_one","_law_other"]:=Qek fun _ _ _ _ _ _ _ _=>rfl
noncomputable abbrev Qed:Stmt:=top 45
theorem Qdn:FnScope ["_law_tables_here","_law_way","_law_found","_law_at"] ["_law_tables_here","_law_way"] (Qf Qed):=⟨rfl,rfl,rfl,by decide +kernel,rfl,by decide +kernel,by decide +kernel⟩
theorem Qnh:Qz "_law_walked" Qed ["_law_tables_here","_law_way"]:=Qek fun _ _ _ _ _ _ _ _=>rfl
noncomputable abbrev Qf3:Stmt:=top 46
theorem Qr8:FnScope ["_law_table","_law_m"] ["_law_table","_law_m"] (Qf Qf3):=⟨rfl,rfl,rfl,by decide +kernel,rfl,by decide +kernel,by decide +kernel⟩
theorem Qr9:Qz "_law_rest" Qf3 ["_law_table","_law_m"]:=Qek fun _ _ _ _ _ _ _ _=>rfl
noncomputable abbrev Qci:Stmt:=top 47
theorem Q8:FnScope ["_law_tables_here","_law_m","_law_found","_law_row","_law_k","_law_table","_law_at","_law_later"] ["_law_tables_here","_law_m"] (Qf Qci):=⟨rfl,rfl,rfl,by decide +kernel,rfl,by decide +kernel,by decide +kernel⟩
theorem Qj5:Qz "_law_rest_ways" Qci ["_law_tables_here","_law_m"]:=Qek fun _ _ _ _ _ _ _ _=>rfl
noncomputable abbrev Qh0:Stmt:=top 48
theorem Qin:FnScope ["_law_pen_here","_law_size","_law_m"] ["_law_pen_here"] (Qf Qh0):=⟨rfl,rfl,rfl,by decide +kernel,rfl,by decide +kernel,by decide +kernel⟩
theorem Qtx:Qz "_law_few" Qh0 ["_law_pen_here"]:=Qj3 fun _ _ _ _ _ _ _=>rfl
noncomputable abbrev Qee:Stmt:=top 49
theorem Qni:FnScope ["_law_tables_here"] ["_law_tables_here"] (Qf Qee):=⟨rfl,rfl,rfl,by decide +kernel,rfl,by decide +kernel,by decide +kernel⟩
theorem Qnj:Qz "_law_nought" Qee ["_law_tables_here"]:=Qj3 fun _ _ _ _ _ _ _=>rfl
noncomputable abbrev Qe3:Stmt:=top 50
theorem Qpo:FnScope ["_law_found","_law_due"] ["_law_found","_law_due"] (Qf Qe3):=⟨rfl,rfl,rfl,by decide +kernel,rfl,by decide +kernel,by decide +kernel⟩
theorem Qpp:Qz "_law_tuple" Qe3 ["_law_found","_law_due"]:=Qek fun _ _ _ _ _ _ _ _=>rfl
noncomputable abbrev Qe4:Stmt:=top 51
theorem Qf4:FnScope ["_law_tables_here","_law_m","_law_due","_law_found"] ["_law_tables_here","_law_m"] (Qf Qe4):=⟨rfl,rfl,rfl,by decide +kernel,rfl,by decide +kernel,by decide +kernel⟩
theorem Qpq:Qz "_law_right" Qe4 ["_law_tables_here","_law_m"]:=Qek fun _ _ _ _ _ _ _ _=>rfl
noncomputable abbrev Qko:Stmt:=top 52
theorem Qml:FnScope ["_law_script","_law_cell_here","_law_pen_here","_law_tables_here","_law_m"] ["_law_script"] (Qf Qko):=⟨rfl,rfl,rfl,by decide +kernel,rfl,by decide +kernel,by decide +kernel⟩
theorem Q9f:Qz "law" Qko ["_law_script"]:=Qj3 fun _ _ _ _ _ _ _=>rfl
theorem Q9g:PySem.bootBuiltins "abs" = some (.builtin "abs"):=by decide +kernel
theorem Qpr:PySem.bootBuiltins "all" = some (.builtin "all"):=by decide +kernel
theorem Qvn:PySem.bootBuiltins "bool" = some (.type "bool"):=by decide +kernel
theorem Q3h:PySem.bootBuiltins "dict" = some (.type "dict"):=by decide +kernel
theorem Qw2:PySem.bootBuiltins "divmod" = some (.builtin "divmod"):=by decide +kernel
theorem Qjp:PySem.bootBuiltins "enumerate" = some (.type "enumerate"):=by decide +kernel
theorem Qps:PySem.bootBuiltins "int" = some (.type "int"):=by decide +kernel
theorem Qa4:PySem.bootBuiltins "isinstance" = some (.builtin "isinstance"):=by decide +kernel
theorem Qbh:PySem.bootBuiltins "len" = some (.builtin "len"):=by decide +kernel
theorem Qvo:PySem.bootBuiltins "list" = some (.type "list"):=by decide +kernel
theorem Q9h:PySem.bootBuiltins "max" = some (.builtin "max"):=by decide +kernel
theorem Q0h:PySem.bootBuiltins "sum" = some (.builtin "sum"):=by decide +kernel
theorem Qa9:PySem.bootBuiltins "tuple" = some (.type "tuple"):=by decide +kernel
theorem Q9i:PySem.bootBuiltins "zip" = some (.type "zip"):=by decide +kernel
structure Txt (K:PySem.W.Frag) (mg:Str → Option Value):Prop where
 n_abs:mg "abs" = none
 n_all:mg "all" = none
 n_bool:mg "bool" = none
 n_dict:mg "dict" = none
 n_divmod:mg "divmod" = none
 n_enumerate:mg "enumerate" = none
 n_int:mg "int" = none
 n_isinstance:mg "isinstance" = none
 n_len:mg "len" = none
 n_list:mg "list" = none
 n_max:mg "max" = none
 n_range:mg "range" = none
 n_sum:mg "sum" = none
 n_tuple:mg "tuple" = none
 n_zip:mg "zip" = none
 m_LEAST_REST:∃ u,mg "LEAST_REST" = some u ∧ RelV (.int (2)) u
 m_MOST_REST:∃ u,mg "MOST_REST" = some u ∧ RelV (.int (7)) u
 m_MOST_REST_TABLES:∃ u,mg "MOST_REST_TABLES" = some u ∧ RelV (.int (3000)) u
 m_MOST_ROWS:∃ u,mg "MOST_ROWS" = some u ∧ RelV (.int (4)) u
 m_MOST_TABLES:∃ u,mg "MOST_TABLES" = some u ∧ RelV (.int (4)) u
 ct_ways_to_rests:Qzt K mg "ways_to_rests" Qos.qual
noncomputable abbrev Qty:L2.S:=(.ret (.and (.isI (.var 0) "int") (.not (.isI (.var 0) "bool"))))
noncomputable abbrev Qf5:L2.Df:=⟨"is_whole",Qfw,["thing"],["thing"],⟨1,1,Qty⟩,fun _=>true,fun _=>true⟩
noncomputable abbrev Qmm:L2.S:=(.seq (.ite (.or (.not (.isI (.var 0) "tuple")) (.cmp .ne (.bi .len (.cons (.var 0) .nil)) (.var 1))) (.ret (.bl false)) .nil)
 (.ret (.bi .all (.cons (.comp (.seq (.var 0)) [none] (.nm 0) .nil (.call 0 (.cons (.var 0) .nil))) .nil))))
noncomputable abbrev Qmn:L2.Df:=⟨"is_row",Qjo,["thing","size"],["thing","size"],⟨2,2,Qmm⟩,fun _=>true,fun _=>true⟩
noncomputable abbrev Qj6:L2.S:=(.seq (.ite (.or (.not (.isI (.var 0) "tuple")) (.or (.cmp .lt (.bi .len (.cons (.var 0) .nil)) (.int 1)) (.cmp .gt (.bi .len (.cons (.var 0) .nil)) (.int (4))))) (.ret (.bl false)) .nil)
 (.ret (.bi .all (.cons (.comp (.seq (.var 0)) [none,some 0] (.nm 0) .nil (.call 1 (.cons (.var 0) (.cons (.bi .len (.cons (.var 1) .nil)) .nil)))) .nil))))
noncomputable abbrev Qj7:L2.Df:=⟨"is_grid",Qhy,["thing"],["thing"],⟨1,1,Qj6⟩,fun _=>true,fun _=>true⟩
noncomputable abbrev Qpt:L2.S:=(.seq (.set 1 (.lst .nil))
 (.seq (.for_ (.seq (.var 0)) (.nm 2) (.ext 1 (.var 2)))
 (.ret (.var 1))))
noncomputable abbrev Qf6:L2.Df:=⟨"numbers_of",Qd7,["grid","numbers","row"],["grid"],⟨1,3,Qpt⟩,fun _=>true,fun _=>true⟩
noncomputable abbrev Qpu:L2.S:=(.ret (.bi .all (.cons (.comp (.seq (.call 3 (.cons (.var 0) .nil))) [none] (.nm 0) .nil (.cmp .lt (.bi .abs (.cons (.var 0) .nil)) (.bin .pow (.int 10) (.int 12)))) .nil)))
noncomputable abbrev Qf7:L2.Df:=⟨"is_bounded",Qd8,["grid"],["grid"],⟨1,1,Qpu⟩,fun _=>true,fun _=>true⟩
noncomputable abbrev Qio:L2.S:=(.seq (.ite (.or (.not (.isI (.var 0) "list")) (.or (.cmp .lt (.bi .len (.cons (.var 0) .nil)) (.int 1)) (.cmp .gt (.bi .len (.cons (.var 0) .nil)) (.int (4))))) (.ret (.neg (.int 1))) .nil)
 (.seq (.for_ (.rng1 (.bi .len (.cons (.var 0) .nil))) (.nm 2) (.seq (.ite (.or (.not (.call 2 (.cons (.ix (.var 0) (.var 2)) .nil))) (.cmp .ne (.bi .len (.cons (.ix (.var 0) (.var 2)) .nil)) (.bi .len (.cons (.ix (.var 0) (.int 0)) .nil)))) (.ret (.var 2)) .nil)
 (.ite (.and (.var 1) (.not (.call 4 (.cons (.ix (.var 0) (.var 2)) .nil)))) (.ret (.var 2)) .nil)))
 (.ret .non)))
noncomputable abbrev Qip:L2.Df:=⟨"wrong_at",Qfx,["thing","bounded","at"],["thing","bounded"],⟨2,3,Qio⟩,fun _=>true,fun _=>true⟩
noncomputable abbrev Qfc:L2.S:=(.seq (.setF 1 (.call 5 (.cons (.var 0) (.cons (.bl false) .nil))))
 (.ite (.cmp .isnn (.var 1) .non) .bad .nil))
noncomputable abbrev Qfd:L2.Df:=⟨"need_tables",Qdl,["thing","at"],["thing"],⟨1,2,Qfc⟩,fun _=>true,fun _=>true⟩
noncomputable abbrev Qhh:L2.S:=(.ite (.or (.not (.call 0 (.cons (.var 0) .nil))) (.or (.cmp .lt (.var 0) (.int (2))) (.cmp .gt (.var 0) (.int (7))))) .bad .nil)
noncomputable abbrev Qhi:L2.Df:=⟨"need_rest",Qew,["thing"],["thing"],⟨1,1,Qhh⟩,fun _=>true,fun _=>true⟩
noncomputable abbrev Qiq:L2.S:=(.seq (.setF 2 (.int 1))
 (.seq (.for_ (.rng1 (.var 1)) (.nm 3) (.setF 2 (.bin .mul (.var 2) (.var 0))))
 (.ret (.var 2))))
noncomputable abbrev Qir:L2.Df:=⟨"power_of",Qfy,["number","often","told","turn"],["number","often"],⟨2,4,Qiq⟩,fun _=>true,fun _=>true⟩
noncomputable abbrev Qhj:L2.S:=(.seq (.set 4 (.lst .nil))
 (.seq (.for_ (.seq (.var 1)) (.nm 5) (.for_ (.rng1 (.var 3)) (.nm 6) (.seq (.setF 7 (.app 2 (.cons (.var 5) (.cons (.var 6) .nil))))
 (.ite (.din true (.var 7) (.var 0)) (.seq (.dput 0 (.var 7) (.bin .add (.dix (.var 0) (.var 5)) (.tup (.cons (.var 6) .nil))))
 (.app 4 (.var 7))) .nil))))
 (.ret (.var 4))))
noncomputable abbrev Qhk:L2.Df:=⟨"walked_on",Qey,["ways","fresh","step","many","later","thing","at","met"],["ways","fresh","step","many"],⟨4,8,Qhj⟩,fun _=>true,fun _=>true⟩
noncomputable abbrev Qf8:L2.S:=(.seq (.set 3 (.bi .dct (.cons (.var 0) .nil)))
 (.seq (.setF 4 (.bi .lstD (.cons (.var 0) .nil)))
 (.seq (.whl (.cmp .ne (.var 4) (.lst .nil)) (.setF 4 (.call 9 (.cons (.var 3) (.cons (.var 4) (.cons (.var 1) (.cons (.var 2) .nil)))))))
 (.ret (.var 3)))))
noncomputable abbrev Qf9:L2.Df:=⟨"first_ways",Qd9,["begun","step","many","ways","fresh"],["begun","step","many"],⟨3,5,Qf8⟩,fun _=>true,fun _=>true⟩
noncomputable abbrev Qhl:L2.S:=(.ret (.bi .tup (.cons (.comp (.seq (.var 0)) [none,some 1] (.nm 0) .nil (.ix (.var 0) (.var 1))) .nil)))
noncomputable abbrev Qhm:L2.Df:=⟨"column_at",Qez,["table","at"],["table","at"],⟨2,2,Qhl⟩,fun _=>true,fun _=>true⟩
noncomputable abbrev Qga:L2.S:=(.ret (.bi .tup (.cons (.comp (.rng1 (.bi .len (.cons (.var 0) .nil))) [none,some 0] (.nm 0) .nil (.call 11 (.cons (.var 1) (.cons (.var 0) .nil)))) .nil)))
noncomputable abbrev Qgb:L2.Df:=⟨"columns_of",Qea,["table"],["table"],⟨1,1,Qga⟩,fun _=>true,fun _=>true⟩
noncomputable abbrev Qcl:L2.S:=(.ret (.bi .sum (.cons (.comp (.rng1 (.bi .len (.cons (.var 0) .nil))) [none,some 0,some 1] (.nm 0) .nil (.bin .mul (.ix (.var 1) (.var 0)) (.ix (.var 2) (.var 0)))) .nil)))
noncomputable abbrev Qcm:L2.Df:=⟨"row_times_column",Qbo,["row","column"],["row","column"],⟨2,2,Qcl⟩,fun _=>true,fun _=>true⟩
noncomputable abbrev Qca:L2.S:=(.ret (.bi .tup (.cons (.comp (.seq (.var 1)) [none,some 0] (.nm 0) .nil (.call 13 (.cons (.var 1) (.cons (.var 0) .nil)))) .nil)))
noncomputable abbrev Qcb:L2.Df:=⟨"row_times_columns",Qbf,["row","columns"],["row","columns"],⟨2,2,Qca⟩,fun _=>true,fun _=>true⟩
noncomputable abbrev Qpv:L2.S:=(.seq (.setF 2 (.call 12 (.cons (.var 1) .nil)))
 (.ret (.bi .tup (.cons (.comp (.seq (.var 0)) [none,some 2] (.nm 0) .nil (.call 14 (.cons (.var 0) (.cons (.var 1) .nil)))) .nil))))
noncomputable abbrev Qpw:L2.Df:=⟨"times",Qk6,["one","other","columns"],["one","other"],⟨2,3,Qpv⟩,fun _=>true,fun _=>true⟩
noncomputable abbrev Qem:L2.S:=(.ret (.bi .tup (.cons (.comp (.seq (.var 0)) [none,some 1] (.nm 0) .nil (.bin .mod (.var 0) (.var 1))) .nil)))
noncomputable abbrev Qen:L2.Df:=⟨"rests_of_row",Qc8,["row","m"],["row","m"],⟨2,2,Qem⟩,fun _=>true,fun _=>true⟩
noncomputable abbrev Qis:L2.S:=(.ret (.bi .tup (.cons (.comp (.seq (.var 0)) [none,some 1] (.nm 0) .nil (.call 16 (.cons (.var 0) (.cons (.var 1) .nil)))) .nil)))
noncomputable abbrev Qgc:L2.Df:=⟨"rests_of",Qfz,["table","m"],["table","m"],⟨2,2,Qis⟩,fun _=>true,fun _=>true⟩
noncomputable abbrev Qeo:L2.S:=(.ret (.comp (.seq (.var 0)) [none,some 1] (.nm 0) .nil (.call 17 (.cons (.var 0) (.cons (.var 1) .nil)))))
noncomputable abbrev Qep:L2.Df:=⟨"rests_of_all",Qc9,["tables","m"],["tables","m"],⟨2,2,Qeo⟩,fun _=>true,fun _=>true⟩
noncomputable abbrev Qcn:L2.S:=(.ret (.call 8 (.cons (.var 1) (.cons (.bin .mul (.var 0) (.var 0)) .nil))))
noncomputable abbrev Qco:L2.Df:=⟨"rest_tables_many",Qbp,["size","m"],["size","m"],⟨2,2,Qcn⟩,fun _=>true,fun _=>true⟩
noncomputable abbrev Qbq:L2.S:=(.seq (.setF 2 (.call 19 (.cons (.var 0) (.cons (.var 1) .nil))))
 (.ite (.cmp .gt (.var 2) (.int (3000))) .bad .nil))
noncomputable abbrev Qbr:L2.Df:=⟨"need_few_rest_tables",Qa3,["size","m","many"],["size","m"],⟨2,3,Qbq⟩,fun _=>true,fun _=>true⟩
noncomputable abbrev Qdw:L2.S:=(.seq (.setF 2 (.call 18 (.cons (.var 0) (.cons (.var 1) .nil))))
 (.seq (.set 3 .dnew)
 (.seq (.for_ (.rng1 (.bi .len (.cons (.var 2) .nil))) (.nm 4) (.ite (.din true (.ix (.var 2) (.var 4)) (.var 3)) (.dput 3 (.ix (.var 2) (.var 4)) (.tup (.cons (.var 4) .nil))) .nil))
 (.ret (.call 10 (.cons (.var 3) (.cons (.lam 37 [2,1]) (.cons (.bi .len (.cons (.var 2) .nil)) .nil))))))))
noncomputable abbrev Qbu:L2.Df:=⟨"ways_to_rests",Qch,["tables","m","rests","begun","at"],["tables","m"],⟨2,5,Qdw⟩,fun x=>!(x == ("m" : PySem.Str) || x == ("rests" : PySem.Str)),fun x=>!(x == ("m" : PySem.Str))⟩
noncomputable abbrev Qhn:L2.S:=(.ret (.bin .mul (.tup (.cons (.bin .mul (.tup (.cons (.int 0) .nil)) (.var 0)) .nil)) (.var 0)))
noncomputable abbrev Qho:L2.Df:=⟨"nought_of",Qe0,["size"],["size"],⟨1,1,Qhn⟩,fun _=>true,fun _=>true⟩
noncomputable abbrev Qit:L2.S:=(.seq (.expr (.call 6 (.cons (.var 0) .nil)))
 (.seq (.expr (.call 7 (.cons (.var 1) .nil)))
 (.seq (.expr (.call 20 (.cons (.bi .len (.cons (.ix (.var 0) (.int 0)) .nil)) (.cons (.var 1) .nil))))
 (.ret (.dg1 (.call 21 (.cons (.var 0) (.cons (.var 1) .nil))) (.call 22 (.cons (.bi .len (.cons (.ix (.var 0) (.int 0)) .nil)) .nil)))))))
noncomputable abbrev Qgd:L2.Df:=⟨"rest_way",Qf0,["tables","m"],["tables","m"],⟨2,2,Qit⟩,fun _=>true,fun _=>true⟩
noncomputable abbrev Qj8:L2.S:=(.seq (.setF 1 (.bi .max (.cons (.var 0) (.cons (.bin .sub (.int 0) (.var 0)) .nil))))
 (.ret (.lst (.cons (.var 1) (.cons (.bi .int (.cons (.cmp .ge (.var 1) (.bin .pow (.int 10) (.int 18))) .nil)) .nil)))))
noncomputable abbrev Qj9:L2.Df:=⟨"_law_pen",Qhz,["_law_cell_here","_law_left"],["_law_cell_here"],⟨1,2,Qj8⟩,fun _=>true,fun _=>true⟩
noncomputable abbrev Qeq:L2.S:=(.seq (.ite (.cmp .eq (.ix (.var 0) (.int 1)) (.int 1)) (.seq (.unp [2,3] (.bi .dvm (.cons (.ix (.var 0) (.int 0)) (.cons (.var 1) .nil))))
 (.seq (.put 0 (.int 0) (.var 2))
 (.ret (.var 3)))) .nil)
 (.seq (.setF 4 (.bin .mod (.bin .mul (.bin .add (.bin .mod (.ix (.var 0) (.int 0)) (.int 2147483647)) (.int 40503)) (.int 69621)) (.int 2147483629)))
 (.seq (.setF 4 (.bin .mod (.bin .add (.bin .mul (.var 4) (.var 4)) (.int 7817)) (.int 2147483587)))
 (.seq (.put 0 (.int 0) (.bin .mod (.bin .add (.bin .mul (.var 4) (.int 48271)) (.int 11)) (.int 2147483629)))
 (.ret (.bin .mod (.bin .fdv (.ix (.var 0) (.int 0)) (.int 32)) (.var 1)))))))
noncomputable abbrev Qb2:L2.Df:=⟨"_law_draw",Qf1,["_law_pen_here","_law_many","_law_left","_law_found","_law_stir"],["_law_pen_here","_law_many"],⟨2,5,Qeq⟩,fun _=>true,fun _=>true⟩
noncomputable abbrev Qsa:L2.S:=(.ret (.and (.isI (.var 0) "int") (.not (.isI (.var 0) "bool"))))
noncomputable abbrev Qhp:L2.Df:=⟨"_law_whole",Qe1,["_law_thing"],["_law_thing"],⟨1,1,Qsa⟩,fun _=>true,fun _=>true⟩
noncomputable abbrev Qge:L2.S:=(.seq (.setF 3 (.bin .add (.int 1) (.call 25 (.cons (.var 0) (.cons (.var 2) .nil)))))
 (.seq (.setF 4 (.call 25 (.cons (.var 0) (.cons (.int 8) .nil))))
 (.seq (.set 5 (.lst .nil))
 (.seq (.for_ (.rng1 (.var 3)) (.nm 6) (.seq (.set 7 (.lst .nil))
 (.seq (.for_ (.rng1 (.var 1)) (.nm 8) (.app 7 (.bi .tup (.cons (.comp (.rng1 (.var 1)) [none,some 0,some 4] (.nm 0) .nil (.call 28 (.cons (.var 1) (.cons (.var 2) .nil)))) .nil))))
 (.app 5 (.bi .tup (.cons (.var 7) .nil))))))
 (.ret (.var 5))))))
noncomputable abbrev Qgf:L2.Df:=⟨"_law_tables",Qeb,["_law_pen_here","_law_size","_law_most","_law_many","_law_kind","_law_found","_law_turn","_law_rows","_law_i"],["_law_pen_here","_law_size","_law_most"],⟨3,9,Qge⟩,fun _=>true,fun _=>true⟩
noncomputable abbrev Qbs:L2.S:=(.seq (.ite (.cmp .lt (.var 1) (.int 3)) (.ret (.ix (.lst (.cons (.int 0) (.cons (.int 0) (.cons (.int 1) (.cons (.int 0) (.cons (.int 1) (.cons (.neg (.int 1)) .nil))))))) (.call 25 (.cons (.var 0) (.cons (.int 6) .nil))))) .nil)
 (.seq (.ite (.cmp .lt (.var 1) (.int 7)) (.ret (.bin .sub (.call 25 (.cons (.var 0) (.cons (.int 7) .nil))) (.int 3))) .nil)
 (.ret (.bin .add (.bin .sub (.call 25 (.cons (.var 0) (.cons (.bin .sub (.bin .mul (.int 2) (.bin .pow (.int 10) (.int 12))) (.int 1)) .nil))) (.bin .pow (.int 10) (.int 12))) (.int 1)))))
noncomputable abbrev Qgg:L2.Df:=⟨"_law_number",Qec,["_law_pen_here","_law_kind"],["_law_pen_here","_law_kind"],⟨2,2,Qbs⟩,fun _=>true,fun _=>true⟩
noncomputable abbrev Qhq:L2.S:=(.seq (.set 2 (.lst .nil))
 (.seq (.for_ (.seq (.var 0)) (.nm 3) (.app 2 (.bi .tup (.cons (.comp (.rng1 (.bi .len (.cons (.var 1) .nil))) [none,some 3,some 1] (.nm 0) .nil (.bi .sum (.cons (.comp (.zip (.var 1) (.var 2)) [none,none,some 0] (.tp [0,1]) .nil (.bin .mul (.var 0) (.ix (.var 1) (.var 2)))) .nil))) .nil))))
 (.ret (.bi .tup (.cons (.var 2) .nil)))))
noncomputable abbrev Qe5:L2.Df:=⟨"_law_times",Qe2,["_law_one","_law_other","_law_found","_law_row"],["_law_one","_law_other"],⟨2,4,Qhq⟩,fun _=>true,fun _=>true⟩
noncomputable abbrev Qgh:L2.S:=(.seq (.setF 2 (.ix (.var 0) (.ix (.var 1) (.int 0))))
 (.seq (.for_ (.seq (.slc (.var 1) (.cons (.int 1) .nil) .nil)) (.nm 3) (.setF 2 (.call 29 (.cons (.var 2) (.cons (.ix (.var 0) (.var 3)) .nil)))))
 (.ret (.var 2))))
noncomputable abbrev Qgi:L2.Df:=⟨"_law_walked",Qed,["_law_tables_here","_law_way","_law_found","_law_at"],["_law_tables_here","_law_way"],⟨2,4,Qgh⟩,fun _=>true,fun _=>true⟩
noncomputable abbrev Qiu:L2.S:=(.ret (.bi .tup (.cons (.comp (.seq (.var 0)) [none,some 1] (.nm 0) .nil (.bi .tup (.cons (.comp (.seq (.var 0)) [none,some 1] (.nm 0) .nil (.bin .mod (.var 0) (.var 1))) .nil))) .nil)))
noncomputable abbrev Qcp:L2.Df:=⟨"_law_rest",Qf3,["_law_table","_law_m"],["_law_table","_law_m"],⟨2,2,Qiu⟩,fun _=>true,fun _=>true⟩
noncomputable abbrev Qdx:L2.S:=(.seq (.set 2 .dnew)
 (.seq (.set 3 (.lst .nil))
 (.seq (.for_ (.enm (.var 0)) (.tp [4,5]) (.ite (.din true (.call 31 (.cons (.var 5) (.cons (.var 1) .nil))) (.var 2)) (.seq (.dput 2 (.call 31 (.cons (.var 5) (.cons (.var 1) .nil))) (.tup (.cons (.var 4) .nil)))
 (.app 3 (.call 31 (.cons (.var 5) (.cons (.var 1) .nil))))) .nil))
 (.seq (.setF 6 (.int 0))
 (.seq (.whl (.cmp .lt (.var 6) (.bi .len (.cons (.var 3) .nil))) (.seq (.for_ (.enm (.var 0)) (.tp [4,5]) (.seq (.setF 7 (.call 31 (.cons (.call 29 (.cons (.ix (.var 3) (.var 6)) (.cons (.var 5) .nil))) (.cons (.var 1) .nil))))
 (.ite (.din true (.var 7) (.var 2)) (.seq (.dput 2 (.var 7) (.bin .add (.dix (.var 2) (.ix (.var 3) (.var 6))) (.tup (.cons (.var 4) .nil))))
 (.app 3 (.var 7))) .nil)))
 (.setF 6 (.bin .add (.var 6) (.int 1)))))
 (.ret (.var 2)))))))
noncomputable abbrev Qdy:L2.Df:=⟨"_law_rest_ways",Qci,["_law_tables_here","_law_m","_law_found","_law_row","_law_k","_law_table","_law_at","_law_later"],["_law_tables_here","_law_m"],⟨2,8,Qdx⟩,fun _=>true,fun _=>true⟩
noncomputable abbrev Qka:L2.S:=(.seq (.unp [1,2] (.ix (.lst (.cons (.tup (.cons (.int 1) (.cons (.int 5) .nil))) (.cons (.tup (.cons (.int 1) (.cons (.int 7) .nil))) (.cons (.tup (.cons (.int 2) (.cons (.int 2) .nil))) (.cons (.tup (.cons (.int 2) (.cons (.int 2) .nil))) (.cons (.tup (.cons (.int 2) (.cons (.int 3) .nil))) (.cons (.tup (.cons (.int 2) (.cons (.int 3) .nil))) (.cons (.tup (.cons (.int 2) (.cons (.int 3) .nil))) (.cons (.tup (.cons (.int 2) (.cons (.int 4) .nil))) (.cons (.tup (.cons (.int 1) (.cons (.int 6) .nil))) (.cons (.tup (.cons (.int 3) (.cons (.int 2) .nil))) .nil))))))))))) (.call 25 (.cons (.var 0) (.cons (.int 10) .nil)))))
 (.ret (.tup (.cons (.call 27 (.cons (.var 0) (.cons (.var 1) (.cons (.ix (.lst (.cons (.int 3) (.cons (.int 2) .nil))) (.bi .int (.cons (.cmp .eq (.var 1) (.int 3)) .nil))) .nil)))) (.cons (.var 2) .nil)))))
noncomputable abbrev Qkb:L2.Df:=⟨"_law_few",Qh0,["_law_pen_here","_law_size","_law_m"],["_law_pen_here"],⟨1,3,Qka⟩,fun _=>true,fun _=>true⟩
noncomputable abbrev Qgj:L2.S:=(.ret (.bin .mul (.tup (.cons (.bin .mul (.tup (.cons (.int 0) .nil)) (.bi .len (.cons (.ix (.var 0) (.int 0)) .nil))) .nil)) (.bi .len (.cons (.ix (.var 0) (.int 0)) .nil))))
noncomputable abbrev Qef:L2.Df:=⟨"_law_nought",Qee,["_law_tables_here"],["_law_tables_here"],⟨1,1,Qgj⟩,fun _=>true,fun _=>true⟩
noncomputable abbrev Qhr:L2.S:=(.seq (.ite (.or (.not (.isI (.var 0) "tuple")) (.cmp .ne (.var 0) (.var 1))) (.ret (.bl false)) .nil)
 (.ret (.bi .all (.cons (.comp (.seq (.var 0)) [none] (.nm 0) .nil (.call 26 (.cons (.var 0) .nil))) .nil))))
noncomputable abbrev Qhs:L2.Df:=⟨"_law_tuple",Qe3,["_law_found","_law_due"],["_law_found","_law_due"],⟨2,2,Qhr⟩,fun _=>true,fun _=>true⟩
noncomputable abbrev Qht:L2.S:=(.seq (.setF 2 (.dg1 (.call 32 (.cons (.var 0) (.cons (.var 1) .nil))) (.call 34 (.cons (.var 0) .nil))))
 (.seq (.setF 3 (.call 23 (.cons (.var 0) (.cons (.var 1) .nil))))
 (.seq (.ite (.cmp .isn (.var 2) .non) (.ret (.cmp .isn (.var 3) .non)) .nil)
 (.seq (.ite (.or (.not (.call 35 (.cons (.var 3) (.cons (.var 2) .nil)))) (.cmp .ne (.call 23 (.cons (.var 0) (.cons (.var 1) .nil))) (.var 2))) (.ret (.bl false)) .nil)
 (.ret (.cmp .eq (.call 31 (.cons (.call 30 (.cons (.var 0) (.cons (.var 2) .nil))) (.cons (.var 1) .nil))) (.call 34 (.cons (.var 0) .nil))))))))
noncomputable abbrev Qcz:L2.Df:=⟨"_law_right",Qe4,["_law_tables_here","_law_m","_law_due","_law_found"],["_law_tables_here","_law_m"],⟨2,4,Qht⟩,fun _=>true,fun _=>true⟩
noncomputable abbrev ds:List L2.Df:=[Qf5,Qmn,Qj7,Qf6,Qf7,Qip,Qfd,Qhi,Qir,Qhk,Qf9,Qhm,Qgb,Qcm,Qcb,Qpw,Qen,Qgc,Qep,Qco,Qbr,Qbu,Qho,Qgd,Qj9,Qb2,Qhp,Qgf,Qgg,Qe5,Qgi,Qcp,Qdy,Qkb,Qef,Qhs,Qcz]
noncomputable abbrev Qmo:L2.E:=(.call 17 (.cons (.call 15 (.cons (.var 0) (.cons (.ix (.var 2) (.var 1)) .nil))) (.cons (.var 3) .nil)))
noncomputable abbrev ls:List (Nat × L2.Fn):=[(37,Qvd Qos Qmo)]
section
variable {P:Program} {w:World} {K:PySem.W.Frag} {mg:Str → Option Value} {base:Heap}
theorem Qtz (tx:Txt K mg):Qx P w K mg base ds Qf5:=fun cf n R f cdv A outer s H E hc hL co pz1 pz hr =>
 (q0 (fun _ h=>h) (Qu (Qae (Q46 (Qkj tx.n_isinstance Qa4 (Qc 0) (Qq1 "int" tx.n_int Qps)) (Q47 (Q45 (Qkj tx.n_isinstance Qa4 (Qc 0) (Qq1 "bool" tx.n_bool Qvn))))))))
theorem Q0i (tx:Txt K mg):Qx P w K mg base ds Qmn:=fun cf n R f cdv A outer s H E hc hL co pz1 pz hr =>
 (q0 (fun _ h=>h) (Qn (Qfu (t_w (Qkt (Qgn (Qdf (Qkj tx.n_isinstance Qa4 (Qc 0) (Qq1 "tuple" tx.n_tuple Qa9)))) (Qjc (Qzi hr.units (Qda (Qcq K rfl) (Qbl K) tx.n_len Qbh (Qa (Qc 0) Qg)) (Qc 1))))) (Qu (Qae Qws)) Qc3)
  (Qu (Qae (Qda (Quu K rfl) (Qo2 K) tx.n_all Qpr (Qa (Qb1 ["number"] [none] rfl (Qb8 rfl (Qc 0)) (fun _ _ _=>(Qai (Q6 (i:=0) (show List.Nodup (["number"]:List PySem.Str) by decide +kernel)))) (fun _ _ _=>Qb0) (fun _ _ _=>(Qt (hc 0 Qf5 rfl) Q1 hr (Qa (Qc 0) Qg)))) Qg))))))
theorem Qw3 (tx:Txt K mg):Qx P w K mg base ds Qj7:=fun cf n R f cdv A outer s H E hc hL co pz1 pz hr =>
 (q0 (fun _ h=>h) (Qn (Qfu (t_w (Qkt (Qgn (Qdf (Qkj tx.n_isinstance Qa4 (Qc 0) (Qq1 "tuple" tx.n_tuple Qa9)))) (Qkt (Qwu (Qda (Qcq K rfl) (Qbl K) tx.n_len Qbh (Qa (Qc 0) Qg)) Qj) (Qjc (Q2x (Qda (Qcq K rfl) (Qbl K) tx.n_len Qbh (Qa (Qc 0) Qg)) (Ql1 tx.m_MOST_ROWS)))))) (Qu (Qae Qws)) Qc3)
  (Qu (Qae (Qda (Quu K rfl) (Qo2 K) tx.n_all Qpr (Qa (Qb1 ["row","thing"] [none,some 0] rfl (Qb8 rfl (Qc 0)) (fun _ _ _=>(Qai (Q6 (i:=0) (show List.Nodup (["row","thing"]:List PySem.Str) by decide +kernel)))) (fun _ _ _=>Qb0) (fun _ _ _=>(Qt (hc 1 Qmn rfl) Q1 hr (Qa (Qc 0) (Qa (Qda (Qcq K rfl) (Qbl K) tx.n_len Qbh (Qa (Qc 1) Qg)) Qg))))) Qg))))))
theorem Qpx (tx:Txt K mg):Qx P w K mg base ds Qf6:=fun cf n R f cdv A outer s H E hc hL co pz1 pz hr =>
 (q0 (fun _ h=>h) (Qn (Qig (Qa8 (i:=1) Qfb.nd (Qeu Qg)))
  (Qn (Qgr rfl (Qb8 rfl (Qc 0)) (Qai (Q6 (i:=2) Qfb.nd)) (Qu (Qaci (Qg0 (Qs8 K rfl PySem.F.plainAttrs_list PySem.F.slot_list_extend PySem.F.type_list_extend (Qwg K rfl) (Qfe 1) (Qbv (Qc 2) Qeg))))))
  (Qu (Qae (Qc 1))))))
theorem Qpy (tx:Txt K mg):Qx P w K mg base ds Qf7:=fun cf n R f cdv A outer s H E hc hL co pz1 pz hr =>
 (q0 (fun _ h=>h) (Qu (Qae (Qda (Quu K rfl) (Qo2 K) tx.n_all Qpr (Qa (Qb1 ["number"] [none] rfl (Qb8 rfl (Qt (hc 3 Qf6 rfl) pz hr (Qa (Qc 0) Qg))) (fun _ _ _=>(Qai (Q6 (i:=0) (show List.Nodup (["number"]:List PySem.Str) by decide +kernel)))) (fun _ _ _=>Qb0) (fun _ _ _=>(g_lt (Qda Qabm Q8l tx.n_abs Q9g (Qa (Qc 0) Qg)) (Qu9 Qj Qj)))) Qg)))))
theorem Qt0 (tx:Txt K mg):Qx P w K mg base ds Qip:=fun cf n R f cdv A outer s H E hc hL co pz1 pz hr =>
 (q0 (fun _ h=>h) (Qn (Qfu (t_w (Qkt (Qgn (Qdf (Qkj tx.n_isinstance Qa4 (Qc 0) (Qq1 "list" tx.n_list Qvo)))) (Qkt (Qwu (Qda (Qcq K rfl) (Qbl K) tx.n_len Qbh (Qa (Qc 0) Qg)) Qj) (Qjc (Q2x (Qda (Qcq K rfl) (Qbl K) tx.n_len Qbh (Qa (Qc 0) Qg)) (Ql1 tx.m_MOST_TABLES)))))) (Qu (Qae (Q44 Qj))) Qc3)
  (Qn (Qgr rfl (Qe9 tx.n_range (Qda (Qcq K rfl) (Qbl K) tx.n_len Qbh (Qa (Qc 0) Qg))) (Qai (Q6 (i:=2) Qkn.nd)) (Qn (Qfu (t_w (Qkt (Qgn (Qdf (Qt (hc 2 Qj7 rfl) Q1 hr (Qa (Qdg rfl (Qc 0) (Qc 2)) Qg)))) (Qjc (Qzi hr.units (Qda (Qcq K rfl) (Qbl K) tx.n_len Qbh (Qa (Qdg rfl (Qc 0) (Qc 2)) Qg)) (Qda (Qcq K rfl) (Qbl K) tx.n_len Qbh (Qa (Qdg rfl (Qc 0) Qj) Qg)))))) (Qu (Qae (Qc 2))) Qc3)
  (Qu (Qfu (t_w (Qab8 (Qdf (Qc 1)) (Qjc (Qgn (Qdf (Qt (hc 4 Qf7 rfl) Q1 hr (Qa (Qdg rfl (Qc 0) (Qc 2)) Qg))))))) (Qu (Qae (Qc 2))) Qc3))))
  (Qu (Qae Qux)))))
theorem Qnk (tx:Txt K mg):Qx P w K mg base ds Qfd:=fun cf n R f cdv A outer s H E hc hL co pz1 pz hr =>
 (q0 (fun _ h=>h) (Qn (Qbb (Qa8 (i:=1) Qhe.nd (Qt (hc 5 Qip rfl) pz hr (Qa (Qc 0) (Qa Qws Qg)))))
  (Qu (Qfu (Q8w (Qc 1) Qux) (Qu Qzh) Qc3))))
theorem Qsb (tx:Txt K mg):Qx P w K mg base ds Qhi:=fun cf n R f cdv A outer s H E hc hL co pz1 pz hr =>
 (q0 (fun _ h=>h) (Qu (Qfu (t_w (Qkt (Qgn (Qdf (Qt (hc 0 Qf5 rfl) pz hr (Qa (Qc 0) Qg)))) (Qkt (Qwu (Qc 0) (Ql1 tx.m_LEAST_REST)) (Qjc (Q2x (Qc 0) (Ql1 tx.m_MOST_REST)))))) (Qu Qzh) Qc3)))
theorem Qt1 (tx:Txt K mg):Qx P w K mg base ds Qir:=fun cf n R f cdv A outer s H E hc hL co pz1 pz hr =>
 (q0 (fun _ h=>h) (Qn (Qbb (Qa8 (i:=2) Qex.nd Qj))
  (Qn (Qgr rfl (Qe9 tx.n_range (Qc 1)) (Qai (Q6 (i:=3) Qex.nd)) (Qu (Qbb (Qa8 (i:=2) Qex.nd (Qgq (Qc 2) (Qc 0))))))
  (Qu (Qae (Qc 2))))))
theorem Qsc (tx:Txt K mg):Qx P w K mg base ds Qhk:=fun cf n R f cdv A outer s H E hc hL co pz1 pz hr =>
 (q0 (fun _ h=>h) (Qn (Qig (Qa8 (i:=4) Qc7.nd (Qeu Qg)))
  (Qn (Qgr rfl (Qb8 rfl (Qc 1)) (Qai (Q6 (i:=5) Qc7.nd)) (Qu (Qgr rfl (Qe9 tx.n_range (Qc 3)) (Qai (Q6 (i:=6) Qc7.nd)) (Qn (Qbb (Qa8 (i:=7) Qc7.nd (Qacx 2 hL hr (Qa (Qc 5) (Qa (Qc 6) Qg)))))
  (Qu (Qfu (Qo5 hr.units (Qc 7) (Qc 0)) (Qn (Qo6 hr.units (Qfe 0) (Qc 7) (Qki rfl (Q5e hr.units (Qc 0) (Qc 5)) (Qbe (Qa (Qc 6) Qg))))
  (Qu (Qoa (Qg0 (Qs8 K rfl PySem.F.plainAttrs_list PySem.F.slot_list_append PySem.F.type_list_append Qff (Qfe 4) (Qbv (Qc 7) Qeg)))))) Qc3))))))
  (Qu (Qae (Qc 4))))))
theorem Qpz (tx:Txt K mg):Qx P w K mg base ds Qf9:=fun cf n R f cdv A outer s H E hc hL co pz1 pz hr =>
 (q0 (fun _ h=>h) (Qn (Qig (Qa8 (i:=3) Qdm.nd (Qd0 Q2y Qzp tx.n_dict Q3h (Qa (Qc 0) Qg))))
  (Qn (Qbb (Qa8 (i:=4) Qdm.nd (Qd0 (Q20 rfl) Q23 tx.n_list Qvo (Qa (Qc 0) Qg))))
  (Qn (Q5c (Qzi hr.units (Qc 4) (Qeu Qg)) (Qu (Qbb (Qa8 (i:=4) Qdm.nd (Qt (hc 9 Qhk rfl) Q1 hr (Qa (Qc 3) (Qa (Qc 4) (Qa (Qc 1) (Qa (Qc 2) Qg)))))))))
  (Qu (Qae (Qc 3)))))))
theorem Qsd (tx:Txt K mg):Qx P w K mg base ds Qhm:=fun cf n R f cdv A outer s H E hc hL co pz1 pz hr =>
 (q0 (fun _ h=>h) (Qu (Qae (Qd0 (Qcg K rfl) (Qdv K) tx.n_tuple Qa9 (Qa (Qb1 ["row","at"] [none,some 1] rfl (Qb8 rfl (Qc 0)) (fun _ _ _=>(Qai (Q6 (i:=0) (show List.Nodup (["row","at"]:List PySem.Str) by decide +kernel)))) (fun _ _ _=>Qb0) (fun _ _ _=>(Qdg rfl (Qc 0) (Qc 1)))) Qg)))))
theorem Qp0 (tx:Txt K mg):Qx P w K mg base ds Qgb:=fun cf n R f cdv A outer s H E hc hL co pz1 pz hr =>
 (q0 (fun _ h=>h) (Qu (Qae (Qd0 (Qcg K rfl) (Qdv K) tx.n_tuple Qa9 (Qa (Qb1 ["at","table"] [none,some 0] rfl (Qe9 tx.n_range (Qda (Qcq K rfl) (Qbl K) tx.n_len Qbh (Qa (Qc 0) Qg))) (fun _ _ _=>(Qai (Q6 (i:=0) (show List.Nodup (["at","table"]:List PySem.Str) by decide +kernel)))) (fun _ _ _=>Qb0) (fun _ _ _=>(Qt (hc 11 Qhm rfl) Q1 hr (Qa (Qc 1) (Qa (Qc 0) Qg))))) Qg)))))
theorem Qiv (tx:Txt K mg):Qx P w K mg base ds Qcm:=fun cf n R f cdv A outer s H E hc hL co pz1 pz hr =>
 (q0 (fun _ h=>h) (Qu (Qae (Qda (Q4v K rfl) (Qy5 K) tx.n_sum Q0h (Qa (Qb1 ["k","row","column"] [none,some 0,some 1] rfl (Qe9 tx.n_range (Qda (Qcq K rfl) (Qbl K) tx.n_len Qbh (Qa (Qc 0) Qg))) (fun _ _ _=>(Qai (Q6 (i:=0) (show List.Nodup (["k","row","column"]:List PySem.Str) by decide +kernel)))) (fun _ _ _=>Qb0) (fun _ _ _=>(Qgq (Qdg rfl (Qc 1) (Qc 0)) (Qdg rfl (Qc 2) (Qc 0))))) Qg)))))
theorem Qh8 (tx:Txt K mg):Qx P w K mg base ds Qcb:=fun cf n R f cdv A outer s H E hc hL co pz1 pz hr =>
 (q0 (fun _ h=>h) (Qu (Qae (Qd0 (Qcg K rfl) (Qdv K) tx.n_tuple Qa9 (Qa (Qb1 ["column","row"] [none,some 0] rfl (Qb8 rfl (Qc 1)) (fun _ _ _=>(Qai (Q6 (i:=0) (show List.Nodup (["column","row"]:List PySem.Str) by decide +kernel)))) (fun _ _ _=>Qb0) (fun _ _ _=>(Qt (hc 13 Qcm rfl) Q1 hr (Qa (Qc 1) (Qa (Qc 0) Qg))))) Qg)))))
theorem Q3i (tx:Txt K mg):Qx P w K mg base ds Qpw:=fun cf n R f cdv A outer s H E hc hL co pz1 pz hr =>
 (q0 (fun _ h=>h) (Qn (Qbb (Qa8 (i:=2) Qr0.nd (Qt (hc 12 Qgb rfl) pz hr (Qa (Qc 1) Qg))))
  (Qu (Qae (Qd0 (Qcg K rfl) (Qdv K) tx.n_tuple Qa9 (Qa (Qb1 ["row","columns"] [none,some 2] rfl (Qb8 rfl (Qc 0)) (fun _ _ _=>(Qai (Q6 (i:=0) (show List.Nodup (["row","columns"]:List PySem.Str) by decide +kernel)))) (fun _ _ _=>Qb0) (fun _ _ _=>(Qt (hc 14 Qcb rfl) Q1 hr (Qa (Qc 0) (Qa (Qc 1) Qg))))) Qg))))))
theorem Qmp (tx:Txt K mg):Qx P w K mg base ds Qen:=fun cf n R f cdv A outer s H E hc hL co pz1 pz hr =>
 (q0 (fun _ h=>h) (Qu (Qae (Qd0 (Qcg K rfl) (Qdv K) tx.n_tuple Qa9 (Qa (Qb1 ["number","m"] [none,some 1] rfl (Qb8 rfl (Qc 0)) (fun _ _ _=>(Qai (Q6 (i:=0) (show List.Nodup (["number","m"]:List PySem.Str) by decide +kernel)))) (fun _ _ _=>Qb0) (fun _ _ _=>(Ql2 (Qc 0) (Qc 1)))) Qg)))))
theorem Qt2 (tx:Txt K mg):Qx P w K mg base ds Qgc:=fun cf n R f cdv A outer s H E hc hL co pz1 pz hr =>
 (q0 (fun _ h=>h) (Qu (Qae (Qd0 (Qcg K rfl) (Qdv K) tx.n_tuple Qa9 (Qa (Qb1 ["row","m"] [none,some 1] rfl (Qb8 rfl (Qc 0)) (fun _ _ _=>(Qai (Q6 (i:=0) (show List.Nodup (["row","m"]:List PySem.Str) by decide +kernel)))) (fun _ _ _=>Qb0) (fun _ _ _=>(Qt (hc 16 Qen rfl) Q1 hr (Qa (Qc 0) (Qa (Qc 1) Qg))))) Qg)))))
theorem Qmq (tx:Txt K mg):Qx P w K mg base ds Qep:=fun cf n R f cdv A outer s H E hc hL co pz1 pz hr =>
 (q0 (fun _ h=>h) (Qu (Qae (Qb1 ["table","m"] [none,some 1] rfl (Qb8 rfl (Qc 0)) (fun _ _ _=>(Qai (Q6 (i:=0) (show List.Nodup (["table","m"]:List PySem.Str) by decide +kernel)))) (fun _ _ _=>Qb0) (fun _ _ _=>(Qt (hc 17 Qgc rfl) Q1 hr (Qa (Qc 0) (Qa (Qc 1) Qg))))))))
theorem Qiw (tx:Txt K mg):Qx P w K mg base ds Qco:=fun cf n R f cdv A outer s H E hc hL co pz1 pz hr =>
 (q0 (fun _ h=>h) (Qu (Qae (Qt (hc 8 Qir rfl) pz hr (Qa (Qc 1) (Qa (Qgq (Qc 0) (Qc 0)) Qg))))))
theorem Qgk (tx:Txt K mg):Qx P w K mg base ds Qbr:=fun cf n R f cdv A outer s H E hc hL co pz1 pz hr =>
 (q0 (fun _ h=>h) (Qn (Qbb (Qa8 (i:=2) Qcy.nd (Qt (hc 19 Qco rfl) pz hr (Qa (Qc 0) (Qa (Qc 1) Qg)))))
  (Qu (Qfu (Q2x (Qc 2) (Ql1 tx.m_MOST_REST_TABLES)) (Qu Qzh) Qc3))))
theorem Qe6:∀ x,Qbu.fc x = true → Qbu.f1 x = true:=fun x h=>by
 simp only [Bool.not_eq_true',Bool.or_eq_false_iff] at h ⊢
 exact h.1
theorem Qkz (tx:Txt K mg):Qx P w K mg base ds Qbu:=fun cf n R f cdv A outer s H E hc hL co pz1 pz hr =>
 (Q26 Qe6 (Qbb (Qa8 (i:=2) Qb6.nd (Qt (hc 18 Qep rfl) pz1 hr (Qa (Qc 0) (Qa (Qc 1) Qg)))))
  (q0 Qe6 (Qn (Qig (Qa8 (i:=3) Qb6.nd Qzl))
  (Qn (Qgr rfl (Qe9 tx.n_range (Qda (Qcq K rfl) (Qbl K) tx.n_len Qbh (Qa (Qc 2) Qg))) (Qai (Q6 (i:=4) Qb6.nd)) (Qu (Qfu (Qo5 hr.units (Qdg rfl (Qc 2) (Qc 4)) (Qc 3)) (Qu (Qo6 hr.units (Qfe 3) (Qdg rfl (Qc 2) (Qc 4)) (Qbe (Qa (Qc 4) Qg)))) Qc3)))
  (Qu (Qae (Qt (hc 10 Qf9 rfl) pz hr (Qa (Qc 3) (Qa (Qacy (l:=Qos) (cs:=[_,_]) tx.ct_ways_to_rests co rfl rfl rfl rfl (by first | exact ⟨⟨rfl,rfl,rfl,rfl,Nat.le_succ _⟩,⟨rfl,rfl,rfl,rfl,Nat.le_trans (Nat.le_succ _) (Nat.le_succ _)⟩,trivial⟩ | exact ⟨⟨rfl,rfl,rfl,rfl,Nat.le_trans (Nat.le_succ _) (Nat.le_succ _)⟩,⟨rfl,rfl,rfl,rfl,Nat.le_succ _⟩,trivial⟩) (by first | exact nd2 _ | exact nd2' _)) (Qa (Qda (Qcq K rfl) (Qbl K) tx.n_len Qbh (Qa (Qc 2) Qg)) Qg))))))))))
theorem Qse (tx:Txt K mg):Qx P w K mg base ds Qho:=fun cf n R f cdv A outer s H E hc hL co pz1 pz hr =>
 (q0 (fun _ h=>h) (Qu (Qae (Qgq (Qbe (Qa (Qgq (Qbe (Qa Qj Qg)) (Qc 0)) Qg)) (Qc 0)))))
theorem Qt3 (tx:Txt K mg):Qx P w K mg base ds Qgd:=fun cf n R f cdv A outer s H E hc hL co pz1 pz hr =>
 (q0 (fun _ h=>h) (Qn (Qtj (Qt (hc 6 Qfd rfl) pz hr (Qa (Qc 0) Qg)))
  (Qn (Qtj (Qt (hc 7 Qhi rfl) pz hr (Qa (Qc 1) Qg)))
  (Qn (Qtj (Qt (hc 20 Qbr rfl) pz hr (Qa (Qda (Qcq K rfl) (Qbl K) tx.n_len Qbh (Qa (Qdg rfl (Qc 0) Qj) Qg)) (Qa (Qc 1) Qg))))
  (Qu (Qae (Q5f hr.units (Qt (hc 21 Qbu rfl) pz hr (Qa (Qc 0) (Qa (Qc 1) Qg))) (Qt (hc 22 Qho rfl) pz hr (Qa (Qda (Qcq K rfl) (Qbl K) tx.n_len Qbh (Qa (Qdg rfl (Qc 0) Qj) Qg)) Qg)))))))))
theorem Qw4 (tx:Txt K mg):Qx P w K mg base ds Qj9:=fun cf n R f cdv A outer s H E hc hL co pz1 pz hr =>
 (q0 (fun _ h=>h) (Qn (Qbb (Qa8 (i:=1) Qmk.nd (Qda (Q8m K rfl rfl) (Q8n K) tx.n_max Q9h (Qa (Qc 0) (Qa (Qu8 Qj (Qc 0)) Qg)))))
  (Qu (Qae (Qeu (Qa (Qc 1) (Qa (Qd0 Qyf Qy6 tx.n_int Qps (Qa (g_ge (Qc 1) (Qu9 Qj Qj)) Qg)) Qg)))))))
theorem Qt4 (tx:Txt K mg):Qx P w K mg base ds Qb2:=fun cf n R f cdv A outer s H E hc hL co pz1 pz hr =>
 (q0 (fun _ h=>h) (Qn (Qfu (t_eq hr.units (Qdg rfl (Qc 0) Qj) Qj) (Qn (Qzd (Qq2 (Qda Qabo Q8o tx.n_divmod Qw2 (Qa (Qdg rfl (Qc 0) Qj) (Qa (Qc 1) Qg))) (Qj0 (is:=[2,3]) (Qjv K rfl rfl (Qcf (Q6 (i:=2) Qdu.nd) (Qcf (Q6 (i:=3) Qdu.nd) Qju))) rfl)))
  (Qn (Q5b (Qq2 (Qc 2) (Qyd (Qfe 0) Qj)))
  (Qu (Qae (Qc 3))))) Qc3)
  (Qn (Qbb (Qa8 (i:=4) Qdu.nd (Ql2 (Qgq (Qki rfl (Ql2 (Qdg rfl (Qc 0) Qj) Qj) Qj) Qj) Qj)))
  (Qn (Qbb (Qa8 (i:=4) Qdu.nd (Ql2 (Qki rfl (Qgq (Qc 4) (Qc 4)) Qj) Qj)))
  (Qn (Q5b (Qq2 (Ql2 (Qki rfl (Qgq (Qc 4) Qj) Qj) Qj) (Qyd (Qfe 0) Qj)))
  (Qu (Qae (Ql2 (Qack (Qdg rfl (Qc 0) Qj) Qj) (Qc 1)))))))))
theorem Qsf (tx:Txt K mg):Qx P w K mg base ds Qhp:=fun cf n R f cdv A outer s H E hc hL co pz1 pz hr =>
 (q0 (fun _ h=>h) (Qu (Qae (Q46 (Qkj tx.n_isinstance Qa4 (Qc 0) (Qq1 "int" tx.n_int Qps)) (Q47 (Q45 (Qkj tx.n_isinstance Qa4 (Qc 0) (Qq1 "bool" tx.n_bool Qvn))))))))
theorem Qp1 (tx:Txt K mg):Qx P w K mg base ds Qgf:=fun cf n R f cdv A outer s H E hc hL co pz1 pz hr =>
 (q0 (fun _ h=>h) (Qn (Qbb (Qa8 (i:=3) Qbc.nd (Qki rfl Qj (Qt (hc 25 Qb2 rfl) pz hr (Qa (Qc 0) (Qa (Qc 2) Qg))))))
  (Qn (Qbb (Qa8 (i:=4) Qbc.nd (Qt (hc 25 Qb2 rfl) pz hr (Qa (Qc 0) (Qa Qj Qg)))))
  (Qn (Qig (Qa8 (i:=5) Qbc.nd (Qeu Qg)))
  (Qn (Qgr rfl (Qe9 tx.n_range (Qc 3)) (Qai (Q6 (i:=6) Qbc.nd)) (Qn (Qig (Qa8 (i:=7) Qbc.nd (Qeu Qg)))
  (Qn (Qgr rfl (Qe9 tx.n_range (Qc 1)) (Qai (Q6 (i:=8) Qbc.nd)) (Qu (Qoa (Qg0 (Qs8 K rfl PySem.F.plainAttrs_list PySem.F.slot_list_append PySem.F.type_list_append Qff (Qfe 7) (Qbv (Qd0 (Qcg K rfl) (Qdv K) tx.n_tuple Qa9 (Qa (Qb1 ["_law_j","_law_pen_here","_law_kind"] [none,some 0,some 4] rfl (Qe9 tx.n_range (Qc 1)) (fun _ _ _=>(Qai (Q6 (i:=0) (show List.Nodup (["_law_j","_law_pen_here","_law_kind"]:List PySem.Str) by decide +kernel)))) (fun _ _ _=>Qb0) (fun _ _ _=>(Qt (hc 28 Qgg rfl) Q1 hr (Qa (Qc 1) (Qa (Qc 2) Qg))))) Qg)) Qeg))))))
  (Qu (Qoa (Qg0 (Qs8 K rfl PySem.F.plainAttrs_list PySem.F.slot_list_append PySem.F.type_list_append Qff (Qfe 5) (Qbv (Qd0 (Qcg K rfl) (Qdv K) tx.n_tuple Qa9 (Qa (Qc 7) Qg)) Qeg))))))))
  (Qu (Qae (Qc 5))))))))
theorem Qp2 (tx:Txt K mg):Qx P w K mg base ds Qgg:=fun cf n R f cdv A outer s H E hc hL co pz1 pz hr =>
 (q0 (fun _ h=>h) (Qn (Qfu (Qwu (Qc 1) Qj) (Qu (Qae (Qdg rfl (Qeu (Qa Qj (Qa Qj (Qa Qj (Qa Qj (Qa Qj (Qa (Q44 Qj) Qg))))))) (Qt (hc 25 Qb2 rfl) pz hr (Qa (Qc 0) (Qa Qj Qg)))))) Qc3)
  (Qn (Qfu (Qwu (Qc 1) Qj) (Qu (Qae (Qu8 (Qt (hc 25 Qb2 rfl) pz hr (Qa (Qc 0) (Qa Qj Qg))) Qj))) Qc3)
  (Qu (Qae (Qki rfl (Qu8 (Qt (hc 25 Qb2 rfl) pz hr (Qa (Qc 0) (Qa (Qu8 (Qgq Qj (Qu9 Qj Qj)) Qj) Qg))) (Qu9 Qj Qj)) Qj))))))
theorem Qsg (tx:Txt K mg):Qx P w K mg base ds Qe5:=fun cf n R f cdv A outer s H E hc hL co pz1 pz hr =>
 (q0 (fun _ h=>h) (Qn (Qig (Qa8 (i:=2) Qf2.nd (Qeu Qg)))
  (Qn (Qgr rfl (Qb8 rfl (Qc 0)) (Qai (Q6 (i:=3) Qf2.nd)) (Qu (Qoa (Qg0 (Qs8 K rfl PySem.F.plainAttrs_list PySem.F.slot_list_append PySem.F.type_list_append Qff (Qfe 2) (Qbv (Qd0 (Qcg K rfl) (Qdv K) tx.n_tuple Qa9 (Qa (Qb1 ["_law_j","_law_row","_law_other"] [none,some 3,some 1] rfl (Qe9 tx.n_range (Qda (Qcq K rfl) (Qbl K) tx.n_len Qbh (Qa (Qc 1) Qg))) (fun _ _ _=>(Qai (Q6 (i:=0) (show List.Nodup (["_law_j","_law_row","_law_other"]:List PySem.Str) by decide +kernel)))) (fun _ _ _=>Qb0) (fun _ _ _=>(Qda (Q4v K rfl) (Qy5 K) tx.n_sum Q0h (Qa (Qb1 ["_law_a","_law_line","_law_j"] [none,none,some 0] rfl (Qacp rfl tx.n_zip Q9i (Qc 1) (Qc 2)) (fun _ _ _=>(Qj0 (is:=[0,1]) (Qjv K rfl rfl (Qcf (Q6 (i:=0) (show List.Nodup (["_law_a","_law_line","_law_j"]:List PySem.Str) by decide +kernel)) (Qcf (Q6 (i:=1) (show List.Nodup (["_law_a","_law_line","_law_j"]:List PySem.Str) by decide +kernel)) Qju))) rfl)) (fun _ _ _=>Qb0) (fun _ _ _=>(Qgq (Qc 0) (Qdg rfl (Qc 1) (Qc 2))))) Qg)))) Qg)) Qeg))))))
  (Qu (Qae (Qd0 (Qcg K rfl) (Qdv K) tx.n_tuple Qa9 (Qa (Qc 2) Qg)))))))
theorem Qp3 (tx:Txt K mg):Qx P w K mg base ds Qgi:=fun cf n R f cdv A outer s H E hc hL co pz1 pz hr =>
 (q0 (fun _ h=>h) (Qn (Qbb (Qa8 (i:=2) Qdn.nd (Qdg rfl (Qc 0) (Qdg rfl (Qc 1) Qj))))
  (Qn (Qgr rfl (Qb8 rfl (Qaco rfl (Qc 1) (Q2n Qj) Q2l)) (Qai (Q6 (i:=3) Qdn.nd)) (Qu (Qbb (Qa8 (i:=2) Qdn.nd (Qt (hc 29 Qe5 rfl) Q1 hr (Qa (Qc 2) (Qa (Qdg rfl (Qc 0) (Qc 3)) Qg)))))))
  (Qu (Qae (Qc 2))))))
theorem Qt5 (tx:Txt K mg):Qx P w K mg base ds Qcp:=fun cf n R f cdv A outer s H E hc hL co pz1 pz hr =>
 (q0 (fun _ h=>h) (Qu (Qae (Qd0 (Qcg K rfl) (Qdv K) tx.n_tuple Qa9 (Qa (Qb1 ["_law_row","_law_m"] [none,some 1] rfl (Qb8 rfl (Qc 0)) (fun _ _ _=>(Qai (Q6 (i:=0) (show List.Nodup (["_law_row","_law_m"]:List PySem.Str) by decide +kernel)))) (fun _ _ _=>Qb0) (fun _ _ _=>(Qd0 (Qcg K rfl) (Qdv K) tx.n_tuple Qa9 (Qa (Qb1 ["_law_number_here","_law_m"] [none,some 1] rfl (Qb8 rfl (Qc 0)) (fun _ _ _=>(Qai (Q6 (i:=0) (show List.Nodup (["_law_number_here","_law_m"]:List PySem.Str) by decide +kernel)))) (fun _ _ _=>Qb0) (fun _ _ _=>(Ql2 (Qc 0) (Qc 1)))) Qg)))) Qg)))))
theorem Qk0 (tx:Txt K mg):Qx P w K mg base ds Qdy:=fun cf n R f cdv A outer s H E hc hL co pz1 pz hr =>
 (q0 (fun _ h=>h) (Qn (Qig (Qa8 (i:=2) Q8.nd Qzl))
  (Qn (Qig (Qa8 (i:=3) Q8.nd (Qeu Qg)))
  (Qn (Qgr rfl (Q5d rfl tx.n_enumerate Qjp (Qc 0)) (Qj0 (is:=[4,5]) (Qjv K rfl rfl (Qcf (Q6 (i:=4) Q8.nd) (Qcf (Q6 (i:=5) Q8.nd) Qju))) rfl) (Qu (Qfu (Qo5 hr.units (Qt (hc 31 Qcp rfl) Q1 hr (Qa (Qc 5) (Qa (Qc 1) Qg))) (Qc 2)) (Qn (Qo6 hr.units (Qfe 2) (Qt (hc 31 Qcp rfl) Q1 hr (Qa (Qc 5) (Qa (Qc 1) Qg))) (Qbe (Qa (Qc 4) Qg)))
  (Qu (Qoa (Qg0 (Qs8 K rfl PySem.F.plainAttrs_list PySem.F.slot_list_append PySem.F.type_list_append Qff (Qfe 3) (Qbv (Qt (hc 31 Qcp rfl) Q1 hr (Qa (Qc 5) (Qa (Qc 1) Qg))) Qeg)))))) Qc3)))
  (Qn (Qbb (Qa8 (i:=6) Q8.nd Qj))
  (Qn (Q5c (Qwu (Qc 6) (Qda (Qcq K rfl) (Qbl K) tx.n_len Qbh (Qa (Qc 3) Qg))) (Qn (Qgr rfl (Q5d rfl tx.n_enumerate Qjp (Qc 0)) (Qj0 (is:=[4,5]) (Qjv K rfl rfl (Qcf (Q6 (i:=4) Q8.nd) (Qcf (Q6 (i:=5) Q8.nd) Qju))) rfl) (Qn (Qbb (Qa8 (i:=7) Q8.nd (Qt (hc 31 Qcp rfl) Q1 hr (Qa (Qt (hc 29 Qe5 rfl) Q1 hr (Qa (Qdg rfl (Qc 3) (Qc 6)) (Qa (Qc 5) Qg))) (Qa (Qc 1) Qg)))))
  (Qu (Qfu (Qo5 hr.units (Qc 7) (Qc 2)) (Qn (Qo6 hr.units (Qfe 2) (Qc 7) (Qki rfl (Q5e hr.units (Qc 2) (Qdg rfl (Qc 3) (Qc 6))) (Qbe (Qa (Qc 4) Qg))))
  (Qu (Qoa (Qg0 (Qs8 K rfl PySem.F.plainAttrs_list PySem.F.slot_list_append PySem.F.type_list_append Qff (Qfe 3) (Qbv (Qc 7) Qeg)))))) Qc3))))
  (Qu (Qbb (Qa8 (i:=6) Q8.nd (Qki rfl (Qc 6) Qj))))))
  (Qu (Qae (Qc 2)))))))))
theorem Qw5 (tx:Txt K mg):Qx P w K mg base ds Qkb:=fun cf n R f cdv A outer s H E hc hL co pz1 pz hr =>
 (q0 (fun _ h=>h) (Qn (Qzd (Qq2 (Qdg rfl (Qeu (Qa (Qbe (Qa Qj (Qa Qj Qg))) (Qa (Qbe (Qa Qj (Qa Qj Qg))) (Qa (Qbe (Qa Qj (Qa Qj Qg))) (Qa (Qbe (Qa Qj (Qa Qj Qg))) (Qa (Qbe (Qa Qj (Qa Qj Qg))) (Qa (Qbe (Qa Qj (Qa Qj Qg))) (Qa (Qbe (Qa Qj (Qa Qj Qg))) (Qa (Qbe (Qa Qj (Qa Qj Qg))) (Qa (Qbe (Qa Qj (Qa Qj Qg))) (Qa (Qbe (Qa Qj (Qa Qj Qg))) Qg))))))))))) (Qt (hc 25 Qb2 rfl) pz hr (Qa (Qc 0) (Qa Qj Qg)))) (Qj0 (is:=[1,2]) (Qjv K rfl rfl (Qcf (Q6 (i:=1) Qin.nd) (Qcf (Q6 (i:=2) Qin.nd) Qju))) rfl)))
  (Qu (Qae (Qbe (Qa (Qt (hc 27 Qgf rfl) pz hr (Qa (Qc 0) (Qa (Qc 1) (Qa (Qdg rfl (Qeu (Qa Qj (Qa Qj Qg))) (Qd0 Qyf Qy6 tx.n_int Qps (Qa (g_eq hr.units (Qc 1) Qj) Qg))) Qg)))) (Qa (Qc 2) Qg)))))))
theorem Qp4 (tx:Txt K mg):Qx P w K mg base ds Qef:=fun cf n R f cdv A outer s H E hc hL co pz1 pz hr =>
 (q0 (fun _ h=>h) (Qu (Qae (Qgq (Qbe (Qa (Qgq (Qbe (Qa Qj Qg)) (Qda (Qcq K rfl) (Qbl K) tx.n_len Qbh (Qa (Qdg rfl (Qc 0) Qj) Qg))) Qg)) (Qda (Qcq K rfl) (Qbl K) tx.n_len Qbh (Qa (Qdg rfl (Qc 0) Qj) Qg))))))
theorem Qsh (tx:Txt K mg):Qx P w K mg base ds Qhs:=fun cf n R f cdv A outer s H E hc hL co pz1 pz hr =>
 (q0 (fun _ h=>h) (Qn (Qfu (t_w (Qkt (Qgn (Qdf (Qkj tx.n_isinstance Qa4 (Qc 0) (Qq1 "tuple" tx.n_tuple Qa9)))) (Qjc (Qzi hr.units (Qc 0) (Qc 1))))) (Qu (Qae Qws)) Qc3)
  (Qu (Qae (Qda (Quu K rfl) (Qo2 K) tx.n_all Qpr (Qa (Qb1 ["_law_one"] [none] rfl (Qb8 rfl (Qc 0)) (fun _ _ _=>(Qai (Q6 (i:=0) (show List.Nodup (["_law_one"]:List PySem.Str) by decide +kernel)))) (fun _ _ _=>Qb0) (fun _ _ _=>(Qt (hc 26 Qhp rfl) Q1 hr (Qa (Qc 0) Qg)))) Qg))))))
theorem Qsi (tx:Txt K mg):Qx P w K mg base ds Qcz:=fun cf n R f cdv A outer s H E hc hL co pz1 pz hr =>
 (q0 (fun _ h=>h) (Qn (Qbb (Qa8 (i:=2) Qf4.nd (Q5f hr.units (Qt (hc 32 Qdy rfl) pz hr (Qa (Qc 0) (Qa (Qc 1) Qg))) (Qt (hc 34 Qef rfl) pz hr (Qa (Qc 0) Qg)))))
  (Qn (Qbb (Qa8 (i:=3) Qf4.nd (Qt (hc 23 Qgd rfl) pz hr (Qa (Qc 0) (Qa (Qc 1) Qg)))))
  (Qn (Qfu (Qacn (Qc 2) Qux) (Qu (Qae (Qacm (Qc 3) Qux))) Qc3)
  (Qn (Qfu (t_w (Qkt (Qgn (Qdf (Qt (hc 35 Qhs rfl) pz hr (Qa (Qc 3) (Qa (Qc 2) Qg))))) (Qjc (Qzi hr.units (Qt (hc 23 Qgd rfl) pz hr (Qa (Qc 0) (Qa (Qc 1) Qg))) (Qc 2))))) (Qu (Qae Qws)) Qc3)
  (Qu (Qae (g_eq hr.units (Qt (hc 31 Qcp rfl) pz hr (Qa (Qt (hc 30 Qgi rfl) pz hr (Qa (Qc 0) (Qa (Qc 2) Qg))) (Qa (Qc 1) Qg))) (Qt (hc 34 Qef rfl) pz hr (Qa (Qc 0) Qg))))))))))
theorem Q3j (tx:Txt K mg):Qo8 P w K mg base ds Qos Qmo:=fun cf n R f cdv cl A outer s H hc hL pz hr =>
 (Qt (hc 17 Qgc rfl) pz hr (Qa (Qt (hc 15 Qpw rfl) pz hr (Qa (Qc 0) (Qa (Qdg rfl (Qc 2) (Qc 1)) Qg))) (Qa (Qc 3) Qg)))
theorem Q3k:LamSc Qos:=⟨rfl,rfl,rfl,by decide +kernel,by decide +kernel,by decide +kernel,by decide +kernel,by decide +kernel,fun _ _ _ _ us hl=>match us,hl with | [a0,a1],_=>rfl⟩
theorem Qp5 (d:Dfn K mg "_law_cell" Qel) (tx:Txt K mg):Has P w K mg base "_law_cell" ["_law_script","_law_k"] 1 (Qma K):=by
 refine Qabp (k:=0) d Qr5 Qr6 (fun vs H Q E h=>?_) (fun f cdv A outer s H vs Q E hr h=>?_)
 ·obtain ⟨a,ns,k,rfl,_⟩:=h
  rfl
 ·obtain ⟨a,ns,k,rfl,hs,q⟩:=h
  refine ⟨_,(Qk3 (Qye (Qyc Q7u (Qfe 1) (Q7r (Qcq K rfl) tx.n_len Qbh (Qbv (Qfe 0) Qeg)) (Q6v _)) (Qow (Qut (q_ix (o_ix K rfl) (Qfe 0) (Qfe 1)))) Qta)
   (Qow (Qut Qq0))),?_⟩
  refine ⟨_,rfl,_,rfl,a,_,rfl,.inl hs,_,_,rfl,rfl,_,rfl,?_⟩
  refine ite2 (fun c=>?_) (fun c=>?_)
  ·have c:(k:Int) < (ns.map V.int).length:=by simpa using c
   have hk:k < ns.length:=by rw [List.length_map] at c; omega
   refine ⟨_,rfl,_,rfl,.inl ⟨a,_,_,_,rfl,rfl,hs,Qan (v:=V.int ns[k]) ?_,q _⟩⟩
   rw [List.getElem?_map,List.getElem?_eq_getElem hk]
   rfl
  ·exact q _
noncomputable abbrev Q5q:L2.E:=(.or (.not (.call 36 (.cons (.lst (.cons (.tup (.cons (.tup (.cons (.int 6) .nil)) .nil)) .nil)) (.cons (.int 2) .nil)))) (.or (.not (.call 36 (.cons (.lst (.cons (.tup (.cons (.tup (.cons (.int 2) .nil)) .nil)) (.cons (.tup (.cons (.tup (.cons (.int 3) .nil)) .nil)) .nil))) (.cons (.int 6) .nil)))) (.not (.call 36 (.cons (.lst (.cons (.tup (.cons (.tup (.cons (.int 0) (.cons (.int 1) .nil))) (.cons (.tup (.cons (.int 0) (.cons (.int 0) .nil))) .nil))) .nil)) (.cons (.int 3) .nil))))))
noncomputable abbrev Qt6:L2.S:=(.seq (.set 2 (.call 24 (.cons (.var 1) .nil)))
 (.seq (.unp [3,4] (.call 33 (.cons (.var 2) .nil)))
 (.ite (.not (.call 36 (.cons (.var 3) (.cons (.var 4) .nil)))) (.ret (.bl false)) .nil)))
theorem Qadi (tx:Txt K mg) {cf:CF} {f:Addr} {cdv:Value} {A:Around} {outer:List Env} {s:Shared} {H:Hp} {E:XK} (hc:Ql0 P w K mg base ds cf 14) (h_cell:Has P w K mg base "_law_cell" ["_law_script","_law_k"] 1 (Qma K)) (hr:Room 14 (A.deeper (PyProof.Rows.envOfC "law" (Qf Qko) s.heap.objs.size f cdv))) :
  QB (Qh1 (fun _=>true) CX0 P w K mg base ["_law_script","_law_cell_here","_law_pen_here","_law_tables_here","_law_m"] "law" (Qf Qko) f cdv A outer s H E).nox (Qa1 Qko) (Q5g ⟨cf,fun _ _ _ _=>False,mg⟩ K Q5q 1 3 Qt6) :=
 Qk3 (Qye (t_w (Qkt (Qgn (Qdf (Qt (hc 36 Qcz rfl) Q1 hr (Qa (Qeu (Qa (Qbe (Qa (Qbe (Qa Qj Qg)) Qg)) Qg)) (Qa Qj Qg))))) (Qkt (Qgn (Qdf (Qt (hc 36 Qcz rfl) Q1 hr (Qa (Qeu (Qa (Qbe (Qa (Qbe (Qa Qj Qg)) Qg)) (Qa (Qbe (Qa (Qbe (Qa Qj Qg)) Qg)) Qg))) (Qa Qj Qg))))) (Qjc (Qgn (Qdf (Qt (hc 36 Qcz rfl) Q1 hr (Qa (Qeu (Qa (Qbe (Qa (Qbe (Qa Qj (Qa Qj Qg))) (Qa (Qbe (Qa Qj (Qa Qj Qg))) Qg))) Qg)) (Qa Qj Qg))))))))) Qzz Qta)
  (Qk3 (Q4r PassesOwn.never rfl (Q4q K rfl (q_op (Q4s K rfl) (Q4p (Qbv (q_fn h_cell (hr.mono (by decide)) (Qbv (Qfe 0) (Qbv Qq0 Qeg))) Qeg)) (q_sl (o_sl K rfl) (Qfe 0) (Qs9 Qq0) (Qs9 Qq0)))) (Q6 (i:=1) Qml.nd)
   (Qn (Qig (Qa8 (i:=2) Qml.nd (Qt (hc 24 Qj9 rfl) Q1 hr (Qa (Qc 1) Qg))))
  (Qn (Qzd (Qq2 (Qt (hc 33 Qkb rfl) Q1 hr (Qa (Qc 2) Qg)) (Qj0 (is:=[3,4]) (Qjv K rfl rfl (Qcf (Q6 (i:=3) Qml.nd) (Qcf (Q6 (i:=4) Qml.nd) Qju))) rfl)))
  (Qu (Qfu (Qgn (Qdf (Qt (hc 36 Qcz rfl) Q1 hr (Qa (Qc 3) (Qa (Qc 4) Qg))))) (Qu (Qae Qws)) Qc3)))))
  (Qow (Qut q_bl)))
end
noncomputable abbrev Tb:=List (List Int)
noncomputable abbrev En2:=Tb × List Int
noncomputable def dd:List En2 → List En2 → List En2
 | _,[]=>[]
 | D,p :: P=>if (D.lookup p.1).isSome then dd D P else p :: dd (D ++ [p]) P
theorem Qdo (D:List En2) (p:En2) (P:List En2):dd D (p :: P) = if (D.lookup p.1).isSome = true then dd D P else p :: dd (D ++ [p]) P:=rfl
section
variable (m:Nat) (st:Tb → Nat → Tb)
noncomputable def ex1 (p:En2):List En2:=(List.range m).map fun k=>(st p.1 k,p.2 ++ [(k:Int)])
noncomputable def exs (P:List En2):List En2:=P.flatMap (ex1 m st)
end
theorem Qhu {D E:List En2} {z:Tb}:(D ++ E).lookup z = ((D.lookup z).or (E.lookup z)):=by
 induction D with
 | nil=>rfl
 | cons p D ih =>
  rw [List.cons_append,List.lookup_cons,List.lookup_cons]
  cases z == p.1 with
  | true=>rfl
  | false=>exact ih
theorem Qix:∀ (P Q D:List En2),dd D (P ++ Q) = dd D P ++ dd (D ++ dd D P) Q
 | [],Q,D=>by simp [dd]
 | p :: P,Q,D=>by
  rw [List.cons_append,Qdo,Qdo]
  by_cases h:(D.lookup p.1).isSome = true
  ·rw [if_pos h,if_pos h]; exact Qix P Q D
  ·rw [if_neg h,if_neg h,Qix P Q (D ++ [p]),List.cons_append,List.append_assoc]
   rfl
theorem Q0j {D:List En2} {z:Tb} {w:List Int} (h:D.lookup z = some w):(z,w) ∈ D:=by
 induction D with
 | nil=>cases h
 | cons q D ih =>
  rw [List.lookup_cons] at h
  by_cases hq:z = q.1
  ·rw [hq,beq_self_eq_true] at h
   have h:some q.2 = some w:=h
   cases h
   rw [hq]; exact .head _
  ·rw [beq_eq_false_iff_ne.mpr hq] at h
   exact .tail _ (ih h)
section
variable {m:Nat} {st:Tb → Nat → Tb}
end
section
variable (m:Nat) (st:Tb → Nat → Tb)
noncomputable def lvP (r:List En2):Nat → List En2 × List En2
 | 0=>(r,r)
 | d + 1=>((lvP r d).1 ++ dd (lvP r d).1 (exs m st (lvP r d).2),dd (lvP r d).1 (exs m st (lvP r d).2))
end
section
variable (m:Nat) (st:Tb → Nat → Tb)
theorem Qp6 (r:List En2) {j:Nat} (h:(lvP m st r j).2 = []):∀ k,lvP m st r (j + k) = ((lvP m st r j).1,[])
 | 0=>by rw [Nat.add_zero]; exact Prod.ext rfl h
 | k + 1=>by
  have ih:=Qp6 r h k
  show ((lvP m st r (j + k)).1 ++ dd (lvP m st r (j + k)).1 (exs m st (lvP m st r (j + k)).2),dd (lvP m st r (j + k)).1 (exs m st (lvP m st r (j + k)).2)) = _
  rw [ih]
  show ((lvP m st r j).1 ++ dd _ [],dd _ []) = _
  show ((lvP m st r j).1 ++ [],[]) = _
  rw [List.append_nil]
theorem Q3l (r:List En2) {i j:Nat} (hi:(lvP m st r i).2 = []) (hj:(lvP m st r j).2 = []):(lvP m st r i).1 = (lvP m st r j).1:=by
 rcases Nat.le_total i j with h | h
 ·obtain ⟨k,rfl⟩:=Nat.le.dest h
  rw [Qp6 m st r hi k]
 ·obtain ⟨k,rfl⟩:=Nat.le.dest h
  rw [Qp6 m st r hj k]
end
theorem Qsj:∀ (P D:List En2),(D.map (·.1)).Nodup → ((D ++ dd D P).map (·.1)).Nodup
 | [],D,h=>by show ((D ++ []).map _).Nodup; rw [List.append_nil]; exact h
 | p :: P,D,h=>by
  rw [Qdo]
  by_cases e:(D.lookup p.1).isSome = true
  ·rw [if_pos e]; exact Qsj P D h
  ·rw [if_neg e]
   have h2:((D ++ [p]).map (·.1)).Nodup:=by
    rw [List.map_append,List.nodup_append]
    refine ⟨h,List.nodup_cons.mpr ⟨List.not_mem_nil,List.nodup_nil⟩,fun a ha b hb z=>e ?_⟩
    rw [List.mem_singleton.mp hb] at z
    subst z
    obtain ⟨q,hq,e2⟩:=List.mem_map.mp ha
    have key:∀ (D:List En2),q ∈ D → (D.lookup q.1).isSome = true:=fun D hD=>by
     induction D with
     | nil=>cases hD
     | cons x D ih =>
      rw [List.lookup_cons]
      by_cases hx:q.1 = x.1
      ·rw [hx,beq_self_eq_true]; rfl
      ·rw [beq_eq_false_iff_ne.mpr hx]
       rcases List.mem_cons.mp hD with z | z
       ·exact absurd (by rw [z]) hx
       ·exact ih z
    have k:=key D hq
    rw [show q.1 = p.1 from e2] at k
    exact k
   have:=Qsj P (D ++ [p]) h2
   rw [List.append_assoc] at this
   exact this
noncomputable def lsn {α:Type} (L:List α):Nat → List (List α)
 | 0=>[[]]
 | n + 1=>L.flatMap fun x=>(lsn L n).map fun r=>x :: r
theorem Qp7 {α:Type} (L:List α):∀ n,(lsn L n).length = L.length ^ n
 | 0=>rfl
 | n + 1=>by
  rw [lsn,List.length_flatMap]
  have:L.map (fun x=>((lsn L n).map fun r=>x :: r).length) = L.map fun _=>L.length ^ n:=by
   refine List.map_congr_left fun x _=>?_
   rw [List.length_map,Qp7 L n]
  rw [this,List.map_const',List.sum_replicate_nat,Nat.pow_succ,Nat.mul_comm]
theorem Qp8 {α:Type} {L:List α}:∀ {n:Nat} {r:List α},r.length = n → (∀ x ∈ r,x ∈ L) → r ∈ lsn L n
 | 0,r,h,_=>by rw [List.length_eq_zero_iff.mp h]; exact .head _
 | n + 1,[],h,_=>by cases h
 | n + 1,x :: r,h,hx=>by
  rw [lsn]
  exact List.mem_flatMap.mpr ⟨x,hx x (.head _),List.mem_map.mpr ⟨r,Qp8 (by simpa using h) (fun y hy=>hx y (.tail _ hy)),rfl⟩⟩
noncomputable def upI (m:Nat):List Int:=(List.range m).map fun (x:Nat)=>(x:Int)
theorem Q3m {m:Nat} {x:Int} (a:0 ≤ x) (b:x < (m:Int)):x ∈ upI m:=by
 obtain ⟨v,rfl⟩:=Int.eq_ofNat_of_zero_le a
 exact List.mem_map.mpr ⟨v,List.mem_range.mpr (by omega),rfl⟩
noncomputable def tbs (m n:Nat):List Tb:=lsn (lsn (upI m) n) n
theorem Q3n (m n:Nat):(tbs m n).length = (m ^ n) ^ n:=by
 unfold tbs
 rw [Qp7,Qp7]
 unfold upI
 rw [List.length_map,List.length_range]
theorem Q5r:∀ (ks L:List Tb),ks.Nodup → (∀ x ∈ ks,x ∈ L) → ks.length ≤ L.length
 | [],_,_,_=>Nat.zero_le _
 | k :: ks,L,h,s=>by
  obtain ⟨h1,h2⟩:=List.nodup_cons.mp h
  have hk:=s k (.head _)
  have ih:=Q5r ks (L.erase k) h2 fun x hx=>(List.mem_erase_of_ne (show x ≠ k from fun z=>h1 (by rw [← z]; exact hx))).mpr (s x (.tail _ hx))
  rw [List.length_erase_of_mem hk] at ih
  have:0 < L.length:=List.length_pos_of_mem hk
  rw [List.length_cons]
  omega
open PySem L2
noncomputable abbrev cfn (k:Nat):CF:=evF (Qjj ds ls) k
noncomputable abbrev Ql (r:List Int):T:=.tup (r.map .int)
noncomputable abbrev Qh (M:Tb):T:=.tup (M.map Ql)
noncomputable abbrev Qq (Ms:List Tb):T:=.lst (Ms.map Qh)
structure Sq (n:Nat) (M:Tb):Prop where
 len:M.length = n
 row:∀ r ∈ M,r.length = n
 bd:∀ r ∈ M,∀ x ∈ r,(x:Int).natAbs ≤ 1000000000000
structure Tabs (n:Nat) (Ms:List Tb):Prop where
 n1:1 ≤ n
 n4:n ≤ 4
 m1:1 ≤ Ms.length
 m4:Ms.length ≤ 4
 sq:∀ M ∈ Ms,Sq n M
theorem Q0k (k:Nat) (r:List Int) (hr:r.length ≤ 1000):cfn (k + 2) 1 [.fz (Ql r),.fz (.int r.length)] = .ok (.fz (.bl true)) [.non,.non]:=by
 have hcomp:evE (cfn (k + 1)) (.comp (.seq (.var 0)) [none] (.nm 0) .nil (.call 0 (.cons (.var 0) .nil))) [.fz (Ql r),.fz (.int r.length)] = .ok (.ow (.lst ((r.map T.int).map fun _=>T.bl true))) [.fz (Ql r),.fz (.int r.length)] :=
  Qbg (rest:=[]) rfl rfl rfl rfl (fun x hx=>by
   obtain ⟨i,_,rfl⟩:=List.mem_map.mp hx
   exact ⟨.fz (.bl true),rfl,rfl⟩) (by rw [List.length_map]; omega)
 show Qa2 (cfn (k + 1)) ⟨2,2,Qmm⟩ _ = _
 rw [Qaw rfl]
 show Qbi _ (exS _ Qmm [.fz (Ql r),.fz (.int r.length)]) = _
 simp only [Qay,Qbt,Qtr,Qkl,Qvi,Qv,Qac,Qd,Q5,Qz0,Qrr,cont,Qmh,Qid,Bool.not_false,Bool.and_true,Qfv,if_true,Qaf,yBl,Qpa,Bool.not_true,yOr,Qc5,Qcd,Qm,yC1,Qy,yC2,yBi,Qb9,Qar,Out.opt,ub2,List.length_map,Qcx,Qe,Qcw,Qcv,Qcu,uc2,Option.map,Qjl,decide_true,yB,Qas,yIf,Qdb,Qb5,Qaz,hcomp,ub3,Qpb,Qtt,Qby,Qad,Qau,Qal,Qam,Qw]
theorem Qw6 (k:Nat) {n:Nat} {M:Tb} (h:Sq n M) (h1:1 ≤ n) (h4:n ≤ 4):cfn (k + 3) 2 [.fz (Qh M)] = .ok (.fz (.bl true)) [.non]:=by
 have hl:=h.len
 have hcomp:evE (cfn (k + 2)) (.comp (.seq (.var 0)) [none,some 0] (.nm 0) .nil (.call 1 (.cons (.var 0) (.cons (.bi .len (.cons (.var 1) .nil)) .nil)))) [.fz (Qh M)] = .ok (.ow (.lst ((M.map Ql).map fun _=>T.bl true))) [.fz (Qh M)] :=
  Qbg (rest:=[.fz (Qh M)]) rfl rfl rfl rfl (fun x hx=>by
   obtain ⟨r,hr,rfl⟩:=List.mem_map.mp hx
   have hrl:=h.row r hr
   have q:=Q0k k r (by omega)
   rw [show ((r.length:Nat):Int) = (M.length:Nat) by omega] at q
   refine ⟨.fz (.bl true),?_,rfl⟩
   simp only [Qao,Qm,Qv,Qac,Qd,Q5,yC1,Qcd,Qe,Qy,yC2,yBi,Qb9,Qar,cont,Out.opt,ub2,List.length_map,Q7,Q0,Qah,Q2,Qav,Qag,q,Qa6,Qp,Q4,L2.Qk,Option.map,if_true]) (by rw [List.length_map]; omega)
 show Qa2 (cfn (k + 2)) ⟨1,1,Qj6⟩ _ = _
 rw [Qaw rfl]
 show Qbi _ (exS _ Qj6 [.fz (Qh M)]) = _
 have c1:¬ ((M.length:Int) < 1):=by omega
 have c2:¬ (4 < (M.length:Int)):=by omega
 simp only [Qay,Qbt,Qtr,Qkl,Qvi,Qv,Qac,Qd,Q5,Qz0,Qrr,cont,Qmh,Qid,Bool.not_false,Bool.and_true,Qfv,if_true,Qaf,yBl,Qpa,Bool.not_true,yOr,Qc5,Qcd,Qm,yC1,Qy,yC2,yBi,Qb9,Qar,Out.opt,ub2,List.length_map,Qcx,Qct,Qcw,Qcv,Qcu,uc3,c1,decide_false,uc5,c2,yB,Qas,yIf,Qdb,Qb5,Qaz,hcomp,ub3,Option.map,Qpb,Qtt,Qby,Qad,Qau,Qal,Qam,Qw]
theorem Qk7 {n:Nat} {Ms:List Tb} (h:Tabs n Ms) {i:Nat} (hi:i < Ms.length):atI (Ms.map Qh) (i:Int) = some (Qh Ms[i]) ∧ Sq n Ms[i] :=
 ⟨Qan (by rw [List.getElem?_map,List.getElem?_eq_getElem hi]; rfl),h.sq _ (List.getElem_mem hi)⟩
noncomputable abbrev Qp9:S:=.ite (.or (.not (.call 2 (.cons (.ix (.var 0) (.var 2)) .nil))) (.cmp .ne (.bi .len (.cons (.ix (.var 0) (.var 2)) .nil)) (.bi .len (.cons (.ix (.var 0) (.int 0)) .nil)))) (.ret (.var 2)) .nil
noncomputable abbrev Qqa:S:=.ite (.and (.var 1) (.not (.call 4 (.cons (.ix (.var 0) (.var 2)) .nil)))) (.ret (.var 2)) .nil
theorem Qsk (k:Nat) {n:Nat} {Ms:List Tb} (h:Tabs n Ms) {i:Nat} (hi:i < Ms.length):exS (cfn (k + 3)) Qp9 [.fz (Qq Ms),.fz (.bl false),.fz (.int i)] = .nx [.fz (Qq Ms),.fz (.bl false),.fz (.int i)]:=by
 obtain ⟨a1,q1⟩:=Qk7 h hi
 obtain ⟨a0,q0⟩:=Qk7 h (show 0 < Ms.length by omega)
 have a0':atI (Ms.map Qh) 0 = some (Qh Ms[0]):=a0
 have g:=Qw6 k q1 h.n1 h.n4
 have l1:=q1.len
 have l0:=q0.len
 simp only [Qbt,Qtr,Qkl,Qao,Qm,Qhc,Qv,Qac,Qd,Q5,Qgv,Qe,Qgu,Qgt,cont,Qgs,ui1,a1,yC1,Qy,yC2,Q7,Q0,Qah,Q2,Qav,Qag,g,Qa6,Qp,Q4,L2.Qk,Option.map,if_true,Qaf,yBl,Qpa,Bool.not_true,yOr,Qc5,Qcd,yBi,Qb9,Qar,Out.opt,ub2,List.length_map,l1,Qcx,Qct,a0',l0,Qcw,Qcv,Qcu,uc2,Qjl,decide_true,yB,Qas,yIf,Qdb]
theorem Qsl (k:Nat) {Ms:List Tb} {i:Nat}:exS (cfn (k + 3)) Qqa [.fz (Qq Ms),.fz (.bl false),.fz (.int i)] = .nx [.fz (Qq Ms),.fz (.bl false),.fz (.int i)]:=by
 simp only [Qbt,Qac2,Qv,Qac,Qe,Qd,Qaf,Q5,yBl,yAnd,Qas,yIf,Qdb]
theorem Qt7 (k:Nat) {n:Nat} {Ms:List Tb} (h:Tabs n Ms):∃ s,Qde (.nm 2) (exS (cfn (k + 3)) (.seq Qp9 Qqa)) (Qa0 0 Ms.length) [.fz (Qq Ms),.fz (.bl false),.un] = .nx [.fz (Qq Ms),.fz (.bl false),s]:=by
 obtain ⟨ρ',e,s,_,rfl⟩:=Qcc (fun _ ρ=>∃ s,Qax s = true ∧ ρ = [.fz (Qq Ms),.fz (.bl false),s]) (tg:=.nm 2) (b:=exS (cfn (k + 3)) (.seq Qp9 Qqa)) (xs:=Qa0 0 Ms.length) (n:=0) (ρ:=[.fz (Qq Ms),.fz (.bl false),.un]) ⟨.un,rfl,rfl⟩ (by
  rintro i x ρ hx ⟨s,hs,rfl⟩
  have hi:i < Ms.length:=by have:=(List.getElem?_eq_some_iff.mp hx).1; rwa [Qaj] at this
  rw [Qfi hi] at hx
  cases hx
  rw [Int.zero_add]
  refine ⟨[.fz (Qq Ms),.fz (.bl false),.fz (.int i)],[.fz (Qq Ms),.fz (.bl false),.fz (.int i)],(by cases s <;> first | rfl | cases hs),.inl ?_,.fz (.int i),rfl,rfl⟩
  rw [Qay,Qsk k h hi,Qb5,Qsl])
 exact ⟨s,e⟩
theorem Qt8 (k:Nat) {n:Nat} {Ms:List Tb} (h:Tabs n Ms):cfn (k + 4) 5 [.fz (Qq Ms),.fz (.bl false)] = .ok (.fz .non) [.non,.non]:=by
 have h1:=h.m1
 have h4:=h.m4
 obtain ⟨s,e⟩:=Qt7 k h
 show Qa2 (cfn (k + 3)) ⟨2,3,Qio⟩ _ = _
 rw [Qaw rfl]
 show Qbi _ (exS _ Qio [.fz (Qq Ms),.fz (.bl false),.un]) = _
 have c1:¬ ((Ms.length:Int) < 1):=by omega
 have c2:¬ (4 < (Ms.length:Int)):=by omega
 have c3:Ms.length ≤ 100000:=by omega
 simp only [Qay,Qbt,Qtr,Qkl,Qvi,Qv,Qac,Qd,Q5,Qz0,Qrr,cont,Q3f,Qid,Bool.not_false,Bool.and_true,Qrt,if_true,Qaf,yBl,Qpa,Bool.not_true,yOr,Qc5,Qcd,Qm,yC1,Qy,yC2,yBi,Qb9,Qar,Out.opt,ub1,List.length_map,Qcx,Qct,Qcw,Qcv,Qcu,uc3,c1,decide_false,uc5,c2,yB,Qas,yIf,Qdb,Qb5,Qhd,Qfa,Qm7 c3,Qku,e,Qc6,Qaz,Qvh,Qby,Qad,Qau,Qal,Qam,Qw,Option.map]
theorem Qnl (k:Nat) {n:Nat} {Ms:List Tb} (h:Tabs n Ms):cfn (k + 5) 6 [.fz (Qq Ms)] = .ok (.fz .non) [.non]:=by
 have e:=Qt8 k h
 show Qa2 (cfn (k + 4)) ⟨1,2,Qfc⟩ _ = _
 rw [Qaw rfl]
 show Qbi _ (exS _ Qfc [.fz (Qq Ms),.un]) = _
 simp only [Qay,Qbn,Qao,Qm,Qv,Qac,Qd,Q5,yC1,x_bl,Qy,yC2,Q7,Q0,Qah,Q2,Qav,Qag,e,Qa6,Qp,Q4,L2.Qk,Option.map,if_true,Qas,Qdc,Qbw,frz,Qat,Qbx,List.length_cons,List.length_nil,Nat.reduceAdd,Nat.reduceLT,Qe,List.set,Qb5,Qbt,Qc5,Qcx,Qvh,Qcw,Qcv,cont,Qcu,uc8,Qgl,Bool.not_true,Qaf,yBl,yIf,Qdb,Qts,Qam,Qw]
open PySem L2
theorem intL_mp:∀ (xs:List Int),Qg1 (xs.map T.int) = some xs
 | []=>rfl
 | x :: xs=>by
  rw [List.map_cons]
  unfold Qg1
  rw [intL_mp xs]
noncomputable def ge (r:List Int) (k:Nat):Int:=r.getD k 0
noncomputable def Qes (r c:List Int):Int:=((List.range r.length).map fun k=>ge r k * ge c k).sum
noncomputable def col (M:Tb) (j:Nat):List Int:=M.map fun l=>ge l j
noncomputable def rb (M:Tb) (r:List Int):List Int:=(List.range M.length).map fun j=>Qes r (col M j)
theorem Qvp {r:List Int} {j:Nat} (h:j < r.length):atI (r.map T.int) (j:Int) = some (.int (ge r j)):=by
 refine Qan ?_
 rw [List.getElem?_map,List.getElem?_eq_getElem h]
 show some (T.int _) = some (T.int _)
 congr 2
 unfold ge
 rw [List.getD_eq_getElem?_getD,List.getElem?_eq_getElem h,Option.getD_some]
theorem Qk8 {i j:Int} (h:j.natAbs ≤ 1000000000000):Qc2 i j = true:=by
 unfold Qc2
 simp only [Bool.or_eq_true,decide_eq_true_eq]
 exact .inr (by omega)
noncomputable def jOf:T → Nat
 | .int i=>i.toNat
 | _=>0
noncomputable def iOf:T → List Int
 | .tup ts=>ts.map fun t=>match t with | .int i=>i | _=>0
 | _=>[]
theorem Qdp (r:List Int):iOf (Ql r) = r:=by
 show (r.map T.int).map _ = r
 rw [List.map_map]
 conv=>rhs; rw [← List.map_id r]
 rfl
theorem Qqb (j:Nat):jOf (.int (0 + (j:Int))) = j:=by
 show (0 + (j:Int)).toNat = j
 rw [Int.zero_add,Int.toNat_natCast]
theorem Qt9 {f:Nat → T} (n:Nat):((Qa0 0 n).map fun x=>f (jOf x)) = (List.range n).map f:=by
 unfold Qa0
 rw [List.map_map]
 apply List.map_congr_left
 intro j _
 show f (jOf (.int (0 + (j:Int)))) = f j
 rw [Qqb]
theorem Q3o (M:Tb) (j:Nat):(col M j).length = M.length:=by unfold col; rw [List.length_map]
theorem Sq.col_bd {n:Nat} {M:Tb} (h:Sq n M) {j:Nat}:∀ x ∈ col M j,x.natAbs ≤ 1000000000000:=fun x hx=>by
 unfold col at hx
 obtain ⟨l,hl,rfl⟩:=List.mem_map.mp hx
 unfold ge
 rw [List.getD_eq_getElem?_getD]
 cases e:l[j]? with
 | none=>decide
 | some v=>exact h.bd l hl v (List.mem_of_getElem? e)
theorem Q5s {c:List Int} (h:∀ x ∈ c,(x:Int).natAbs ≤ 1000000000000) (k:Nat):(ge c k).natAbs ≤ 1000000000000:=by
 unfold ge
 rw [List.getD_eq_getElem?_getD]
 cases e:c[k]? with
 | none=>decide
 | some v=>exact h v (List.mem_of_getElem? e)
theorem Qsm (k:Nat) {n:Nat} {M:Tb} (h:Sq n M) (h4:n ≤ 4) {j:Nat} (hj:j < n):cfn (k + 1) 11 [.fz (Qh M),.fz (.int j)] = .ok (.fz (Ql (col M j))) [.non,.non]:=by
 have hl:=h.len
 have hcomp:evE (cfn k) (.comp (.seq (.var 0)) [none,some 1] (.nm 0) .nil (.ix (.var 0) (.var 1))) [.fz (Qh M),.fz (.int j)] = .ok (.ow (.lst ((M.map Ql).map fun x=>T.int (ge (iOf x) j)))) [.fz (Qh M),.fz (.int j)] :=
  Qbg (rest:=[.fz (.int j)]) rfl rfl rfl rfl (fun x hx=>by
   obtain ⟨l,hm,rfl⟩:=List.mem_map.mp hx
   have a:=Qvp (r:=l) (j:=j) (by rw [h.row l hm]; exact hj)
   refine ⟨.fz (.int (ge l j)),?_,by rw [Qdp]; rfl⟩
   simp only [Qhc,Qv,Qac,Qd,Q5,Qgv,Qe,Qgu,Qgt,cont,Qgs,ui2,a]) (by rw [List.length_map]; omega)
 have em:((M.map Ql).map fun x=>T.int (ge (iOf x) j)) = (col M j).map T.int:=by
  unfold col
  rw [List.map_map,List.map_map]
  apply List.map_congr_left
  intro l _
  show T.int (ge (iOf (Ql l)) j) = T.int (ge l j)
  rw [Qdp]
 rw [em] at hcomp
 show Qa2 (cfn k) ⟨2,2,Qhl⟩ _ = _
 rw [Qaw rfl]
 show Qbi _ (exS _ Qhl [.fz (Qh M),.fz (.int j)]) = _
 simp only [Qaz,Qcd,Qm,hcomp,Q5,yC1,Qy,yC2,yBi,Qb9,Qar,cont,Out.opt,ub9,Qas,Qby,Qad,Qau,Qal,Qam,Qw,Option.map]
theorem Qqc (k:Nat) {n:Nat} {M:Tb} (h:Sq n M) (h4:n ≤ 4):cfn (k + 2) 12 [.fz (Qh M)] = .ok (.fz (Qh ((List.range M.length).map (col M)))) [.non]:=by
 have hl:=h.len
 have hw:evW (cfn (k + 1)) (.rng1 (.bi .len (.cons (.var 0) .nil))) [.fz (Qh M)] = .ok (Qa0 0 M.length,none) [.fz (Qh M)]:=by
  have c:M.length ≤ 100000:=by omega
  simp only [Qfa,Qcd,Qm,Qv,Qac,Qd,Q5,yC1,Qy,yC2,yBi,Qb9,Qar,cont,Out.opt,ub2,List.length_map,Qm7 c]
 have hcomp:evE (cfn (k + 1)) (.comp (.rng1 (.bi .len (.cons (.var 0) .nil))) [none,some 0] (.nm 0) .nil (.call 11 (.cons (.var 1) (.cons (.var 0) .nil)))) [.fz (Qh M)] = .ok (.ow (.lst ((Qa0 0 M.length).map fun x=>Ql (col M (jOf x))))) [.fz (Qh M)] :=
  Qbg (rest:=[.fz (Qh M)]) hw rfl rfl rfl (fun x hx=>by
   unfold Qa0 at hx
   obtain ⟨j,hj,rfl⟩:=List.mem_map.mp hx
   have hj:=List.mem_range.mp hj
   have e:=Qsm k h h4 (j:=j) (by omega)
   refine ⟨.fz (Ql (col M j)),?_,by rw [Qqb]; rfl⟩
   simp only [Int.zero_add,Qao,Qm,Qv,Qac,Qe,Qd,Q5,yC1,Qy,yC2,Q7,Q0,Qah,Q2,Qav,Qag,e,Qa6,Qp,Q4,L2.Qk,Option.map,if_true]) (by rw [Qaj]; omega)
 rw [Qt9 (f:=fun j=>Ql (col M j))] at hcomp
 show Qa2 (cfn (k + 1)) ⟨1,1,Qga⟩ _ = _
 rw [Qaw rfl]
 show Qbi _ (exS _ Qga [.fz (Qh M)]) = _
 simp only [Qaz,Qcd,Qm,hcomp,Q5,yC1,Qy,yC2,yBi,Qb9,Qar,cont,Out.opt,ub9,Qas,Qby,Qad,Qau,Qal,Qam,Qw,Option.map]
 unfold Qh
 rw [List.map_map]
 rfl
theorem Qiy (k:Nat) {r c:List Int} (hrc:r.length = c.length) (hz:r.length ≤ 1000) (hc:∀ x ∈ c,(x:Int).natAbs ≤ 1000000000000):cfn (k + 1) 13 [.fz (Ql r),.fz (Ql c)] = .ok (.fz (.int (Qes r c))) [.non,.non]:=by
 have hw:evW (cfn k) (.rng1 (.bi .len (.cons (.var 0) .nil))) [.fz (Ql r),.fz (Ql c)] = .ok (Qa0 0 r.length,none) [.fz (Ql r),.fz (Ql c)]:=by
  have c:r.length ≤ 100000:=by omega
  simp only [Qfa,Qcd,Qm,Qv,Qac,Qd,Q5,yC1,Qy,yC2,yBi,Qb9,Qar,cont,Out.opt,ub2,List.length_map,Qm7 c]
 have hcomp:evE (cfn k) (.comp (.rng1 (.bi .len (.cons (.var 0) .nil))) [none,some 0,some 1] (.nm 0) .nil (.bin .mul (.ix (.var 1) (.var 0)) (.ix (.var 2) (.var 0)))) [.fz (Ql r),.fz (Ql c)] = .ok (.ow (.lst ((Qa0 0 r.length).map fun x=>T.int (ge r (jOf x) * ge c (jOf x))))) [.fz (Ql r),.fz (Ql c)] :=
  Qbg (rest:=[.fz (Ql r),.fz (Ql c)]) hw rfl rfl rfl (fun x hx=>by
   unfold Qa0 at hx
   obtain ⟨j,hj,rfl⟩:=List.mem_map.mp hx
   have hj:=List.mem_range.mp hj
   have a1:=Qvp (r:=r) (j:=j) hj
   have a2:=Qvp (r:=c) (j:=j) (by omega)
   have mo:Qc2 (ge r j) (ge c j) = true:=Qk8 (Q5s hc j)
   refine ⟨.fz (.int (ge r j * ge c j)),?_,by rw [Qqb]; rfl⟩
   simp only [Int.zero_add,Qej,Qhc,Qv,Qac,Qe,Qd,Q5,Qgv,Qgu,Qgt,cont,Qgs,ui2,a1,Qd3,a2,Qd2,Qd1,Out.opt,uo5,mo,if_true]) (by rw [Qaj]; omega)
 rw [Qt9 (f:=fun j=>T.int (ge r j * ge c j))] at hcomp
 have em:((List.range r.length).map fun j=>T.int (ge r j * ge c j)) = ((List.range r.length).map fun j=>ge r j * ge c j).map T.int:=by rw [List.map_map]; rfl
 rw [em] at hcomp
 show Qa2 (cfn k) ⟨2,2,Qcl⟩ _ = _
 rw [Qaw rfl]
 show Qbi _ (exS _ Qcl [.fz (Ql r),.fz (Ql c)]) = _
 simp only [Qaz,Qcd,Qm,hcomp,Q5,yC1,Qy,yC2,yBi,Qb9,Qar,cont,Out.opt,ub5,Option.map,intL_mp,Qas,Qby,Qad,Qau,Qal,Qam,Qw]
 rfl
theorem Qh9 (k:Nat) {r:List Int} {Cs:Tb} (hC:∀ c ∈ Cs,r.length = c.length ∧ ∀ x ∈ c,(x:Int).natAbs ≤ 1000000000000) (hr:r.length ≤ 1000) (hz:Cs.length ≤ 1000):cfn (k + 2) 14 [.fz (Ql r),.fz (Qh Cs)] = .ok (.fz (Ql (Cs.map (Qes r)))) [.non,.non]:=by
 have hcomp:evE (cfn (k + 1)) (.comp (.seq (.var 1)) [none,some 0] (.nm 0) .nil (.call 13 (.cons (.var 1) (.cons (.var 0) .nil)))) [.fz (Ql r),.fz (Qh Cs)] = .ok (.ow (.lst ((Cs.map Ql).map fun x=>T.int (Qes r (iOf x))))) [.fz (Ql r),.fz (Qh Cs)] :=
  Qbg (rest:=[.fz (Ql r)]) rfl rfl rfl rfl (fun x hx=>by
   obtain ⟨c,hm,rfl⟩:=List.mem_map.mp hx
   obtain ⟨h1,h2⟩:=hC c hm
   have e:=Qiy k h1 hr h2
   refine ⟨.fz (.int (Qes r c)),?_,by rw [Qdp]; rfl⟩
   simp only [Qao,Qm,Qv,Qac,Qe,Qd,Q5,yC1,Qy,yC2,Q7,Q0,Qah,Q2,Qav,Qag,e,Qa6,Qp,Q4,L2.Qk,Option.map,if_true]) (by rw [List.length_map]; omega)
 have em:((Cs.map Ql).map fun x=>T.int (Qes r (iOf x))) = (Cs.map (Qes r)).map T.int:=by
  rw [List.map_map,List.map_map]
  apply List.map_congr_left
  intro l _
  show T.int (Qes r (iOf (Ql l))) = T.int (Qes r l)
  rw [Qdp]
 rw [em] at hcomp
 show Qa2 (cfn (k + 1)) ⟨2,2,Qca⟩ _ = _
 rw [Qaw rfl]
 show Qbi _ (exS _ Qca [.fz (Ql r),.fz (Qh Cs)]) = _
 simp only [Qaz,Qcd,Qm,hcomp,Q5,yC1,Qy,yC2,yBi,Qb9,Qar,cont,Out.opt,ub9,Qas,Qby,Qad,Qau,Qal,Qam,Qw,Option.map]
theorem Q3p {f:List Int → List Int} (M:Tb):((M.map Ql).map fun x=>Ql (f (iOf x))) = (M.map f).map Ql:=by
 rw [List.map_map,List.map_map]
 refine List.map_congr_left fun l _=>?_
 show Ql (f (iOf (Ql l))) = Ql (f l)
 rw [Qdp]
noncomputable def Qfk (X M:Tb):Tb:=X.map (rb M)
theorem Q3q (k:Nat) {n:Nat} {M:Tb} (h:Sq n M) (h4:n ≤ 4) {X:Tb} (hX:∀ r ∈ X,r.length = n) (lX:X.length ≤ 4):cfn (k + 3) 15 [.fz (Qh X),.fz (Qh M)] = .ok (.fz (Qh (Qfk X M))) [.non,.non]:=by
 have hl:=h.len
 have e1:=Qqc k h h4
 have hcomp:evE (cfn (k + 2)) (.comp (.seq (.var 0)) [none,some 2] (.nm 0) .nil (.call 14 (.cons (.var 0) (.cons (.var 1) .nil)))) [.fz (Qh X),.fz (Qh M),.fz (Qh ((List.range M.length).map (col M)))] = .ok (.ow (.lst ((X.map Ql).map fun x=>Ql (rb M (iOf x))))) [.fz (Qh X),.fz (Qh M),.fz (Qh ((List.range M.length).map (col M)))] :=
  Qbg (rest:=[.fz (Qh ((List.range M.length).map (col M)))]) rfl rfl rfl rfl (fun x hx=>by
   obtain ⟨r,hr,rfl⟩:=List.mem_map.mp hx
   have lr:=hX r hr
   have e2:=Qh9 k (r:=r) (Cs:=(List.range M.length).map (col M)) (fun c hc=>by
    obtain ⟨j,_,rfl⟩:=List.mem_map.mp hc
    exact ⟨by rw [Q3o,hl,lr],h.col_bd⟩) (by omega) (by rw [List.length_map,List.length_range]; omega)
   have em:((List.range M.length).map (col M)).map (Qes r) = rb M r:=by unfold rb; rw [List.map_map]; rfl
   rw [em] at e2
   refine ⟨.fz (Ql (rb M r)),?_,by rw [Qdp]; rfl⟩
   simp only [Qao,Qm,Qv,Qac,Qd,Q5,yC1,Qe,Qy,yC2,Q7,Q0,Qah,Q2,Qav,Qag,e2,Qa6,Qp,Q4,L2.Qk,Option.map,if_true]) (by rw [List.length_map]; omega)
 rw [Q3p (f:=rb M)] at hcomp
 show Qa2 (cfn (k + 2)) ⟨2,3,Qpv⟩ _ = _
 rw [Qaw rfl]
 show Qbi _ (exS _ Qpv [.fz (Qh X),.fz (Qh M),.un]) = _
 simp only [Qay,Qbn,Qao,Qm,Qv,Qac,Qe,Qd,Q5,yC1,Qy,yC2,Q7,Q0,Qah,Q2,Qav,Qag,e1,Qa6,Qp,Q4,L2.Qk,Option.map,if_true,Qas,Qdc,Qbw,frz,Qat,Qbx,List.length_cons,List.length_nil,Nat.reduceAdd,Nat.reduceLT,List.set,Qb5,Qaz,Qcd,hcomp,yBi,Qb9,Qar,cont,Out.opt,ub9,Qby,Qad,Qau,Qal,Qam,Qw]
 rfl
theorem Qsn:∀ (xs:List Int) (ys:Tb),Qh3 (xs.map T.int) (ys.map Ql) = (xs.zip ys).map fun p=>T.tup [.int p.1,Ql p.2]
 | [],_=>rfl
 | _ :: _,[]=>rfl
 | x :: xs,y :: ys=>by
  rw [List.map_cons,List.map_cons,Qh3,Qsn xs ys]
  rfl
theorem Q3r:∀ (r:List Int) (M:Tb) (j:Nat),((r.zip M).map fun p=>p.1 * ge p.2 j) = (List.range (min r.length M.length)).map fun k=>ge r k * ge (col M j) k:=fun r M j=>by
 refine List.ext_getElem (by rw [List.length_map,List.length_zip,List.length_map,List.length_range]) fun i h1 h2=>?_
 rw [List.length_map,List.length_zip] at h1
 rw [List.getElem_map,List.getElem_zip,List.getElem_map,List.getElem_range]
 have l1:i < r.length:=by omega
 have l2:i < M.length:=by omega
 have e1:ge r i = r[i]:=by unfold ge; rw [List.getD_eq_getElem?_getD,List.getElem?_eq_getElem l1,Option.getD_some]
 have e2:ge (col M j) i = ge M[i] j:=by
  unfold col
  conv=>lhs; unfold ge
  rw [List.getD_eq_getElem?_getD,List.getElem?_map,List.getElem?_eq_getElem l2]
  rfl
 rw [e1,e2]
noncomputable abbrev Qqd:E:=.comp (.rng1 (.bi .len (.cons (.var 1) .nil))) [none,some 3,some 1] (.nm 0) .nil (.bi .sum (.cons (.comp (.zip (.var 1) (.var 2)) [none,none,some 0] (.tp [0,1]) .nil (.bin .mul (.var 0) (.ix (.var 1) (.var 2)))) .nil))
theorem Q9j (k:Nat) {n:Nat} {M:Tb} (h:Sq n M) (h4:n ≤ 4) {r:List Int} (hr:r.length = n) {a:Slot} {d:T}:evE (cfn k) Qqd [a,.fz (Qh M),.ow d,.fz (Ql r)] = .ok (.ow (.lst ((rb M r).map T.int))) [a,.fz (Qh M),.ow d,.fz (Ql r)]:=by
 have hl:=h.len
 have hw:evW (cfn k) (.rng1 (.bi .len (.cons (.var 1) .nil))) [a,.fz (Qh M),.ow d,.fz (Ql r)] = .ok (Qa0 0 M.length,none) [a,.fz (Qh M),.ow d,.fz (Ql r)]:=by
  have c:M.length ≤ 100000:=by omega
  simp only [Qfa,Qcd,Qm,Qv,Qac,Qe,Qd,Q5,yC1,Qy,yC2,yBi,Qb9,Qar,cont,Out.opt,ub2,List.length_map,Qm7 c]
 have hcomp:evE (cfn k) Qqd [a,.fz (Qh M),.ow d,.fz (Ql r)] = .ok (.ow (.lst ((Qa0 0 M.length).map fun x=>T.int (Qes r (col M (jOf x)))))) [a,.fz (Qh M),.ow d,.fz (Ql r)] :=
  Qbg (rest:=[.fz (Ql r),.fz (Qh M)]) hw rfl rfl rfl (fun x hx=>by
   unfold Qa0 at hx
   obtain ⟨j,hj,rfl⟩:=List.mem_map.mp hx
   have hj:=List.mem_range.mp hj
   have hi:evE (cfn k) (.comp (.zip (.var 1) (.var 2)) [none,none,some 0] (.tp [0,1]) .nil (.bin .mul (.var 0) (.ix (.var 1) (.var 2)))) [.fz (.int (0 + (j:Int))),.fz (Ql r),.fz (Qh M)] = .ok (.ow (.lst ((r.zip M).map fun p=>T.int (p.1 * ge p.2 j)))) [.fz (.int (0 + (j:Int))),.fz (Ql r),.fz (Qh M)] :=
    Qwz (rest:=[.fz (.int (0 + (j:Int)))]) (a:=fun p=>T.int p.1) (b:=fun p=>Ql p.2) (xs:=r.zip M) (by simp only [Qac9,Qv,Qac,Qe,Qd,Q5,yZip,Q5j,Qsn]) rfl rfl rfl (fun p hp=>by
     have hm:=(List.of_mem_zip hp).2
     have a:=Qvp (r:=p.2) (j:=j) (by rw [h.row _ hm]; omega)
     have mo:Qc2 p.1 (ge p.2 j) = true:=Qk8 (Q5s (h.bd _ hm) j)
     refine ⟨.fz (.int (p.1 * ge p.2 j)),?_,rfl⟩
     simp only [Int.zero_add,Qej,Qv,Qac,Qd,Q5,Qd3,Qhc,Qe,Qgv,Qgu,Qgt,cont,Qgs,ui2,a,Qd2,Qd1,Out.opt,uo5,mo,if_true]) (by rw [List.length_zip]; omega)
   have em:((r.zip M).map fun p=>T.int (p.1 * ge p.2 j)) = ((List.range r.length).map fun k=>ge r k * ge (col M j) k).map T.int:=by
    have z:=Q3r r M j
    rw [show min r.length M.length = r.length by omega] at z
    rw [← z,List.map_map]
    rfl
   rw [em] at hi
   refine ⟨.fz (.int (Qes r (col M j))),?_,by rw [Qqb]; rfl⟩
   simp only [Qcd,Qm,hi,Q5,yC1,Qy,yC2,yBi,Qb9,Qar,cont,Out.opt,ub5,Option.map,intL_mp]
   rfl) (by rw [Qaj]; omega)
 rw [Qt9 (f:=fun j=>T.int (Qes r (col M j)))] at hcomp
 have em:((List.range M.length).map fun j=>T.int (Qes r (col M j))) = (rb M r).map T.int:=by unfold rb; rw [List.map_map]; rfl
 rw [em] at hcomp
 exact hcomp
theorem Qvq (k:Nat) {n:Nat} {M:Tb} (h:Sq n M) (h4:n ≤ 4) {a:Slot}:∀ (X acc:Tb) (s:Slot),Qax s = true → (∀ r ∈ X,r.length = n) → acc.length + X.length ≤ 1000 → ∃ s',Qde (.nm 3) (exS (cfn k) (.app 2 (.bi .tup (.cons Qqd .nil)))) (X.map Ql) [a,.fz (Qh M),.ow (.lst (acc.map Ql)),s] = .nx [a,.fz (Qh M),.ow (.lst ((acc ++ Qfk X M).map Ql)),s']
 | [],acc,s,_,_,_=>⟨s,by simp [Qde,Qfk]⟩
 | r :: X,acc,s,hs,hX,hz=>by
  rw [List.length_cons] at hz
  obtain ⟨s',e⟩:=Qvq k h h4 (a:=a) X (acc ++ [rb M r]) (.fz (Ql r)) rfl (fun x hx=>hX x (.tail _ hx)) (by rw [List.length_append,List.length_singleton]; omega)
  refine ⟨s',?_⟩
  have e0:Qie (.nm 3) (Ql r) [a,.fz (Qh M),.ow (.lst (acc.map Ql)),s] = some [a,.fz (Qh M),.ow (.lst (acc.map Ql)),.fz (Ql r)]:=by
   cases s <;> first | rfl | cases hs
  rw [List.map_cons]
  unfold Qde
  rw [e0]
  have e1:=Q9j k h h4 (hX r (.head _)) (a:=a) (d:=.lst (acc.map Ql))
  have z:acc.length < 100000:=by omega
  simp only [Qj2,Slot.mut,Qe,Qd,Qcd,Qm,e1,Q5,yC1,Qy,yC2,yBi,Qb9,Qar,cont,Out.opt,ub9,Qas,Qrs,Qmg,frz,Qmf,List.length_map,z,List.set,if_true]
  rw [show List.map Ql acc ++ [Ql (rb M r)] = (acc ++ [rb M r]).map Ql by rw [List.map_append]; rfl,e,List.append_assoc]
  rfl
theorem Qkp (k:Nat) {n:Nat} {M:Tb} (h:Sq n M) (h4:n ≤ 4) {X:Tb} (hX:∀ r ∈ X,r.length = n) (lX:X.length ≤ 4):cfn (k + 1) 29 [.fz (Qh X),.fz (Qh M)] = .ok (.fz (Qh (Qfk X M))) [.non,.non]:=by
 obtain ⟨s',e⟩:=Qvq k h h4 (a:=.fz (Qh X)) X [] .un rfl hX (by simp; omega)
 rw [List.map_nil,List.nil_append] at e
 have z0:(0:Nat) ≤ 100000:=by decide
 show Qa2 (cfn k) ⟨2,4,Qhq⟩ _ = _
 rw [Qaw rfl]
 show Qbi _ (exS _ Qhq [.fz (Qh X),.fz (Qh M),.un,.un]) = _
 simp only [Qay,Qoi,Qkk,Qy,Q5,Qo9,Qdq,List.length_nil,z0,if_true,Qas,Qo0,Qat,Qbx,List.length_cons,Nat.reduceAdd,Nat.reduceLT,Qe,Qd,List.set,Qb5,Qhd,Qz1,Qv,Qac,Q3a,Qvk,cont,Qvj,Qi8,Qja,Qku,e,Qc6,Qaz,Qcd,Qm,yC1,yC2,yBi,Qb9,Qar,Slot.prv,Out.opt,ub9,Qby,Qad,Qau,Qal,Qam,Qw,Option.map]
theorem Qso (k:Nat) {ps:List Int} (hz:ps.length ≤ 1000):cfn (k + 2) 35 [.fz (Ql ps),.fz (Ql ps)] = .ok (.fz (.bl true)) [.non,.non]:=by
 have hcomp:evE (cfn (k + 1)) (.comp (.seq (.var 0)) [none] (.nm 0) .nil (.call 26 (.cons (.var 0) .nil))) [.fz (Ql ps),.fz (Ql ps)] = .ok (.ow (.lst ((ps.map T.int).map fun _=>T.bl true))) [.fz (Ql ps),.fz (Ql ps)] :=
  Qbg (rest:=[]) rfl rfl rfl rfl (fun x hx=>by
   obtain ⟨i,_,rfl⟩:=List.mem_map.mp hx
   exact ⟨.fz (.bl true),rfl,rfl⟩) (by rw [List.length_map]; omega)
 show Qa2 (cfn (k + 1)) ⟨2,2,Qhr⟩ _ = _
 rw [Qaw rfl]
 show Qbi _ (exS _ Qhr [.fz (Ql ps),.fz (Ql ps)]) = _
 have en:eqO (Ql ps) (Ql ps) = some true:=by rw [Qvm]; simp
 simp only [Qay,Qbt,Qtr,Qkl,Qvi,Qv,Qac,Qd,Q5,Qz0,Qrr,cont,Qmh,Qid,Bool.not_false,Bool.and_true,Qfv,if_true,Qaf,yBl,Qpa,Bool.not_true,yOr,Qc5,Qcx,Qe,Qcw,Qcv,Qcu,uc2,Option.map,en,yB,Qas,yIf,Qdb,Qb5,Qaz,Qcd,Qm,hcomp,yC1,Qy,yC2,yBi,Qb9,Qar,Out.opt,ub3,Qpb,Qtt,Qby,Qad,Qau,Qal,Qam,Qw]
open PySem L2
theorem Qmr {n:Nat} {Ms:List Tb} (h:Tabs n Ms) {i:Nat} (hi:i < Ms.length):atI (Ms.map Qh) (i:Int) = some (Qh (Ms.getD i [])) ∧ Sq n (Ms.getD i []):=by
 obtain ⟨a,q⟩:=Qk7 h hi
 have e:Ms.getD i [] = Ms[i]:=by rw [List.getD_eq_getElem?_getD,List.getElem?_eq_getElem hi,Option.getD_some]
 rw [e]
 exact ⟨a,q⟩
theorem Q9k (M:Tb) (r:List Int):(rb M r).length = M.length:=by unfold rb; rw [List.length_map,List.length_range]
theorem tab0 {n:Nat} {Ms:List Tb} (h:Tabs n Ms):∃ M,atI (Ms.map Qh) 0 = some (Qh M) ∧ M.length = n:=by
 obtain ⟨a0,q0⟩:=Qk7 h (show 0 < Ms.length by have:=h.m1; omega)
 exact ⟨_,a0,q0.len⟩
noncomputable def rsR (m:Int) (r:List Int):List Int:=r.map fun x=>x % m
noncomputable def rs (m:Int) (M:Tb):Tb:=M.map (rsR m)
theorem Qadk {n:Nat} {m:Int} (h2:2 ≤ m) (h7:m ≤ 7) {M:Tb} (h:Sq n M):Sq n (rs m M):=by
 refine ⟨by unfold rs; rw [List.length_map,h.len],fun r hr=>?_,fun r hr x hx=>?_⟩
 ·unfold rs at hr
  obtain ⟨x,hx,rfl⟩:=List.mem_map.mp hr
  unfold rsR
  rw [List.length_map,h.row x hx]
 unfold rs at hr
 obtain ⟨y,_,rfl⟩:=List.mem_map.mp hr
 unfold rsR at hx
 obtain ⟨v,_,rfl⟩:=List.mem_map.mp hx
 have a:=Int.emod_nonneg v (show m ≠ 0 by omega)
 have b:=Int.emod_lt_of_pos v (show 0 < m by omega)
 omega
noncomputable def modT (m:Int):T → T
 | .int x=>.int (x % m)
 | t=>t
theorem Q3s (m:Int) (r:List Int):(r.map T.int).map (modT m) = (rsR m r).map T.int:=by
 unfold rsR
 rw [List.map_map,List.map_map]
 rfl
theorem Qsp {cf:CF} {m:Int} (h2:2 ≤ m) {r:List Int} (hz:r.length ≤ 1000):evE cf (.comp (.seq (.var 0)) [none,some 1] (.nm 0) .nil (.bin .mod (.var 0) (.var 1))) [.fz (Ql r),.fz (.int m)] = .ok (.ow (.lst ((rsR m r).map T.int))) [.fz (Ql r),.fz (.int m)]:=by
 have m0:0 < m:=by omega
 rw [← Q3s]
 exact Qbg (rest:=[.fz (.int m)]) rfl rfl rfl rfl (fun x hx=>by
   obtain ⟨i,_,rfl⟩:=List.mem_map.mp hx
   refine ⟨.fz (.int (i % m)),?_,rfl⟩
   simp only [Qej,Qv,Qac,Qd,Q5,Qd3,Qe,Qd2,Qd1,cont,Out.opt,uo8,m0,if_true]) (by rw [List.length_map]; omega)
theorem Qms (k:Nat) {m:Int} (h2:2 ≤ m) {r:List Int} (hz:r.length ≤ 1000):cfn (k + 1) 16 [.fz (Ql r),.fz (.int m)] = .ok (.fz (Ql (rsR m r))) [.non,.non]:=by
 have e:=Qsp (cf:=cfn k) h2 hz
 show Qa2 (cfn k) ⟨2,2,Qem⟩ _ = _
 rw [Qaw rfl]
 show Qbi _ (exS _ Qem [.fz (Ql r),.fz (.int m)]) = _
 simp only [Qaz,Qcd,Qm,e,Q5,yC1,Qy,yC2,yBi,Qb9,Qar,cont,Out.opt,ub9,Qas,Qby,Qad,Qau,Qal,Qam,Qw,Option.map]
theorem Q0l (m:Int) (M:Tb):((M.map Ql).map fun x=>Ql (rsR m (iOf x))) = (rs m M).map Ql:=by
 unfold rs
 rw [List.map_map,List.map_map]
 apply List.map_congr_left
 intro l _
 show Ql (rsR m (iOf (Ql l))) = Ql (rsR m l)
 rw [Qdp]
theorem Qkq (k:Nat) {m:Int} (h2:2 ≤ m) {M:Tb} (hl:M.length ≤ 4) (hr:∀ r ∈ M,r.length ≤ 4):cfn (k + 2) 17 [.fz (Qh M),.fz (.int m)] = .ok (.fz (Qh (rs m M))) [.non,.non]:=by
 have hcomp:evE (cfn (k + 1)) (.comp (.seq (.var 0)) [none,some 1] (.nm 0) .nil (.call 16 (.cons (.var 0) (.cons (.var 1) .nil)))) [.fz (Qh M),.fz (.int m)] = .ok (.ow (.lst ((M.map Ql).map fun x=>Ql (rsR m (iOf x))))) [.fz (Qh M),.fz (.int m)] :=
  Qbg (rest:=[.fz (.int m)]) rfl rfl rfl rfl (fun x hx=>by
   obtain ⟨r,hm,rfl⟩:=List.mem_map.mp hx
   have e:=Qms k h2 (r:=r) (by have:=hr r hm; omega)
   refine ⟨.fz (Ql (rsR m r)),?_,by rw [Qdp]; rfl⟩
   simp only [Qao,Qm,Qv,Qac,Qd,Q5,yC1,Qe,Qy,yC2,Q7,Q0,Qah,Q2,Qav,Qag,e,Qa6,Qp,Q4,L2.Qk,Option.map,if_true]) (by rw [List.length_map]; omega)
 rw [Q0l] at hcomp
 show Qa2 (cfn (k + 1)) ⟨2,2,Qis⟩ _ = _
 rw [Qaw rfl]
 show Qbi _ (exS _ Qis [.fz (Qh M),.fz (.int m)]) = _
 simp only [Qaz,Qcd,Qm,hcomp,Q5,yC1,Qy,yC2,yBi,Qb9,Qar,cont,Out.opt,ub9,Qas,Qby,Qad,Qau,Qal,Qam,Qw,Option.map]
theorem Qua (k:Nat) {n:Nat} (h4:n ≤ 4) {m:Int} (h2:2 ≤ m) {M:Tb} (h:Sq n M):cfn (k + 2) 17 [.fz (Qh M),.fz (.int m)] = .ok (.fz (Qh (rs m M))) [.non,.non] :=
 Qkq k h2 (by rw [h.len]; exact h4) (fun r hr=>by rw [h.row r hr]; exact h4)
noncomputable def mOf:T → Tb
 | .tup ts=>ts.map iOf
 | _=>[]
theorem Qvr (M:Tb):mOf (Qh M) = M:=by
 show (M.map Ql).map iOf = M
 rw [List.map_map]
 conv=>rhs; rw [← List.map_id M]
 exact List.map_congr_left fun r _=>Qdp r
theorem Qmt (k:Nat) {n:Nat} {Ms:List Tb} (h:Tabs n Ms) {m:Int} (h2:2 ≤ m):cfn (k + 3) 18 [.fz (Qq Ms),.fz (.int m)] = .ok (.ow (Qq (Ms.map (rs m)))) [.non,.non]:=by
 have m4:=h.m4
 have hcomp:evE (cfn (k + 2)) (.comp (.seq (.var 0)) [none,some 1] (.nm 0) .nil (.call 17 (.cons (.var 0) (.cons (.var 1) .nil)))) [.fz (Qq Ms),.fz (.int m)] = .ok (.ow (.lst ((Ms.map Qh).map fun x=>Qh (rs m (mOf x))))) [.fz (Qq Ms),.fz (.int m)] :=
  Qbg (rest:=[.fz (.int m)]) rfl rfl rfl rfl (fun x hx=>by
   obtain ⟨M,hm,rfl⟩:=List.mem_map.mp hx
   have e:=Qua k h.n4 h2 (h.sq M hm)
   refine ⟨.fz (Qh (rs m M)),?_,by rw [Qvr]; rfl⟩
   simp only [Qao,Qm,Qv,Qac,Qd,Q5,yC1,Qe,Qy,yC2,Q7,Q0,Qah,Q2,Qav,Qag,e,Qa6,Qp,Q4,L2.Qk,Option.map,if_true]) (by rw [List.length_map]; omega)
 have em:((Ms.map Qh).map fun x=>Qh (rs m (mOf x))) = (Ms.map (rs m)).map Qh:=by
  rw [List.map_map,List.map_map]
  refine List.map_congr_left fun M _=>?_
  show Qh (rs m (mOf (Qh M))) = Qh (rs m M)
  rw [Qvr]
 rw [em] at hcomp
 show Qa2 (cfn (k + 2)) ⟨2,2,Qeo⟩ _ = _
 rw [Qaw rfl]
 show Qbi _ (exS _ Qeo [.fz (Qq Ms),.fz (.int m)]) = _
 simp only [Qaz,hcomp,Qas,Qby,Qad,Qau,Qal,Qam,Qw,Option.map]
theorem Qsq (k:Nat) {m:Int} (h2:2 ≤ m) (h7:m ≤ 7):cfn (k + 2) 7 [.fz (.int m)] = .ok (.fz .non) [.non]:=by
 have e:cfn (k + 1) 0 [.fz (.int m)] = .ok (.fz (.bl true)) [.non]:=rfl
 have c1:¬ (m < 2):=by omega
 have c2:¬ (7 < m):=by omega
 show Qa2 (cfn (k + 1)) ⟨1,1,Qhh⟩ _ = _
 rw [Qaw rfl]
 show Qbi _ (exS _ Qhh [.fz (.int m)]) = _
 simp only [Qbt,Qtr,Qkl,Qao,Qm,Qv,Qac,Qd,Q5,yC1,Qy,yC2,Q7,Q0,Qah,Q2,Qav,Qag,e,Qa6,Qp,Q4,L2.Qk,Option.map,if_true,Qaf,yBl,Qpa,Bool.not_true,yOr,Qc5,Qcx,Qct,Qcw,Qcv,cont,Qcu,uc3,c1,decide_false,uc5,c2,yB,Qas,yIf,Qdb,Qts,Qam,Qw]
theorem Qmu {m:Int} {f g:Nat → Int}:∀ L:List Nat,(∀ k ∈ L,f k % m = g k % m) → (L.map f).sum % m = (L.map g).sum % m
 | [],_=>rfl
 | k :: L,h=>by
  rw [List.map_cons,List.map_cons,List.sum_cons,List.sum_cons,Int.add_emod,h k (.head _),Qmu L fun j hj=>h j (.tail _ hj),← Int.add_emod]
theorem Qub (m:Int) (l:List Int) (j:Nat):ge (rsR m l) j = ge l j % m:=by
 unfold ge rsR
 rw [List.getD_eq_getElem?_getD,List.getD_eq_getElem?_getD,List.getElem?_map]
 cases l[j]? with
 | none=>show (0:Int) = 0 % m; rw [Int.zero_emod]
 | some v=>rfl
theorem Q3t (m:Int) (M:Tb) (j:Nat):col (rs m M) j = rsR m (col M j):=by
 unfold col rs
 rw [List.map_map]
 unfold rsR
 rw [List.map_map]
 exact List.map_congr_left fun l _=>Qub m l j
theorem Q3u {m:Int} (r c:List Int):Qes r (rsR m c) % m = Qes r c % m:=by
 unfold Qes
 refine Qmu _ fun k _=>?_
 rw [Qub,Int.mul_emod,Int.emod_emod_of_dvd _ (Int.dvd_refl m),← Int.mul_emod]
theorem Q0m {m:Int} (r c:List Int):Qes (rsR m r) c % m = Qes r c % m:=by
 unfold Qes
 rw [show (rsR m r).length = r.length by unfold rsR; rw [List.length_map]]
 refine Qmu _ fun k _=>?_
 rw [Qub,Int.mul_emod,Int.emod_emod_of_dvd _ (Int.dvd_refl m),← Int.mul_emod]
theorem Q9l {m:Int} (M:Tb) (r:List Int):rsR m (rb (rs m M) r) = rsR m (rb M r):=by
 unfold rb
 rw [show (rs m M).length = M.length by unfold rs; rw [List.length_map]]
 conv=>lhs; unfold rsR
 conv=>rhs; unfold rsR
 rw [List.map_map,List.map_map]
 refine List.map_congr_left fun j _=>?_
 show Qes r (col (rs m M) j) % m = Qes r (col M j) % m
 rw [Q3t,Q3u]
theorem Q3v {m:Int} (M:Tb) (r:List Int):rsR m (rb M (rsR m r)) = rsR m (rb M r):=by
 unfold rb
 conv=>lhs; unfold rsR
 conv=>rhs; unfold rsR
 rw [List.map_map,List.map_map]
 refine List.map_congr_left fun j _=>?_
 exact Q0m r (col M j)
theorem Q3w {m:Int} (X M:Tb):rs m (Qfk X (rs m M)) = rs m (Qfk X M):=by
 unfold Qfk
 conv=>lhs; unfold rs
 conv=>rhs; unfold rs
 rw [List.map_map,List.map_map]
 exact List.map_congr_left fun r _=>Q9l M r
theorem Q0n {m:Int} (X M:Tb):rs m (Qfk (rs m X) M) = rs m (Qfk X M):=by
 unfold Qfk
 conv=>lhs; unfold rs
 conv=>rhs; unfold rs
 rw [List.map_map,List.map_map,List.map_map]
 exact List.map_congr_left fun r _=>Q3v M r
noncomputable def St (n:Nat) (m:Int) (X:Tb):Prop:=X.length = n ∧ ∀ r ∈ X,r.length = n ∧ ∀ x ∈ r,0 ≤ x ∧ x < m
structure Md (n:Nat) (m:Int):Prop where
 lo:2 ≤ m
 hi:m ≤ 7
 le:(m.toNat ^ n) ^ n ≤ 512
 hh:∀ X Y:Tb,St n m X → St n m Y → Qei X = Qei Y → X = Y
noncomputable abbrev stp (Ms:List Tb) (m:Int) (X:Tb) (k:Nat):Tb:=rs m (Qfk X (Ms.getD k []))
theorem Q5t {n:Nat} {m:Int} (h2:2 ≤ m) {X:Tb} (hX:X.length = n) (hr:∀ r ∈ X,r.length = n):St n m (rs m X):=by
 refine ⟨by unfold rs; rw [List.length_map,hX],fun r h=>?_⟩
 unfold rs at h
 obtain ⟨u,hu,rfl⟩:=List.mem_map.mp h
 refine ⟨by unfold rsR; rw [List.length_map,hr u hu],fun x hx=>?_⟩
 unfold rsR at hx
 obtain ⟨v,_,rfl⟩:=List.mem_map.mp hx
 exact ⟨Int.emod_nonneg v (by omega),Int.emod_lt_of_pos v (by omega)⟩
theorem Qk9 {n:Nat} {X M:Tb} (hX:X.length = n) (hM:M.length = n):(Qfk X M).length = n ∧ ∀ r ∈ Qfk X M,r.length = n:=by
 unfold Qfk
 refine ⟨by rw [List.length_map,hX],fun r hr=>?_⟩
 obtain ⟨u,_,rfl⟩:=List.mem_map.mp hr
 rw [Q9k,hM]
theorem Q0o {n:Nat} {m:Int} (h2:2 ≤ m) {Ms:List Tb} (h:Tabs n Ms) {i:Nat} (hi:i < Ms.length) {X:Tb} (hX:X.length = n):St n m (stp Ms m X i):=by
 obtain ⟨a,b⟩:=Qk9 hX (Qmr h hi).2.len
 exact Q5t h2 a b
theorem Qsr {n:Nat} {m:Int} (h2:2 ≤ m) (h7:m ≤ 7) {Ms:List Tb} (h:Tabs n Ms) {i:Nat} (hi:i < Ms.length):atI ((Ms.map (rs m)).map Qh) (i:Int) = some (Qh (rs m (Ms.getD i []))) ∧ Sq n (rs m (Ms.getD i [])):=by
 refine ⟨Qan ?_,Qadk h2 h7 (Qmr h hi).2⟩
 rw [List.getElem?_map,List.getElem?_map,List.getElem?_eq_getElem hi]
 show some (Qh (rs m Ms[i])) = _
 rw [show Ms.getD i [] = Ms[i] by rw [List.getD_eq_getElem?_getD,List.getElem?_eq_getElem hi,Option.getD_some]]
noncomputable abbrev clT (Ms:List Tb) (m:Int):T:=.clo 37 [Qq (Ms.map (rs m)),.int m]
theorem Qadl (k:Nat) {n:Nat} {Ms:List Tb} (h:Tabs n Ms) {m:Int} (h2:2 ≤ m) (h7:m ≤ 7) {X:Tb} (hX:St n m X) {i:Nat} (hi:i < Ms.length):cfn (k + 4) 37 [.fz (Qh X),.fz (.int i),.fz (Qq (Ms.map (rs m))),.fz (.int m)] = .ok (.fz (Qh (stp Ms m X i))) [.non,.non,.non,.non]:=by
 obtain ⟨a,q⟩:=Qsr h2 h7 h hi
 have n4:=h.n4
 have lX:=hX.1
 have e:=Q3q k q h.n4 (X:=X) (fun r hr=>(hX.2 r hr).1) (by omega)
 obtain ⟨l1,l2⟩:=Qk9 hX.1 q.len
 have e2:=Qkq (k + 1) h2 (M:=Qfk X (rs m (Ms.getD i []))) (by omega) (fun r hr=>by rw [l2 r hr]; omega)
 rw [Q3w] at e2
 show Qa2 (cfn (k + 3)) ⟨4,4,.ret Qmo⟩ _ = _
 rw [Qaw rfl]
 show Qbi _ (exS _ (.ret Qmo) [.fz (Qh X),.fz (.int i),.fz (Qq (Ms.map (rs m))),.fz (.int m)]) = _
 simp only [Qaz,Qao,Qm,Qv,Qac,Qd,Q5,yC1,Qhc,Qe,Qgv,Qgu,Qgt,cont,Qgs,ui1,a,Qy,yC2,Q7,Q0,Qah,Q2,Qav,Qag,e,Qa6,Qp,Q4,L2.Qk,Option.map,if_true,e2,Qas,Qby,Qad,Qau,Qal,Qam,Qw]
noncomputable abbrev dT (D:List En2):T:=.dtt (D.map (·.1)) (D.map fun p=>Ql p.2)
theorem Qdz (z:Tb):∀ D:List En2,Qfh (D.map (·.1)) (D.map fun p=>Ql p.2) z = (D.lookup z).map Ql
 | []=>rfl
 | p :: D=>by
  rw [List.map_cons,List.map_cons,Qfh,List.lookup_cons]
  by_cases h:p.1 = z
  ·rw [if_pos h,← h,beq_self_eq_true]; rfl
  ·rw [if_neg h,beq_eq_false_iff_ne.mpr (Ne.symm h)]; exact Qdz z D
theorem Qqe {D:List En2} {z:Tb} {w:List Int} (h:D.lookup z = none):Qks (D.map (·.1)) (D.map fun p=>Ql p.2) z (Ql w) = dT (D ++ [(z,w)]):=by
 unfold Qks
 rw [Qdz,h]
 show T.dtt _ _ = T.dtt ((D ++ [(z,w)]).map (·.1)) ((D ++ [(z,w)]).map fun p=>Ql p.2)
 rw [List.map_append,List.map_append]
 rfl
theorem Qce (M:Tb):Qi9 (.fz (Qh M)) = some M:=by
 show Qln (M.map Ql) = some M
 induction M with
 | nil=>rfl
 | cons r M ih =>
  rw [List.map_cons]
  unfold Qln
  rw [intL_mp,ih]
noncomputable abbrev Qvs:S:=.seq (.setF 7 (.app 2 (.cons (.var 5) (.cons (.var 6) .nil)))) (.ite (.din true (.var 7) (.var 0)) (.seq (.dput 0 (.var 7) (.bin .add (.dix (.var 0) (.var 5)) (.tup (.cons (.var 6) .nil)))) (.app 4 (.var 7))) .nil)
noncomputable abbrev Qab (N:List En2):List T:=N.map fun p=>Qh p.1
theorem Q3x (k:Nat) {n:Nat} {Ms:List Tb} (h:Tabs n Ms) {m:Int} (h2:2 ≤ m) (h7:m ≤ 7) {D N:List En2} {r:Tb} {w:List Int} (hr:St n m r) (hw:D.lookup r = some w) (hz:w.length ≤ 1000) {i:Nat} (hi:i < Ms.length) (hD:D.length ≤ 10000) (hN:N.length ≤ 10000) {a b s7:Slot} (o7:Qax s7 = true) :
  ∃ s7',Qax s7' = true ∧ exS (cfn (k + 4)) Qvs [.ml (dT D),a,.fz (clT Ms m),b,.ow (.lst (Qab N)),.fz (Qh r),.fz (.int i),s7] =
   .nx [.ml (dT (D ++ dd D [(stp Ms m r i,w ++ [(i:Int)])])),a,.fz (clT Ms m),b,.ow (.lst (Qab (N ++ dd D [(stp Ms m r i,w ++ [(i:Int)])]))),.fz (Qh r),.fz (.int i),s7']:=by
 have e:=Qadl k h h2 h7 hr hi
 have e1:evE (cfn (k + 4)) (.app 2 (.cons (.var 5) (.cons (.var 6) .nil))) [.ml (dT D),a,.fz (clT Ms m),b,.ow (.lst (Qab N)),.fz (Qh r),.fz (.int i),s7] = .ok (.fz (Qh (stp Ms m r i))) [.ml (dT D),a,.fz (clT Ms m),b,.ow (.lst (Qab N)),.fz (Qh r),.fz (.int i),s7]:=by
  simp only [Qadg,Qe,Qd,Qz8,Qm,Qv,Qac,Q5,yC1,Qy,yC2,Q9b,yApl,List.map_cons,List.map_nil,List.cons_append,List.nil_append,Q7,Q0,Qah,Q2,Qav,Qag,e,Qa6,Qp,Q4,L2.Qk,Option.map,if_true,Q3g]
 have e2:exS (cfn (k + 4)) (.setF 7 (.app 2 (.cons (.var 5) (.cons (.var 6) .nil)))) [.ml (dT D),a,.fz (clT Ms m),b,.ow (.lst (Qab N)),.fz (Qh r),.fz (.int i),s7] = .nx [.ml (dT D),a,.fz (clT Ms m),b,.ow (.lst (Qab N)),.fz (Qh r),.fz (.int i),.fz (Qh (stp Ms m r i))]:=by
  rw [Qbn,e1]
  cases s7 <;> first | rfl | cases o7
 refine ⟨.fz (Qh (stp Ms m r i)),rfl,?_⟩
 rw [Qay,e2,Qb5,Qdo]
 have c1:D.length < 100000:=by omega
 have c2:N.length < 100000:=by omega
 have c3:w.length + 1 ≤ 100000:=by omega
 have c4:(1:Nat) ≤ 100000:=by decide
 cases hs:D.lookup (stp Ms m r i) with
 | some v =>
  rw [if_pos (show (some v).isSome = true from rfl)]
  simp only [Qbt,Qkm,Qv,Qac,Qe,Qd,Q5,Qpc,Qjn,Qjm,Qce,cont,Slot.prv,Qdz,Option.map,hs,Option.isSome_some,Bool.not_true,if_true,Qaf,yBl,Qas,yIf,Qdb,dd,List.append_nil]
 | none =>
  rw [if_neg (by simp)]
  simp only [Qbt,Qkm,Qv,Qac,Qe,Qd,Q5,Qpc,Qjn,Qjm,Qce,cont,Slot.prv,Qdz,Option.map,hs,Option.isSome_none,Bool.not_false,if_true,Qaf,yBl,Qas,yIf,Qay,Qpd,Qej,Q5o,Q9c,Q0b,Q0a,Qz9,hw,Qd3,Qme,Qm,yC1,Qy,yC2,Qrq,Qdq,frz,List.length_cons,List.length_nil,Nat.reduceAdd,c4,Qd2,Qd1,Out.opt,uo2,List.length_map,c3,yDp,Q0f,Slot.mutD,Q0e,Q0d,Q0c,c1,List.set,Qb5,Qj2,Slot.mut,Qrs,Qmg,Qmf,c2,dd,List.map_append,List.map_cons,List.map_nil]
  rw [show T.tup (List.map T.int w ++ [T.int (i:Int)]) = Ql (w ++ [(i:Int)]) from by unfold Ql; rw [List.map_append]; rfl,Qqe hs]
theorem Qmv:∀ (P D:List En2),(dd D P).length ≤ P.length
 | [],_=>Nat.le_refl _
 | p :: P,D=>by
  rw [Qdo]
  by_cases h:(D.lookup p.1).isSome = true
  ·rw [if_pos h,List.length_cons]; exact Nat.le_succ_of_le (Qmv P D)
  ·rw [if_neg h,List.length_cons,List.length_cons]; exact Nat.succ_le_succ (Qmv P _)
noncomputable abbrev ent (Ms:List Tb) (m:Int) (r:Tb) (w:List Int) (i:Nat):List En2:=(List.range i).map fun k=>(stp Ms m r k,w ++ [(k:Int)])
theorem Qss (Ms:List Tb) (m:Int) (r:Tb) (w:List Int) (i:Nat):ent Ms m r w (i + 1) = ent Ms m r w i ++ [(stp Ms m r i,w ++ [(i:Int)])]:=by unfold ent; rw [List.range_succ,List.map_append]; rfl
theorem Q0p (k:Nat) {n:Nat} {Ms:List Tb} (h:Tabs n Ms) {m:Int} (h2:2 ≤ m) (h7:m ≤ 7) {D N:List En2} {r:Tb} {w:List Int} (hr:St n m r) (hw:D.lookup r = some w) (hz:w.length ≤ 1000) (hD:D.length ≤ 9000) (hN:N.length ≤ 9000) {a b s6 s7:Slot} (o6:Qax s6 = true) (o7:Qax s7 = true) :
  ∃ s6' s7',Qax s6' = true ∧ Qax s7' = true ∧ Qde (.nm 6) (exS (cfn (k + 4)) Qvs) (Qa0 0 Ms.length) [.ml (dT D),a,.fz (clT Ms m),b,.ow (.lst (Qab N)),.fz (Qh r),s6,s7] =
   .nx [.ml (dT (D ++ dd D (ex1 Ms.length (stp Ms m) (r,w)))),a,.fz (clT Ms m),b,.ow (.lst (Qab (N ++ dd D (ex1 Ms.length (stp Ms m) (r,w))))),.fz (Qh r),s6',s7']:=by
 have m4:=h.m4
 obtain ⟨ρ',e,s6',s7',p6,p7,rfl⟩:=Qcc (fun j ρ=>∃ s6' s7',Qax s6' = true ∧ Qax s7' = true ∧ ρ = [.ml (dT (D ++ dd D (ent Ms m r w j))),a,.fz (clT Ms m),b,.ow (.lst (Qab (N ++ dd D (ent Ms m r w j)))),.fz (Qh r),s6',s7'])
  (xs:=Qa0 0 Ms.length) (n:=0) (ρ:=[.ml (dT D),a,.fz (clT Ms m),b,.ow (.lst (Qab N)),.fz (Qh r),s6,s7]) ⟨s6,s7,o6,o7,by show _ = [Slot.ml (dT (D ++ [])),a,.fz (clT Ms m),b,.ow (.lst (Qab (N ++ []))),.fz (Qh r),s6,s7]; rw [List.append_nil,List.append_nil]⟩ (tg:=.nm 6) (b:=exS (cfn (k + 4)) Qvs) (by
  rintro i x ρ hx ⟨t6,t7,p6,p7,rfl⟩
  have hi:i < Ms.length:=by have:=(List.getElem?_eq_some_iff.mp hx).1; rwa [Qaj] at this
  rw [Qfi hi] at hx
  cases hx
  rw [Nat.zero_add]
  have hl:=Qmv (ent Ms m r w i) D
  have hle:(ent Ms m r w i).length = i:=by unfold ent; rw [List.length_map,List.length_range]
  obtain ⟨t7',q7,e7⟩:=Q3x k h h2 h7 (D:=D ++ dd D (ent Ms m r w i)) (N:=N ++ dd D (ent Ms m r w i)) (a:=a) (b:=b) hr (by rw [Qhu,hw]; rfl) hz hi (by rw [List.length_append]; omega) (by rw [List.length_append]; omega) p7
  refine ⟨[.ml (dT (D ++ dd D (ent Ms m r w i))),a,.fz (clT Ms m),b,.ow (.lst (Qab (N ++ dd D (ent Ms m r w i)))),.fz (Qh r),.fz (.int (0 + (i:Int))),t7],_,(by cases t6 <;> first | rfl | cases p6),.inl ?_,.fz (.int (i:Int)),t7',rfl,q7,rfl⟩
  rw [Int.zero_add,e7,Qss,Qix,List.append_assoc,List.append_assoc])
 refine ⟨s6',s7',p6,p7,?_⟩
 rw [e]
 rw [Qaj,Nat.zero_add]
 rfl
noncomputable abbrev Q9m:S:=.for_ (.rng1 (.var 3)) (.nm 6) Qvs
theorem Qvt (m:Nat) (st:Tb → Nat → Tb):∀ N:List En2,(exs m st N).length = N.length * m
 | []=>by simp [exs]
 | p :: N=>by
  have:exs m st (p :: N) = ex1 m st p ++ exs m st N:=by unfold exs; rw [List.flatMap_cons]
  rw [this,List.length_append,Qvt m st N,List.length_cons]
  unfold ex1
  rw [List.length_map,List.length_range,Nat.succ_mul,Nat.add_comm]
theorem Qst (m:Nat) (st:Tb → Nat → Tb) (N:List En2) (p:En2):exs m st (N ++ [p]) = exs m st N ++ ex1 m st p:=by unfold exs; rw [List.flatMap_append,List.flatMap_cons,List.flatMap_nil,List.append_nil]
theorem Q0q (k:Nat) {n:Nat} {Ms:List Tb} (h:Tabs n Ms) {m:Int} (h2:2 ≤ m) (h7:m ≤ 7) {D N:List En2} (hN:∀ p ∈ N,St n m p.1 ∧ D.lookup p.1 = some p.2 ∧ p.2.length ≤ 1000) (lN:N.length ≤ 1000) (lD:D.length ≤ 1000) :
  cfn (k + 5) 9 [.ml (dT D),.fz (.lst (Qab N)),.fz (clT Ms m),.fz (.int Ms.length)] = .ok (.ow (.lst (Qab (dd D (exs Ms.length (stp Ms m) N))))) [dT (D ++ dd D (exs Ms.length (stp Ms m) N)),.non,.non,.non]:=by
 have m4:=h.m4
 have c:Ms.length ≤ 100000:=by omega
 obtain ⟨ρ',e,s5',s6',s7',p5,p6,p7,rfl⟩:=Qcc (fun j ρ=>∃ s5' s6' s7',Qax s5' = true ∧ Qax s6' = true ∧ Qax s7' = true ∧ ρ = [.ml (dT (D ++ dd D (exs Ms.length (stp Ms m) (N.take j)))),.fz (.lst (Qab N)),.fz (clT Ms m),.fz (.int Ms.length),.ow (.lst (Qab (dd D (exs Ms.length (stp Ms m) (N.take j))))),s5',s6',s7'])
  (xs:=Qab N) (n:=0) (ρ:=[.ml (dT D),.fz (.lst (Qab N)),.fz (clT Ms m),.fz (.int Ms.length),.ow (.lst []),.un,.un,.un]) ⟨.un,.un,.un,rfl,rfl,rfl,by show _ = [Slot.ml (dT (D ++ [])),.fz (.lst (Qab N)),.fz (clT Ms m),.fz (.int Ms.length),.ow (.lst []),.un,.un,.un]; rw [List.append_nil]⟩ (tg:=.nm 5) (b:=exS (cfn (k + 4)) Q9m) (by
  rintro i x ρ hx ⟨t5,t6,t7,p5,p6,p7,rfl⟩
  rw [List.getElem?_map] at hx
  cases hp:N[i]? with
  | none=>rw [hp] at hx; cases hx
  | some p =>
   rw [hp] at hx
   cases hx
   rw [Nat.zero_add]
   obtain ⟨q1,q2,q3⟩:=hN p (List.mem_of_getElem? hp)
   have il:i < N.length:=(List.getElem?_eq_some_iff.mp hp).1
   have hl:=Qmv (exs Ms.length (stp Ms m) (N.take i)) D
   rw [Qvt,List.length_take,Nat.min_eq_left (by omega)] at hl
   have hb:i * Ms.length ≤ 1000 * 4:=Nat.mul_le_mul (by omega) m4
   obtain ⟨t6',t7',q6,q7,e7⟩:=Q0p k h h2 h7 (D:=D ++ dd D (exs Ms.length (stp Ms m) (N.take i))) (N:=dd D (exs Ms.length (stp Ms m) (N.take i))) (a:=.fz (.lst (Qab N))) (b:=.fz (.int Ms.length)) q1 (w:=p.2) (by rw [Qhu,q2]; rfl) q3 (by rw [List.length_append]; omega) (by omega) p6 p7
   refine ⟨[.ml (dT (D ++ dd D (exs Ms.length (stp Ms m) (N.take i)))),.fz (.lst (Qab N)),.fz (clT Ms m),.fz (.int Ms.length),.ow (.lst (Qab (dd D (exs Ms.length (stp Ms m) (N.take i))))),.fz (Qh p.1),t6,t7],_,(by cases t5 <;> first | rfl | cases p5),.inl ?_,.fz (Qh p.1),t6',t7',rfl,q6,q7,rfl⟩
   have et:N.take (i + 1) = N.take i ++ [p]:=by rw [List.take_add_one,hp]; rfl
   rw [et,Qst,Qix]
   simp only [Qhd,Qfa,Qv,Qac,Qe,Qd,Q5,Qm7 c,Qas,Qku,e7,List.append_assoc,Qc6])
 rw [Nat.zero_add,show (Qab N).length = N.length from List.length_map _,List.take_length] at e
 have z0:(0:Nat) ≤ 100000:=by decide
 show Qa2 (cfn (k + 4)) ⟨4,8,Qhj⟩ _ = _
 rw [Qaw rfl]
 show Qbi _ (exS _ Qhj [.ml (dT D),.fz (.lst (Qab N)),.fz (clT Ms m),.fz (.int Ms.length),.un,.un,.un,.un]) = _
 simp only [Qay,Qoi,Qkk,Qy,Q5,Qo9,Qdq,List.length_nil,z0,if_true,Qas,Qo0,Qat,Qbx,List.length_cons,Nat.reduceAdd,Nat.reduceLT,Qe,Qd,List.set,Qb5,Qhd,Qz1,Qv,Qac,Q3a,Qvk,cont,Qvj,Qi8,Qja,Qku,e,Qc6,Qaz,Qby,Qad,Qau,Qal,Qam,Qw,Option.map]
open PySem L2
theorem Q0r:∀ (ts:List T),eqL ts [] = ts.isEmpty
 | []=>by rw [Qhv]; rfl
 | t :: ts=>by rw [Qfo (by simp)]; rfl
theorem Q3y {ts:List T} (h:ts.all (Qi 49) = true):eqO (.lst ts) (.lst []) = some ts.isEmpty:=by
 show (if _ then _ else _) = _
 rw [if_pos ⟨by rw [Qi]; exact h,by simp [Qi]⟩,eqT,Q0r]
theorem Quc (n:Nat):(List.replicate n [T.int 0]).flatten = (List.replicate n (0:Int)).map T.int:=by
 induction n with
 | zero=>rfl
 | succ n ih=>rw [List.replicate_succ,List.replicate_succ,List.flatten_cons,ih]; rfl
noncomputable abbrev zro (n:Nat):List Int:=List.replicate n 0
theorem Q0s (n:Nat) (z:List Int):(List.replicate n [Ql z]).flatten = (List.replicate n z).map Ql:=by
 induction n with
 | zero=>rfl
 | succ n ih=>rw [List.replicate_succ,List.replicate_succ,List.flatten_cons,ih]; rfl
noncomputable abbrev Qnm (n:Nat):Tb:=List.replicate n (zro n)
theorem Q5u (n:Nat):T.tup (List.replicate n [T.tup (List.replicate n [T.int 0]).flatten]).flatten = Qh (Qnm n):=by
 rw [Quc]
 exact congrArg T.tup (Q0s n (zro n))
theorem Q0t (k:Nat) {n:Nat} (h1:1 ≤ n) (h4:n ≤ 4):cfn (k + 1) 22 [.fz (.int n)] = .ok (.fz (Qh (Qnm n))) [.non]:=by
 have c1:1 * n ≤ 100000:=by omega
 have c2:(1:Int) ≤ (n:Int):=by omega
 have c3:n ≤ 100000:=by omega
 have z1:(1:Nat) ≤ 100000:=by decide
 show Qa2 (cfn k) ⟨1,1,Qhn⟩ _ = _
 rw [Qaw rfl]
 show Qbi _ (exS _ Qhn [.fz (.int n)]) = _
 simp only [Qaz,Qej,Qme,Qm,Qct,Q5,yC1,Qy,yC2,Qrq,Qdq,frz,List.length_cons,List.length_nil,Nat.reduceAdd,z1,if_true,Qd3,Qv,Qac,Qd,Qd2,Qd1,cont,Out.opt,uo6,Int.toNat_natCast,c1,c2,Int.natAbs_natCast,c3,ne_eq,reduceCtorEq,not_false_eq_true,and_self,Q5u,Qas,Qby,Qad,Qau,Qal,Qam,Qw,Option.map]
theorem Qqf (k:Nat) {n:Nat} {Ms:List Tb} (h:Tabs n Ms):cfn (k + 1) 34 [.fz (Qq Ms)] = .ok (.fz (Qh (Qnm n))) [.non]:=by
 obtain ⟨M0,a0,l0⟩:=tab0 h
 have h1:=h.n1
 have h4:=h.n4
 have c1:1 * n ≤ 100000:=by omega
 have c2:(1:Int) ≤ (n:Int):=by omega
 have c3:n ≤ 100000:=by omega
 have z1:(1:Nat) ≤ 100000:=by decide
 show Qa2 (cfn k) ⟨1,1,Qgj⟩ _ = _
 rw [Qaw rfl]
 show Qbi _ (exS _ Qgj [.fz (Qq Ms)]) = _
 simp only [Qaz,Qej,Qme,Qm,Qct,Q5,yC1,Qy,yC2,Qrq,Qdq,frz,List.length_cons,List.length_nil,Nat.reduceAdd,z1,if_true,Qd3,Qcd,Qhc,Qv,Qac,Qd,Qgv,Qgu,Qgt,cont,Qgs,ui1,a0,yBi,Qb9,Qar,Out.opt,ub2,List.length_map,l0,Qd2,Qd1,uo6,Int.toNat_natCast,c1,c2,Int.natAbs_natCast,c3,ne_eq,reduceCtorEq,not_false_eq_true,and_self,Q5u,Qas,Qby,Qad,Qau,Qal,Qam,Qw,Option.map]
theorem whl_run {c:En → Out Bool} {b:En → SO} {Z:En → Prop} (J:Nat → En → Prop) (h:∀ i ρ,J i ρ → (∃ ρ1,c ρ = .ok false ρ1 ∧ Z ρ1) ∨ (∃ i' ρ1 ρ2,i = i' + 1 ∧ c ρ = .ok true ρ1 ∧ b ρ1 = .nx ρ2 ∧ J i' ρ2)) :
  ∀ (i fuel:Nat) (ρ:En),i < fuel → J i ρ → ∃ ρ',Qfr c b fuel ρ = .nx ρ' ∧ Z ρ'
 | i,0,ρ,hf,_=>absurd hf (Nat.not_lt_zero _)
 | i,fuel + 1,ρ,hf,hj=>by
  rcases h i ρ hj with ⟨ρ1,e,z⟩ | ⟨i',ρ1,ρ2,rfl,e1,e2,j⟩
  ·refine ⟨ρ1,?_,z⟩
   unfold Qfr
   rw [e]
   rfl
  ·obtain ⟨ρ',e3,z⟩:=whl_run J h i' fuel ρ2 (by omega) j
   refine ⟨ρ',?_,z⟩
   unfold Qfr
   rw [e1]
   show (match b ρ1 with | .nx ρ2=>Qfr c b fuel ρ2 | .ct ρ2=>Qfr c b fuel ρ2 | .bk ρ2=>.nx ρ2 | o=>o) = _
   rw [e2]
   exact e3
theorem Qmw:∀ {P D:List En2} {p:En2},p ∈ dd D P → p ∈ P
 | [],_,_,h=>by cases h
 | q :: P,D,p,h=>by
  rw [Qdo] at h
  by_cases e:(D.lookup q.1).isSome = true
  ·rw [if_pos e] at h; exact .tail _ (Qmw h)
  ·rw [if_neg e] at h
   rcases List.mem_cons.mp h with z | z
   ·rw [z]; exact .head _
   ·exact .tail _ (Qmw z)
theorem Qla:∀ {P D:List En2} {p:En2},p ∈ dd D P → (D ++ dd D P).lookup p.1 = some p.2
 | [],_,_,h=>by cases h
 | q :: P,D,p,h=>by
  rw [Qdo] at h ⊢
  by_cases e:(D.lookup q.1).isSome = true
  ·rw [if_pos e] at h ⊢; exact Qla h
  ·rw [if_neg e] at h ⊢
   rcases List.mem_cons.mp h with z | z
   ·rw [z,Qhu]
    cases e2:D.lookup q.1 with
    | some w=>rw [e2] at e; exact absurd rfl e
    | none=>rw [List.lookup_cons,beq_self_eq_true]; rfl
   ·have:=Qla z
    rw [List.append_assoc] at this
    exact this
theorem Qvu {m:Nat} {st:Tb → Nat → Tb} {N:List En2} {p:En2} (h:p ∈ exs m st N):∃ q ∈ N,∃ k,k < m ∧ p = (st q.1 k,q.2 ++ [(k:Int)]):=by
 obtain ⟨q,hq,hp⟩:=List.mem_flatMap.mp h
 unfold ex1 at hp
 obtain ⟨k,hk,rfl⟩:=List.mem_map.mp hp
 exact ⟨q,hq,k,List.mem_range.mp hk,rfl⟩
noncomputable def InW (q:Nat) (w:List Int):Prop:=∀ i ∈ w,0 ≤ i ∧ i < (q:Int)
noncomputable def wkR (Ms:List Tb) (m:Int) (w:List Int) (X:Tb):Tb:=w.foldl (fun X i=>stp Ms m X i.toNat) X
noncomputable def Way (Ms:List Tb) (m:Int) (p:En2):Prop:=∃ i w,p.2 = i :: w ∧ InW Ms.length p.2 ∧ wkR Ms m w (rs m (Ms.getD i.toNat [])) = p.1
noncomputable abbrev ini (Ms:List Tb) (m:Int) (i:Nat):List En2:=(List.range i).map fun k=>(rs m (Ms.getD k []),[(k:Int)])
theorem Q0u (Ms:List Tb) (m:Int) (i:Nat):ini Ms m (i + 1) = ini Ms m i ++ [(rs m (Ms.getD i []),[(i:Int)])]:=by unfold ini; rw [List.range_succ,List.map_append]; rfl
noncomputable abbrev beg (Ms:List Tb) (m:Int) (i:Nat):List En2:=dd [] (ini Ms m i)
theorem Qmx (Ms:List Tb) (m:Int) (i:Nat):beg Ms m (i + 1) = beg Ms m i ++ dd (beg Ms m i) [(rs m (Ms.getD i []),[(i:Int)])]:=by
 show dd [] (ini Ms m (i + 1)) = _
 rw [Q0u,Qix,List.nil_append]
theorem Qud (Ms:List Tb) (m:Int):∀ i,beg Ms m (i + 1) ≠ []
 | 0=>by intro z; cases z
 | i + 1=>by
  rw [Qmx]
  intro z
  exact Qud Ms m i (List.append_eq_nil_iff.mp z).1
noncomputable abbrev lvD (Ms:List Tb) (m:Int) (j:Nat):List En2:=(lvP Ms.length (stp Ms m) (beg Ms m Ms.length) j).1
noncomputable abbrev lvN (Ms:List Tb) (m:Int) (j:Nat):List En2:=(lvP Ms.length (stp Ms m) (beg Ms m Ms.length) j).2
structure Lv (n:Nat) (Ms:List Tb) (m:Int) (j:Nat):Prop where
 st:∀ p ∈ lvD Ms m j,St n m p.1 ∧ Way Ms m p ∧ p.2.length ≤ j + 1
 get:∀ p ∈ lvN Ms m j,(lvD Ms m j).lookup p.1 = some p.2
 sub:∃ D0,lvD Ms m j = D0 ++ lvN Ms m j
 nd:((lvD Ms m j).map (·.1)).Nodup
theorem Q3z {Ms:List Tb} {m:Int} {q:En2} (h:Way Ms m q) {k:Nat} (hk:k < Ms.length):Way Ms m (stp Ms m q.1 k,q.2 ++ [(k:Int)]):=by
 obtain ⟨i,w,e,hi,hw⟩:=h
 refine ⟨i,w ++ [(k:Int)],by show q.2 ++ _ = _; rw [e]; rfl,fun x hx=>?_,?_⟩
 ·rcases List.mem_append.mp hx with z | z
  ·exact hi x z
  ·rw [List.mem_singleton.mp z]; omega
 ·unfold wkR
  rw [List.foldl_append]
  show stp Ms m (wkR Ms m w (rs m (Ms.getD i.toNat []))) (k:Int).toNat = _
  rw [hw,Int.toNat_natCast]
theorem Que {n:Nat} {Ms:List Tb} (h:Tabs n Ms) {m:Int} (h2:2 ≤ m) {i:Nat} (hi:i ≤ Ms.length):(∀ p ∈ beg Ms m i,St n m p.1 ∧ Way Ms m p ∧ p.2.length ≤ 1) ∧ (∀ p ∈ beg Ms m i,(beg Ms m i).lookup p.1 = some p.2) ∧ ((beg Ms m i).map (·.1)).Nodup:=by
 refine ⟨fun p hp=>?_,fun p hp=>Qla hp,Qsj (ini Ms m i) [] List.nodup_nil⟩
 obtain ⟨k,hk,rfl⟩:=List.mem_map.mp (Qmw hp)
 have hk:=List.mem_range.mp hk
 obtain ⟨_,q⟩:=Qmr h (show k < Ms.length by omega)
 refine ⟨Q5t h2 q.len q.row,⟨(k:Int),[],rfl,fun x hx=>?_,?_⟩,Nat.le_refl _⟩
 ·rw [List.mem_singleton.mp hx]; omega
 ·show rs m (Ms.getD (k:Int).toNat []) = rs m (Ms.getD k [])
  rw [Int.toNat_natCast]
theorem Qmy {n:Nat} {Ms:List Tb} (h:Tabs n Ms) {m:Int} (h2:2 ≤ m):∀ j,Lv n Ms m j
 | 0=>by
  obtain ⟨a,b,c⟩:=Que h h2 (Nat.le_refl Ms.length)
  exact ⟨a,b,⟨[],rfl⟩,c⟩
 | j + 1=>by
  have ih:=Qmy h h2 j
  obtain ⟨D0,hs⟩:=ih.sub
  have new:∀ p ∈ dd (lvD Ms m j) (exs Ms.length (stp Ms m) (lvN Ms m j)),St n m p.1 ∧ Way Ms m p ∧ p.2.length ≤ j + 1 + 1:=fun p hp=>by
   obtain ⟨q,hq,k,hk,rfl⟩:=Qvu (Qmw hp)
   obtain ⟨w1,w2,w3⟩:=ih.st q (by rw [hs]; exact List.mem_append_right _ hq)
   exact ⟨Q0o h2 h hk w1.1,Q3z w2 hk,by simp; omega⟩
  refine ⟨fun p hp=>?_,fun p hp=>Qla hp,⟨_,rfl⟩,Qsj _ _ ih.nd⟩
  rcases List.mem_append.mp (show p ∈ lvD Ms m j ++ dd (lvD Ms m j) (exs Ms.length (stp Ms m) (lvN Ms m j)) from hp) with z | z
  ·obtain ⟨a,b,c⟩:=ih.st p z
   exact ⟨a,b,Nat.le_succ_of_le c⟩
  ·exact new p z
theorem Quf {n:Nat} {m:Int} (h2:2 ≤ m) {X:Tb} (h:St n m X):X ∈ tbs m.toNat n :=
 Qp8 h.1 fun r hr=>Qp8 (h.2 r hr).1 fun x hx=>Q3m ((h.2 r hr).2 x hx).1 (by have:=((h.2 r hr).2 x hx).2; omega)
theorem Qqg {n:Nat} {m:Int} (hm:Md n m) {D:List En2} (nd:(D.map (·.1)).Nodup) (hs:∀ p ∈ D,St n m p.1):D.length ≤ 512:=by
 have h1:=Q5r (D.map (·.1)) (tbs m.toNat n) nd fun x hx=>by
  obtain ⟨p,hp,rfl⟩:=List.mem_map.mp hx
  exact Quf hm.lo (hs p hp)
 rw [List.length_map,Q3n] at h1
 exact Nat.le_trans h1 hm.le
theorem Lv.le {n:Nat} {Ms:List Tb} {m:Int} (hm:Md n m) {j:Nat} (L:Lv n Ms m j):(lvD Ms m j).length ≤ 512:=Qqg hm L.nd fun p hp=>(L.st p hp).1
theorem Lv.leN {n:Nat} {Ms:List Tb} {m:Int} (hm:Md n m) {j:Nat} (L:Lv n Ms m j):(lvN Ms m j).length ≤ 512:=by
 obtain ⟨D0,e⟩:=L.sub
 have:=L.le hm
 rw [e,List.length_append] at this
 omega
theorem Lv.inN {n:Nat} {Ms:List Tb} {m:Int} {j:Nat} (L:Lv n Ms m j) {p:En2} (hp:p ∈ lvN Ms m j):p ∈ lvD Ms m j:=by
 obtain ⟨D0,e⟩:=L.sub
 rw [e]
 exact List.mem_append_right _ hp
theorem Qsu {d:Nat} (r:List Int):Qi (d + 2) (Ql r) = true:=by
 show (r.map T.int).all (Qi (d + 1)) = true
 rw [List.all_eq_true]
 intro x hx
 obtain ⟨i,_,rfl⟩:=List.mem_map.mp hx
 rfl
theorem Q0v (M:Tb):Qi 49 (Qh M) = true:=by
 show (M.map Ql).all (Qi 48) = true
 rw [List.all_eq_true]
 intro x hx
 obtain ⟨r,_,rfl⟩:=List.mem_map.mp hx
 exact Qsu r
theorem Qw7 (N:List En2):(Qab N).all (Qi 49) = true:=by
 rw [List.all_eq_true]
 intro x hx
 obtain ⟨p,_,rfl⟩:=List.mem_map.mp hx
 exact Q0v p.1
theorem Q9n (N:List En2):eqO (.lst (Qab N)) (.lst []) = some N.isEmpty:=by
 have:=Q3y (Qw7 N)
 rw [this]
 cases N <;> rfl
theorem Q30 {n:Nat} {m:Int} (hm:Md n m) {D:List En2} (nd:(D.map (·.1)).Nodup) (hs:∀ p ∈ D,St n m p.1):((D.map (·.1)).map Qei).Nodup:=by
 refine List.pairwise_map.mpr (List.Pairwise.imp_of_mem (fun {a b} ha hb hne e=>hne ?_) nd)
 obtain ⟨p,hp,rfl⟩:=List.mem_map.mp ha
 obtain ⟨q,hq,rfl⟩:=List.mem_map.mp hb
 exact hm.hh _ _ (hs p hp) (hs q hq) e
noncomputable abbrev Qvv:S:=.setF 4 (.call 9 (.cons (.var 3) (.cons (.var 4) (.cons (.var 1) (.cons (.var 2) .nil)))))
noncomputable abbrev Qqh:E:=.cmp .ne (.var 4) (.lst .nil)
theorem Q31 (k:Nat) {n:Nat} {Ms:List Tb} (h:Tabs n Ms) {m:Int} (hm:Md n m):∃ j,lvN Ms m j = [] ∧ cfn (k + 6) 10 [.ml (dT (lvD Ms m 0)),.fz (clT Ms m),.fz (.int Ms.length)] = .ok (.ow (dT (lvD Ms m j))) [dT (lvD Ms m 0),.non,.non]:=by
 have z0:(0:Nat) ≤ 100000:=by decide
 have L0:=Qmy h hm.lo 0
 have l0:=L0.le hm
 have n4:=h.n4
 obtain ⟨B,hB⟩:∃ B,B = dT (lvD Ms m 0):=⟨_,rfl⟩
 obtain ⟨ρ',e,j,s,hj,rfl⟩:=whl_run (c:=fun ρ=>Qaa (evE (cfn (k + 5)) Qqh ρ)) (b:=exS (cfn (k + 5)) Qvv)
  (Z:=fun ρ=>∃ j s,lvN Ms m j = [] ∧ ρ = [.ml B,.fz (clT Ms m),.fz (.int Ms.length),.ow (dT (lvD Ms m j)),s])
  (fun i ρ=>∃ j,j + i = 514 ∧ 513 - (lvD Ms m j).length + (if lvN Ms m j = [] then 0 else 1) ≤ i ∧ ρ = [.ml B,.fz (clT Ms m),.fz (.int Ms.length),.ow (dT (lvD Ms m j)),.fz (.lst (Qab (lvN Ms m j)))]) (by
  rintro i ρ ⟨j,hji,hmm,rfl⟩
  have L:=Qmy h hm.lo j
  have l1:=L.le hm
  have l2:=L.leN hm
  have et:Qaa (evE (cfn (k + 5)) Qqh [.ml B,.fz (clT Ms m),.fz (.int Ms.length),.ow (dT (lvD Ms m j)),.fz (.lst (Qab (lvN Ms m j)))]) = .ok (!(lvN Ms m j).isEmpty) [.ml B,.fz (clT Ms m),.fz (.int Ms.length),.ow (dT (lvD Ms m j)),.fz (.lst (Qab (lvN Ms m j)))]:=by
   have en:=Q9n (lvN Ms m j)
   simp only [Qc5,Qv,Qac,Qe,Qd,Q5,Qcx,Qkk,Qy,Qo9,Qdq,List.length_nil,z0,if_true,Qcw,Qcv,cont,Qcu,uc2,Option.map,en,Qaf,yBl]
  by_cases hN:lvN Ms m j = []
  ·left
   refine ⟨[.ml B,.fz (clT Ms m),.fz (.int Ms.length),.ow (dT (lvD Ms m j)),.fz (.lst (Qab (lvN Ms m j)))],?_,j,_,hN,rfl⟩
   show Qaa _ = _
   rw [et,show (lvN Ms m j).isEmpty = true by rw [hN]; rfl]
   rfl
  ·right
   rw [if_neg hN] at hmm
   have e1:=Q0q k h hm.lo hm.hi (D:=lvD Ms m j) (N:=lvN Ms m j) (fun p hp=>⟨(L.st p (L.inN hp)).1,L.get p hp,by have:=(L.st p (L.inN hp)).2.2; omega⟩) (by omega) (by omega)
   refine ⟨i - 1,[.ml B,.fz (clT Ms m),.fz (.int Ms.length),.ow (dT (lvD Ms m j)),.fz (.lst (Qab (lvN Ms m j)))],[.ml B,.fz (clT Ms m),.fz (.int Ms.length),.ow (dT (lvD Ms m (j + 1))),.fz (.lst (Qab (lvN Ms m (j + 1))))],by omega,?_,?_,j + 1,by omega,?_,rfl⟩
   ·show Qaa _ = .ok true _
    rw [et]
    cases hN2:lvN Ms m j with
    | nil=>exact absurd hN2 hN
    | cons p N=>rfl
   ·simp only [Qbn,Qao,Qm,Qv,Qac,Qe,Qd,Q5,yC1,Qy,yC2,Q7,Q0,List.all_cons,List.all_nil,Bool.and_true,Qah,Q2,Qav,Qag,e1,Qa6,Qp,Q4,L2.Qk,reduceCtorEq,Option.map,if_false,Nat.reduceAdd,Nat.reduceEqDiff,if_true,List.getElem?_cons_zero,Slot.put,Qas,Qdc,Qbw,frz,Qat,Qbx,List.length_cons,List.length_nil,Nat.reduceLT,List.set]
    rfl
   ·have l3:=(Qmy h hm.lo (j + 1)).le hm
    have e2:(lvD Ms m (j + 1)).length = (lvD Ms m j).length + (lvN Ms m (j + 1)).length:=by
     show (lvD Ms m j ++ lvN Ms m (j + 1)).length = _
     rw [List.length_append]
    by_cases hN2:lvN Ms m (j + 1) = []
    ·rw [if_pos hN2]
     rw [hN2] at e2
     simp at e2
     omega
    ·rw [if_neg hN2]
     have:0 < (lvN Ms m (j + 1)).length:=List.length_pos_iff.mpr hN2
     omega)
  514 1000000 [.ml B,.fz (clT Ms m),.fz (.int Ms.length),.ow (dT (lvD Ms m 0)),.fz (.lst (Qab (lvN Ms m 0)))] (by decide) ⟨0,rfl,by split <;> omega,rfl⟩
 refine ⟨j,hj,?_⟩
 have m1:=h.m1
 have ob:Qjy .dct [dT (lvD Ms m 0)] = some (.ow (dT (lvD Ms m 0))):=by
  show (if _ then _ else _) = _
  refine if_pos ⟨fun z=>?_,Q30 hm L0.nd fun p hp=>(L0.st p hp).1⟩
  have z:=List.map_eq_nil_iff.mp z
  obtain ⟨q,hq⟩:∃ q,Ms.length = q + 1:=⟨Ms.length - 1,by omega⟩
  have z:beg Ms m Ms.length = []:=z
  rw [hq] at z
  exact Qud Ms m q z
 have ol:Qjy .lstD [dT (lvD Ms m 0)] = some (.ow (.lst (Qab (lvN Ms m 0)))):=by
  show (if _ then _ else _) = _
  rw [if_pos ⟨by rw [List.length_map]; omega,by
   rw [List.all_eq_true]
   intro x hx
   obtain ⟨p,hp,rfl⟩:=List.mem_map.mp hx
   obtain ⟨s1,s2⟩:=(L0.st p hp).1
   show (decide (p.1.length ≤ 100000) && p.1.all fun r=>decide (r.length ≤ 100000)) = true
   rw [decide_eq_true (by omega),Bool.true_and,List.all_eq_true]
   intro r hr
   exact decide_eq_true (by have:=(s2 r hr).1; omega)⟩,List.map_map]
  rfl
 have es:exS (cfn (k + 5)) (.set 3 (.bi .dct (.cons (.var 0) .nil))) [.ml B,.fz (clT Ms m),.fz (.int Ms.length),.un,.un] = .nx [.ml B,.fz (clT Ms m),.fz (.int Ms.length),.ow (dT (lvD Ms m 0)),.un]:=by
  rw [hB]
  simp only [Qoi,Qcd,Qm,Qv,Qac,Qd,Q5,yC1,Qy,yC2,yBi,Qb9,Qar,cont,Slot.prv,Out.opt,ob,Qas,Qo0,Qat,Qbx,List.length_cons,List.length_nil,Nat.reduceAdd,Nat.reduceLT,Qe,List.set,if_true]
 have el:evE (cfn (k + 5)) (.bi .lstD (.cons (.var 0) .nil)) [.ml B,.fz (clT Ms m),.fz (.int Ms.length),.ow (dT (lvD Ms m 0)),.un] = .ok (.ow (.lst (Qab (lvN Ms m 0)))) [.ml B,.fz (clT Ms m),.fz (.int Ms.length),.ow (dT (lvD Ms m 0)),.un]:=by
  rw [hB]
  simp only [Qcd,Qm,Qv,Qac,Qd,Q5,yC1,Qy,yC2,yBi,Qb9,Qar,cont,Slot.prv,Out.opt,ol]
 have ew:exS (cfn (k + 5)) (.whl Qqh Qvv) [.ml B,.fz (clT Ms m),.fz (.int Ms.length),.ow (dT (lvD Ms m 0)),.fz (.lst (Qab (lvN Ms m 0)))] = .nx [.ml B,.fz (clT Ms m),.fz (.int Ms.length),.ow (dT (lvD Ms m j)),s]:=by
  rw [exS,e]
  rfl
 rw [← hB]
 show Qa2 (cfn (k + 5)) ⟨3,5,Qf8⟩ _ = _
 rw [Qaw rfl]
 show Qbi _ (exS _ Qf8 [.ml B,.fz (clT Ms m),.fz (.int Ms.length),.un,.un]) = _
 simp only [Qay,es,Qb5,Qbn,el,Qas,Qdc,Qbw,frz,Qat,Qbx,List.length_cons,List.length_nil,Nat.reduceAdd,Nat.reduceLT,Qe,Qd,List.set,if_true,ew,Qaz,Qv,Qac,Qby,Qad,Qau,Qal,Qam,Qw,Option.map]
noncomputable def Q9o:Option (List Int) → T
 | some w=>Ql w
 | none=>.non
noncomputable abbrev Qqi:S:=.ite (.din true (.ix (.var 2) (.var 4)) (.var 3)) (.dput 3 (.ix (.var 2) (.var 4)) (.tup (.cons (.var 4) .nil))) .nil
theorem Q9p (k:Nat) {n:Nat} {Ms:List Tb} (h:Tabs n Ms) {m:Int} (hm:Md n m) {i:Nat} (hi:i < Ms.length) {a b:Slot}:exS (cfn k) Qqi [a,b,.fz (Qq (Ms.map (rs m))),.ow (dT (beg Ms m i)),.fz (.int i)] = .nx [a,b,.fz (Qq (Ms.map (rs m))),.ow (dT (beg Ms m (i + 1))),.fz (.int i)]:=by
 obtain ⟨at_,q⟩:=Qsr hm.lo hm.hi h hi
 obtain ⟨b1,b2,b3⟩:=Que h hm.lo (Nat.le_of_lt hi)
 have lb:=Qqg hm b3 fun p hp=>(b1 p hp).1
 have c1:(beg Ms m i).length < 100000:=by omega
 have c4:(1:Nat) ≤ 100000:=by decide
 rw [Qmx,Qdo]
 cases hs:(beg Ms m i).lookup (rs m (Ms.getD i [])) with
 | some v =>
  rw [if_pos (show (some v).isSome = true from rfl)]
  simp only [Qbt,Qkm,Qhc,Qv,Qac,Qe,Qd,Q5,Qgv,Qgu,Qgt,cont,Qgs,ui1,at_,Qpc,Qjn,Qjm,Qce,Slot.prv,Qdz,Option.map,hs,Option.isSome_some,Bool.not_true,if_true,Qaf,yBl,Qas,yIf,Qdb,dd,List.append_nil]
 | none =>
  rw [if_neg (by simp)]
  simp only [Qbt,Qkm,Qhc,Qv,Qac,Qe,Qd,Q5,Qgv,Qgu,Qgt,cont,Qgs,ui1,at_,Qpc,Qjn,Qjm,Qce,Slot.prv,Qdz,Option.map,hs,Option.isSome_none,Bool.not_false,if_true,Qaf,yBl,Qas,yIf,Qpd,Qme,Qm,yC1,Qy,yC2,Qrq,Qdq,frz,List.length_cons,List.length_nil,Nat.reduceAdd,c4,yDp,Q0f,Slot.mutD,Q0e,Q0d,Q0c,List.length_map,c1,List.set,dd]
  rw [show T.tup [T.int (i:Int)] = Ql [(i:Int)] from rfl,Qqe hs]
theorem Q32 (k:Nat) {n:Nat} {Ms:List Tb} (h:Tabs n Ms) {m:Int} (hm:Md n m) {a b:Slot}:∃ s4,Qde (.nm 4) (exS (cfn k) Qqi) (Qa0 0 Ms.length) [a,b,.fz (Qq (Ms.map (rs m))),.ow (dT []),.un] = .nx [a,b,.fz (Qq (Ms.map (rs m))),.ow (dT (beg Ms m Ms.length)),s4]:=by
 obtain ⟨ρ',e,s4,_,rfl⟩:=Qcc (fun j ρ=>∃ s4,Qax s4 = true ∧ ρ = [a,b,.fz (Qq (Ms.map (rs m))),.ow (dT (beg Ms m j)),s4]) (tg:=.nm 4) (b:=exS (cfn k) Qqi) (xs:=Qa0 0 Ms.length) (n:=0) (ρ:=[a,b,.fz (Qq (Ms.map (rs m))),.ow (dT []),.un]) ⟨.un,rfl,rfl⟩ (by
  rintro i x ρ hx ⟨s4,o4,rfl⟩
  have hi:i < Ms.length:=by have:=(List.getElem?_eq_some_iff.mp hx).1; rwa [Qaj] at this
  rw [Qfi hi] at hx
  cases hx
  rw [Nat.zero_add,Int.zero_add]
  exact ⟨[a,b,.fz (Qq (Ms.map (rs m))),.ow (dT (beg Ms m i)),.fz (.int i)],_,(by cases s4 <;> first | rfl | cases o4),.inl (Q9p k h hm hi),.fz (.int i),rfl,rfl⟩)
 rw [Qaj,Nat.zero_add] at e
 exact ⟨s4,e⟩
theorem Q9q (k:Nat) {n:Nat} {Ms:List Tb} (h:Tabs n Ms) {m:Int} (hm:Md n m):∃ j,lvN Ms m j = [] ∧ cfn (k + 7) 21 [.fz (Qq Ms),.fz (.int m)] = .ok (.ow (dT (lvD Ms m j))) [.non,.non]:=by
 obtain ⟨j,hj,e1⟩:=Q31 k h hm
 have e1:cfn (k + 6) 10 [.ml (dT (beg Ms m Ms.length)),.fz (.clo 37 [Qq (Ms.map (rs m)),.int m]),.fz (.int Ms.length)] = .ok (.ow (dT (lvD Ms m j))) [dT (beg Ms m Ms.length),.non,.non]:=e1
 have m4:=h.m4
 have e2:=Qmt (k + 3) h hm.lo
 obtain ⟨s4,e3⟩:=Q32 (k + 6) h hm (a:=.fz (Qq Ms)) (b:=.fz (.int m))
 have c:Ms.length ≤ 100000:=by omega
 have er:exS (cfn (k + 6)) (.set 3 .dnew) [.fz (Qq Ms),.fz (.int m),.fz (Qq (Ms.map (rs m))),.un,.un] = .nx [.fz (Qq Ms),.fz (.int m),.fz (Qq (Ms.map (rs m))),.ow (dT []),.un]:=rfl
 refine ⟨j,hj,?_⟩
 show Qa2 (cfn (k + 6)) ⟨2,5,Qdw⟩ _ = _
 rw [Qaw rfl]
 show Qbi _ (exS _ Qdw [.fz (Qq Ms),.fz (.int m),.un,.un,.un]) = _
 simp only [Qay,Qbn,Qao,Qm,Qv,Qac,Qd,Q5,yC1,Qe,Qy,yC2,Q7,Q0,Qah,Q2,Qav,Qag,e2,Qa6,Qp,Q4,L2.Qk,Option.map,if_true,Qas,Qdc,Qbw,frz,Qat,Qbx,List.length_cons,List.length_nil,Nat.reduceAdd,Nat.reduceLT,List.set,Qb5,er,Qhd,Qfa,Qcd,yBi,Qb9,Qar,cont,Out.opt,ub1,List.length_map,Qm7 c,Qku,e3,Qc6,Qaz,Qade,yLam,Qoz,List.all_cons,List.all_nil,Bool.and_true,e1,reduceCtorEq,if_false,Nat.reduceEqDiff,List.getElem?_cons_zero,Slot.put,Qby,Qad,Qau,Qal,Qam,Qw]
theorem Q33 {cf:CF} {a b:Int} (ha:a.natAbs ≤ 7) {c:Nat} (s:Slot) (hs:Qax s = true) (q:Nat):∃ s',Qde (.nm 3) (exS cf (.setF 2 (.bin .mul (.var 2) (.var 0)))) (Qa0 0 q) [.fz (.int a),.fz (.int b),.fz (.int 1),s] = .nx [.fz (.int a),.fz (.int b),.fz (.int (a ^ q)),s']:=by
 obtain ⟨ρ',e,s',_,rfl⟩:=Qcc (fun j ρ=>∃ s',Qax s' = true ∧ ρ = [.fz (.int a),.fz (.int b),.fz (.int (a ^ j)),s']) (tg:=.nm 3) (b:=exS cf (.setF 2 (.bin .mul (.var 2) (.var 0)))) (xs:=Qa0 0 q) (n:=0) (ρ:=[.fz (.int a),.fz (.int b),.fz (.int 1),s]) ⟨s,hs,by rw [Int.pow_zero]⟩ (by
  rintro i x ρ hx ⟨t,ot,rfl⟩
  rw [Nat.zero_add]
  have mo:Qc2 (a ^ i) a = true:=Qk8 (by omega)
  refine ⟨[.fz (.int a),.fz (.int b),.fz (.int (a ^ i)),.fz x],_,(by cases t <;> first | rfl | cases ot),.inl ?_,.fz x,rfl,rfl⟩
  simp only [Qbn,Qej,Qv,Qac,Qe,Qd,Q5,Qd3,Qd2,Qd1,cont,Out.opt,uo5,mo,if_true,Qas,Qdc,Qbw,frz,Qat,Qbx,List.length_cons,List.length_nil,Nat.reduceAdd,Nat.reduceLT,List.set]
  rw [Int.pow_succ])
 rw [Qaj,Nat.zero_add] at e
 exact ⟨s',e⟩
theorem Q34 (k:Nat) {a:Int} (ha:a.natAbs ≤ 7) {q:Nat} (hq:q ≤ 100):cfn (k + 1) 8 [.fz (.int a),.fz (.int q)] = .ok (.fz (.int (a ^ q))) [.non,.non]:=by
 obtain ⟨s',e⟩:=Q33 (cf:=cfn k) (a:=a) (b:=q) ha (c:=0) .un rfl q
 have c:q ≤ 100000:=by omega
 show Qa2 (cfn k) ⟨2,4,Qiq⟩ _ = _
 rw [Qaw rfl]
 show Qbi _ (exS _ Qiq [.fz (.int a),.fz (.int q),.un,.un]) = _
 simp only [Qay,Qbn,Qct,Qas,Qdc,Qbw,frz,Qat,Qbx,List.length_cons,List.length_nil,Nat.reduceAdd,Nat.reduceLT,Qe,Qd,List.set,if_true,Qb5,Qhd,Qfa,Qv,Qac,Q5,Qm7 c,Qku,e,Qc6,Qaz,Qby,Qad,Qau,Qal,Qam,Qw,Option.map]
theorem Q9r (k:Nat) {n:Nat} (h4:n ≤ 4) {m:Int} (hm:Md n m):cfn (k + 2) 19 [.fz (.int n),.fz (.int m)] = .ok (.fz (.int (m ^ (n * n)))) [.non,.non]:=by
 have lo:=hm.lo
 have hi:=hm.hi
 have hn:n * n ≤ 4 * 4:=Nat.mul_le_mul h4 h4
 have e:=Q34 k (a:=m) (by omega) (q:=n * n) (by omega)
 have mo:Qc2 (n:Int) (n:Int) = true:=Qk8 (by omega)
 have ec:((n * n:Nat):Int) = (n:Int) * (n:Int):=Int.natCast_mul n n
 rw [ec] at e
 show Qa2 (cfn (k + 1)) ⟨2,2,Qcn⟩ _ = _
 rw [Qaw rfl]
 show Qbi _ (exS _ Qcn [.fz (.int n),.fz (.int m)]) = _
 simp only [Qaz,Qao,Qm,Qv,Qac,Qe,Qd,Q5,yC1,Qej,Qd3,Qd2,Qd1,cont,Out.opt,uo5,mo,if_true,Qy,yC2,Q7,Q0,Qah,Q2,Qav,Qag,e,Qa6,Qp,Q4,L2.Qk,Option.map,Qas,Qby,Qad,Qau,Qal,Qam,Qw]
theorem Qadm (k:Nat) {n:Nat} (h4:n ≤ 4) {m:Int} (hm:Md n m):cfn (k + 3) 20 [.fz (.int n),.fz (.int m)] = .ok (.fz .non) [.non,.non]:=by
 have lo:=hm.lo
 have le:=hm.le
 have e:=Q9r k h4 hm
 have ep:m ^ (n * n) = (((m.toNat ^ n) ^ n:Nat):Int):=by
  rw [← Nat.pow_mul,Int.natCast_pow,Int.toNat_of_nonneg (by omega)]
 have c:¬ (3000 < m ^ (n * n)):=by omega
 show Qa2 (cfn (k + 2)) ⟨2,3,Qbq⟩ _ = _
 rw [Qaw rfl]
 show Qbi _ (exS _ Qbq [.fz (.int n),.fz (.int m),.un]) = _
 simp only [Qay,Qbn,Qao,Qm,Qv,Qac,Qd,Q5,yC1,Qe,Qy,yC2,Q7,Q0,Qah,Q2,Qav,Qag,e,Qa6,Qp,Q4,L2.Qk,Option.map,if_true,Qas,Qdc,Qbw,frz,Qat,Qbx,List.length_cons,List.length_nil,Nat.reduceAdd,Nat.reduceLT,List.set,Qb5,Qbt,Qc5,Qcx,Qct,Qcw,Qcv,cont,Qcu,uc5,c,decide_false,Qaf,yBl,yIf,Qdb,Qts,Qam,Qw]
theorem Qug (k:Nat) {n:Nat} {Ms:List Tb} (h:Tabs n Ms) {m:Int} (hm:Md n m):∃ j,lvN Ms m j = [] ∧ cfn (k + 8) 23 [.fz (Qq Ms),.fz (.int m)] = .ok (.fz (Q9o ((lvD Ms m j).lookup (Qnm n)))) [.non,.non]:=by
 obtain ⟨j,hj,e1⟩:=Q9q k h hm
 refine ⟨j,hj,?_⟩
 obtain ⟨M0,a0,l0⟩:=tab0 h
 have e2:=Qnl (k + 2) h
 have e3:=Qsq (k + 5) hm.lo hm.hi
 have e4:=Qadm (k + 4) h.n4 hm
 have e9:=Q0t (k + 6) h.n1 h.n4
 show Qa2 (cfn (k + 7)) ⟨2,2,Qit⟩ _ = _
 rw [Qaw rfl]
 show Qbi _ (exS _ Qit [.fz (Qq Ms),.fz (.int m)]) = _
 simp only [Qay,Q89,Qao,Qm,Qv,Qac,Qd,Q5,yC1,Qy,yC2,Q7,Q0,Qah,Q2,Qav,Qag,e2,Qa6,Qp,Q4,L2.Qk,Option.map,if_true,Qas,Q5l,Qb5,Qe,e3,Qcd,Qhc,Qgv,Qct,Qgu,Qgt,cont,Qgs,ui1,a0,yBi,Qb9,Qar,Out.opt,ub2,List.length_map,l0,e4,Qaz,Q5p,e1,yDg,Qlm,e9,Q9e,Q9d,Qce,Qdz,Qby,Qad,Qau,Qal,Qam,Qw]
 cases (lvD Ms m j).lookup (Qnm n) <;> rfl
open PySem L2
theorem Qlb (Ms:List Tb):∀ (j:Nat),Qfq j (Ms.map Qh) = (List.range Ms.length).map fun i=>T.tup [.int ((j + i:Nat):Int),Qh (Ms.getD i [])]:=by
 induction Ms with
 | nil=>intro j; rfl
 | cons M Ms ih =>
  intro j
  rw [List.map_cons,Qfq,ih (j + 1),List.length_cons,List.range_succ_eq_map,List.map_cons,List.map_map]
  congr 1
  refine List.map_congr_left fun i _=>?_
  show _ = T.tup [.int ((j + (i + 1):Nat):Int),Qh ((M :: Ms).getD (i + 1) [])]
  rw [show j + (i + 1) = j + 1 + i by omega]
  rfl
theorem Qiz (k:Nat) {m:Int} (h2:2 ≤ m) {M:Tb} (hl:M.length ≤ 4) (hr:∀ r ∈ M,r.length ≤ 4):cfn (k + 1) 31 [.fz (Qh M),.fz (.int m)] = .ok (.fz (Qh (rs m M))) [.non,.non]:=by
 have hcomp:evE (cfn k) (.comp (.seq (.var 0)) [none,some 1] (.nm 0) .nil (.bi .tup (.cons (.comp (.seq (.var 0)) [none,some 1] (.nm 0) .nil (.bin .mod (.var 0) (.var 1))) .nil))) [.fz (Qh M),.fz (.int m)] = .ok (.ow (.lst ((M.map Ql).map fun x=>Ql (rsR m (iOf x))))) [.fz (Qh M),.fz (.int m)] :=
  Qbg (rest:=[.fz (.int m)]) rfl rfl rfl rfl (fun x hx=>by
   obtain ⟨r,hm,rfl⟩:=List.mem_map.mp hx
   have e:=Qsp (cf:=cfn k) h2 (r:=r) (by have:=hr r hm; omega)
   refine ⟨.fz (Ql (rsR m r)),?_,by rw [Qdp]; rfl⟩
   simp only [Qcd,Qm,e,Q5,yC1,Qy,yC2,yBi,Qb9,Qar,cont,Out.opt,ub9]) (by rw [List.length_map]; omega)
 rw [Q0l] at hcomp
 show Qa2 (cfn k) ⟨2,2,Qiu⟩ _ = _
 rw [Qaw rfl]
 show Qbi _ (exS _ Qiu [.fz (Qh M),.fz (.int m)]) = _
 simp only [Qaz,Qcd,Qm,hcomp,Q5,yC1,Qy,yC2,yBi,Qb9,Qar,cont,Out.opt,ub9,Qas,Qby,Qad,Qau,Qal,Qam,Qw,Option.map]
theorem Qsv (k:Nat) {n:Nat} (h4:n ≤ 4) {m:Int} (h2:2 ≤ m) {M:Tb} (h:Sq n M):cfn (k + 1) 31 [.fz (Qh M),.fz (.int m)] = .ok (.fz (Qh (rs m M))) [.non,.non] :=
 Qiz k h2 (by rw [h.len]; exact h4) (fun r hr=>by rw [h.row r hr]; exact h4)
theorem Q35 {F:List En2} {at_:Nat} {p:En2} (h:F[at_]? = some p):atI (Qab F) ((at_:Nat):Int) = some (Qh p.1):=Qan (by rw [List.getElem?_map,h]; rfl)
noncomputable abbrev Q0w:S:=.ite (.din true (.call 31 (.cons (.var 5) (.cons (.var 1) .nil))) (.var 2)) (.seq (.dput 2 (.call 31 (.cons (.var 5) (.cons (.var 1) .nil))) (.tup (.cons (.var 4) .nil))) (.app 3 (.call 31 (.cons (.var 5) (.cons (.var 1) .nil))))) .nil
theorem Q9s (k:Nat) {n:Nat} {Ms:List Tb} (h:Tabs n Ms) {m:Int} (hm:Md n m) {i:Nat} (hi:i < Ms.length) {s6 s7:Slot}:exS (cfn (k + 1)) Q0w [.fz (Qq Ms),.fz (.int m),.ow (dT (beg Ms m i)),.ow (.lst (Qab (beg Ms m i))),.fz (.int i),.fz (Qh (Ms.getD i [])),s6,s7] = .nx [.fz (Qq Ms),.fz (.int m),.ow (dT (beg Ms m (i + 1))),.ow (.lst (Qab (beg Ms m (i + 1)))),.fz (.int i),.fz (Qh (Ms.getD i [])),s6,s7]:=by
 obtain ⟨at_,q⟩:=Qmr h hi
 have e:=Qsv k h.n4 hm.lo q
 obtain ⟨b1,b2,b3⟩:=Que h hm.lo (Nat.le_of_lt hi)
 have lb:=Qqg hm b3 fun p hp=>(b1 p hp).1
 have c1:(beg Ms m i).length < 100000:=by omega
 have c4:(1:Nat) ≤ 100000:=by decide
 rw [Qmx,Qdo]
 cases hs:(beg Ms m i).lookup (rs m (Ms.getD i [])) with
 | some v =>
  rw [if_pos (show (some v).isSome = true from rfl)]
  simp only [Qbt,Qkm,Qao,Qm,Qv,Qac,Qe,Qd,Q5,yC1,Qy,yC2,Q7,Q0,Qah,Q2,Qav,Qag,e,Qa6,Qp,Q4,L2.Qk,Option.map,if_true,Qpc,Qjn,Qjm,Qce,cont,Slot.prv,Qdz,hs,Option.isSome_some,Bool.not_true,Qaf,yBl,Qas,yIf,Qdb,dd,List.append_nil]
 | none =>
  rw [if_neg (by simp)]
  simp only [Qbt,Qkm,Qao,Qm,Qv,Qac,Qe,Qd,Q5,yC1,Qy,yC2,Q7,Q0,Qah,Q2,Qav,Qag,e,Qa6,Qp,Q4,L2.Qk,Option.map,if_true,Qpc,Qjn,Qjm,Qce,cont,Slot.prv,Qdz,hs,Option.isSome_none,Bool.not_false,Qaf,yBl,Qas,yIf,Qay,Qpd,Qme,Qrq,Qdq,frz,List.length_cons,List.length_nil,Nat.reduceAdd,c4,yDp,Q0f,Slot.mutD,Q0e,Q0d,Q0c,List.length_map,c1,List.set,Qb5,Qj2,Slot.mut,Qrs,Qmg,Qmf,dd,List.map_append,List.map_cons,List.map_nil]
  rw [show T.tup [T.int (i:Int)] = Ql [(i:Int)] from rfl,Qqe hs]
theorem Q36 (k:Nat) {n:Nat} {Ms:List Tb} (h:Tabs n Ms) {m:Int} (hm:Md n m):∃ s4 s5,Qax s4 = true ∧ Qax s5 = true ∧ Qde (.tp [4,5]) (exS (cfn (k + 1)) Q0w) (Qfq 0 (Ms.map Qh)) [.fz (Qq Ms),.fz (.int m),.ow (dT []),.ow (.lst []),.un,.un,.un,.un] = .nx [.fz (Qq Ms),.fz (.int m),.ow (dT (beg Ms m Ms.length)),.ow (.lst (Qab (beg Ms m Ms.length))),s4,s5,.un,.un]:=by
 obtain ⟨ρ',e,s4,s5,p4,p5,rfl⟩:=Qcc (fun j ρ=>∃ s4 s5,Qax s4 = true ∧ Qax s5 = true ∧ ρ = [.fz (Qq Ms),.fz (.int m),.ow (dT (beg Ms m j)),.ow (.lst (Qab (beg Ms m j))),s4,s5,.un,.un]) (tg:=.tp [4,5]) (b:=exS (cfn (k + 1)) Q0w) (xs:=Qfq 0 (Ms.map Qh)) (n:=0) (ρ:=[.fz (Qq Ms),.fz (.int m),.ow (dT []),.ow (.lst []),.un,.un,.un,.un]) ⟨.un,.un,rfl,rfl,rfl⟩ (by
  rintro i x ρ hx ⟨t4,t5,p4,p5,rfl⟩
  rw [Qlb,List.getElem?_map] at hx
  have hi:i < Ms.length:=by
   rcases Nat.lt_or_ge i Ms.length with z | z
   ·exact z
   ·rw [List.getElem?_eq_none_iff.mpr (by rw [List.length_range]; exact z)] at hx; cases hx
  rw [List.getElem?_range hi] at hx
  cases hx
  dsimp only
  rw [Nat.zero_add]
  exact ⟨[.fz (Qq Ms),.fz (.int m),.ow (dT (beg Ms m i)),.ow (.lst (Qab (beg Ms m i))),.fz (.int (i:Int)),.fz (Qh (Ms.getD i [])),.un,.un],_,(by cases t4 <;> first | (cases p4; done) | (cases t5 <;> first | rfl | (cases p5; done))),.inl (Q9s k h hm hi),.fz (.int (i:Int)),.fz (Qh (Ms.getD i [])),rfl,rfl,rfl⟩)
 refine ⟨s4,s5,p4,p5,?_⟩
 rw [e]
 have hl:(Qfq 0 (Ms.map Qh)).length = Ms.length:=by rw [Qlb,List.length_map,List.length_range]
 rw [hl,Nat.zero_add]
noncomputable abbrev Q37:S:=.seq (.setF 7 (.call 31 (.cons (.call 29 (.cons (.ix (.var 3) (.var 6)) (.cons (.var 5) .nil))) (.cons (.var 1) .nil)))) (.ite (.din true (.var 7) (.var 2)) (.seq (.dput 2 (.var 7) (.bin .add (.dix (.var 2) (.ix (.var 3) (.var 6))) (.tup (.cons (.var 4) .nil)))) (.app 3 (.var 7))) .nil)
noncomputable abbrev evR (Ms:List Tb) (m:Int) (F:List En2) (s4 s5:Slot) (at_:Nat) (s7:Slot):En:=[.fz (Qq Ms),.fz (.int m),.ow (dT F),.ow (.lst (Qab F)),s4,s5,.fz (.int ((at_:Nat):Int)),s7]
theorem Q9t (k:Nat) {n:Nat} {Ms:List Tb} (h:Tabs n Ms) {m:Int} (h2:2 ≤ m) {F:List En2} {r:Tb} {w:List Int} (hr:St n m r) {at_:Nat} (hg:F[at_]? = some (r,w)) (hw:F.lookup r = some w) (hz:w.length ≤ 1000) {i:Nat} (hi:i < Ms.length) (hF:F.length ≤ 10000) {s7:Slot} (o7:Qax s7 = true) :
  ∃ s7',Qax s7' = true ∧ exS (cfn (k + 1)) Q37 (evR Ms m F (.fz (.int i)) (.fz (Qh (Ms.getD i []))) at_ s7) = .nx (evR Ms m (F ++ dd F [(stp Ms m r i,w ++ [(i:Int)])]) (.fz (.int i)) (.fz (Qh (Ms.getD i []))) at_ s7'):=by
 obtain ⟨_,q⟩:=Qmr h hi
 have n4:=h.n4
 have l1:=hr.1
 have e:=Qkp k q h.n4 (X:=r) (fun x hx=>(hr.2 x hx).1) (by omega)
 obtain ⟨m1,m2⟩:=Qk9 hr.1 q.len
 have eR:=Qiz k h2 (M:=Qfk r (Ms.getD i [])) (by omega) (fun x hx=>by rw [m2 x hx]; exact n4)
 have a:=Q35 hg
 have e2:exS (cfn (k + 1)) (.setF 7 (.call 31 (.cons (.call 29 (.cons (.ix (.var 3) (.var 6)) (.cons (.var 5) .nil))) (.cons (.var 1) .nil)))) (evR Ms m F (.fz (.int i)) (.fz (Qh (Ms.getD i []))) at_ s7) = .nx (evR Ms m F (.fz (.int i)) (.fz (Qh (Ms.getD i []))) at_ (.fz (Qh (stp Ms m r i)))):=by
  have e':evE (cfn (k + 1)) (.call 31 (.cons (.call 29 (.cons (.ix (.var 3) (.var 6)) (.cons (.var 5) .nil))) (.cons (.var 1) .nil))) (evR Ms m F (.fz (.int i)) (.fz (Qh (Ms.getD i []))) at_ s7) = .ok (.fz (Qh (stp Ms m r i))) (evR Ms m F (.fz (.int i)) (.fz (Qh (Ms.getD i []))) at_ s7):=by
   simp only [Qao,Qm,Qhc,Qv,Qac,Qe,Qd,Q5,Qgv,Qgu,Qgt,cont,Slot.prv,Qgs,ui1,a,yC1,Qy,yC2,Q7,Q0,Qah,Q2,Qav,Qag,e,Qa6,Qp,Q4,L2.Qk,Option.map,if_true,eR]
  rw [Qbn,e']
  cases s7 <;> first | rfl | (cases o7; done)
 refine ⟨.fz (Qh (stp Ms m r i)),rfl,?_⟩
 rw [Qay,e2,Qb5,Qdo]
 have c1:F.length < 100000:=by omega
 have c3:w.length + 1 ≤ 100000:=by omega
 have c4:(1:Nat) ≤ 100000:=by decide
 cases hs:F.lookup (stp Ms m r i) with
 | some v =>
  rw [if_pos (show (some v).isSome = true from rfl)]
  simp only [Qbt,Qkm,Qv,Qac,Qe,Qd,Q5,Qpc,Qjn,Qjm,Qce,cont,Slot.prv,Qdz,Option.map,hs,Option.isSome_some,Bool.not_true,if_true,Qaf,yBl,Qas,yIf,Qdb,dd,List.append_nil]
 | none =>
  rw [if_neg (by simp)]
  simp only [Qbt,Qkm,Qv,Qac,Qe,Qd,Q5,Qpc,Qjn,Qjm,Qce,cont,Slot.prv,Qdz,Option.map,hs,Option.isSome_none,Bool.not_false,if_true,Qaf,yBl,Qas,yIf,Qay,Qpd,Qej,Q5o,Q9c,Qhc,Qgv,Qgu,Qgt,Qgs,ui1,a,Q0b,Q0a,Qz9,hw,Qd3,Qme,Qm,yC1,Qy,yC2,Qrq,Qdq,frz,List.length_cons,List.length_nil,Nat.reduceAdd,c4,Qd2,Qd1,Out.opt,uo2,List.length_map,c3,yDp,Q0f,Slot.mutD,Q0e,Q0d,Q0c,c1,List.set,Qb5,Qj2,Slot.mut,Qrs,Qmg,Qmf,dd]
  rw [show T.tup (List.map T.int w ++ [T.int (i:Int)]) = Ql (w ++ [(i:Int)]) from by unfold Ql; rw [List.map_append]; rfl,Qqe hs,show Qab F ++ [Qh (stp Ms m r i)] = Qab (F ++ [(stp Ms m r i,w ++ [(i:Int)])]) from by unfold Qab; rw [List.map_append]; rfl]
theorem Q38 (k:Nat) {n:Nat} {Ms:List Tb} (h:Tabs n Ms) {m:Int} (h2:2 ≤ m) {F:List En2} {r:Tb} {w:List Int} (hr:St n m r) {at_:Nat} (hg:F[at_]? = some (r,w)) (hw:F.lookup r = some w) (hz:w.length ≤ 1000) (hF:F.length ≤ 9000) {s4 s5 s7:Slot} (o4:Qax s4 = true) (o5:Qax s5 = true) (o7:Qax s7 = true) :
  ∃ s4' s5' s7',Qax s4' = true ∧ Qax s5' = true ∧ Qax s7' = true ∧ Qde (.tp [4,5]) (exS (cfn (k + 1)) Q37) (Qfq 0 (Ms.map Qh)) (evR Ms m F s4 s5 at_ s7) = .nx (evR Ms m (F ++ dd F (ex1 Ms.length (stp Ms m) (r,w))) s4' s5' at_ s7'):=by
 have m4:=h.m4
 obtain ⟨ρ',e,s4',s5',s7',p4,p5,p7,rfl⟩:=Qcc (fun j ρ=>∃ s4' s5' s7',Qax s4' = true ∧ Qax s5' = true ∧ Qax s7' = true ∧ ρ = evR Ms m (F ++ dd F (ent Ms m r w j)) s4' s5' at_ s7')
  (xs:=Qfq 0 (Ms.map Qh)) (n:=0) (ρ:=evR Ms m F s4 s5 at_ s7) ⟨s4,s5,s7,o4,o5,o7,by show _ = evR Ms m (F ++ []) s4 s5 at_ s7; rw [List.append_nil]⟩ (tg:=.tp [4,5]) (b:=exS (cfn (k + 1)) Q37) (by
  rintro i x ρ hx ⟨t4,t5,t7,p4,p5,p7,rfl⟩
  rw [Qlb,List.getElem?_map] at hx
  have hi:i < Ms.length:=by
   rcases Nat.lt_or_ge i Ms.length with z | z
   ·exact z
   ·rw [List.getElem?_eq_none_iff.mpr (by rw [List.length_range]; exact z)] at hx; cases hx
  rw [List.getElem?_range hi] at hx
  cases hx
  dsimp only
  rw [Nat.zero_add]
  have hl:=Qmv (ent Ms m r w i) F
  have hle:(ent Ms m r w i).length = i:=by unfold ent; rw [List.length_map,List.length_range]
  have hgl:at_ < F.length:=(List.getElem?_eq_some_iff.mp hg).1
  obtain ⟨t7',q7,e7⟩:=Q9t k h h2 (F:=F ++ dd F (ent Ms m r w i)) hr (at_:=at_) (w:=w) (by rw [List.getElem?_append_left hgl]; exact hg) (by rw [Qhu,hw]; rfl) hz hi (by rw [List.length_append]; omega) p7
  refine ⟨evR Ms m (F ++ dd F (ent Ms m r w i)) (.fz (.int (i:Int))) (.fz (Qh (Ms.getD i []))) at_ t7,_,(by cases t4 <;> first | (cases p4; done) | (cases t5 <;> first | rfl | (cases p5; done))),.inl ?_,.fz (.int (i:Int)),.fz (Qh (Ms.getD i [])),t7',rfl,rfl,q7,rfl⟩
  rw [e7,Qss,Qix,List.append_assoc])
 refine ⟨s4',s5',s7',p4,p5,p7,?_⟩
 rw [e]
 have hl:(Qfq 0 (Ms.map Qh)).length = Ms.length:=by rw [Qlb,List.length_map,List.length_range]
 rw [hl,Nat.zero_add]
 rfl
noncomputable abbrev Qqj:E:=.cmp .lt (.var 6) (.bi .len (.cons (.var 3) .nil))
noncomputable abbrev Qqk:S:=.seq (.for_ (.enm (.var 0)) (.tp [4,5]) Q37) (.setF 6 (.bin .add (.var 6) (.int 1)))
noncomputable abbrev fr (Ms:List Tb) (m:Int) (j t:Nat):List En2:=lvD Ms m j ++ dd (lvD Ms m j) (exs Ms.length (stp Ms m) ((lvN Ms m j).take t))
theorem Qadn {n:Nat} {Ms:List Tb} (h:Tabs n Ms) {m:Int} (hm:Md n m) (j t:Nat):(fr Ms m j t).length ≤ 512:=by
 have L:=Qmy h hm.lo j
 refine Qqg hm (Qsj _ _ L.nd) fun p hp=>?_
 rcases List.mem_append.mp hp with z | z
 ·exact (L.st p z).1
 ·obtain ⟨q,hq,k,hk,rfl⟩:=Qvu (Qmw z)
  exact Q0o hm.lo h hk (L.st q (L.inN (List.mem_of_mem_take hq))).1.1
theorem Qql (Ms:List Tb) (m:Int) (j:Nat):fr Ms m j 0 = lvD Ms m j:=by show lvD Ms m j ++ [] = _; rw [List.append_nil]
theorem Q39 (Ms:List Tb) (m:Int) (j:Nat):fr Ms m j (lvN Ms m j).length = lvD Ms m (j + 1):=by unfold fr; rw [List.take_length]; rfl
theorem Q0x (k:Nat) {n:Nat} {Ms:List Tb} (h:Tabs n Ms) {m:Int} (hm:Md n m) {u4 u5:Slot} (o4:Qax u4 = true) (o5:Qax u5 = true):∃ (j:Nat) (s3 s4 s5 s6 s7:Slot),lvN Ms m j = [] ∧ j ≤ 900 ∧ Qfr (fun ρ=>Qaa (evE (cfn (k + 1)) Qqj ρ)) (exS (cfn (k + 1)) Qqk) 1000000 (evR Ms m (fr Ms m 0 0) u4 u5 0 .un) = .nx [.fz (Qq Ms),.fz (.int m),.ow (dT (lvD Ms m j)),s3,s4,s5,s6,s7]:=by
 obtain ⟨ρ',e,j,s3,s4,s5,s6,s7,hj,hj9,rfl⟩:=whl_run (c:=fun ρ=>Qaa (evE (cfn (k + 1)) Qqj ρ)) (b:=exS (cfn (k + 1)) Qqk)
  (Z:=fun ρ=>∃ j s3 s4 s5 s6 s7,lvN Ms m j = [] ∧ j ≤ 900 ∧ ρ = [.fz (Qq Ms),.fz (.int m),.ow (dT (lvD Ms m j)),s3,s4,s5,s6,s7])
  (fun i ρ=>∃ (j t:Nat) (D0:List En2) (s4 s5 s7:Slot),lvD Ms m j = D0 ++ lvN Ms m j ∧ (t < (lvN Ms m j).length ∨ (t = 0 ∧ lvN Ms m j = [])) ∧ j ≤ D0.length + t ∧ D0.length + t + i = 513 ∧ Qax s4 = true ∧ Qax s5 = true ∧ Qax s7 = true ∧
   ρ = evR Ms m (fr Ms m j t) s4 s5 (D0.length + t) s7) (by
  rintro i ρ ⟨j,t,D0,s4,s5,s7,hD,ht,hjl,hi,o4,o5,o7,rfl⟩
  have L:=Qmy h hm.lo j
  have lfr:=Qadn h hm j t
  have hfl:(fr Ms m j t).length = (lvD Ms m j).length + (dd (lvD Ms m j) (exs Ms.length (stp Ms m) ((lvN Ms m j).take t))).length:=List.length_append
  have hdl:(lvD Ms m j).length = D0.length + (lvN Ms m j).length:=by rw [hD,List.length_append]
  have et:Qaa (evE (cfn (k + 1)) Qqj (evR Ms m (fr Ms m j t) s4 s5 (D0.length + t) s7)) = .ok (decide (((D0.length + t:Nat):Int) < ((fr Ms m j t).length:Int))) (evR Ms m (fr Ms m j t) s4 s5 (D0.length + t) s7):=by
   simp only [Qc5,Qv,Qac,Qe,Qd,Q5,Qcx,Qcd,Qm,yC1,Qy,yC2,yBi,Qb9,Qar,cont,Slot.prv,Out.opt,ub1,List.length_map,Qcw,Qcv,Qcu,uc3,Qaf,yBl]
  rcases ht with ht | ⟨rfl,hN⟩
  ·right
   obtain ⟨p,hp⟩:∃ p,(lvN Ms m j)[t]? = some p:=⟨_,List.getElem?_eq_getElem ht⟩
   have hpm:=List.mem_of_getElem? hp
   obtain ⟨q1,_,q3⟩:=L.st p (L.inN hpm)
   have hget:(fr Ms m j t)[D0.length + t]? = some p:=by
    show (lvD Ms m j ++ _)[D0.length + t]? = some p
    rw [List.getElem?_append_left (by omega),hD,List.getElem?_append_right (by omega),Nat.add_sub_cancel_left]
    exact hp
   obtain ⟨t4,t5,t7,p4,p5,p7,ef⟩:=Q38 k h hm.lo (F:=fr Ms m j t) (r:=p.1) (w:=p.2) (at_:=D0.length + t) q1 hget (by rw [Qhu,L.get p hpm]; rfl) (by omega) (by omega) o4 o5 o7
   have et1:(lvN Ms m j).take (t + 1) = (lvN Ms m j).take t ++ [p]:=by rw [List.take_add_one,hp]; rfl
   have ef2:fr Ms m j t ++ dd (fr Ms m j t) (ex1 Ms.length (stp Ms m) (p.1,p.2)) = fr Ms m j (t + 1):=by
    show _ = lvD Ms m j ++ dd (lvD Ms m j) (exs Ms.length (stp Ms m) ((lvN Ms m j).take (t + 1)))
    rw [et1,Qst,Qix,← List.append_assoc]
   rw [ef2] at ef
   have eb:exS (cfn (k + 1)) Qqk (evR Ms m (fr Ms m j t) s4 s5 (D0.length + t) s7) = .nx (evR Ms m (fr Ms m j (t + 1)) t4 t5 (D0.length + (t + 1)) t7):=by
    have ec:((D0.length + t:Nat):Int) + 1 = ((D0.length + (t + 1):Nat):Int):=by omega
    simp only [Qay,Qhd,Q5k,Qv,Qac,Qd,Q5,Q88,Qz3,cont,Qja,Qas,Qku,ef,Qc6,Qb5,Qbn,Qej,Qe,Qd3,Qct,Qd2,Qd1,Out.opt,uo1,ec,Qdc,Qbw,frz,Qat,Qbx,List.length_cons,List.length_nil,Nat.reduceAdd,Nat.reduceLT,List.set,if_true]
   refine ⟨i - 1,_,_,by omega,?_,eb,?_⟩
   ·show Qaa _ = .ok true _
    rw [et,decide_eq_true (by omega)]
   ·by_cases hlast:t + 1 < (lvN Ms m j).length
    ·exact ⟨j,t + 1,D0,_,_,_,hD,.inl hlast,by omega,by omega,p4,p5,p7,rfl⟩
    ·have et2:t + 1 = (lvN Ms m j).length:=by omega
     refine ⟨j + 1,0,lvD Ms m j,t4,t5,t7,rfl,?_,by omega,by omega,p4,p5,p7,?_⟩
     ·cases hN2:lvN Ms m (j + 1) with
      | nil=>exact .inr ⟨rfl,rfl⟩
      | cons x N=>exact .inl (by simp)
     ·rw [et2,Q39,Qql,show D0.length + (lvN Ms m j).length = (lvD Ms m j).length + 0 by omega]
  ·left
   have e0:fr Ms m j 0 = lvD Ms m j:=Qql Ms m j
   refine ⟨evR Ms m (fr Ms m j 0) s4 s5 (D0.length + 0) s7,?_,j,.ow (.lst (Qab (fr Ms m j 0))),s4,s5,.fz (.int ((D0.length + 0:Nat):Int)),s7,hN,by omega,by rw [e0]⟩
   show Qaa _ = .ok false _
   have hlen:(lvN Ms m j).length = 0:=by rw [hN]; rfl
   rw [et,e0,decide_eq_false (by omega)])
  513 1000000 (evR Ms m (fr Ms m 0 0) u4 u5 0 .un) (by decide) ⟨0,0,[],u4,u5,.un,rfl,.inl (by
   have m1:=h.m1
   obtain ⟨q,hq⟩:∃ q,Ms.length = q + 1:=⟨Ms.length - 1,by omega⟩
   refine List.length_pos_iff.mpr (show beg Ms m Ms.length ≠ [] from ?_)
   rw [hq]
   exact Qud Ms m q),Nat.le_refl _,rfl,o4,o5,rfl,rfl⟩
 exact ⟨j,s3,s4,s5,s6,s7,hj,hj9,e⟩
theorem Qsw (k:Nat) {n:Nat} {Ms:List Tb} (h:Tabs n Ms) {m:Int} (hm:Md n m):∃ j,lvN Ms m j = [] ∧ j ≤ 900 ∧ cfn (k + 2) 32 [.fz (Qq Ms),.fz (.int m)] = .ok (.ow (dT (lvD Ms m j))) [.non,.non]:=by
 obtain ⟨u4,u5,o4,o5,e1⟩:=Q36 k h hm
 obtain ⟨j,s3,s4,s5,s6,s7,hj,hj9,e⟩:=Q0x k h hm o4 o5
 refine ⟨j,hj,hj9,?_⟩
 have z0:(0:Nat) ≤ 100000:=by decide
 have m4:=h.m4
 rw [Qql] at e
 have es:exS (cfn (k + 1)) (.set 2 .dnew) [.fz (Qq Ms),.fz (.int m),.un,.un,.un,.un,.un,.un] = .nx [.fz (Qq Ms),.fz (.int m),.ow (dT []),.un,.un,.un,.un,.un]:=rfl
 have ew:exS (cfn (k + 1)) (.whl Qqj Qqk) [.fz (Qq Ms),.fz (.int m),.ow (dT (beg Ms m Ms.length)),.ow (.lst (Qab (beg Ms m Ms.length))),u4,u5,.fz (.int 0),.un] = .nx [.fz (Qq Ms),.fz (.int m),.ow (dT (lvD Ms m j)),s3,s4,s5,s6,s7]:=by
  rw [exS]
  exact congrArg Qn4 e
 show Qa2 (cfn (k + 1)) ⟨2,8,Qdx⟩ _ = _
 rw [Qaw rfl]
 show Qbi _ (exS _ Qdx [.fz (Qq Ms),.fz (.int m),.un,.un,.un,.un,.un,.un]) = _
 simp only [Qay,es,Qb5,Qoi,Qkk,Qy,Q5,Qo9,Qdq,List.length_nil,z0,if_true,Qas,Qo0,Qat,Qbx,List.length_cons,Nat.reduceAdd,Nat.reduceLT,Qe,Qd,List.set,Qhd,Q5k,Qv,Qac,Q88,Qz3,cont,Qja,Qku,e1,Qc6,Qbn,Qct,Qdc,Qbw,frz,ew,Qaz,Qby,Qad,Qau,Qal,Qam,Qw,Option.map]
open PySem L2
noncomputable def hsh (X:Tb):Nat:=(Qei X % 999983).toNat
noncomputable def chk:Nat → List Tb → Bool
 | _,[]=>true
 | a,x :: L=>!a.testBit (hsh x) && chk (a ||| 1 <<< hsh x) L
theorem Q0y:∀ {L:List Tb} {a:Nat},chk a L = true → (∀ x ∈ L,a.testBit (hsh x) = false) ∧ ∀ x ∈ L,∀ y ∈ L,hsh x = hsh y → x = y
 | [],_,_=>⟨fun _ h=>(nomatch h),fun _ h=>(nomatch h)⟩
 | z :: L,a,h=>by
  rw [chk,Bool.and_eq_true,Bool.not_eq_true'] at h
  obtain ⟨i1,i2⟩:=Q0y h.2
  have i3:∀ x ∈ L,a.testBit (hsh x) = false ∧ hsh z ≠ hsh x:=fun x hx=>by
   have:=i1 x hx
   rw [Nat.testBit_or,Bool.or_eq_false_iff] at this
   refine ⟨this.1,fun e=>?_⟩
   have t:=this.2
   rw [e,Nat.testBit_shiftLeft] at t
   simp at t
  refine ⟨fun x hx=>?_,fun x hx y hy e=>?_⟩
  ·rcases List.mem_cons.mp hx with rfl | hx
   ·exact h.1
   ·exact (i3 x hx).1
  ·rcases List.mem_cons.mp hx with e1 | h1 <;> rcases List.mem_cons.mp hy with e2 | h2
   ·rw [e1,e2]
   ·rw [e1] at e; exact absurd e (i3 y h2).2
   ·rw [e2] at e; exact absurd e.symm (i3 x h1).2
   ·exact i2 x h1 y h2 e
theorem Qi0 {n q:Nat} (h2:2 ≤ q) (h7:q ≤ 7) (hl:(q ^ n) ^ n ≤ 512) (hc:chk 0 (tbs q n) = true):Md n (q:Int):=by
 refine ⟨by omega,by omega,by rw [Int.toNat_natCast]; exact hl,fun X Y hX hY e=>?_⟩
 have hX:=Quf (by omega) hX
 have hY:=Quf (by omega) hY
 rw [Int.toNat_natCast] at hX hY
 exact (Q0y hc).2 X hX Y hY (by unfold hsh; rw [e])
theorem md15:Md 1 5:=Qi0 (q:=5) (by decide) (by decide) (by decide) (by decide +kernel)
theorem md16:Md 1 6:=Qi0 (q:=6) (by decide) (by decide) (by decide) (by decide +kernel)
theorem md17:Md 1 7:=Qi0 (q:=7) (by decide) (by decide) (by decide) (by decide +kernel)
theorem md22:Md 2 2:=Qi0 (q:=2) (by decide) (by decide) (by decide) (by decide +kernel)
theorem Q9u:Md 2 3:=Qi0 (q:=3) (by decide) (by decide) (by decide) (by decide +kernel)
theorem md24:Md 2 4:=Qi0 (q:=4) (by decide) (by decide) (by decide) (by decide +kernel)
theorem md32:Md 3 2:=Qi0 (q:=2) (by decide) (by decide) (by decide) (by decide +kernel)
open PySem L2
noncomputable def Qgw (q:T):Prop:=∃ n f:Int,0 ≤ n ∧ q = .lst [.int n,.int f]
theorem Qkc (k:Nat) {m:Int} (h0:0 < m) (h1:m.natAbs < 2 ^ 64) {q:T} (hq:Qgw q):∃ r q',0 ≤ r ∧ r < m ∧ Qgw q' ∧ cfn (k + 1) 25 [.ml q,.fz (.int m)] = .ok (.fz (.int r)) [q',.non]:=by
 obtain ⟨n,f,hn,rfl⟩:=hq
 have h1':m.natAbs < 18446744073709551616:=h1
 have h32:(32:Int).natAbs < 18446744073709551616:=by decide
 by_cases hf:f = 1
 ·refine ⟨n % m,.lst [.int (n / m),.int f],Int.emod_nonneg _ (by omega),Int.emod_lt_of_pos _ h0,⟨_,_,Int.ediv_nonneg hn (by omega),rfl⟩,?_⟩
  show Qa2 (cfn k) ⟨2,5,Qeq⟩ _ = _
  rw [Qaw rfl]
  show Qbi _ (exS _ Qeq [.ml (.lst [.int n,.int f]),.fz (.int m),.un,.un,.un]) = _
  subst hf
  simp only [Qay,Qbt,Qc5,Qhc,Qv,Qac,Qd,Q5,Qgv,Qct,Qgu,Qgt,cont,Slot.prv,Qgs,ui1,at_1,Qcx,Qcw,Qcv,Qcu,uc1,Qjl,decide_true,Qaf,yBl,Qas,yIf,Qz4,Qcd,Qm,at_0,yC1,Qe,Qy,yC2,yBi,Qb9,Qar,Out.opt,ub7,h0,Nat.reducePow,h1',and_self,if_true,Q3d,Qat,Qb4,Qbx,List.length_cons,List.length_nil,Nat.reduceAdd,Nat.reduceLT,List.set,Qb5,Q5m,Q3e,Qz6,frz,Slot.mut,Qvl,Qz5,Q5n,Qaz,Qby,Q3c,Qad,Qau,Qal,Qam,Qw,Option.map]
 ·refine ⟨(((((n % 2147483647 + 40503) * 69621 % 2147483629) * ((n % 2147483647 + 40503) * 69621 % 2147483629) + 7817) % 2147483587) * 48271 + 11) % 2147483629 / 32 % m,
   .lst [.int ((((((n % 2147483647 + 40503) * 69621 % 2147483629) * ((n % 2147483647 + 40503) * 69621 % 2147483629) + 7817) % 2147483587) * 48271 + 11) % 2147483629),.int f],Int.emod_nonneg _ (by omega),Int.emod_lt_of_pos _ h0,⟨_,_,Int.emod_nonneg _ (by decide),rfl⟩,?_⟩
  show Qa2 (cfn k) ⟨2,5,Qeq⟩ _ = _
  rw [Qaw rfl]
  show Qbi _ (exS _ Qeq [.ml (.lst [.int n,.int f]),.fz (.int m),.un,.un,.un]) = _
  have b1:Qc2 (n % 2147483647 + 40503) 69621 = true:=by unfold Qc2; simp
  have m1:0 ≤ (n % 2147483647 + 40503) * 69621 % 2147483629:=Int.emod_nonneg _ (by decide)
  have m2:(n % 2147483647 + 40503) * 69621 % 2147483629 < 2147483629:=Int.emod_lt_of_pos _ (by decide)
  generalize hs:(n % 2147483647 + 40503) * 69621 % 2147483629 = st at m1 m2 ⊢
  have b2:Qc2 st st = true:=by
   unfold Qc2
   simp only [Bool.or_eq_true,decide_eq_true_eq]
   exact .inl (by omega)
  have b3:∀ z,Qc2 z 48271 = true:=fun z=>by unfold Qc2; simp
  simp only [Qay,Qbt,Qc5,Qhc,Qv,Qac,Qd,Q5,Qgv,Qct,Qgu,Qgt,cont,Slot.prv,Qgs,ui1,at_1,Qcx,Qcw,Qcv,Qcu,uc1,Qjl,hf,decide_false,Qaf,yBl,Qas,yIf,Qdb,Qb5,Qbn,Qej,at_0,Qd3,Qd2,Qd1,Out.opt,uo8,Int.reduceLT,if_false,if_true,uo1,uo5,b1,hs,Qdc,Qbw,frz,Qat,Qbx,List.length_cons,List.length_nil,Nat.reduceAdd,Nat.reduceLT,Qe,List.set,b2,Q5m,b3,Q3e,Qz6,Slot.mut,Qvl,Qz5,Q5n,Qaz,uo7,Nat.reducePow,h32,and_self,h0,Qby,Qad,Qau,Qal,Qam,Qw,Option.map]
theorem Qadp (k:Nat) (c:Int):∃ q,Qgw q ∧ cfn (k + 1) 24 [.fz (.int c)] = .ok (.ow q) [.non]:=by
 refine ⟨.lst [.int (if 0 - c > c then 0 - c else c),.int (if decide (10 ^ 18 ≤ (if 0 - c > c then 0 - c else c)) = true then 1 else 0)],⟨_,_,?_,rfl⟩,?_⟩
 ·split <;> omega
 ·have p1:(18:Int).natAbs ≤ 1000000:=by decide
  have p2:(10:Int).natAbs < 18446744073709551616:=by decide
  show Qa2 (cfn k) ⟨1,2,Qj8⟩ _ = _
  rw [Qaw rfl]
  show Qbi _ (exS _ Qj8 [.fz (.int c),.un]) = _
  have z2:(2:Nat) ≤ 100000:=by decide
  simp only [Qay,Qbn,Qcd,Qm,Qv,Qac,Qd,Q5,yC1,Qej,Qct,Qd3,Qd2,Qd1,cont,Out.opt,uo4,Qy,yC2,yBi,Qb9,Qar,ub6,Qas,Qdc,Qbw,frz,Qat,Qbx,List.length_cons,List.length_nil,Nat.reduceAdd,Nat.reduceLT,Qe,List.set,if_true,Qb5,Qaz,Qkk,Qc5,Qcx,uo9,Int.reduceLE,p1,Nat.reducePow,p2,and_self,Int.reduceToNat,Int.reducePow,Qcw,Qcv,Qcu,uc6,ub8,Qo9,Qdq,z2,Qby,Qad,Qau,Qal,Qam,Qw,Option.map]
noncomputable abbrev Big:Nat:=1000000000000
noncomputable def Bd (_ y:T):Prop:=∃ v:Int,y = .int v ∧ v.natAbs ≤ Big
theorem Qw8 {xs ys:List T} (h:All2 Bd xs ys):∃ r:List Int,ys = r.map T.int ∧ r.length = xs.length ∧ ∀ v ∈ r,v.natAbs ≤ Big:=by
 induction h with
 | nil=>exact ⟨[],rfl,rfl,fun v hv=>(nomatch hv)⟩
 | cons f _ ih =>
  obtain ⟨v,rfl,hv⟩:=f
  obtain ⟨r,rfl,hl,hr⟩:=ih
  refine ⟨v :: r,rfl,by rw [List.length_cons,List.length_cons,hl],fun w hw=>?_⟩
  rcases List.mem_cons.mp hw with rfl | hw
  ·exact hv
  ·exact hr w hw
theorem at6 {r:Int} (h0:0 ≤ r) (h1:r < 6):∃ v:Int,atI [T.int 0,.int 0,.int 1,.int 0,.int 1,.int (-1)] r = some (.int v) ∧ v.natAbs ≤ Big:=by
 obtain ⟨i,rfl⟩:=Int.eq_ofNat_of_zero_le h0
 have hi:i = 0 ∨ i = 1 ∨ i = 2 ∨ i = 3 ∨ i = 4 ∨ i = 5:=by omega
 rcases hi with rfl | rfl | rfl | rfl | rfl | rfl
 ·exact ⟨0,Qan rfl,by decide⟩
 ·exact ⟨0,Qan rfl,by decide⟩
 ·exact ⟨1,Qan rfl,by decide⟩
 ·exact ⟨0,Qan rfl,by decide⟩
 ·exact ⟨1,Qan rfl,by decide⟩
 ·exact ⟨-1,Qan rfl,by decide⟩
theorem Q0z (k:Nat) {kind:Int} {q:T} (hq:Qgw q):∃ (v:Int) (q':T),v.natAbs ≤ Big ∧ Qgw q' ∧ cfn (k + 2) 28 [.ml q,.fz (.int kind)] = .ok (.fz (.int v)) [q',.non]:=by
 by_cases h3:kind < 3
 ·obtain ⟨r1,q1,a0,a1,p1,e1⟩:=Qkc k (m:=6) (by decide) (by decide) hq
  obtain ⟨v,ev,hv⟩:=at6 a0 a1
  refine ⟨v,q1,hv,p1,?_⟩
  have z6:(6:Nat) ≤ 100000:=by decide
  show Qa2 (cfn (k + 1)) ⟨2,2,Qbs⟩ _ = _
  rw [Qaw rfl]
  show Qbi _ (exS _ Qbs [.ml q,.fz (.int kind)]) = _
  simp only [Qay,Qbt,Qc5,Qv,Qac,Qe,Qd,Q5,Qcx,Qct,Qcw,Qcv,cont,Qcu,uc3,h3,decide_true,Qaf,yBl,Qas,yIf,Qaz,Qhc,Qkk,Qm,yC1,Qac0,yNeg,Int.reduceNeg,Qy,yC2,Qo9,Qdq,frz,List.length_cons,List.length_nil,Nat.reduceAdd,z6,if_true,Qgv,Qao,Q7,Q0,List.all_cons,List.all_nil,Bool.and_true,Qah,Q2,Qav,Qag,e1,Qa6,Qp,Q4,L2.Qk,Option.map,List.getElem?_cons_zero,Slot.put,reduceCtorEq,if_false,Qgu,Qgt,Qgs,ui1,ev,Qby,Q3c,Qad,Qau,Qal,Qam,Qw]
 ·by_cases h7:kind < 7
  ·obtain ⟨r1,q1,a0,a1,p1,e1⟩:=Qkc k (m:=7) (by decide) (by decide) hq
   refine ⟨r1 - 3,q1,by show _ ≤ 1000000000000; omega,p1,?_⟩
   show Qa2 (cfn (k + 1)) ⟨2,2,Qbs⟩ _ = _
   rw [Qaw rfl]
   show Qbi _ (exS _ Qbs [.ml q,.fz (.int kind)]) = _
   simp only [Qay,Qbt,Qc5,Qv,Qac,Qe,Qd,Q5,Qcx,Qct,Qcw,Qcv,cont,Qcu,uc3,h3,decide_false,Qaf,yBl,Qas,yIf,Qdb,Qb5,h7,decide_true,Qaz,Qej,Qao,Qm,yC1,Qy,yC2,Q7,Q0,List.all_cons,List.all_nil,Bool.and_true,Qah,Q2,Qav,Qag,e1,Qa6,Qp,Q4,L2.Qk,Option.map,if_true,List.getElem?_cons_zero,Slot.put,Nat.reduceAdd,reduceCtorEq,if_false,Qd3,Qd2,Qd1,Out.opt,uo4,Qby,Q3c,Qad,Qau,Qal,Qam,Qw]
  ·obtain ⟨r1,q1,a0,a1,p1,e1⟩:=Qkc k (m:=1999999999999) (by decide) (by decide) hq
   refine ⟨r1 - 1000000000000 + 1,q1,by show _ ≤ 1000000000000; omega,p1,?_⟩
   have p10:(12:Int).natAbs ≤ 1000000:=by decide
   have p11:(10:Int).natAbs < 18446744073709551616:=by decide
   have mo:Qc2 2 1000000000000 = true:=by decide
   show Qa2 (cfn (k + 1)) ⟨2,2,Qbs⟩ _ = _
   rw [Qaw rfl]
   show Qbi _ (exS _ Qbs [.ml q,.fz (.int kind)]) = _
   simp only [Qay,Qbt,Qc5,Qv,Qac,Qe,Qd,Q5,Qcx,Qct,Qcw,Qcv,cont,Qcu,uc3,h3,decide_false,Qaf,yBl,Qas,yIf,Qdb,Qb5,h7,Qaz,Qej,Qao,Qm,yC1,Qd3,Qd2,Qd1,Out.opt,uo9,Int.reduceLE,p10,Nat.reducePow,p11,and_self,Int.reduceToNat,Int.reducePow,if_true,uo5,mo,Int.reduceMul,uo4,Int.reduceSub,Qy,yC2,Q7,Q0,List.all_cons,List.all_nil,Bool.and_true,Qah,Q2,Qav,Qag,e1,Qa6,Qp,Q4,L2.Qk,Option.map,List.getElem?_cons_zero,Slot.put,Nat.reduceAdd,reduceCtorEq,if_false,uo1,Qby,Qad,Qau,Qal,Qam,Qw]
noncomputable abbrev Quh:E:=.call 28 (.cons (.var 1) (.cons (.var 2) .nil))
theorem Q9v (k:Nat) {n:Nat} (h4:n ≤ 4) {kind:Int} {q:T} (hq:Qgw q) {a b:Slot} {found rows:T} {s6:Slot} {i:Int}:∃ (r:List Int) (q':T),evE (cfn (k + 2)) (.bi .tup (.cons (.comp (.rng1 (.var 1)) [none,some 0,some 4] (.nm 0) .nil Quh) .nil)) [.ml q,.fz (.int n),a,b,.fz (.int kind),.ow found,s6,.ow rows,.fz (.int i)] =
  .ok (.fz (Ql r)) [.ml q',.fz (.int n),a,b,.fz (.int kind),.ow found,s6,.ow rows,.fz (.int i)] ∧ Qgw q' ∧ r.length = n ∧ ∀ v ∈ r,v.natAbs ≤ Big:=by
 have hw:evW (cfn (k + 2)) (.rng1 (.var 1)) [.ml q,.fz (.int n),a,b,.fz (.int kind),.ow found,s6,.ow rows,.fz (.int i)] = .ok (Qa0 0 n,none) [.ml q,.fz (.int n),a,b,.fz (.int kind),.ow found,s6,.ow rows,.fz (.int i)]:=by
  have c:n ≤ 100000:=by omega
  simp only [Qfa,Qv,Qac,Qe,Qd,Q5,Qm7 c]
 obtain ⟨ys,q',e,p,f⟩:=Q9a (cf:=cfn (k + 2)) (P:=Qgw) (F:=Bd) (rest:=fun q=>[.ml q,.fz (.int kind)]) (w:=.rng1 (.var 1)) (js:=[none,some 0,some 4]) (e:=Quh) (ρ:=[.ml q,.fz (.int n),a,b,.fz (.int kind),.ow found,s6,.ow rows,.fz (.int i)])
  (ρ':=fun q'=>[.ml q',.fz (.int n),a,b,.fz (.int kind),.ow found,s6,.ow rows,.fz (.int i)]) hq hw rfl (fun s q'=>rfl) rfl (fun s q' _=>rfl) (fun x hx q hq=>by
   obtain ⟨v,q1,hv,p1,e1⟩:=Q0z k (kind:=kind) hq
   refine ⟨.fz (.int v),_,q1,?_,rfl,p1,_,rfl,hv⟩
   simp only [Qao,Qm,Qv,Qac,Qe,Qd,Q5,yC1,Qy,yC2,Q7,Q0,List.all_cons,List.all_nil,Bool.and_true,Qah,Q2,Qav,Qag,e1,Qa6,Qp,Q4,L2.Qk,reduceCtorEq,Option.map,if_false,Nat.reduceAdd,if_true,List.getElem?_cons_zero,Slot.put,Nat.reduceEqDiff]) (by rw [Qaj]; omega)
 obtain ⟨r,rfl,hl,hr⟩:=Qw8 f
 rw [Qaj] at hl
 refine ⟨r,q',?_,p,hl,hr⟩
 simp only [Qcd,Qm,e,Q5,yC1,Qy,yC2,yBi,Qb9,Qar,cont,Out.opt,ub9]
noncomputable def Rows (n i:Nat) (rows:Tb):Prop:=rows.length = i ∧ ∀ r ∈ rows,r.length = n ∧ ∀ x ∈ r,(x:Int).natAbs ≤ Big
theorem Rows.snoc {n i:Nat} {rows:Tb} {r:List Int} (h:Rows n i rows) (hl:r.length = n) (hr:∀ x ∈ r,(x:Int).natAbs ≤ Big):Rows n (i + 1) (rows ++ [r]):=by
 refine ⟨by rw [List.length_append,h.1]; rfl,fun x hx=>?_⟩
 rcases List.mem_append.mp hx with hx | hx
 ·exact h.2 x hx
 ·rw [List.mem_singleton.mp hx]; exact ⟨hl,hr⟩
noncomputable abbrev Q00:S:=.app 7 (.bi .tup (.cons (.comp (.rng1 (.var 1)) [none,some 0,some 4] (.nm 0) .nil Quh) .nil))
theorem Q4a (k:Nat) {n:Nat} (h4:n ≤ 4) {kind:Int} {q:T} (hq:Qgw q) {a b:Slot} {found:T} {s6 s8:Slot} (o8:Qax s8 = true):∃ (rows:Tb) (q':T) (t8:Slot),Qde (.nm 8) (exS (cfn (k + 2)) Q00) (Qa0 0 n) [.ml q,.fz (.int n),a,b,.fz (.int kind),.ow found,s6,.ow (.lst []),s8] =
  .nx [.ml q',.fz (.int n),a,b,.fz (.int kind),.ow found,s6,.ow (.lst (rows.map Ql)),t8] ∧ Qgw q' ∧ Rows n n rows ∧ Qax t8 = true:=by
 obtain ⟨ρ',e,rows,q',t8,p,hr,o,rfl⟩:=Qcc (fun j ρ=>∃ (rows:Tb) (q':T) (t8:Slot),Qgw q' ∧ Rows n j rows ∧ Qax t8 = true ∧ ρ = [.ml q',.fz (.int n),a,b,.fz (.int kind),.ow found,s6,.ow (.lst (rows.map Ql)),t8]) (tg:=.nm 8) (b:=exS (cfn (k + 2)) Q00) (xs:=Qa0 0 n) (n:=0) (ρ:=[.ml q,.fz (.int n),a,b,.fz (.int kind),.ow found,s6,.ow (.lst []),s8]) ⟨[],q,s8,hq,⟨rfl,fun r hr=>(nomatch hr)⟩,o8,rfl⟩ (by
  rintro i x ρ hx ⟨rows,q1,t8,p1,hr,o,rfl⟩
  have hi:i < n:=by have:=(List.getElem?_eq_some_iff.mp hx).1; rwa [Qaj] at this
  rw [Qfi hi] at hx
  cases hx
  obtain ⟨r,q2,e2,p2,l2,v2⟩:=Q9v k h4 p1 (a:=a) (b:=b) (found:=found) (rows:=.lst (rows.map Ql)) (s6:=s6) (i:=0 + (i:Int)) (n:=n) (kind:=kind)
  have z:rows.length < 100000:=by have:=hr.1; omega
  refine ⟨[.ml q1,.fz (.int n),a,b,.fz (.int kind),.ow found,s6,.ow (.lst (rows.map Ql)),.fz (.int (0 + (i:Int)))],_,(by cases t8 <;> first | rfl | cases o),.inl ?_,rows ++ [r],q2,.fz (.int (0 + (i:Int))),p2,hr.snoc l2 v2,rfl,rfl⟩
  simp only [Qj2,Slot.mut,Qe,Qd,e2,Qas,Qrs,Qmg,frz,Qmf,List.length_map,z,List.set,if_true,List.map_append,List.map_cons,List.map_nil])
 rw [Qaj,Nat.zero_add] at hr
 exact ⟨rows,q',t8,e,p,hr,o⟩
noncomputable abbrev Q01:S:=.seq (.set 7 (.lst .nil)) (.seq (.for_ (.rng1 (.var 1)) (.nm 8) Q00) (.app 5 (.bi .tup (.cons (.var 7) .nil))))
noncomputable def own1:Slot → Bool
 | .un=>true
 | .fz _=>true
 | .ow _=>true
 | _=>false
theorem Qw9 (k:Nat) {n m:Nat} (h4:n ≤ 4) (hm:m ≤ 4) {kind:Int} {q:T} (hq:Qgw q) {a b:Slot}:∃ (Ms:List Tb) (q':T) (t6 t7 t8:Slot),Qde (.nm 6) (exS (cfn (k + 2)) Q01) (Qa0 0 m) [.ml q,.fz (.int n),a,b,.fz (.int kind),.ow (.lst []),.un,.un,.un] =
  .nx [.ml q',.fz (.int n),a,b,.fz (.int kind),.ow (.lst (Ms.map Qh)),t6,t7,t8] ∧ Qgw q' ∧ Ms.length = m ∧ ∀ M ∈ Ms,Sq n M:=by
 obtain ⟨ρ',e,Ms,q',t6,t7,t8,p,hl,hs,_,_,_,rfl⟩:=Qcc (fun j ρ=>∃ (Ms:List Tb) (q':T) (t6 t7 t8:Slot),Qgw q' ∧ Ms.length = j ∧ (∀ M ∈ Ms,Sq n M) ∧ Qax t6 = true ∧ own1 t7 = true ∧ Qax t8 = true ∧ ρ = [.ml q',.fz (.int n),a,b,.fz (.int kind),.ow (.lst (Ms.map Qh)),t6,t7,t8]) (tg:=.nm 6) (b:=exS (cfn (k + 2)) Q01) (xs:=Qa0 0 m) (n:=0) (ρ:=[.ml q,.fz (.int n),a,b,.fz (.int kind),.ow (.lst []),.un,.un,.un]) ⟨[],q,.un,.un,.un,hq,rfl,fun M hM=>(nomatch hM),rfl,rfl,rfl,rfl⟩ (by
  rintro i x ρ hx ⟨Ms,q1,t6,t7,t8,p1,hl,hs,o6,o7,o8,rfl⟩
  have hi:i < m:=by have:=(List.getElem?_eq_some_iff.mp hx).1; rwa [Qaj] at this
  obtain ⟨rows,q2,u8,e2,p2,hr,w8⟩:=Q4a k h4 p1 (a:=a) (b:=b) (found:=.lst (Ms.map Qh)) (s6:=.fz x) o8 (n:=n) (kind:=kind)
  have c:n ≤ 100000:=by omega
  have z:Ms.length < 100000:=by omega
  refine ⟨[.ml q1,.fz (.int n),a,b,.fz (.int kind),.ow (.lst (Ms.map Qh)),.fz x,t7,t8],_,(by cases t6 <;> first | rfl | cases o6),.inl ?_,Ms ++ [rows],q2,.fz x,.ow (.lst (rows.map Ql)),u8,p2,by rw [List.length_append,hl]; rfl,fun M hM=>?_,rfl,rfl,w8,rfl⟩
  ·have es:exS (cfn (k + 2)) (.set 7 (.lst .nil)) [.ml q1,.fz (.int n),a,b,.fz (.int kind),.ow (.lst (Ms.map Qh)),.fz x,t7,t8] = .nx [.ml q1,.fz (.int n),a,b,.fz (.int kind),.ow (.lst (Ms.map Qh)),.fz x,.ow (.lst []),t8]:=by
    cases t7 <;> first | rfl | (cases o7; done)
   rw [Qay,es,Qb5]
   simp only [Qay,Qhd,Qfa,Qv,Qac,Qe,Qd,Q5,Qm7 c,Qas,Qku,e2,Qc6,Qb5,Qj2,Slot.mut,Qcd,Qm,yC1,Qy,yC2,yBi,Qb9,Qar,cont,Slot.prv,Out.opt,ub9,Qrs,Qmg,frz,Qmf,List.length_map,z,List.set,if_true,List.map_append,List.map_cons,List.map_nil]
  ·rcases List.mem_append.mp hM with hM | hM
   ·exact hs M hM
   ·rw [List.mem_singleton.mp hM]
    exact ⟨hr.1,fun r h=>(hr.2 r h).1,fun r h=>(hr.2 r h).2⟩)
 rw [Qaj,Nat.zero_add] at hl
 exact ⟨Ms,q',t6,t7,t8,e,p,hl,hs⟩
theorem Q02 (k:Nat) {n:Nat} (h1:1 ≤ n) (h4:n ≤ 4) {mo:Int} (o1:0 < mo) (o3:mo ≤ 3) {q:T} (hq:Qgw q):∃ Ms q',Tabs n Ms ∧ Qgw q' ∧ cfn (k + 3) 27 [.ml q,.fz (.int n),.fz (.int mo)] = .ok (.ow (Qq Ms)) [q',.non,.non]:=by
 obtain ⟨r1,q1,a0,a1,p1,e1⟩:=Qkc (k + 1) (m:=mo) o1 (by omega) hq
 obtain ⟨kind,q2,b0,b1,p2,e2⟩:=Qkc (k + 1) (m:=8) (by decide) (by decide) p1
 obtain ⟨m,hm⟩:=Int.eq_ofNat_of_zero_le (show 0 ≤ 1 + r1 by omega)
 obtain ⟨Ms,q4,t6,t7,t8,e4,p4,hl,hs⟩:=Qw9 k h4 (show m ≤ 4 by omega) p2 (a:=.fz (.int mo)) (b:=.fz (.int m)) (n:=n) (kind:=kind)
 refine ⟨Ms,q4,⟨h1,h4,by omega,by omega,hs⟩,p4,?_⟩
 have c:m ≤ 100000:=by omega
 have z0:(0:Nat) ≤ 100000:=by decide
 show Qa2 (cfn (k + 2)) ⟨3,9,Qge⟩ _ = _
 rw [Qaw rfl]
 show Qbi _ (exS _ Qge [.ml q,.fz (.int n),.fz (.int mo),.un,.un,.un,.un,.un,.un]) = _
 simp only [Qay,Qbn,Qej,Qct,Q5,Qd3,Qao,Qm,Qv,Qac,Qd,yC1,Qe,Qy,yC2,Q7,Q0,List.all_cons,List.all_nil,Bool.and_true,Qah,Q2,Qav,Qag,e1,Qa6,Qp,Q4,L2.Qk,Option.map,if_true,List.getElem?_cons_zero,Slot.put,Nat.reduceAdd,reduceCtorEq,if_false,Qd2,Qd1,cont,Out.opt,uo1,hm,Qas,Qdc,Qbw,frz,Qat,Qbx,List.length_cons,List.length_nil,Nat.reduceLT,List.set,Qb5,e2,Qoi,Qkk,Qo9,Qdq,z0,Qo0,Qhd,Qfa,Qm7 c,Qku,e4,Qc6,Qaz,Qby,Qad,Qau,Qal,Qam,Qw]
noncomputable abbrev prs:List T:=[.tup [.int 1,.int 5],.tup [.int 1,.int 7],.tup [.int 2,.int 2],.tup [.int 2,.int 2],.tup [.int 2,.int 3],.tup [.int 2,.int 3],.tup [.int 2,.int 3],.tup [.int 2,.int 4],.tup [.int 1,.int 6],.tup [.int 3,.int 2]]
theorem at10 {r:Int} (h0:0 ≤ r) (h1:r < 10):∃ (n:Nat) (m:Int),atI prs r = some (.tup [.int n,.int m]) ∧ Md n m ∧ (n = 1 ∨ n = 2 ∨ n = 3):=by
 obtain ⟨i,rfl⟩:=Int.eq_ofNat_of_zero_le h0
 have hi:i = 0 ∨ i = 1 ∨ i = 2 ∨ i = 3 ∨ i = 4 ∨ i = 5 ∨ i = 6 ∨ i = 7 ∨ i = 8 ∨ i = 9:=by omega
 rcases hi with rfl | rfl | rfl | rfl | rfl | rfl | rfl | rfl | rfl | rfl
 ·exact ⟨1,5,Qan rfl,md15,.inl rfl⟩
 ·exact ⟨1,7,Qan rfl,md17,.inl rfl⟩
 ·exact ⟨2,2,Qan rfl,md22,.inr (.inl rfl)⟩
 ·exact ⟨2,2,Qan rfl,md22,.inr (.inl rfl)⟩
 ·exact ⟨2,3,Qan rfl,Q9u,.inr (.inl rfl)⟩
 ·exact ⟨2,3,Qan rfl,Q9u,.inr (.inl rfl)⟩
 ·exact ⟨2,3,Qan rfl,Q9u,.inr (.inl rfl)⟩
 ·exact ⟨2,4,Qan rfl,md24,.inr (.inl rfl)⟩
 ·exact ⟨1,6,Qan rfl,md16,.inl rfl⟩
 ·exact ⟨3,2,Qan rfl,md32,.inr (.inr rfl)⟩
theorem Q9w {n:Nat} (h:n = 1 ∨ n = 2 ∨ n = 3):∃ mo:Int,0 < mo ∧ mo ≤ 3 ∧ atI [T.int 3,.int 2] (if decide ((n:Int) = 3) = true then 1 else 0) = some (.int mo):=by
 rcases h with rfl | rfl | rfl
 ·exact ⟨3,by decide,by decide,rfl⟩
 ·exact ⟨3,by decide,by decide,rfl⟩
 ·exact ⟨2,by decide,by decide,rfl⟩
theorem Qxa (k:Nat) {q:T} (hq:Qgw q):∃ (n:Nat) (m:Int) (Ms:List Tb) (q':T),Md n m ∧ Tabs n Ms ∧ Qgw q' ∧ cfn (k + 4) 33 [.ml q] = .ok (.fz (.tup [Qq Ms,.int m])) [q']:=by
 obtain ⟨r1,q1,a0,a1,p1,e1⟩:=Qkc (k + 2) (m:=10) (by decide) (by decide) hq
 obtain ⟨n,m,ea,hm,hn⟩:=at10 a0 a1
 obtain ⟨mo,o1,o3,em⟩:=Q9w hn
 obtain ⟨Ms,q2,hM,p2,e2⟩:=Q02 k (n:=n) (by omega) (by omega) o1 o3 p1
 refine ⟨n,m,Ms,q2,hm,hM,p2,?_⟩
 have z2:(2:Nat) ≤ 100000:=by decide
 have z10:(10:Nat) ≤ 100000:=by decide
 show Qa2 (cfn (k + 3)) ⟨1,3,Qka⟩ _ = _
 rw [Qaw rfl]
 show Qbi _ (exS _ Qka [.ml q,.un,.un]) = _
 simp only [Qay,Qz4,Qhc,Qkk,Qm,Qme,Qct,Q5,yC1,Qy,yC2,Qrq,Qdq,frz,List.length_cons,List.length_nil,Nat.reduceAdd,z2,if_true,Qo9,z10,Qgv,Qao,Qv,Qac,Qd,Q7,Q0,List.all_cons,List.all_nil,Bool.and_true,Qah,Q2,Qav,Qag,e1,Qa6,Qp,Q4,L2.Qk,Option.map,List.getElem?_cons_zero,Slot.put,reduceCtorEq,if_false,Qgu,Qgt,cont,Qgs,ui1,ea,Qas,Q3d,Qat,Qb4,Qbx,Nat.reduceLT,Qe,List.set,Qb5,Qaz,Qcd,Qc5,Qcx,Qcw,Qcv,Qcu,uc1,Qjl,yBi,Qb9,Qar,Out.opt,ub8,em,e2,Qby,Qad,Qau,Qal,Qam,Qw]
open PySem L2
theorem Qsx (k:Nat) {n:Nat} {Ms:List Tb} (h:Tabs n Ms) {m:Int} (hm:Md n m) {j:Nat} (hj:lvN Ms m j = []):cfn (k + 8) 23 [.fz (Qq Ms),.fz (.int m)] = .ok (.fz (Q9o ((lvD Ms m j).lookup (Qnm n)))) [.non,.non]:=by
 obtain ⟨i,hi,e⟩:=Qug k h hm
 have q:lvD Ms m i = lvD Ms m j:=Q3l Ms.length (stp Ms m) (beg Ms m Ms.length) hi hj
 rw [e,q]
noncomputable def wk (Ms:List Tb) (w:List Int) (X:Tb):Tb:=w.foldl (fun X i=>Qfk X (Ms.getD i.toNat [])) X
theorem Q03 {Ms:List Tb} {m:Int}:∀ (w:List Int) (X:Tb),rs m (wk Ms w X) = wkR Ms m w (rs m X)
 | [],_=>rfl
 | i :: w,X=>by
  show rs m (wk Ms w (Qfk X (Ms.getD i.toNat []))) = wkR Ms m w (rs m (Qfk (rs m X) (Ms.getD i.toNat [])))
  rw [Q0n]
  exact Q03 w _
noncomputable abbrev Q5v:S:=.setF 2 (.call 29 (.cons (.var 2) (.cons (.ix (.var 0) (.var 3)) .nil)))
noncomputable def ShT (n:Nat) (X:Tb):Prop:=X.length = n ∧ ∀ r ∈ X,r.length = n
theorem Qol (k:Nat) {n:Nat} {Ms:List Tb} (h:Tabs n Ms) {a:Slot}:∀ (w:List Int) (X:Tb) (s3:Slot),InW Ms.length w → ShT n X → Qax s3 = true → ∃ s3',Qde (.nm 3) (exS (cfn (k + 1)) Q5v) (w.map T.int) [.fz (Qq Ms),a,.fz (Qh X),s3] = .nx [.fz (Qq Ms),a,.fz (Qh (wk Ms w X)),s3'] ∧ ShT n (wk Ms w X)
 | [],X,s3,_,hX,_=>⟨s3,by simp [Qde]; rfl,hX⟩
 | i :: w,X,s3,hw,hX,o3=>by
  obtain ⟨i0,i1⟩:=hw i (.head _)
  obtain ⟨v,rfl⟩:=Int.eq_ofNat_of_zero_le i0
  have hv:v < Ms.length:=by omega
  obtain ⟨at_,q⟩:=Qmr h hv
  have n4:=h.n4
  have e1:=Qkp k q h.n4 hX.2 (by rw [hX.1]; exact n4)
  obtain ⟨s3',e2,l2⟩:=Qol k h (a:=a) w (Qfk X (Ms.getD v [])) (.fz (.int v)) (fun x hx=>hw x (.tail _ hx)) (Qk9 hX.1 q.len) rfl
  have e0:Qie (.nm 3) (T.int v) [.fz (Qq Ms),a,.fz (Qh X),s3] = some [.fz (Qq Ms),a,.fz (Qh X),.fz (.int v)]:=by
   cases s3 <;> first | rfl | cases o3
  refine ⟨s3',?_,l2⟩
  rw [List.map_cons]
  unfold Qde
  rw [e0]
  simp only [Qbn,Qao,Qm,Qv,Qac,Qe,Qd,Q5,yC1,Qhc,Qgv,Qgu,Qgt,cont,Qgs,ui1,at_,Qy,yC2,Q7,Q0,Qah,Q2,Qav,Qag,e1,Qa6,Qp,Q4,L2.Qk,Option.map,if_true,Qas,Qdc,Qbw,frz,Qat,Qbx,List.length_cons,List.length_nil,Nat.reduceAdd,Nat.reduceLT,List.set]
  exact e2
theorem cut1 (x:T) (xs:List T):Qm2 (x :: xs) (some 1) none = xs:=by
 unfold Qm2 HT.sIx
 simp
theorem Qqm (k:Nat) {n:Nat} {Ms:List Tb} (h:Tabs n Ms) {i:Int} {w:List Int} (hw:InW Ms.length (i :: w)):cfn (k + 2) 30 [.fz (Qq Ms),.fz (Ql (i :: w))] = .ok (.fz (Qh (wk Ms w (Ms.getD i.toNat [])))) [.non,.non] ∧ ShT n (wk Ms w (Ms.getD i.toNat [])):=by
 obtain ⟨i0,i1⟩:=hw i (.head _)
 obtain ⟨v,rfl⟩:=Int.eq_ofNat_of_zero_le i0
 obtain ⟨at_,q⟩:=Qmr h (show v < Ms.length by omega)
 obtain ⟨s3',e,l⟩:=Qol k h (a:=.fz (Ql ((v:Int) :: w))) w (Ms.getD v []) .un (fun x hx=>hw x (.tail _ hx)) ⟨q.len,q.row⟩ rfl
 rw [Int.toNat_natCast]
 refine ⟨?_,l⟩
 have a0:atI (T.int (v:Int) :: w.map T.int) 0 = some (.int v):=Qan (j:=0) rfl
 show Qa2 (cfn (k + 1)) ⟨2,4,Qgh⟩ _ = _
 rw [Qaw rfl]
 show Qbi _ (exS _ Qgh [.fz (Qq Ms),.fz (.tup (T.int (v:Int) :: w.map T.int)),.un,.un]) = _
 have e:Qde (.nm 3) (exS (cfn (k + 1)) Q5v) (w.map T.int) [.fz (Qq Ms),.fz (.tup (T.int (v:Int) :: w.map T.int)),.fz (Qh (Ms.getD v [])),.un] = .nx [.fz (Qq Ms),.fz (.tup (T.int (v:Int) :: w.map T.int)),.fz (Qh (wk Ms w (Ms.getD v []))),s3']:=e
 simp only [Qay,Qbn,Qhc,Qv,Qac,Qd,Q5,Qgv,Qe,Qct,Qgu,Qgt,cont,Qgs,ui2,a0,ui1,at_,Qas,Qdc,Qbw,frz,Qat,Qbx,List.length_cons,List.length_nil,Nat.reduceAdd,Nat.reduceLT,List.set,if_true,Qb5,Qhd,Qz1,Qac7,ySl1,Qm,yC1,Qy,yC2,ySl2,Q5i,Qoy,ySl3,Q5h,ySl4,Out.opt,ui4,cut1,Q3a,Qvk,Qvj,Qi8,Qja,Qku,e,Qc6,Qaz,Qby,Qad,Qau,Qal,Qam,Qw,Option.map]
theorem Q9x (M:Tb):eqO (Qh M) (Qh M) = some true:=by
 have hok:Qi 50 (Qh M) = true:=by
  show (M.map Ql).all (Qi 49) = true
  rw [List.all_eq_true]
  intro x hx
  obtain ⟨r,_,rfl⟩:=List.mem_map.mp hx
  exact Qsu r
 show (if _ then _ else _) = _
 rw [if_pos ⟨hok,hok⟩,Qlj 50 _ hok]
theorem Q4b (k:Nat) {n:Nat} {Ms:List Tb} (h:Tabs n Ms) {m:Int} (hm:Md n m):cfn (k + 9) 36 [.fz (Qq Ms),.fz (.int m)] = .ok (.fz (.bl true)) [.non,.non]:=by
 obtain ⟨j,hj,hj9,ed⟩:=Qsw (k + 6) h hm
 have n4:=h.n4
 have eN:=Qqf (k + 7) h
 have eW:=Qsx k h hm hj
 have edu:evE (cfn (k + 8)) (.dg1 (.call 32 (.cons (.var 0) (.cons (.var 1) .nil))) (.call 34 (.cons (.var 0) .nil))) [.fz (Qq Ms),.fz (.int m),.un,.un] = .ok (.fz (Q9o ((lvD Ms m j).lookup (Qnm n)))) [.fz (Qq Ms),.fz (.int m),.un,.un]:=by
  simp only [Q5p,Qao,Qm,Qv,Qac,Qd,Q5,yC1,Qe,Qy,yC2,Q7,Q0,Qah,Q2,Qav,Qag,ed,Qa6,Qp,Q4,L2.Qk,Option.map,if_true,yDg,Qlm,cont,eN,Q9e,Q9d,Qce,Qdz]
  cases (lvD Ms m j).lookup (Qnm n) <;> rfl
 show Qa2 (cfn (k + 8)) ⟨2,4,Qht⟩ _ = _
 rw [Qaw rfl]
 show Qbi _ (exS _ Qht [.fz (Qq Ms),.fz (.int m),.un,.un]) = _
 cases hz:(lvD Ms m j).lookup (Qnm n) with
 | none =>
  rw [hz] at edu eW
  have edu:evE (cfn (k + 8)) (.dg1 (.call 32 (.cons (.var 0) (.cons (.var 1) .nil))) (.call 34 (.cons (.var 0) .nil))) [.fz (Qq Ms),.fz (.int m),.un,.un] = .ok (.fz .non) [.fz (Qq Ms),.fz (.int m),.un,.un]:=edu
  have eW:cfn (k + 8) 23 [.fz (Qq Ms),.fz (.int m)] = .ok (.fz .non) [.non,.non]:=eW
  simp only [Qay,Qbn,edu,Qas,Qdc,Qbw,frz,Qat,Qbx,List.length_cons,List.length_nil,Nat.reduceAdd,Nat.reduceLT,Qe,Qd,List.set,if_true,Qb5,Qao,Qm,Qv,Qac,Q5,yC1,Qy,yC2,Q7,Q0,Qah,Q2,Qav,Qag,eW,Qa6,Qp,Q4,L2.Qk,Option.map,Qbt,Qc5,Qcx,Qvh,Qcw,Qcv,cont,Qcu,uc7,Qgl,Qaf,yBl,yIf,Qaz,Qby,Q3c,Qad,Qau,Qal,Qam,Qw]
 | some w =>
  rw [hz] at edu eW
  have edu:evE (cfn (k + 8)) (.dg1 (.call 32 (.cons (.var 0) (.cons (.var 1) .nil))) (.call 34 (.cons (.var 0) .nil))) [.fz (Qq Ms),.fz (.int m),.un,.un] = .ok (.fz (Ql w)) [.fz (Qq Ms),.fz (.int m),.un,.un]:=edu
  have eW:cfn (k + 8) 23 [.fz (Qq Ms),.fz (.int m)] = .ok (.fz (Ql w)) [.non,.non]:=eW
  obtain ⟨_,⟨i,w',rfl,w1,w2⟩,w3⟩:=(Qmy h hm.lo j).st _ (Q0j hz)
  have hl:(i :: w').length ≤ 1000:=by have w3:(i :: w').length ≤ j + 1:=w3; omega
  have et:=Qso (k + 6) hl
  obtain ⟨eK,sK⟩:=Qqm (k + 6) h w1
  have eR:=Qiz (k + 7) hm.lo (M:=wk Ms w' (Ms.getD i.toNat [])) (by rw [sK.1]; exact n4) (fun r hr=>by rw [sK.2 r hr]; exact n4)
  rw [Q03,w2] at eR
  have en:eqO (Ql (i :: w')) (Ql (i :: w')) = some true:=by rw [Qvm]; simp
  have eq:=Q9x (Qnm n)
  simp only [Qay,Qbn,edu,Qas,Qdc,Qbw,frz,Qat,Qbx,List.length_cons,List.length_nil,Nat.reduceAdd,Nat.reduceLT,Qe,Qd,List.set,if_true,Qb5,Qao,Qm,Qv,Qac,Q5,yC1,Qy,yC2,Q7,Q0,Qah,Q2,Qav,Qag,eW,Qa6,Qp,Q4,L2.Qk,Option.map,Qbt,Qc5,Qcx,Qvh,Qcw,Qcv,cont,Qcu,uc7,Qgl,Qaf,yBl,yIf,Qdb,Qtr,Qkl,et,Qpa,Bool.not_true,yOr,uc2,en,yB,Qaz,eK,eR,eN,uc1,eq,Qby,Qad,Qau,Qal,Qam,Qw]
theorem Q4c:isF (Qaa (evE (cfn 14) Q5q (uns 5))) = true:=by decide +kernel
theorem Q04:∀ m:Int,∃ ρ',exS (cfn 14) Qt6 ((uns 5).set 1 (.fz (.int m))) = .nx ρ' ∧ ρ'.length = 5:=by
 intro m
 obtain ⟨q,hq,e0⟩:=Qadp 13 m
 obtain ⟨n,u,Ms,q1,hm,hM,p1,e1⟩:=Qxa 10 hq
 have e2:=Q4b 5 hM hm
 refine ⟨[.un,.fz (.int m),.ow q1,.fz (Qq Ms),.fz (.int u)],?_,rfl⟩
 show exS (cfn 14) Qt6 [.un,.fz (.int m),.un,.un,.un] = _
 simp only [Qay,Qoi,Qao,Qm,Qv,Qac,Qe,Qd,Q5,yC1,Qy,yC2,Q7,Q0,Qah,Q2,Qav,Qag,e0,Qa6,Qp,Q4,L2.Qk,Option.map,if_true,Qas,Qo0,Qat,Qbx,List.length_cons,List.length_nil,Nat.reduceAdd,Nat.reduceLT,List.set,Qb5,Qz4,List.all_nil,Bool.and_true,e1,reduceCtorEq,if_false,Nat.reduceEqDiff,List.getElem?_cons_zero,Slot.put,Q3d,Qb4,Qbt,Qkl,e2,Qaf,yBl,Qpa,Bool.not_true,yIf,Qdb]
open PySem L2
section
variable {P:Program} {w:World} {K:PySem.W.Frag} {mg:Str → Option Value} {base:Heap}
theorem ok_q {x:Str} {st:Stmt} {f:Addr} {fd:FuncData} {N ps:List Str} {k:Nat} {sp:Sp} (F:Fun K x x st f fd) (S:FnScope N ps (Qf st)) (len:∀ vs H Q E,sp vs H Q E → vs.length = ps.length)
  (hbody:∀ (cdv:Value) (A:Around) (outer:List Env) (s:Shared) (H:Hp) (vs:List V) (Q:VK) (E:XK),Room k (A.deeper (PyProof.Rows.envOfC x (Qf st) s.heap.objs.size f cdv)) → sp vs H Q E →
   ∃ t,QB (Qh1 (fun _=>true) CX0 P w K mg base N x (Qf st) f cdv A outer s H E).nox (Qa1 st) t ∧ t { nx:=fun _ H'=>Q .non H',rt:=Q } (Qbd N vs) H):FnOk P w K mg base CX0 (k + 1) f fd ps sp :=
 F.ok S len fun cdv A outer s H vs Q E hr hs=>let ⟨t,a,b⟩:=hbody cdv A outer s H vs Q E hr hs; ⟨t,a.h,b⟩
theorem Q9y {h:Heap} {x:Str} {st:Stmt} {f:Addr} {oc:Value} {od an:Option Addr} {osl:Array (Option Value)} {kV doc pm cdv ct:Value} (X:K.In h) (G:h.Ns mainGlobals mg) (a:PySem.W.nsIn K mainGlobals x = some (some (.ref f)))
  (l:K.lookup f = some ⟨oc,od,.func (PySem.W.fnOf x x (Qdh st) (Qa1 st) (Qf st) .none kV doc pm an cdv ct),osl⟩) (c:PySem.W.codeIn K cdv x = true) (k:PySem.W.keepIn K (.ref f) = true):Dfn K mg x st:=⟨⟨f,_,Q67 l c k,PySem.W.mg_of X G a⟩⟩
theorem Qmz {h:Heap} {x:Str} {i:Int} {t:Tok} (X:K.In h) (G:h.Ns mainGlobals mg) (a:PySem.W.nsIn K mainGlobals x = some (some (.int i t))):∃ u,mg x = some u ∧ RelV (.int i) u:=⟨_,PySem.W.mg_of X G a,t,rfl⟩
theorem Q4d {lf:Addr} {lfd:FuncData} (F:Fun K "law" "law" Qko lf lfd) (s:Shared) (v:Value):BindsTo s lfd ⟨[v],[]⟩ [("_law_script",v)]:=by
 obtain ⟨oc,od,kV,doc,pm,an,cdv,ct,osl,rfl,lk,hcd⟩:=F.ex
 exact .of_eq (Q9f _ _ _ _ _ _ [v] rfl)
theorem Q9 {xs:List Df} {d:Df} (i:Nat) (h:xs[i]? = some d):d ∈ xs:=List.mem_of_getElem? h
theorem Q4e {k:Nat} {l:LamT} (h:Qc0.lookup k = some l):k = 37 ∧ l = Qos:=by
 unfold Qc0 at h
 rw [List.lookup_cons] at h
 by_cases e:k = 37
 ·subst e; simp at h; exact ⟨rfl,h.symm⟩
 ·rw [beq_eq_false_iff_ne.mpr e] at h; cases h
theorem Q9z {l:PySem.W.OpenLaw} {fa:Addr} (hfa:mg "law" = some (.ref fa)) (tx:Txt K mg) (dl:Dfn K mg "law" Qko) (dc:Dfn K mg "_law_cell" Qel) (D:∀ d ∈ ds,Dfn K mg d.x d.st) :
  ∃ fd:FuncData,(∀ (s:Shared) (v:Value),BindsTo s fd ⟨[v],[]⟩ [("_law_script",v)]) ∧ ∀ base:Heap,K.In base → base.Ns mainGlobals mg → FnOk l.prog w K mg base CX0 15 fa fd ["_law_script"] (Qtq K):=by
 obtain ⟨f,fd,F,m⟩:=dl.ex
 have e:=hfa.symm.trans m
 cases e
 refine ⟨fd,Q4d F,fun base _ _=>?_⟩
 have A:Q87 (fun d=>DfOk K mg d ∧ Qx l.prog w K mg base ds d) ds:=⟨⟨⟨D _ (Q9 0 rfl),Qrw,Qrx,rfl,rfl⟩,Qtz tx⟩,⟨⟨D _ (Q9 1 rfl),Qw0,Qw1,rfl,rfl⟩,Q0i tx⟩,⟨⟨D _ (Q9 2 rfl),Qtu,Qtv,rfl,rfl⟩,Qw3 tx⟩,⟨⟨D _ (Q9 3 rfl),Qfb,Qm8,rfl,rfl⟩,Qpx tx⟩,⟨⟨D _ (Q9 4 rfl),Qm9,Qna,rfl,rfl⟩,Qpy tx⟩,⟨⟨D _ (Q9 5 rfl),Qkn,Qry,rfl,rfl⟩,Qt0 tx⟩,⟨⟨D _ (Q9 6 rfl),Qhe,Qmj,rfl,rfl⟩,Qnk tx⟩,⟨⟨D _ (Q9 7 rfl),Qpe,Qpf,rfl,rfl⟩,Qsb tx⟩,⟨⟨D _ (Q9 8 rfl),Qex,Qrz,rfl,rfl⟩,Qt1 tx⟩,⟨⟨D _ (Q9 9 rfl),Qc7,Qpg,rfl,rfl⟩,Qsc tx⟩,⟨⟨D _ (Q9 10 rfl),Qdm,Qnb,rfl,rfl⟩,Qpz tx⟩,⟨⟨D _ (Q9 11 rfl),Qph,Qpi,rfl,rfl⟩,Qsd tx⟩,⟨⟨D _ (Q9 12 rfl),Qnc,Qnd,rfl,rfl⟩,Qp0 tx⟩,⟨⟨D _ (Q9 13 rfl),Qh4,Qh5,rfl,rfl⟩,Qiv tx⟩,⟨⟨D _ (Q9 14 rfl),Qhf,Qhg,rfl,rfl⟩,Qh8 tx⟩,⟨⟨D _ (Q9 15 rfl),Qr0,Q0g,rfl,rfl⟩,Q3i tx⟩,⟨⟨D _ (Q9 16 rfl),Qkv,Qkw,rfl,rfl⟩,Qmp tx⟩,⟨⟨D _ (Q9 17 rfl),Qr1,Qr2,rfl,rfl⟩,Qt2 tx⟩,⟨⟨D _ (Q9 18 rfl),Qkx,Qky,rfl,rfl⟩,Qmq tx⟩,⟨⟨D _ (Q9 19 rfl),Qh6,Qh7,rfl,rfl⟩,Qiw tx⟩,⟨⟨D _ (Q9 20 rfl),Qcy,Qfj,rfl,rfl⟩,Qgk tx⟩,⟨⟨D _ (Q9 21 rfl),Qb6,Qj4,rfl,rfl⟩,Qkz tx⟩,⟨⟨D _ (Q9 22 rfl),Qpj,Qpk,rfl,rfl⟩,Qse tx⟩,⟨⟨D _ (Q9 23 rfl),Qr3,Qr4,rfl,rfl⟩,Qt3 tx⟩,⟨⟨D _ (Q9 24 rfl),Qmk,Qtw,rfl,rfl⟩,Qw4 tx⟩,⟨⟨D _ (Q9 25 rfl),Qdu,Qr7,rfl,rfl⟩,Qt4 tx⟩,⟨⟨D _ (Q9 26 rfl),Qpl,Qpm,rfl,rfl⟩,Qsf tx⟩,⟨⟨D _ (Q9 27 rfl),Qbc,Qne,rfl,rfl⟩,Qp1 tx⟩,⟨⟨D _ (Q9 28 rfl),Qnf,Qng,rfl,rfl⟩,Qp2 tx⟩,⟨⟨D _ (Q9 29 rfl),Qf2,Qpn,rfl,rfl⟩,Qsg tx⟩,⟨⟨D _ (Q9 30 rfl),Qdn,Qnh,rfl,rfl⟩,Qp3 tx⟩,⟨⟨D _ (Q9 31 rfl),Qr8,Qr9,rfl,rfl⟩,Qt5 tx⟩,⟨⟨D _ (Q9 32 rfl),Q8,Qj5,rfl,rfl⟩,Qk0 tx⟩,⟨⟨D _ (Q9 33 rfl),Qin,Qtx,rfl,rfl⟩,Qw5 tx⟩,⟨⟨D _ (Q9 34 rfl),Qni,Qnj,rfl,rfl⟩,Qp4 tx⟩,⟨⟨D _ (Q9 35 rfl),Qpo,Qpp,rfl,rfl⟩,Qsh tx⟩,⟨⟨D _ (Q9 36 rfl),Qf4,Qpq,rfl,rfl⟩,Qsi tx⟩,trivial⟩
 have hc:=(Ql6 (ls:=ls) (Qzy A) (fun k l h=>by
  obtain ⟨rfl,rfl⟩:=Q4e h
  exact ⟨rfl,Q3k,Qmo,rfl,Q3j tx⟩) 14).1
 refine ok_q (k:=14) F Qml (fun vs H Q E h=>?_) (fun cdv A outer s H vs Q E hr h=>?_)
 ·obtain ⟨a,ns,rfl,_⟩:=h
  rfl
 ·obtain ⟨ρ1,e1⟩:=Q86 Q4c
  exact ⟨_,Qadi tx hc (Qp5 dc tx) hr,Q28 h (by decide) (by decide) e1 Q04⟩
end
end My
noncomputable def PySem.W.Fast.tw16147020026123192151:Unit:=()
noncomputable def PySem.W.Fast.tw8225469519534478901:Unit:=()
noncomputable def PySem.W.Fast.tw17218160121977074934:Unit:=()
noncomputable def PySem.W.Fast.tw6543458205030086637:Unit:=()
noncomputable def PySem.W.Fast.tw4993301233388573503:Unit:=()
noncomputable def PySem.W.Fast.tw4374179920482301674:Unit:=()
noncomputable def PySem.W.Fast.tw10341874817034501668:Unit:=()
noncomputable def PySem.W.Fast.tw6642681245141778127:Unit:=()
noncomputable def PySem.W.Fast.tw8552168824633739154:Unit:=()
noncomputable def PySem.W.Fast.tw1633783155005953285:Unit:=()
noncomputable def PySem.W.Fast.tw18097888181371328705:Unit:=()
noncomputable def PySem.W.Fast.tw9673324462021316794:Unit:=()
noncomputable def PySem.W.Fast.tw11276957289585089377:Unit:=()
noncomputable def PySem.W.Fast.tw15750005659450114422:Unit:=()
noncomputable def PySem.W.Fast.tw10414293198967411522:Unit:=()
noncomputable def PySem.W.Fast.tw2509392664761430639:Unit:=()
noncomputable def PySem.W.Fast.tw1516356742239989951:Unit:=()
noncomputable def PySem.W.Fast.tw16447854978276729689:Unit:=()
noncomputable def PySem.W.Fast.tw10076210991714518310:Unit:=()
noncomputable def PySem.W.Fast.tw3753100042490418542:Unit:=()
noncomputable def PySem.W.Fast.tw2317765729507406034:Unit:=()
noncomputable def PySem.W.Fast.tw6010507980587396558:Unit:=()
noncomputable def PySem.W.Fast.tw5828440056065014369:Unit:=()
noncomputable def PySem.W.Fast.tw4948185822194045496:Unit:=()
noncomputable def PySem.W.Fast.tw14986330125538413323:Unit:=()
noncomputable def PySem.W.Fast.tw10967267120610395252:Unit:=()
noncomputable def PySem.W.Fast.tw13295829780925820135:Unit:=()
noncomputable def PySem.W.Fast.tw3403986235930712324:Unit:=()
noncomputable def PySem.W.Fast.tw13219460137109555888:Unit:=()
noncomputable def PySem.W.Fast.tw14672537700323346492:Unit:=()
noncomputable def PySem.W.Fast.tw11669338893399596577:Unit:=()
noncomputable def PySem.W.Fast.tw5093918375978448454:Unit:=()
noncomputable def PySem.W.Fast.tw16528871445934611559:Unit:=()
noncomputable def PySem.W.Fast.tw14754053213946412260:Unit:=()
noncomputable def PySem.W.Fast.tw675111589524616471:Unit:=()
noncomputable def PySem.W.Fast.tw7970889834707666032:Unit:=()
noncomputable def PySem.W.Fast.tw9302733008112305954:Unit:=()
noncomputable def PySem.W.Fast.tw16339782800744898729:Unit:=()
noncomputable def PySem.W.Fast.tw901335714838421015:Unit:=()
noncomputable def PySem.W.Fast.tw3805677330557547786:Unit:=()
noncomputable def PySem.W.Fast.tw11202678287559899030:Unit:=()
noncomputable def PySem.W.Fast.tw10752636236605786491:Unit:=()
noncomputable def PySem.W.Fast.tw16513669247372448150:Unit:=()
noncomputable def PySem.W.Fast.tw5754941130763033915:Unit:=()
noncomputable def PySem.W.Fast.tw5479191175807551060:Unit:=()
noncomputable def PySem.W.Fast.tw1328784207955013834:Unit:=()
noncomputable def PySem.W.Fast.tw11683043561876136082:Unit:=()
noncomputable def PySem.W.Fast.tw16183852703823480081:Unit:=()
noncomputable def PySem.W.Fast.tw4047674346911599390:Unit:=()
noncomputable def PySem.W.Fast.tw6849947769537628554:Unit:=()
noncomputable def PySem.W.Fast.tw14982760443564441029:Unit:=()
noncomputable def PySem.W.Fast.tw16975267702701733913:Unit:=()
noncomputable def PySem.W.Fast.tw17304812870532227083:Unit:=()
noncomputable def PySem.W.Fast.tw11178550698622264663:Unit:=()
noncomputable def PySem.W.Fast.tw16738988571498212921:Unit:=()
noncomputable def PySem.W.Fast.tw1913261386741018170:Unit:=()
noncomputable def PySem.W.Fast.tw7000582350157386491:Unit:=()
noncomputable def PySem.W.Fast.tw8604084643106443832:Unit:=()
noncomputable def PySem.W.Fast.tw13639153318092267752:Unit:=()
noncomputable def PySem.W.Fast.tw16724161232339120059:Unit:=()
noncomputable def PySem.W.Fast.tw7250585912389793531:Unit:=()
noncomputable def PySem.W.Fast.tw4174157397453410114:Unit:=()
noncomputable def PySem.W.Fast.tw2503862152529874965:Unit:=()
noncomputable def PySem.W.Fast.tw10493780627718085013:Unit:=()
noncomputable def PySem.W.Fast.tw12123986187377673723:Unit:=()
noncomputable def PySem.W.Fast.tw8223902528325329398:Unit:=()
noncomputable def PySem.W.Fast.tw7873311807140630540:Unit:=()
noncomputable def PySem.W.Fast.tw7120586389060364391:Unit:=()
noncomputable def PySem.W.Fast.tw1925821838144087620:Unit:=()
noncomputable def PySem.W.Fast.tw2905910896176230943:Unit:=()
noncomputable def PySem.W.Fast.tw1231459282856249251:Unit:=()
noncomputable def PySem.W.Fast.tw6514453046493431615:Unit:=()
noncomputable def PySem.W.Fast.tw17075169936152713332:Unit:=()
noncomputable def PySem.W.Fast.tw11033526685665713608:Unit:=()
noncomputable def PySem.W.Fast.tw4635737733616353150:Unit:=()
noncomputable def PySem.W.Fast.tw14068662608125204116:Unit:=()
noncomputable def PySem.W.Fast.tw1553250671854664745:Unit:=()
noncomputable def PySem.W.Fast.tw3371284424854214510:Unit:=()
noncomputable def PySem.W.Fast.tw13937107023978640872:Unit:=()
noncomputable def PySem.W.Fast.tw18245554506334489057:Unit:=()
noncomputable def PySem.W.Fast.tw7028172798838825774:Unit:=()
noncomputable def PySem.W.Fast.tw11927110345891577862:Unit:=()
noncomputable def PySem.W.Fast.tw4391331900279088295:Unit:=()
noncomputable def PySem.W.Fast.tw10937681382659959325:Unit:=()
noncomputable def PySem.W.Fast.tw933831225197209944:Unit:=()
noncomputable def PySem.W.Fast.tw16578811857533569346:Unit:=()
noncomputable def PySem.W.Fast.tw5847657358610200867:Unit:=()
noncomputable def PySem.W.Fast.tw433646229442870019:Unit:=()
noncomputable def PySem.W.Fast.tw3969886728345365158:Unit:=()
noncomputable def PySem.W.Fast.tw676219494701528703:Unit:=()
noncomputable def PySem.W.Fast.tw4672172983676371730:Unit:=()
noncomputable def PySem.W.Fast.tw811114034049383324:Unit:=()
noncomputable def PySem.W.Fast.tw3285868966841444217:Unit:=()
noncomputable def PySem.W.Fast.tw16024846820219156221:Unit:=()
noncomputable def PySem.W.Fast.tw4888736144829028478:Unit:=()
noncomputable def PySem.W.Fast.tw6708382030586479250:Unit:=()
noncomputable def PySem.W.Fast.tw10002180625481724246:Unit:=()
noncomputable def PySem.W.Fast.tw294447632254806189:Unit:=()
noncomputable def PySem.W.Fast.tw16920648870569800933:Unit:=()
noncomputable def PySem.W.Fast.tw6295662251082772783:Unit:=()
noncomputable def PySem.W.Fast.tw3321954898574739871:Unit:=()
noncomputable def PySem.W.Fast.tw10997908207514242222:Unit:=()
noncomputable def PySem.W.Fast.tw10483989752879794593:Unit:=()
noncomputable def PySem.W.Fast.tw15332613203021197574:Unit:=()
noncomputable def PySem.W.Fast.tw13476971495753391816:Unit:=()
noncomputable def PySem.W.Fast.tw3607166296712063831:Unit:=()
noncomputable def PySem.W.Fast.tw1960676022588766145:Unit:=()
noncomputable def PySem.W.Fast.tw5415274514419799873:Unit:=()
noncomputable def PySem.W.Fast.tw17181518316984498890:Unit:=()
noncomputable def PySem.W.Fast.tw14974200149183206939:Unit:=()
noncomputable def PySem.W.Fast.tw14622591853774712828:Unit:=()
noncomputable def PySem.W.Fast.tw2536291154723285103:Unit:=()
noncomputable def PySem.W.Fast.tw6994327057408490700:Unit:=()
noncomputable def PySem.W.Fast.tw13281848173108090984:Unit:=()
noncomputable def PySem.W.Fast.tw14425672499968676641:Unit:=()
noncomputable def PySem.W.Fast.tw7706868831048507131:Unit:=()
noncomputable def PySem.W.Fast.tw17271334498157702008:Unit:=()
noncomputable def PySem.W.Fast.tw2838295813057413029:Unit:=()
noncomputable def PySem.W.Fast.tw12388477887747970001:Unit:=()
noncomputable def PySem.W.Fast.tw16047156717283492086:Unit:=()
noncomputable def PySem.W.Fast.tw17576354694730955362:Unit:=()
noncomputable def PySem.W.Fast.tw17712823216257783978:Unit:=()
noncomputable def PySem.W.Fast.tw16179895335904058153:Unit:=()
noncomputable def PySem.W.Fast.tw10106393311932201486:Unit:=()
noncomputable def PySem.W.Fast.tw13059469182317583292:Unit:=()
noncomputable def PySem.W.Fast.tw8148060895841079135:Unit:=()
noncomputable def PySem.W.Fast.tw14571714275838192497:Unit:=()
noncomputable def PySem.W.Fast.tw8903769548790851199:Unit:=()
noncomputable def PySem.W.Fast.tw3388903778738332405:Unit:=()
noncomputable def PySem.W.Fast.tw2785471365928757423:Unit:=()
noncomputable def PySem.W.Fast.tw12569791176196732142:Unit:=()
noncomputable def PySem.W.Fast.tw12514714359641716827:Unit:=()
noncomputable def PySem.W.Fast.tw500675342965145145:Unit:=()
noncomputable def PySem.W.Fast.tw2952000775644341382:Unit:=()
noncomputable def PySem.W.Fast.tw16513835549004476300:Unit:=()
noncomputable def PySem.W.Fast.tw12069717610474395968:Unit:=()
noncomputable def PySem.W.Fast.tw7937589950294933150:Unit:=()
noncomputable def PySem.W.Fast.tw11051472458292544439:Unit:=()
noncomputable def PySem.W.Fast.tw2418961352766034034:Unit:=()
noncomputable def PySem.W.Fast.tw14696466945673012732:Unit:=()
noncomputable def PySem.W.Fast.tw1929298072307426802:Unit:=()
noncomputable def PySem.W.Fast.tw4188052889526736969:Unit:=()
noncomputable def PySem.W.Fast.tw6089756132083176602:Unit:=()
noncomputable def PySem.W.Fast.tw4301669187901272152:Unit:=()
noncomputable def PySem.W.Fast.tw16751763440852494560:Unit:=()
noncomputable def PySem.W.Fast.tw11557123615700043326:Unit:=()
noncomputable def PySem.W.Fast.tw6062163764012184856:Unit:=()
noncomputable def PySem.W.Fast.tw13959441603534242453:Unit:=()
noncomputable def PySem.W.Fast.tw6096677132630822108:Unit:=()
noncomputable def PySem.W.Fast.tw10939640837361239882:Unit:=()
noncomputable def PySem.W.Fast.tw10492504905528780594:Unit:=()
noncomputable def PySem.W.Fast.tw8816054219546628527:Unit:=()
noncomputable def PySem.W.Fast.tw13212232174220085238:Unit:=()
noncomputable def PySem.W.Fast.tw2546159483710901318:Unit:=()
noncomputable def PySem.W.Fast.tw2658598276159951451:Unit:=()
noncomputable def PySem.W.Fast.tw5425040936968896333:Unit:=()
noncomputable def PySem.W.Fast.tw1043801838930110137:Unit:=()
noncomputable def PySem.W.Fast.tw5315784007310876189:Unit:=()
noncomputable def PySem.W.Fast.tw16927864086752089825:Unit:=()
noncomputable def PySem.W.Fast.tw11134181394726940485:Unit:=()
noncomputable def PySem.W.Fast.tw11751438977688676248:Unit:=()
noncomputable def PySem.W.Fast.tw16454102113727549701:Unit:=()
noncomputable def PySem.W.Fast.tw9136228282216310351:Unit:=()
noncomputable def PySem.W.Fast.tw14811492414700303545:Unit:=()
noncomputable def PySem.W.Fast.tw15358460844740468704:Unit:=()
noncomputable def PySem.W.Fast.tw18004387739585335807:Unit:=()
noncomputable def PySem.W.Fast.tw9018716581650795426:Unit:=()
noncomputable def PySem.W.Fast.tw9765986878440167801:Unit:=()
noncomputable def PySem.W.Fast.tw1567079963710746145:Unit:=()
noncomputable def PySem.W.Fast.tw5371500526261530516:Unit:=()
noncomputable def PySem.W.Fast.tw3136385499788306140:Unit:=()
noncomputable def PySem.W.Fast.tw3318825027505037396:Unit:=()
noncomputable def PySem.W.Fast.tw5434101007426009082:Unit:=()
noncomputable def PySem.W.Fast.tw17467424533846057424:Unit:=()
noncomputable def PySem.W.Fast.tw374344410805969915:Unit:=()
noncomputable def PySem.W.Fast.tw6015353276579511170:Unit:=()
noncomputable def PySem.W.Fast.tw10387823064225894437:Unit:=()
noncomputable def PySem.W.Fast.tw4861693431698787946:Unit:=()
noncomputable def PySem.W.Fast.tw7235094738038623989:Unit:=()
noncomputable def PySem.W.Fast.tw16634937878042578402:Unit:=()
noncomputable def PySem.W.Fast.tw12806264963467451767:Unit:=()
noncomputable def PySem.W.Fast.tw17624184632912639047:Unit:=()
noncomputable def PySem.W.Fast.tw98417194899783005:Unit:=()
noncomputable def PySem.W.Fast.tw16210779945737286832:Unit:=()
noncomputable def PySem.W.Fast.tw6908770481353035454:Unit:=()
noncomputable def PySem.W.Fast.tw14518616211575944249:Unit:=()
noncomputable def PySem.W.Fast.tw18054054941373049889:Unit:=()
noncomputable def PySem.W.Fast.tw10085608182333320353:Unit:=()
noncomputable def PySem.W.Fast.tw17763801773871525197:Unit:=()
noncomputable def PySem.W.Fast.tw15084748622733008052:Unit:=()
noncomputable def PySem.W.Fast.tw14083263898352581127:Unit:=()
noncomputable def PySem.W.Fast.tw16466643353689330870:Unit:=()
noncomputable def PySem.W.Fast.tw11242679599250038076:Unit:=()
open PySem PySem.W PyProof.Rows
set_option maxRecDepth 100000 in
set_option maxHeartbeats 0 in
theorem PySem.Challenge.cw_noughtways_k26_shortest_ways_by_rests_holds : PySem.Challenge.rw_noughtways_k26_shortest_ways_by_rests.Holds := by
 w_on; o_law; k_head; (case hw=>w_witness2)
 k_fill
 refine L2.Qzu (qn:=L2.Qos.qual) (mf := "ways_to_rests") (l:=PySem.Challenge.rw_noughtways_k26_shortest_ways_by_rests) (n:=63) (k:=15) (x := "_law_script") (CX:=L2.CX0) (sp:=L2.Qtq) rfl (by decide) rfl ⟨rfl,by decide,by decide,rfl⟩ (fun w h Y=>⟨PySem.W.km_in_of Y,PySem.W.km_tabs_of Y⟩) ?F ?S ?C
 case F =>
  intro w mg fa h KX G hmg
  have ⟨d0,d1,d2,d3,d4,d5,d6,d7,d8,d9,d10,d11,d12,d13,d14,d15,d16,d17,d18,d19,d20,d21,d22,d23,d24,d25,d26,d27,d28,d29,d30,d31,d32,d33,d34,d35,d36,d37,d38⟩:L2.Dfn (L2.KOf KX) mg "law" My.Qko ∧ L2.Dfn (L2.KOf KX) mg "_law_cell" My.Qel ∧ L2.Dfn (L2.KOf KX) mg "is_whole" My.Qfw ∧ L2.Dfn (L2.KOf KX) mg "is_row" My.Qjo ∧ L2.Dfn (L2.KOf KX) mg "is_grid" My.Qhy ∧ L2.Dfn (L2.KOf KX) mg "numbers_of" My.Qd7 ∧ L2.Dfn (L2.KOf KX) mg "is_bounded" My.Qd8 ∧ L2.Dfn (L2.KOf KX) mg "wrong_at" My.Qfx ∧ L2.Dfn (L2.KOf KX) mg "need_tables" My.Qdl ∧ L2.Dfn (L2.KOf KX) mg "need_rest" My.Qew ∧ L2.Dfn (L2.KOf KX) mg "power_of" My.Qfy ∧ L2.Dfn (L2.KOf KX) mg "walked_on" My.Qey ∧ L2.Dfn (L2.KOf KX) mg "first_ways" My.Qd9 ∧ L2.Dfn (L2.KOf KX) mg "column_at" My.Qez ∧ L2.Dfn (L2.KOf KX) mg "columns_of" My.Qea ∧ L2.Dfn (L2.KOf KX) mg "row_times_column" My.Qbo ∧ L2.Dfn (L2.KOf KX) mg "row_times_columns" My.Qbf ∧ L2.Dfn (L2.KOf KX) mg "times" My.Qk6 ∧ L2.Dfn (L2.KOf KX) mg "rests_of_row" My.Qc8 ∧ L2.Dfn (L2.KOf KX) mg "rests_of" My.Qfz ∧ L2.Dfn (L2.KOf KX) mg "rests_of_all" My.Qc9 ∧ L2.Dfn (L2.KOf KX) mg "rest_tables_many" My.Qbp ∧ L2.Dfn (L2.KOf KX) mg "need_few_rest_tables" My.Qa3 ∧ L2.Dfn (L2.KOf KX) mg "ways_to_rests" My.Qch ∧ L2.Dfn (L2.KOf KX) mg "nought_of" My.Qe0 ∧ L2.Dfn (L2.KOf KX) mg "rest_way" My.Qf0 ∧ L2.Dfn (L2.KOf KX) mg "_law_pen" My.Qhz ∧ L2.Dfn (L2.KOf KX) mg "_law_draw" My.Qf1 ∧ L2.Dfn (L2.KOf KX) mg "_law_whole" My.Qe1 ∧ L2.Dfn (L2.KOf KX) mg "_law_tables" My.Qeb ∧ L2.Dfn (L2.KOf KX) mg "_law_number" My.Qec ∧ L2.Dfn (L2.KOf KX) mg "_law_times" My.Qe2 ∧ L2.Dfn (L2.KOf KX) mg "_law_walked" My.Qed ∧ L2.Dfn (L2.KOf KX) mg "_law_rest" My.Qf3 ∧ L2.Dfn (L2.KOf KX) mg "_law_rest_ways" My.Qci ∧ L2.Dfn (L2.KOf KX) mg "_law_few" My.Qh0 ∧ L2.Dfn (L2.KOf KX) mg "_law_nought" My.Qee ∧ L2.Dfn (L2.KOf KX) mg "_law_tuple" My.Qe3 ∧ L2.Dfn (L2.KOf KX) mg "_law_right" My.Qe4:=by
   refine ⟨?_,?_,?_,?_,?_,?_,?_,?_,?_,?_,?_,?_,?_,?_,?_,?_,?_,?_,?_,?_,?_,?_,?_,?_,?_,?_,?_,?_,?_,?_,?_,?_,?_,?_,?_,?_,?_,?_,?_⟩ <;> (dsimp only [L2.KOf]; refine' My.Q9y KX G ?a ?l ?c ?k; (case a=>k_is); (case l=>k_is); (case c=>k_is); (case k=>k_is))
  have ⟨z0,z1,z2,z3,z4,z5,z6,z7,z8,z9,z10,z11,z12,z13,z14⟩:mg "abs" = none ∧ mg "all" = none ∧ mg "bool" = none ∧ mg "dict" = none ∧ mg "divmod" = none ∧ mg "enumerate" = none ∧ mg "int" = none ∧ mg "isinstance" = none ∧ mg "len" = none ∧ mg "list" = none ∧ mg "max" = none ∧ mg "range" = none ∧ mg "sum" = none ∧ mg "tuple" = none ∧ mg "zip" = none:=by
   refine ⟨?_,?_,?_,?_,?_,?_,?_,?_,?_,?_,?_,?_,?_,?_,?_⟩ <;> (refine PySem.W.mg_none_of KX G ?_; (try dsimp only [L2.KOf]); k_is)
  have y0:∃ u,mg "LEAST_REST" = some u ∧ L2.RelV (L2.V.int (2)) u:=by
   refine' My.Qmz (K:=L2.KOf KX) KX G ?a
   (case a=>(try dsimp only [L2.KOf]); k_is)
  have y1:∃ u,mg "MOST_REST" = some u ∧ L2.RelV (L2.V.int (7)) u:=by
   refine' My.Qmz (K:=L2.KOf KX) KX G ?a
   (case a=>(try dsimp only [L2.KOf]); k_is)
  have y2:∃ u,mg "MOST_REST_TABLES" = some u ∧ L2.RelV (L2.V.int (3000)) u:=by
   refine' My.Qmz (K:=L2.KOf KX) KX G ?a
   (case a=>(try dsimp only [L2.KOf]); k_is)
  have y3:∃ u,mg "MOST_ROWS" = some u ∧ L2.RelV (L2.V.int (4)) u:=by
   refine' My.Qmz (K:=L2.KOf KX) KX G ?a
   (case a=>(try dsimp only [L2.KOf]); k_is)
  have y4:∃ u,mg "MOST_TABLES" = some u ∧ L2.RelV (L2.V.int (4)) u:=by
   refine' My.Qmz (K:=L2.KOf KX) KX G ?a
   (case a=>(try dsimp only [L2.KOf]); k_is)
  refine' ⟨_,_,⟨?m,L2.MakesL.mk' (PySem.W.mg_of KX G ?a) ?l ?c ?o ?h1 ?h2 ?h3 ?h4 ?h5 ?h6 ?h7 ?h8 ?t⟩,fun mk=>?r⟩
  (case a=>k_is); (case l=>k_is); (case c=>exact rfl); (case o=>k_is); (case h1=>exact rfl); (case h2=>exact rfl); (case h3=>exact rfl); (case h4=>exact rfl); (case h5=>exact rfl); (case h6=>exact rfl); (case h7=>exact rfl); (case h8=>exact rfl); (case t=>(first | kernel_rfl | exact rfl)); (case m=>exact List.mem_singleton.mpr rfl)
  have tx:My.Txt (L2.Qcs (L2.KOf KX) _ L2.Qos.qual) mg:=⟨z0,z1,z2,z3,z4,z5,z6,z7,z8,z9,z10,z11,z12,z13,z14,y0,y1,y2,y3,y4,mk.mark⟩
  refine My.Q9z hmg tx (d0.mark mk.tab) (d1.mark mk.tab) fun d hd=>?_
  simp only [My.ds,List.mem_cons,List.not_mem_nil,or_false] at hd
  rcases hd with rfl | rfl | rfl | rfl | rfl | rfl | rfl | rfl | rfl | rfl | rfl | rfl | rfl | rfl | rfl | rfl | rfl | rfl | rfl | rfl | rfl | rfl | rfl | rfl | rfl | rfl | rfl | rfl | rfl | rfl | rfl | rfl | rfl | rfl | rfl | rfl | rfl
  ·exact d2.mark mk.tab
  ·exact d3.mark mk.tab
  ·exact d4.mark mk.tab
  ·exact d5.mark mk.tab
  ·exact d6.mark mk.tab
  ·exact d7.mark mk.tab
  ·exact d8.mark mk.tab
  ·exact d9.mark mk.tab
  ·exact d10.mark mk.tab
  ·exact d11.mark mk.tab
  ·exact d12.mark mk.tab
  ·exact d13.mark mk.tab
  ·exact d14.mark mk.tab
  ·exact d15.mark mk.tab
  ·exact d16.mark mk.tab
  ·exact d17.mark mk.tab
  ·exact d18.mark mk.tab
  ·exact d19.mark mk.tab
  ·exact d20.mark mk.tab
  ·exact d21.mark mk.tab
  ·exact d22.mark mk.tab
  ·exact d23.mark mk.tab
  ·exact d24.mark mk.tab
  ·exact d25.mark mk.tab
  ·exact d26.mark mk.tab
  ·exact d27.mark mk.tab
  ·exact d28.mark mk.tab
  ·exact d29.mark mk.tab
  ·exact d30.mark mk.tab
  ·exact d31.mark mk.tab
  ·exact d32.mark mk.tab
  ·exact d33.mark mk.tab
  ·exact d34.mark mk.tab
  ·exact d35.mark mk.tab
  ·exact d36.mark mk.tab
  ·exact d37.mark mk.tab
  ·exact d38.mark mk.tab
 case S=>exact fun K H a ns hl hS=>⟨a,ns,rfl,hS,hl,fun _=>rfl⟩
 case C=>exact fun _ _ _ _ z=>z
