import PyProof.Rows.All
import Wide.All
import OpenK.AllK
import Wide.FinOn
import Lean
import PyProof.EqAt
import PyProof.EqKinds
import PyProof.TupleCall
import PyProof.NeKinds
import PySem.Challenge.RW_noughtways_k07_tables_refused
set_option Elab.async false
set_option linter.all false
set_option maxRecDepth 100000
/-! THE HAND LAYER, for ints, bools, texts, own classes, LISTS and tuples (index, slices, in, append, pop ..), calls, loops. Paste it whole ahead of your own text; what your proof does not reach may be deleted. -/
namespace L2
open PySem PySem.Spec PyProof.Rows

/-- a key: an int or a str -/
abbrev Key := Sum Int Str
def keyIs : Key → Value → Bool
  | .inl k, v => Value.isInt k v
  | .inr x, v => Value.isStrOf x v
def keyH (w : World) : Key → Int
  | .inl k => hashInt k
  | .inr x => hashStr w x
theorem keyIs_shape : ∀ {k : Key} {v : Value}, keyIs k v = true → (∃ i t, k = Sum.inl i ∧ v = Value.int i t) ∨ (∃ x t, k = Sum.inr x ∧ v = Value.str x t)
  | .inl i, v, h => by
    obtain ⟨t, e⟩ := Value.isInt_shape (k := i) (v := v) h
    exact .inl ⟨i, t, rfl, e⟩
  | .inr x, v, h => by
    obtain ⟨t, e⟩ := Value.isStrOf_shape (x := x) (v := v) h
    exact .inr ⟨x, t, rfl, e⟩
theorem keyIs_int (i : Int) (t : Tok) : keyIs (.inl i) (.int i t) = true := by simp [keyIs, Value.isInt]
theorem keyIs_str (x : Str) (t : Tok) : keyIs (.inr x) (.str x t) = true := by simp [keyIs, Value.isStrOf]
theorem key_ll (a b : Int) : decide ((Sum.inl a : Key) = Sum.inl b) = (a == b) := by
  by_cases e : a = b
  · subst e; simp
  · have h : ¬ (Sum.inl a : Key) = Sum.inl b := fun q => e (Sum.inl.inj q)
    rw [decide_eq_false h]
    exact (beq_eq_false_iff_ne.mpr e).symm
theorem key_rr (a b : Str) : decide ((Sum.inr a : Key) = Sum.inr b) = decide (a = b) := by
  by_cases e : a = b
  · subst e; simp
  · have h : ¬ (Sum.inr a : Key) = Sum.inr b := fun q => e (Sum.inr.inj q)
    rw [decide_eq_false h, decide_eq_false e]
theorem key_lr (a : Int) (b : Str) : decide ((Sum.inl a : Key) = Sum.inr b) = false := decide_eq_false (fun q => nomatch q)
theorem key_rl (a : Str) (b : Int) : decide ((Sum.inr a : Key) = Sum.inl b) = false := decide_eq_false (fun q => nomatch q)

def mixKind (prog : Program) (w : World) : PySem.KeyKind prog w Key where
  is := keyIs
  hash := keyH w
  inj := fun v a b ha hb => by
    rcases keyIs_shape ha with ⟨i, t, rfl, rfl⟩ | ⟨x, t, rfl, rfl⟩
    · rcases keyIs_shape hb with ⟨j, u, rfl, e⟩ | ⟨y, u, rfl, e⟩
      · injection e with e1 _; rw [e1]
      · exact nomatch e
    · rcases keyIs_shape hb with ⟨j, u, rfl, e⟩ | ⟨y, u, rfl, e⟩
      · exact nomatch e
      · injection e with e1 _; rw [e1]
  byValue := fun k v h => by
    rcases keyIs_shape h with ⟨i, t, rfl, rfl⟩ | ⟨x, t, rfl, rfl⟩ <;> rfl
  pyHash := fun hv h => by
    rcases keyIs_shape hv with ⟨i, t, rfl, rfl⟩ | ⟨x, t, rfl, rfl⟩
    · exact wpAny_pyHash_int h
    · exact wpAny_pyHash_str h
  eqBool := fun hu hv h => by
    rcases keyIs_shape hu with ⟨i, t, rfl, rfl⟩ | ⟨x, t, rfl, rfl⟩
    · rcases keyIs_shape hv with ⟨j, u, rfl, rfl⟩ | ⟨y, u, rfl, rfl⟩
      · rw [key_ll] at h; exact wpAny_eqBool_int h
      · rw [key_lr] at h; exact SeqAt.EqAt.int_str i t y u _ _ _ _ h
    · rcases keyIs_shape hv with ⟨j, u, rfl, rfl⟩ | ⟨y, u, rfl, rfl⟩
      · rw [key_rl] at h; exact SeqAt.EqAt.str_int x t j u _ _ _ _ h
      · rw [key_rr] at h; exact wpAny_eqBool_str h
  «strs» := fun k x t v h => by
    rcases keyIs_shape h with ⟨i, u, rfl, e⟩ | ⟨y, u, rfl, e⟩
    · exact nomatch e
    · injection e with e1 _
      subst e1
      cases v <;> rfl

theorem mixKind_int (prog : Program) (w : World) (i : Int) (t : Tok) : (mixKind prog w).is (.inl i) (.int i t) = true := keyIs_int i t
theorem mixKind_str (prog : Program) (w : World) (x : Str) (t : Tok) : (mixKind prog w).is (.inr x) (.str x t) = true := keyIs_str x t
end L2

namespace L2
open PySem PySem.Spec PyProof.Rows

/-- a value, without the heap -/
inductive V where
  | non | bl (b : Bool) | int (i : Int) | str (x : Str) | byt (b : Array UInt8) | flt (b : UInt64) | ref (a : Addr) | ty (n : String)
  deriving DecidableEq

def RelV : V → Value → Prop
  | .non, u => u = Value.none
  | .bl b, u => u = Value.bool b
  | .int i, u => ∃ t, u = Value.int i t
  | .str x, u => ∃ t, u = Value.str x t
  | .byt b, u => ∃ t, u = Value.bytes b t
  | .flt b, u => ∃ t, u = Value.float b t
  | .ref a, u => u = Value.ref a
  | .ty n, u => u = Value.type n

abbrev Vals : List V → List Value → Prop := Paired RelV
theorem Vals.length {xs : List V} {us : List Value} (r : Vals xs us) : xs.length = us.length := Paired.length r
theorem Vals.get : ∀ {xs : List V} {us : List Value} {i : Nat} {x : V}, Vals xs us → xs[i]? = some x → ∃ u, us[i]? = some u ∧ RelV x u
  | _, _, _, _, .nil, e => by simp at e
  | _, _, 0, _, .cons r _, e => by simp at e; subst e; exact ⟨_, rfl, r⟩
  | _, _, i + 1, x, .cons _ t, e => by
    obtain ⟨u, h1, h2⟩ := Vals.get (i := i) (x := x) t (by simpa using e)
    exact ⟨u, by simpa using h1, h2⟩
theorem Vals.set {x : V} {u : Value} (r : RelV x u) : ∀ {xs : List V} {us : List Value} (i : Nat), Vals xs us → Vals (xs.set i x) (us.set i u)
  | _, _, _, .nil => .nil
  | _, _, 0, .cons _ t => .cons r t
  | _, _, i + 1, .cons q t => .cons q (Vals.set r i t)
theorem Vals.append : ∀ {xs ys : List V} {us ws : List Value}, Vals xs us → Vals ys ws → Vals (xs ++ ys) (us ++ ws)
  | _, _, _, _, .nil, s => s
  | _, _, _, _, .cons r t, s => .cons r (Vals.append t s)
theorem Vals.take : ∀ {xs : List V} {us : List Value} (n : Nat), Vals xs us → Vals (xs.take n) (us.take n)
  | _, _, 0, _ => .nil
  | _, _, _ + 1, .nil => .nil
  | _, _, n + 1, .cons r t => .cons r (Vals.take n t)
theorem Vals.drop : ∀ {xs : List V} {us : List Value} (n : Nat), Vals xs us → Vals (xs.drop n) (us.drop n)
  | _, _, 0, r => r
  | _, _, _ + 1, .nil => .nil
  | _, _, n + 1, .cons _ t => Vals.drop n t
def RelO : Option V → Option Value → Prop
  | some v, some u => RelV v u
  | none, none => True
  | _, _ => False
def KV {κ : Type} : List (κ × V) → List (κ × Value) → Prop := Paired fun (p : κ × V) (q : κ × Value) => p.1 = q.1 ∧ RelV p.2 q.2

/-- a key of a dict (00_mix): an int or a text -/
def kV : Key → V
  | .inl i => .int i
  | .inr x => .str x

/-- what stands at a tracked address -/
inductive HO where
  /-- a list -/
  | lst (xs : List V)
  /-- a tuple (never changes) -/
  | tup (xs : List V)
  /-- a dict whose keys are ints and texts; one whose keys are tuples of ints and texts (the empty one is both) -/
  | dK (kvs : List (Key × V)) | dT (kvs : List (List Key × V))
  /-- a set of ints: its members, its size -/
  | set (S : Int → Bool) (n : Nat)
  /-- an instance of the class at C, its dict at dx, its attributes -/
  | ins (C dx : Addr) (fs : List (Str × V))
  /-- the dict of the instance at x -/
  | own (x : Addr)
  /-- the dict of an exception -/
  | xd (fs : List (Str × V))
  /-- a bound method, f of x -/
  | met (f x : Addr)
  /-- a range object lo, lo + 1, .. below hi -/
  | rng (lo hi : Int)
  /-- a thing that is known to the object (the script; a dict while a loop walks it): read, never written while it is so -/
  | frz (o : Obj) (u : HO)
  /-- a code object's table -/
  | tbl (ps : Array Value)
  /-- any other thing, by what is true of its one object (a def of one's own: SetO a S n := HO.ext fun h => ..) -/
  | ext (φ : Heap → Prop)

abbrev Hp := Addr → Option HO
def upd (H : Hp) (a : Addr) (o : HO) : Hp := fun b => if b = a then some o else H b
theorem upd_same {H : Hp} {a : Addr} {o : HO} : upd H a o a = some o := by unfold upd; rw [if_pos rfl]
theorem upd_ne {H : Hp} {a b : Addr} {o : HO} (h : b ≠ a) : upd H a o b = H b := by unfold upd; rw [if_neg h]
/-- two objects of different content stand apart -/
theorem ne_of {H : Hp} {a b : Addr} {o u : HO} (h : H a = some o) (h' : H b = some u) (d : o ≠ u) : a ≠ b := by
  intro e; subst e; rw [h] at h'; exact d (Option.some.inj h')
theorem ne_of_none {H : Hp} {a b : Addr} {o : HO} (h : H a = some o) (h' : H b = none) : a ≠ b := by
  intro e; subst e; rw [h] at h'; cases h'

/-- a tuple with no dict -/
def IsTupD (h : Heap) (a : Addr) (its : Array Value) : Prop := ∃ o, h.get? a = some o ∧ o.cls = .type "tuple" ∧ ∃ n, o.data = .seq its n ∧ o.dict = none
theorem IsTupD.tup {h : Heap} {a : Addr} {its : Array Value} (x : IsTupD h a its) : IsTup h a its := let ⟨o, e, c, n, d, _⟩ := x; ⟨o, e, c, n, d⟩
theorem IsTupD.new (h : Heap) (its : Array Value) : IsTupD (h.push { cls := .type "tuple", data := .seq its }) h.objs.size its := ⟨_, Heap.get?_push_size _ rfl, rfl, _, rfl, rfl⟩

section
variable (P : Program) (w : World)
def ObjOk (H : Hp) (h : Heap) (a : Addr) : HO → Prop
  | .lst xs => xs.length ≤ sizeLine ∧ ∃ (its : List Value) (n : Nat), Vals xs its ∧ h.get? a = some { cls := .type "list", data := .seq its.toArray n }
  | .tup xs => xs.length ≤ sizeLine ∧ ∃ its : List Value, Vals xs its ∧ IsTupD h a its.toArray
  | .dK kvs => kvs.length ≤ sizeLine ∧ (a == sysModules) = false ∧ ∃ vs, KV kvs vs ∧ h.DictOf (mixKind P w) a vs
  | .dT kvs => kvs.length ≤ sizeLine ∧ (a == sysModules) = false ∧ ∃ xs : List (List Key × Addr × Value),
      Paired (fun (p : List Key × V) (q : List Key × Addr × Value) => p.1 = q.1 ∧ H q.2.1 = some (.tup (p.1.map kV)) ∧ RelV p.2 q.2.2) kvs xs ∧
      ∃ o es ep, h.get? a = some o ∧ o.ExactDict ∧ o.data = .dict es ep ∧ es.toList = xs.map (entryOfKey (tupleKind (mixKind P w))) ∧ (xs.map (·.1)).Nodup
  | .set S n => h.SetOf (intKind P w) a S n
  | .ins C dx fs => H dx = some (.own a) ∧ fs.length ≤ 1000 ∧ dx ≠ a ∧ h.get? a = some (PySem.W.instObj C dx) ∧
      ∃ mA, h.Ns1 dx mA ∧ (∀ f, RelO (fs.lookup f) (mA f)) ∧ PySem.Within mA (fs.map (·.1))
  | .own _ => ∃ o, h.get? a = some o
  | .xd fs => ∃ mA, h.Ns1 a mA ∧ ∀ f, RelO (fs.lookup f) (mA f)
  | .rng lo hi => ∃ t u v, h.get? a = some { cls := .type "range", data := .fields #[.int lo t, .int hi u, .int 1 v] }
  | .frz o u => h.get? a = some o ∧ ObjOk H h a u
  | .tbl ps => h.get? a = some { cls := .none, data := .fields ps }
  | .met f x => h.get? a = some (PySem.W.methodObj (.ref f) (.ref x))
  | .ext φ => φ h ∧ (∃ o, h.get? a = some o) ∧ ∀ h1 h2 : Heap, φ h1 → (∀ o, h1.get? a = some o → h2.get? a = some o) → φ h2
/-- the abstract heap is held -/
def HOk (H : Hp) (h : Heap) : Prop := ∀ a o, H a = some o → ObjOk P w H h a o
end

section
variable {P : Program} {w : World} {H H' : Hp} {h h' : Heap} {a : Addr} {o : HO}
theorem ObjOk.lt (x : ObjOk P w H h a o) : a < h.objs.size := by
  cases o with
  | lst xs => obtain ⟨_, _, _, _, e⟩ := x; exact Heap.lt_size e
  | tup xs => obtain ⟨_, _, _, p⟩ := x; exact p.tup.lt
  | dK kvs => obtain ⟨_, _, _, _, o, _, _, e, _⟩ := x; exact Heap.lt_size e
  | dT kvs => obtain ⟨_, _, _, _, o, _, _, e, _⟩ := x; exact Heap.lt_size e
  | set S n => obtain ⟨o, _, _, _, e, _⟩ := x; exact Heap.lt_size e
  | ins C dx fs => obtain ⟨_, _, _, e, _⟩ := x; exact Heap.lt_size e
  | own y => obtain ⟨_, e⟩ := x; exact Heap.lt_size e
  | xd fs => obtain ⟨_, ⟨_, _, _, e, _⟩, _⟩ := x; exact Heap.lt_size e
  | rng lo hi => obtain ⟨_, _, _, e⟩ := x; exact Heap.lt_size e
  | frz ob u => obtain ⟨e, _⟩ := x; exact Heap.lt_size e
  | tbl ps => exact Heap.lt_size (show h.get? a = some _ from x)
  | met f y => exact Heap.lt_size (show h.get? a = some _ from x)
  | ext φ => obtain ⟨_, ⟨_, e⟩, _⟩ := x; exact Heap.lt_size e
theorem Paired.mapP {α β : Type} {F G : α → β → Prop} : ∀ {l₁ : List α} {l₂ : List β}, Paired F l₁ l₂ → (∀ a b, F a b → G a b) → Paired G l₁ l₂
  | _, _, .nil, _ => .nil
  | _, _, .cons r t, f => .cons (f _ _ r) (Paired.mapP t f)
/-- what an object's description leans on: its own object, its own dict, the tuples -/
theorem ObjOk.stay (x : ObjOk P w H h a o) (k : ∀ b u, (b = a ∨ H b = some (.own a)) → h.get? b = some u → h'.get? b = some u)
    (ho : ∀ b, H b = some (.own a) → H' b = some (.own a)) (ht : ∀ b xs, H b = some (.tup xs) → H' b = some (.tup xs)) : ObjOk P w H' h' a o := by
  induction o with
  | lst xs => obtain ⟨z, its, n, r, e⟩ := x; exact ⟨z, its, n, r, k _ _ (.inl rfl) e⟩
  | tup xs => obtain ⟨z, its, r, ob, e, c⟩ := x; exact ⟨z, its, r, ob, k _ _ (.inl rfl) e, c⟩
  | dK kvs => obtain ⟨z, y, vs, r, ob, es, ep, e, c⟩ := x; exact ⟨z, y, vs, r, ob, es, ep, k _ _ (.inl rfl) e, c⟩
  | dT kvs =>
    obtain ⟨z, y, xs, r, ob, es, ep, e, c⟩ := x
    exact ⟨z, y, xs, Paired.mapP r fun p q z => ⟨z.1, ht _ _ z.2.1, z.2.2⟩, ob, es, ep, k _ _ (.inl rfl) e, c⟩
  | set S n => obtain ⟨ob, es, ep, t, e, c⟩ := x; exact ⟨ob, es, ep, t, k _ _ (.inl rfl) e, c⟩
  | ins C dx fs =>
    obtain ⟨d, z, ne, e, mA, ⟨od, es, ep, e2, c⟩, r⟩ := x
    exact ⟨ho _ d, z, ne, k _ _ (.inl rfl) e, mA, ⟨od, es, ep, k _ _ (.inr d) e2, c⟩, r⟩
  | own y => obtain ⟨ob, e⟩ := x; exact ⟨ob, k _ _ (.inl rfl) e⟩
  | xd fs => obtain ⟨mA, ⟨od, es, ep, e, c⟩, r⟩ := x; exact ⟨mA, ⟨od, es, ep, k _ _ (.inl rfl) e, c⟩, r⟩
  | rng lo hi => obtain ⟨t, u, v, e⟩ := x; exact ⟨t, u, v, k _ _ (.inl rfl) e⟩
  | frz ob u ih => obtain ⟨e, q⟩ := x; exact ⟨k _ _ (.inl rfl) e, ih q⟩
  | tbl ps =>
    have e : h.get? a = some { cls := .none, data := .fields ps } := x
    show h'.get? a = some { cls := .none, data := .fields ps }
    exact k a _ (.inl rfl) e
  | met f y =>
    have e : h.get? a = some (PySem.W.methodObj (.ref f) (.ref y)) := x
    show h'.get? a = some (PySem.W.methodObj (.ref f) (.ref y))
    exact k a _ (.inl rfl) e
  | ext φ => obtain ⟨p, ⟨o, e⟩, st⟩ := x; exact ⟨st _ _ p fun o q => k _ _ (.inl rfl) q, ⟨o, k _ _ (.inl rfl) e⟩, st⟩
theorem HOk.lt (x : HOk P w H h) (e : H a = some o) : a < h.objs.size := (x a o e).lt
theorem HOk.fresh (x : HOk P w H h) (e : h.objs.size ≤ a) : H a = none := by
  cases q : H a with
  | none => rfl
  | some u => exact absurd (Nat.lt_of_lt_of_le (x.lt q) e) (Nat.lt_irrefl _)
/-- every object of the heap is kept -/
theorem HOk.kept (x : HOk P w H h) (k : ∀ b u, h.get? b = some u → h'.get? b = some u) : HOk P w H h' := fun a o e =>
  (x a o e).stay (fun b u _ q => k b u q) (fun _ q => q) fun _ _ q => q
/-- a new object is laid and tracked -/
theorem HOk.laid (x : HOk P w H h) (k : ∀ b u, h.get? b = some u → h'.get? b = some u) (hp : h.objs.size ≤ a) (new : ObjOk P w (upd H a o) h' a o) : HOk P w (upd H a o) h' := fun b u e => by
  have hn := x.fresh hp
  by_cases hb : b = a
  · subst hb; rw [upd_same] at e; cases e; exact new
  · rw [upd_ne hb] at e
    exact (x b u e).stay (fun c v _ q => k c v q) (fun c q => by rw [upd_ne (ne_of_none q hn)]; exact q) fun c xs q => by rw [upd_ne (ne_of_none q hn)]; exact q
end

/-- what may be read as u: it is u, or a known u -/
def Rd (H : Hp) (a : Addr) (u : HO) : Prop := H a = some u ∨ ∃ o, H a = some (.frz o u)
theorem Rd.ok {P : Program} {w : World} {H : Hp} {h : Heap} {a : Addr} {u : HO} (r : Rd H a u) (x : HOk P w H h) : ObjOk P w H h a u := by
  rcases r with r | ⟨o, r⟩
  · exact x a u r
  · obtain ⟨_, q⟩ := x a _ r
    exact q
/-- what may be written -/
def Mut : Option HO → Prop
  | some (.lst _) => True
  | some (.dK _) => True
  | some (.dT _) => True
  | some (.set _ _) => True
  | some (.ins _ _ _) => True
  | some (.ext _) => True
  | _ => False
section
variable {P : Program} {w : World} {H : Hp} {h h' : Heap} {x e : Addr} {o' : HO}
/-- the object at e is changed: x itself, or the dict of the instance x -/
theorem HOk.write (ok : HOk P w H h) (mu : Mut (H x)) (he : e = x ∨ H e = some (.own x)) (k : ∀ b u, b ≠ e → h.get? b = some u → h'.get? b = some u) (heo : ∃ u, h'.get? e = some u)
    (new : ObjOk P w (upd H x o') h' x o') : HOk P w (upd H x o') h' := fun b u q => by
  have nown : ∀ c y, H c = some (.own y) → c ≠ x := fun c y r z => by subst z; rw [r] at mu; exact mu
  have ntup : ∀ c xs, H c = some (.tup xs) → c ≠ x := fun c xs r z => by subst z; rw [r] at mu; exact mu
  by_cases hb : b = x
  · subst hb; rw [upd_same] at q; cases q; exact new
  · rw [upd_ne hb] at q
    by_cases hbe : b = e
    · have q' : H b = some (.own x) := by
        rcases he with z | z
        · exact absurd (hbe.trans z) hb
        · rw [hbe]; exact z
      rw [q] at q'; cases q'
      obtain ⟨v, hv⟩ := heo
      exact ⟨v, by rw [hbe]; exact hv⟩
    · refine (ok b u q).stay (fun c v hc r => k c v ?_ r) (fun c r => by rw [upd_ne (nown c b r)]; exact r) fun c xs r => by rw [upd_ne (ntup c xs r)]; exact r
      rcases hc with rfl | hc
      · exact hbe
      · rintro rfl
        rcases he with z | z
        · exact nown c b hc z
        · rw [hc] at z; cases z; exact hb rfl
end

/-! ### kept unless tracked; of the frames at fs (the callers') the slots may change (an exception that passes writes there); of the records at ex (iterators) nothing is said -/
structure Un (fs ex : List Addr) (H H' : Hp) (h h' : Heap) : Prop where
  keep : ∀ b o, h.get? b = some o → H b = none → b ∉ fs → b ∉ ex → h'.get? b = some o
  slot : ∀ b o, h.get? b = some o → H b = none → b ∈ fs → b ∉ ex → ∃ sl, h'.get? b = some { o with slots := sl }
  free : ∀ b o, h.get? b = some o → H b = none → b ∉ ex → H' b = none
  there : ∀ b o, h.get? b = some o → b ∉ ex → ∃ o', h'.get? b = some o'
  tups : ∀ b xs, H b = some (.tup xs) → H' b = some (.tup xs)
  frzs : ∀ b o u, H b = some (.frz o u) → H' b = some (.frz o u)
  tbls : ∀ b ps, H b = some (.tbl ps) → ∃ more, H' b = some (.tbl (ps ++ more))
section
variable {fs fs' ex ex' : List Addr} {H H1 H2 : Hp} {h h1 h2 h' : Heap} {a x e : Addr} {o : HO}
theorem Un.any (u : Un fs ex H H1 h h1) {b : Addr} {ob : Obj} (q : h.get? b = some ob) (n : H b = none) (hx : b ∉ ex) : ∃ sl, h1.get? b = some { ob with slots := sl } := by
  by_cases hb : b ∈ fs
  · exact u.slot b ob q n hb hx
  · exact ⟨ob.slots, u.keep b ob q n hb hx⟩
theorem Un.kept (k : ∀ b u, h.get? b = some u → h'.get? b = some u) : Un fs ex H H h h' :=
  ⟨fun b ob q _ _ _ => k b ob q, fun b ob q _ _ _ => ⟨ob.slots, k b ob q⟩, fun _ _ _ n _ => n, fun b ob q _ => ⟨ob, k b ob q⟩, fun _ _ q => q, fun _ _ _ q => q, fun _ ps q => ⟨#[], by rw [q]; simp⟩⟩
theorem Un.refl : Un fs ex H H h h := Un.kept fun _ _ q => q
theorem Un.laid (k : ∀ b u, h.get? b = some u → h'.get? b = some u) (hp : h.objs.size ≤ a) (hn : H a = none) : Un fs ex H (upd H a o) h h' where
  keep := fun b u q _ _ _ => k b u q
  slot := fun b u q _ _ _ => ⟨u.slots, k b u q⟩
  free := fun b u q n _ => by rw [upd_ne (Nat.ne_of_lt (Nat.lt_of_lt_of_le (Heap.lt_size q) hp))]; exact n
  there := fun b u q _ => ⟨u, k b u q⟩
  tups := fun b xs q => by rw [upd_ne (ne_of_none q hn)]; exact q
  frzs := fun b u xs q => by rw [upd_ne (ne_of_none q hn)]; exact q
  tbls := fun b ps q => ⟨#[], by rw [upd_ne (ne_of_none q hn), q]; simp⟩
theorem Un.write (mu : Mut (H x)) (he : e = x ∨ H e = some (.own x)) (k : ∀ b u, b ≠ e → h.get? b = some u → h'.get? b = some u) (heo : ∃ u, h'.get? e = some u) : Un fs ex H (upd H x o) h h' := by
  have hx : ∀ b, H b = none → b ≠ x := fun b n z => by subst z; rw [n] at mu; exact mu
  have hb : ∀ b, H b = none → b ≠ e := fun b n z => by
    subst z
    rcases he with r | r
    · exact hx b n r
    · rw [n] at r; cases r
  have hm : ∀ b u, H b = some u → ¬ Mut (some u) → b ≠ x := fun b u q nm z => by subst z; rw [q] at mu; exact nm mu
  refine ⟨fun b u q n _ _ => k b u (hb b n) q, fun b u q n _ _ => ⟨u.slots, k b u (hb b n) q⟩, fun b u q n _ => by rw [upd_ne (hx b n)]; exact n, fun b u q _ => ?_,
    fun b xs q => by rw [upd_ne (hm b _ q fun z => z)]; exact q, fun b u xs q => by rw [upd_ne (hm b _ q fun z => z)]; exact q, fun b ps q => ⟨#[], by rw [upd_ne (hm b _ q fun z => z), q]; simp⟩⟩
  by_cases hbe : b = e
  · subst hbe; exact heo
  · exact ⟨u, k b u hbe q⟩
end

/-! ### the heap without what is tracked -/
def trk (h : Heap) (H : Hp) : List Addr := (List.range h.objs.size).filter fun a => (H a).isSome
def hidT (h : Heap) (H : Hp) : Heap := PySem.W.hideAll h (trk h H)
theorem hidT_size (h : Heap) (H : Hp) : (hidT h H).objs.size = h.objs.size := PySem.W.hideAll_size _ _
theorem hidT_get {h : Heap} {H : Hp} {b : Addr} {o : Obj} (e : h.get? b = some o) (n : H b = none) : (hidT h H).get? b = some o :=
  PySem.W.hideAll_get _ e fun hm => by
    have q : (H b).isSome = true := (List.mem_filter.mp hm).2
    rw [n] at q; simp at q
theorem of_hidT {h : Heap} {H : Hp} {b : Addr} {o : Obj} (e : (hidT h H).get? b = some o) : h.get? b = some o ∧ H b = none := by
  have e' : h.get? b = some o := PySem.W.of_hideAll (trk h H) e
  refine ⟨e', ?_⟩
  cases q : H b with
  | none => rfl
  | some x =>
    have hm : b ∈ trk h H := List.mem_filter.mpr ⟨List.mem_range.mpr (Heap.lt_size e'), by simp [q]⟩
    have z : (hidT h H).get? b = none := PySem.W.hideAll_none (trk h H) hm
    rw [z] at e; cases e

/-! ### OpenK's ledger, filled with every new object but one -/
def allNews (g h : Heap) (L : Addr) : List (Addr × Obj) := (List.range h.objs.size).filterMap fun a => if a = L ∨ (g.get? a).isSome = true then none else (h.get? a).map fun o => (a, o)
def rest (g h : Heap) (L d : Addr) : List (Addr × Obj) := (allNews g h L).filter fun p => decide (p.1 ≠ d)
end L2

namespace L2
open PySem PySem.Spec PyProof.Rows

/-- the module's facts, over the base: the heap at the law's entry without what is tracked there -/
structure Mod (K : PySem.W.Frag) (mg : Str → Option Value) (base : Heap) : Prop where
  kin : K.In base
  glob : base.Ns mainGlobals mg
  blt : ∃ mb, base.Ns builtinsNs mb ∧ ∀ x : Str, x ≠ "__name__" → mb x = bootBuiltins x
  nolimit : base.NoLimit

/-- the context: a def's body (or a comprehension's block) running. base: fixed through the whole law; s₀, H₀: the entry; outer: the frames whose slots others may change (a def's callers); stack: all frames that run;
   ex: iterators that were made ahead of the entry and are walked here (a comprehension's); fn: the names whose cells were made at the entry (a def: all; a comprehension's block: its own); calm: not within an except suite; pn: pins that every state bears; xe: what is wanted of an exception that leaves the code -/
structure Cx where
  prog : Program
  w : World
  K : PySem.W.Frag
  mg : Str → Option Value
  base : Heap
  A : Around
  N : List Str
  s₀ : Shared
  H₀ : Hp
  env : Env
  outer : List Env
  stack : List Env
  ex : List Addr
  fn : Str → Bool
  calm : Bool
  pn : List (Addr × Obj)
  xe : Value → Shared → Prop
/-- the callers' frames -/
def frs (l : List Env) : List Addr := l.filterMap (·.frame)
abbrev Cx.fs (X : Cx) : List Addr := frs X.outer

def Vis (sc : Scope) (x : Str) : Prop := sc.names.lookup x = some .local ∨ sc.names.lookup x = some .cell ∨ sc.names.lookup x = some .free
def Loc (sc : Scope) (x : Str) : Prop := sc.names.lookup x = some .local ∨ sc.names.lookup x = some .cell
def Look (env : Env) (h : Heap) (m : Str → Option Value) (x : Str) (u : Value) : Prop :=
  (env.kindOf x = some .local ∧ m x = some u) ∨ ((env.kindOf x = some .cell ∨ env.kindOf x = some .free) ∧ ∃ c, env.cells.lookup x = some c ∧ h.IsCell c (some u))

structure Cx.Ok (X : Cx) : Prop where
  mod : Mod X.K X.mg X.base
  kind : X.env.scope.kind = .function
  glob : X.env.globals = mainGlobals
  blt : X.env.builtins = builtinsNs
  above : X.s₀.heap.objs.size ≤ X.env.locals
  inj : ∀ x y c, X.env.cells.lookup x = some c → X.env.cells.lookup y = some c → x = y
  has : ∀ x, (X.env.kindOf x = some .cell ∨ X.env.kindOf x = some .free) → ∃ c, X.env.cells.lookup x = some c
  cab : ∀ x c, X.fn x = true → X.env.cells.lookup x = some c → X.s₀.heap.objs.size ≤ c
  hd : X.calm = true → X.A.handled = none
  frames : X.A.frames = some X.stack
  stk : X.stack = X.outer ∨ (X.stack = X.env :: X.outer ∧ X.env.frame = some X.env.locals)
  exf : ∀ b ∈ X.ex, b ≠ X.env.locals ∧ ∀ x c, X.env.cells.lookup x = some c → c ≠ b
  bs : ∀ b o, X.base.get? b = some o → X.s₀.heap.get? b = some o ∧ X.H₀ b = none
  bsz : X.base.objs.size ≤ X.s₀.heap.objs.size
  noex : ∀ b o, X.base.get? b = some o → b ∉ X.ex
  exfs : ∀ b ∈ X.ex, b ∉ X.fs
  funs : X.s₀.heap.FunFrames X.base X.outer
  frf : ∀ b ∈ X.fs, X.H₀ b = none

structure Inv (X : Cx) (pins : List (Addr × Obj)) (σ : List (Option V)) (H : Hp) (s : Shared) : Prop where
  ok : X.Ok
  os : s.os = X.s₀.os
  bare : AllBare s.gens
  base : Un X.fs X.ex X.H₀ H X.s₀.heap s.heap
  loc : ∃ m, s.heap.Ns X.env.locals m ∧ ∀ (i : Nat) (x : Str) (v : V), X.N[i]? = some x → σ[i]? = some (some v) → Vis X.env.scope x → ∃ u, RelV v u ∧ Look X.env s.heap m x u
  cell : ∀ x c, X.env.cells.lookup x = some c → ∃ v, s.heap.IsCell c v
  free : H X.env.locals = none
  freeC : ∀ x c, X.env.cells.lookup x = some c → H c = none
  pin : ∀ p ∈ X.pn ++ pins, s.heap.get? p.1 = some p.2 ∧ H p.1 = none ∧ p.1 ≠ X.env.locals ∧ p.1 ∉ X.fs ∧ ∀ v, p.2.data ≠ .cell v
  hok : HOk X.prog X.w H s.heap
  len : σ.length = X.N.length

section
variable {X : Cx} {pins : List (Addr × Obj)} {σ : List (Option V)} {H H' : Hp} {s : Shared} {h' : Heap}

theorem Cx.Ok.nofr (ok : X.Ok) {b : Addr} {o : Obj} (e : X.base.get? b = some o) : b ∉ X.fs := fun hb => by
  have := (ok.funs.mem hb).1
  rw [e] at this; cases this
theorem Inv.bs (I : Inv X pins σ H s) : ∀ b o, X.base.get? b = some o → s.heap.get? b = some o ∧ H b = none := fun b o e =>
  ⟨I.base.keep b o (I.ok.bs b o e).1 (I.ok.bs b o e).2 (I.ok.nofr e) (I.ok.noex b o e), I.base.free b o (I.ok.bs b o e).1 (I.ok.bs b o e).2 (I.ok.noex b o e)⟩
theorem Inv.bk (I : Inv X pins σ H s) : ∀ b o, X.base.get? b = some o → s.heap.get? b = some o := fun b o e => (I.bs b o e).1
theorem Inv.mod (I : Inv X pins σ H s) : Mod X.K X.mg X.base := I.ok.mod
theorem Inv.kIn (I : Inv X pins σ H s) : X.K.In s.heap := I.ok.mod.kin.keeps I.bk
theorem Inv.nolimit (I : Inv X pins σ H s) : s.heap.NoLimit := I.ok.mod.nolimit.keeps I.bk
theorem Inv.lt (I : Inv X pins σ H s) : X.env.locals < s.heap.objs.size := let ⟨_, hn, _⟩ := I.loc; hn.lt
theorem Inv.sz (I : Inv X pins σ H s) : X.s₀.heap.objs.size ≤ s.heap.objs.size := Nat.le_trans I.ok.above (Nat.le_of_lt I.lt)
theorem Inv.nofs (I : Inv X pins σ H s) {a : Addr} (h : s.heap.objs.size ≤ a) : a ∉ X.fs := fun hb => by
  obtain ⟨_, o, ho, _⟩ := I.ok.funs.mem hb
  exact absurd (Nat.lt_of_lt_of_le (Heap.lt_size ho) (Nat.le_trans I.sz h)) (Nat.lt_irrefl _)
theorem Inv.cne (I : Inv X pins σ H s) : ∀ x c, X.env.cells.lookup x = some c → c ≠ X.env.locals := fun x c e z => by
  obtain ⟨v, o, ho, hd⟩ := I.cell x c e
  obtain ⟨m, ⟨o', es, ep, ho', hd', _⟩, _⟩ := I.loc
  rw [z, ho'] at ho; cases ho; rw [hd'] at hd; cases hd
theorem Inv.funs (I : Inv X pins σ H s) : s.heap.FunFrames X.base X.outer := by
  have all : ∀ (l : List Env), (∀ b ∈ frs l, b ∈ X.fs) → X.s₀.heap.FunFrames X.base l → s.heap.FunFrames X.base l := by
    intro l
    induction l with
    | nil => intro _ _; trivial
    | cons env r ih =>
      intro hs hl
      obtain ⟨hk, ⟨L, o, hf, hn, ho, hd⟩, hr⟩ := hl
      have hL : L ∈ X.fs := hs L (by unfold frs; rw [List.filterMap_cons, hf]; exact List.mem_cons_self)
      obtain ⟨sl, e⟩ := I.base.slot L o ho (I.ok.frf L hL) hL fun z => I.ok.exfs L z hL
      exact ⟨hk, ⟨L, _, hf, hn, e, hd⟩, ih (fun b hb => hs b (by unfold frs; rw [List.filterMap_cons, hf]; exact List.mem_cons_of_mem _ hb)) hr⟩
  exact all X.outer (fun _ hb => hb) I.ok.funs

/-- the frames that run, for a call -/
theorem Inv.stack (I : Inv X pins σ H s) : s.heap.FunFrames X.base X.stack := by
  rcases I.ok.stk with e | ⟨e, hf⟩
  · rw [e]; exact I.funs
  · rw [e]
    obtain ⟨m, hn, _⟩ := I.loc
    refine .cons (by rw [I.ok.kind]; decide) hf hn ?_ I.funs
    exact Heap.get?_none_of_le (Nat.le_trans I.ok.bsz I.ok.above)
theorem Inv.stkSub (I : Inv X pins σ H s) : ∀ b ∈ frs X.stack, b ∈ X.env.locals :: X.fs := fun b hb => by
  rcases I.ok.stk with e | ⟨e, hf⟩
  · rw [e] at hb; exact List.mem_cons_of_mem _ hb
  · rw [e] at hb
    unfold frs at hb
    rw [List.filterMap_cons, hf] at hb
    exact hb
theorem Inv.stkFree (I : Inv X pins σ H s) : ∀ b ∈ frs X.stack, H b = none := fun b hb => by
  rcases List.mem_cons.mp (I.stkSub b hb) with e | hb
  · rw [e]; exact I.free
  · obtain ⟨_, o, ho, _⟩ := I.ok.funs.mem hb
    exact I.base.free b o ho (I.ok.frf b hb) fun z => I.ok.exfs b z hb

/-- THE STEP: the untracked objects but the frame and the records at ch are kept (the callers' frames up to slots), the frame's map is kept, the new abstract heap is held -/
theorem Inv.step {g' : Array GenState} {t' : Nat} {d' : Drawn} {ch : List Addr} (I : Inv X pins σ H s)
    (hch : ∀ b ∈ ch, (b ∈ X.ex ∨ X.s₀.heap.objs.size ≤ b) ∧ b ≠ X.env.locals ∧ (∀ x c, X.env.cells.lookup x = some c → c ≠ b) ∧ ∀ p ∈ X.pn ++ pins, p.1 ≠ b)
    (keep : ∀ b o, b ≠ X.env.locals → b ∉ X.fs → b ∉ ch → s.heap.get? b = some o → H b = none → h'.get? b = some o)
    (slot : ∀ b o, b ≠ X.env.locals → b ∈ X.fs → b ∉ ch → s.heap.get? b = some o → H b = none → ∃ sl, h'.get? b = some { o with slots := sl }) (free : ∀ b o, b ∉ ch → s.heap.get? b = some o → H b = none → H' b = none)
    (there : ∀ b o, b ∉ ch → s.heap.get? b = some o → ∃ o', h'.get? b = some o')
    (tups : ∀ b xs, H b = some (.tup xs) → H' b = some (.tup xs)) (frzs : ∀ b o u, H b = some (.frz o u) → H' b = some (.frz o u)) (tbls : ∀ b ps, H b = some (.tbl ps) → ∃ more, H' b = some (.tbl (ps ++ more)))
    (ns : ∀ m, s.heap.Ns X.env.locals m → h'.Ns X.env.locals m) (hok : HOk X.prog X.w H' h') (hg : AllBare g') :
    Inv X pins σ H' { s with heap := h', gens := g', drawn := d', toks := t' } := by
  have neL : ∀ b o, X.s₀.heap.get? b = some o → b ≠ X.env.locals := fun b o e => Nat.ne_of_lt (Nat.lt_of_lt_of_le (Heap.lt_size e) I.ok.above)
  have neC : ∀ b o, X.s₀.heap.get? b = some o → b ∉ X.ex → b ∉ ch := fun b o e hx hb => by
    rcases (hch b hb).1 with z | z
    · exact hx z
    · exact absurd (Nat.lt_of_lt_of_le (Heap.lt_size e) z) (Nat.lt_irrefl _)
  have cellK : ∀ x c, X.env.cells.lookup x = some c → ∀ v, s.heap.IsCell c v → h'.IsCell c v := fun x c e v ⟨o, ho, hd⟩ => by
    have nch : c ∉ ch := fun z => (hch c z).2.2.1 x c e rfl
    by_cases hc : c ∈ X.fs
    · obtain ⟨sl, q⟩ := slot c o (I.cne x c e) hc nch ho (I.freeC x c e)
      exact ⟨_, q, hd⟩
    · exact ⟨o, keep c o (I.cne x c e) hc nch ho (I.freeC x c e), hd⟩
  refine ⟨I.ok, I.os, hg, ⟨fun b o e n hb hx => ?_, fun b o e n hb hx => ?_, fun b o e n hx => ?_, fun b o e hx => ?_, fun b xs e => tups b xs (I.base.tups b xs e), fun b o xs e => frzs b o xs (I.base.frzs b o xs e), fun b ps e => ?_⟩, ?_, fun x c e => ?_, ?_, fun x c e => ?_, fun p hp => ?_, hok, I.len⟩
  · exact keep b o (neL b o e) hb (neC b o e hx) (I.base.keep b o e n hb hx) (I.base.free b o e n hx)
  · obtain ⟨sl, e1⟩ := I.base.slot b o e n hb hx
    obtain ⟨sl', e2⟩ := slot b _ (neL b o e) hb (neC b o e hx) e1 (I.base.free b o e n hx)
    exact ⟨sl', e2⟩
  · obtain ⟨o', e1⟩ := I.base.there b o e hx
    exact free b o' (neC b o e hx) e1 (I.base.free b o e n hx)
  · obtain ⟨o', e1⟩ := I.base.there b o e hx
    exact there b o' (neC b o e hx) e1
  · obtain ⟨m1, e1⟩ := I.base.tbls b ps e
    obtain ⟨m2, e2⟩ := tbls b _ e1
    exact ⟨m1 ++ m2, by rw [e2, Array.append_assoc]⟩
  · obtain ⟨m, hn, hl⟩ := I.loc
    refine ⟨m, ns m hn, fun i x v e1 e2 e3 => ?_⟩
    obtain ⟨u, r, l⟩ := hl i x v e1 e2 e3
    refine ⟨u, r, ?_⟩
    rcases l with l | ⟨k, c, e, z⟩
    · exact .inl l
    · exact .inr ⟨k, c, e, cellK x c e _ z⟩
  · obtain ⟨v, z⟩ := I.cell x c e
    exact ⟨v, cellK x c e v z⟩
  · obtain ⟨m, ⟨o, _, _, ho, _⟩, _⟩ := I.loc
    exact free _ o (fun z => (hch _ z).2.1 rfl) ho I.free
  · obtain ⟨v, o, ho, hd⟩ := I.cell x c e
    exact free c o (fun z => (hch c z).2.2.1 x c e rfl) ho (I.freeC x c e)
  · obtain ⟨e, n, ne, nf, d⟩ := I.pin p hp
    have nch : p.1 ∉ ch := fun z => (hch p.1 z).2.2.2 p hp rfl
    exact ⟨keep p.1 p.2 ne nf nch e n, free p.1 p.2 nch e n, ne, nf, d⟩
/-- .. where the frame's own object is kept too -/
theorem Inv.un {t' : Nat} (I : Inv X pins σ H s) (u : Un X.fs [] H H' s.heap h') (hok : HOk X.prog X.w H' h') : Inv X pins σ H' { s with heap := h', toks := t' } := by
  obtain ⟨m, ⟨o, es, ep, ho, r⟩, _⟩ := id I.loc
  obtain ⟨sl, hL⟩ := u.any ho I.free (by simp)
  exact I.step (g' := s.gens) (d' := s.drawn) (ch := []) (fun _ z => nomatch z) (fun b o _ hb _ e n => u.keep b o e n hb (by simp)) (fun b o _ hb _ e n => u.slot b o e n hb (by simp)) (fun b o _ e n => u.free b o e n (by simp)) (fun b o _ e => u.there b o e (by simp)) u.tups u.frzs u.tbls (fun m' hm => by
    obtain ⟨o', es', ep', ho', r'⟩ := hm
    rw [ho] at ho'; cases ho'
    exact ⟨_, es', ep', hL, r'⟩) hok I.bare
/-- behind a call (or a comprehension's block): the slots of this frame may have changed too, the records at ch may have turned -/
theorem Inv.call {g' : Array GenState} {t' : Nat} {d' : Drawn} {ch : List Addr} (I : Inv X pins σ H s) (u : Un (frs X.stack) ch H H' s.heap h') (hok : HOk X.prog X.w H' h') (hg : AllBare g')
    (hch : ∀ b ∈ ch, (b ∈ X.ex ∨ X.s₀.heap.objs.size ≤ b) ∧ b ≠ X.env.locals ∧ (∀ x c, X.env.cells.lookup x = some c → c ≠ b) ∧ ∀ p ∈ X.pn ++ pins, p.1 ≠ b) :
    Inv X pins σ H' { s with heap := h', gens := g', drawn := d', toks := t' } := by
  obtain ⟨m, ⟨o, es, ep, ho, r⟩, _⟩ := id I.loc
  obtain ⟨sl, hL⟩ := u.any ho I.free fun z => (hch _ z).2.1 rfl
  exact I.step (ch := ch) hch (fun b o hL hb hc e n => u.keep b o e n (fun z => (List.mem_cons.mp (I.stkSub b z)).elim hL hb) hc) (fun b o _ _ hc e n => u.any e n hc) (fun b o hc e n => u.free b o e n hc) (fun b o hc e => u.there b o e hc) u.tups u.frzs u.tbls (fun m' hm => by
    obtain ⟨o', es', ep', ho', r'⟩ := hm
    rw [ho] at ho'; cases ho'
    exact ⟨_, es', ep', hL, r'⟩) hok hg
/-- an untracked record of ours (an iterator) has turned -/
theorem Inv.turned {t' : Nat} {it : Addr} (I : Inv X pins σ H s) (k : ∀ b o, b ≠ it → s.heap.get? b = some o → h'.get? b = some o) (hn : H it = none) (hL : it ≠ X.env.locals)
    (h1 : it ∈ X.ex ∨ X.s₀.heap.objs.size ≤ it) (h2 : ∀ x c, X.env.cells.lookup x = some c → c ≠ it) (h3 : ∀ p ∈ X.pn ++ pins, p.1 ≠ it) : Inv X pins σ H { s with heap := h', toks := t' } := by
  have nit : ∀ b u, H b = some u → b ≠ it := fun b u e z => by rw [z, hn] at e; cases e
  refine I.step (g' := s.gens) (d' := s.drawn) (ch := [it]) (fun b hb => ?_) (fun b o _ _ hc e _ => k b o (fun z => hc (by simp [z])) e) (fun b o _ _ hc e _ => ⟨o.slots, k b o (fun z => hc (by simp [z])) e⟩) (fun _ _ _ _ n => n)
    (fun b o hc e => ⟨o, k b o (fun z => hc (by simp [z])) e⟩) (fun _ _ e => e) (fun _ _ _ e => e) (fun b ps e => ⟨#[], by rw [e]; simp⟩) (fun m hm => ?_) (fun b u e => ?_) I.bare
  · have e : b = it := by simpa using hb
    subst e
    exact ⟨h1, hL, h2, h3⟩
  · obtain ⟨o, es, ep, ho, r⟩ := hm
    exact ⟨o, es, ep, k _ o (Ne.symm hL) ho, r⟩
  · refine (I.hok b u e).stay (fun c v hc q => k c v ?_ q) (fun _ q => q) fun _ _ q => q
    rcases hc with z | z
    · rw [z]; exact nit b u e
    · exact nit c _ z
theorem Inv.tok (I : Inv X pins σ H s) (t : Nat) : Inv X pins σ H { s with toks := t } := I.un (h' := s.heap) (t' := t) Un.refl I.hok
/-- all objects kept -/
theorem Inv.kept {t' : Nat} (I : Inv X pins σ H s) (k : ∀ b u, s.heap.get? b = some u → h'.get? b = some u) : Inv X pins σ H { s with heap := h', toks := t' } := I.un (Un.kept k) (I.hok.kept k)
/-- a new object laid and tracked -/
theorem Inv.laid {a : Addr} {o : HO} {t' : Nat} (I : Inv X pins σ H s) (k : ∀ b u, s.heap.get? b = some u → h'.get? b = some u) (hp : s.heap.objs.size ≤ a) (new : ObjOk X.prog X.w (upd H a o) h' a o) :
    Inv X pins σ (upd H a o) { s with heap := h', toks := t' } := I.un (Un.laid k hp (I.hok.fresh hp)) (I.hok.laid k hp new)
/-- an object written -/
theorem Inv.write {x e : Addr} {o : HO} {t' : Nat} (I : Inv X pins σ H s) (mu : Mut (H x)) (he : e = x ∨ H e = some (.own x)) (k : ∀ b u, b ≠ e → s.heap.get? b = some u → h'.get? b = some u) (heo : ∃ u, h'.get? e = some u)
    (new : ObjOk X.prog X.w (upd H x o) h' x o) : Inv X pins σ (upd H x o) { s with heap := h', toks := t' } := I.un (Un.write mu he k heo) (I.hok.write mu he k heo new)
theorem Inv.pins_of {pins' : List (Addr × Obj)} (I : Inv X pins σ H s) (h : ∀ p ∈ pins', s.heap.get? p.1 = some p.2 ∧ H p.1 = none ∧ p.1 ≠ X.env.locals ∧ p.1 ∉ X.fs ∧ ∀ v, p.2.data ≠ .cell v) : Inv X pins' σ H s :=
  ⟨I.ok, I.os, I.bare, I.base, I.loc, I.cell, I.free, I.freeC, fun p hp => (List.mem_append.mp hp).elim (fun z => I.pin p (List.mem_append_left _ z)) (h p), I.hok, I.len⟩

theorem nodup_ix {N : List Str} (hN : N.Nodup) {i j : Nat} {x : Str} (a : N[i]? = some x) (b : N[j]? = some x) : i = j := by
  obtain ⟨h1, e1⟩ := List.getElem?_eq_some_iff.mp a
  obtain ⟨h2, e2⟩ := List.getElem?_eq_some_iff.mp b
  exact (List.getElem_inj hN).mp (e1.trans e2.symm)

/-- a name is stored; what changed -/
theorem store_ok2 {M : Model} {A : Around} {E : Value → Shared → Prop} {i : Nat} {x : Str} {v : V} {u : Value} {Q : Unit → Shared → Prop} (I : Inv X pins σ H s) (hN : X.N.Nodup) (hi : X.N[i]? = some x) (hx : Loc X.env.scope x) (r : RelV v u)
    (h : ∀ s', Inv X pins (σ.set i (some v)) H s' → (∃ a, Heap.SameBut a s.heap s'.heap ∧ (a = X.env.locals ∨ X.env.cells.lookup x = some a)) → Q () s') (hf : X.fn x = true ∨ X.env.scope.names.lookup x = some .local := by first | exact .inl rfl | exact .inr rfl | assumption) : wpAny M A (storeName X.env x u) Q E s := by
  obtain ⟨m, hn, hl⟩ := id I.loc
  have hcls : (X.env.scope.kind == .class || (X.env.scope.kind == .module && X.env.locals != X.env.globals)) = false := by rw [I.ok.kind]; rfl
  have hiσ : i < σ.length := by rw [I.len]; exact (List.getElem?_eq_some_iff.mp hi).1
  have cne := I.cne
  have tracked : ∀ {a : Addr} {h' : Heap}, (∃ o, s.heap.get? a = some o ∧ H a = none) → Heap.SameBut a s.heap h' → HOk X.prog X.w H h' := fun {a h'} ha hs b ob e => by
    obtain ⟨_, _, hfree⟩ := ha
    refine (I.hok b ob e).stay (fun c w' hc q => (hs.2 c ?_).trans q) (fun _ q => q) fun _ _ q => q
    rintro rfl
    rcases hc with rfl | hc
    · rw [hfree] at e; cases e
    · rw [hfree] at hc; cases hc
  rcases hx with hk | hk
  · refine wpAny_storeName_local hk hn (fun h' hn' hs => ?_) hcls
    obtain ⟨oL, _, _, hoL, _⟩ := id hn
    refine h _ ⟨I.ok, I.os, I.bare, ⟨fun b o e n hb hx => ?_, fun b o e n hb hx => ?_, I.base.free, fun b o e hx => ?_, I.base.tups, I.base.frzs, I.base.tbls⟩, ⟨_, hn', fun j y v' e1 e2 e3 => ?_⟩, fun y c e => ?_, I.free, I.freeC, fun p hp => ?_, tracked ⟨oL, hoL, I.free⟩ hs, by simpa using I.len⟩ ⟨_, hs, .inl rfl⟩
    · exact (hs.2 b (Nat.ne_of_lt (Nat.lt_of_lt_of_le (Heap.lt_size e) I.ok.above))).trans (I.base.keep b o e n hb hx)
    · obtain ⟨sl, e1⟩ := I.base.slot b o e n hb hx
      exact ⟨sl, (hs.2 b (Nat.ne_of_lt (Nat.lt_of_lt_of_le (Heap.lt_size e) I.ok.above))).trans e1⟩
    · obtain ⟨o', e1⟩ := I.base.there b o e hx
      exact ⟨o', (hs.2 b (Nat.ne_of_lt (Nat.lt_of_lt_of_le (Heap.lt_size e) I.ok.above))).trans e1⟩
    · by_cases hj : j = i
      · subst hj
        rw [hi] at e1; cases e1
        rw [List.getElem?_set_self hiσ] at e2
        cases e2
        exact ⟨u, r, .inl ⟨hk, by simp⟩⟩
      · rw [List.getElem?_set_ne (Ne.symm hj)] at e2
        obtain ⟨u', r', q⟩ := hl j y v' e1 e2 e3
        refine ⟨u', r', ?_⟩
        rcases q with ⟨k, e⟩ | ⟨k, c, e, z⟩
        · refine .inl ⟨k, ?_⟩
          have : y ≠ x := fun e => hj (nodup_ix hN e1 (e ▸ hi))
          simp [this, e]
        · exact .inr ⟨k, c, e, z.sameBut hs (cne y c e)⟩
    · obtain ⟨w', z⟩ := I.cell y c e
      exact ⟨w', z.sameBut hs (cne y c e)⟩
    · obtain ⟨e, n, ne, nf, d⟩ := I.pin p hp
      exact ⟨(hs.2 p.1 ne).trans e, n, ne, nf, d⟩
  · have hfn : X.fn x = true := by
      rcases hf with z | z
      · exact z
      · rw [z] at hk; cases hk
    obtain ⟨c, hc⟩ := I.ok.has x (.inl hk)
    obtain ⟨w', z⟩ := I.cell x c hc
    refine wpAny_storeName_cell I.ok.kind hk hc z (fun h' hc' hs => ?_)
    obtain ⟨oc, hoc, hocd⟩ := id z
    refine h { s with heap := h' } ⟨I.ok, I.os, I.bare, ⟨fun b o e n hb hx => ?_, fun b o e n hb hx => ?_, I.base.free, fun b o e hx => ?_, I.base.tups, I.base.frzs, I.base.tbls⟩, ⟨m, hn.sameBut hs (Ne.symm (cne x c hc)), fun j y v' e1 e2 e3 => ?_⟩, fun y c' e => ?_, I.free, I.freeC, fun p hp => ?_, tracked ⟨oc, hoc, I.freeC x c hc⟩ hs, by simpa using I.len⟩ ⟨c, hs, .inr hc⟩
    · exact (hs.2 b (Nat.ne_of_lt (Nat.lt_of_lt_of_le (Heap.lt_size e) (I.ok.cab x c hfn hc)))).trans (I.base.keep b o e n hb hx)
    · obtain ⟨sl, e1⟩ := I.base.slot b o e n hb hx
      exact ⟨sl, (hs.2 b (Nat.ne_of_lt (Nat.lt_of_lt_of_le (Heap.lt_size e) (I.ok.cab x c hfn hc)))).trans e1⟩
    · obtain ⟨o', e1⟩ := I.base.there b o e hx
      exact ⟨o', (hs.2 b (Nat.ne_of_lt (Nat.lt_of_lt_of_le (Heap.lt_size e) (I.ok.cab x c hfn hc)))).trans e1⟩
    · by_cases hj : j = i
      · subst hj
        rw [hi] at e1; cases e1
        rw [List.getElem?_set_self hiσ] at e2
        cases e2
        exact ⟨u, r, .inr ⟨.inl hk, c, hc, hc'⟩⟩
      · rw [List.getElem?_set_ne (Ne.symm hj)] at e2
        obtain ⟨u', r', q⟩ := hl j y v' e1 e2 e3
        refine ⟨u', r', ?_⟩
        rcases q with q | ⟨k, c', e, z'⟩
        · exact .inl q
        · refine .inr ⟨k, c', e, z'.sameBut hs ?_⟩
          rintro rfl
          exact hj (nodup_ix hN e1 (I.ok.inj _ _ _ e hc ▸ hi))
    · by_cases hcc : c' = c
      · subst hcc; exact ⟨_, hc'⟩
      · obtain ⟨w2, z2⟩ := I.cell y c' e
        exact ⟨w2, z2.sameBut hs hcc⟩
    · obtain ⟨e, n, ne, nf, d⟩ := I.pin p hp
      refine ⟨(hs.2 p.1 ?_).trans e, n, ne, nf, d⟩
      intro q
      rw [q, hoc] at e
      have q' : oc = p.2 := Option.some.inj e
      exact d w' (by rw [← q']; exact hocd)
theorem store_ok {M : Model} {A : Around} {E : Value → Shared → Prop} {i : Nat} {x : Str} {v : V} {u : Value} {Q : Unit → Shared → Prop} (I : Inv X pins σ H s) (hN : X.N.Nodup) (hi : X.N[i]? = some x) (hx : Loc X.env.scope x) (r : RelV v u)
    (h : ∀ s', Inv X pins (σ.set i (some v)) H s' → Q () s') (hf : X.fn x = true ∨ X.env.scope.names.lookup x = some .local := by first | exact .inl rfl | exact .inr rfl | assumption) : wpAny M A (storeName X.env x u) Q E s :=
  store_ok2 I hN hi hx r (fun s' I' _ => h s' I') hf
/-- behind a call or a block, the state as it is -/
theorem Inv.call' {s' : Shared} {ch : List Addr} (I : Inv X pins σ H s) (ho : s'.os = s.os) (u : Un (frs X.stack) ch H H' s.heap s'.heap) (hok : HOk X.prog X.w H' s'.heap) (hg : AllBare s'.gens)
    (hch : ∀ b ∈ ch, (b ∈ X.ex ∨ X.s₀.heap.objs.size ≤ b) ∧ b ≠ X.env.locals ∧ (∀ x c, X.env.cells.lookup x = some c → c ≠ b) ∧ ∀ p ∈ X.pn ++ pins, p.1 ≠ b) : Inv X pins σ H' s' := by
  obtain ⟨h', g', d', t', o'⟩ := s'
  have e : o' = s.os := ho
  subst e
  exact I.call (g' := g') (t' := t') (d' := d') u hok hg hch
end

/-! ### the judgements -/
/-- an exception: its class, its own dict's address (where it has one), the abstract heap behind it -/
abbrev XK := Value → Option Addr → Hp → Prop
abbrev St := List (Option V)
abbrev VK := V → Hp → Prop
/-- an expression's reading; a test's; an argument list's -/
abbrev TE := St → Hp → VK → Prop
abbrev TT := St → Hp → (Bool → Hp → Prop) → Prop
abbrev TA := St → Hp → (List V → Hp → Prop) → Prop
/-- what is wanted behind a statement -/
structure Ends where
  nx : St → Hp → Prop
  rt : VK
  bk : St → Hp → Prop := fun _ _ => False
  ct : St → Hp → Prop := fun _ _ => False
abbrev TS := Ends → St → Hp → Prop

def EP (X : Cx) (pins : List (Addr × Obj)) (σ : St) (Q : VK) (u : Value) (s' : Shared) : Prop := ∃ v H', Inv X pins σ H' s' ∧ RelV v u ∧ Q v H'
def TP (X : Cx) (pins : List (Addr × Obj)) (σ : St) (Q : Bool → Hp → Prop) (b : Bool) (s' : Shared) : Prop := ∃ H', Inv X pins σ H' s' ∧ Q b H'
def AP (X : Cx) (pins : List (Addr × Obj)) (σ : St) (Q : List V → Hp → Prop) (us : List Value) (s' : Shared) : Prop := ∃ vs H', Inv X pins σ H' s' ∧ Vals vs us ∧ Q vs H'
def SP (X : Cx) (pins : List (Addr × Obj)) (D : Ends) (f : Flow) (s' : Shared) : Prop :=
  match f with
  | .next => ∃ σ' H', Inv X pins σ' H' s' ∧ D.nx σ' H'
  | .brk => ∃ σ' H', Inv X pins σ' H' s' ∧ D.bk σ' H'
  | .cont => ∃ σ' H', Inv X pins σ' H' s' ∧ D.ct σ' H'
  | .ret u => ∃ v σ' H', Inv X pins σ' H' s' ∧ RelV v u ∧ D.rt v H'

def PE (X : Cx) (e : Expr) (t : TE) : Prop :=
  ∀ (pins : List (Addr × Obj)) (s : Shared) (σ : St) (H : Hp) (Q : VK), Inv X pins σ H s → t σ H Q → wpAny (model X.prog X.w) X.A (eval e X.env) (EP X pins σ Q) X.xe s
def PT (X : Cx) (e : Expr) (t : TT) : Prop :=
  ∀ (pins : List (Addr × Obj)) (s : Shared) (σ : St) (H : Hp) (Q : Bool → Hp → Prop), Inv X pins σ H s → t σ H Q → wpAny (model X.prog X.w) X.A (isTrue e X.env (eval e X.env)) (TP X pins σ Q) X.xe s
/-- a test whatever its 'whole' is (and, or) -/
def PW (X : Cx) (e : Expr) (t : TT) : Prop :=
  ∀ (whole : Sem Value) (pins : List (Addr × Obj)) (s : Shared) (σ : St) (H : Hp) (Q : Bool → Hp → Prop), Inv X pins σ H s → t σ H Q → wpAny (model X.prog X.w) X.A (isTrue e X.env whole) (TP X pins σ Q) X.xe s
theorem PW.pt {X : Cx} {e : Expr} {t : TT} (h : PW X e t) : PT X e t := h _
/-- an argument list (no star), from the left -/
def PA (X : Cx) (es : List Expr) (t : TA) : Prop :=
  ∀ (pos : Pos) (pins : List (Addr × Obj)) (s : Shared) (σ : St) (H : Hp) (Q : List V → Hp → Prop), Inv X pins σ H s → t σ H Q → wpAny (model X.prog X.w) X.A (spliced (backTo pos (starEach es X.env))) (AP X pins σ Q) X.xe s
def PS (X : Cx) (st : Stmt) (t : TS) : Prop :=
  ∀ (pins : List (Addr × Obj)) (s : Shared) (σ : St) (H : Hp) (D : Ends), Inv X pins σ H s → t D σ H → wpAny (model X.prog X.w) X.A (exec st X.env) (SP X pins D) X.xe s
def PSs (X : Cx) (st : List Stmt) (t : TS) : Prop :=
  ∀ (pins : List (Addr × Obj)) (s : Shared) (σ : St) (H : Hp) (D : Ends), Inv X pins σ H s → t D σ H → wpAny (model X.prog X.w) X.A (execs st X.env) (SP X pins D) X.xe s
/-- weaken the end -/
theorem thn {α : Type} {t : Sem α} {Q Q' : α → Shared → Prop} {M : Model} {A : Around} {E : Value → Shared → Prop} {s : Shared} (h : wpAny M A t Q E s) (hQ : ∀ a s, Q a s → Q' a s) : wpAny M A t Q' E s := wpAny_mono h hQ fun _ _ x => x
end L2

namespace L2
open PySem PySem.Spec PyProof.Rows
section
variable {X : Cx}

/-- two expressions in a row -/
theorem bin {a b : Expr} {ta tb : TE} (ha : PE X a ta) (hb : PE X b tb) {pins : List (Addr × Obj)} {s : Shared} {σ : St} {H : Hp} {R : V → V → Hp → Prop} (I : Inv X pins σ H s) (h : ta σ H fun x H1 => tb σ H1 fun y H2 => R x y H2)
    {α : Type} {Q : α → Shared → Prop} {f : Value → Value → Sem α}
    (hf : ∀ v u s2 x y H2, Inv X pins σ H2 s2 → RelV x v → RelV y u → R x y H2 → wpAny (model X.prog X.w) X.A (f v u) Q X.xe s2) :
    wpAny (model X.prog X.w) X.A (eval a X.env) (fun v s₁ => wpAny (model X.prog X.w) X.A (eval b X.env) (fun u s₂ => wpAny (model X.prog X.w) X.A (f v u) Q X.xe s₂) X.xe s₁) X.xe s := by
  refine thn (ha pins s σ H _ I h) fun v s1 ⟨x, H1, I1, r1, q1⟩ => ?_
  refine thn (hb pins s1 σ H1 _ I1 q1) fun u s2 ⟨y, H2, I2, r2, q2⟩ => ?_
  exact hf v u s2 x y H2 I2 r1 r2 q2

/-! ### names and constants -/
abbrev tVar (i : Nat) : TE := fun σ H Q => ∃ v, σ[i]? = some (some v) ∧ Q v H
abbrev tC (v : V) : TE := fun _ H Q => Q v H
theorem pe_var {i : Nat} {x : Str} {pos : Pos} (hN : X.N[i]? = some x) (hv : Vis X.env.scope x) (hd : (x == ("__debug__" : Str)) = false := by decide) (hcd : (x == ("__classdict__" : Str)) = false := by decide) : PE X (.Name x pos) (tVar i) := by
  intro pins s σ H Q I h
  obtain ⟨v, e, h⟩ := h
  obtain ⟨m, hn, hl⟩ := I.loc
  obtain ⟨u, r, l⟩ := hl i x v hN e hv
  have fin : EP X pins σ Q u s := ⟨v, H, I, r, h⟩
  rcases l with ⟨hk, hm⟩ | ⟨hk, c, hc, hcell⟩
  · exact wpAny_Name (wpAny_loadName_local I.ok.kind hk hn hm fin) hd
  · rcases hk with hk | hk
    · exact wpAny_Name (wpAny_loadName_cell I.ok.kind hk hc hcell fin) hd
    · exact wpAny_Name (wpAny_loadName_free I.ok.kind hk hc hcell fin hcd) hd
theorem pe_int {i j pos} : PE X (.Constant (.int i) j pos) (tC (.int i)) := fun _ _ _ H _ I h => wpAny_Constant_int ⟨.int i, H, I.tok _, ⟨_, rfl⟩, h⟩
theorem pe_bl {b j pos} : PE X (.Constant (.bool b) j pos) (tC (.bl b)) := fun _ _ _ H _ I h => Constant_bool ⟨.bl b, H, I, rfl, h⟩
theorem pe_non {j pos} : PE X (.Constant .none j pos) (tC .non) := fun _ _ _ H _ I h => Constant_none ⟨.non, H, I, rfl, h⟩
theorem pe_str {x j pos} : PE X (.Constant (.str x) j pos) (tC (.str x)) := fun _ _ _ H _ I h => Calls.Constant_str ⟨.str x, H, I.tok _, ⟨_, rfl⟩, h⟩

/-- a global name of the def -/
def Gl (X : Cx) (x : Str) : Prop := X.env.kindOf x = some .globalImplicit
theorem ld_glob {E : Value → Shared → Prop} {pins : List (Addr × Obj)} {s : Shared} {σ : St} {H : Hp} {x : Str} {u : Value} {pos : Pos} {Q : Value → Shared → Prop} (I : Inv X pins σ H s) (hg : Gl X x) (hm : X.mg x = some u) (h : Q u s)
    (hd : (x == ("__debug__" : Str)) = false := by decide) : wpAny (model X.prog X.w) X.A (eval (.Name x pos) X.env) Q E s :=
  Calls.Name_function_global I.ok.kind hg (Calls.loadGlobal_global (by rw [I.ok.glob]; exact I.mod.glob.keeps I.bk) hm h) hd
theorem ld_blt {E : Value → Shared → Prop} {pins : List (Addr × Obj)} {s : Shared} {σ : St} {H : Hp} {x : Str} {u : Value} {pos : Pos} {Q : Value → Shared → Prop} (I : Inv X pins σ H s) (hg : Gl X x) (hm : X.mg x = none) (hv : bootBuiltins x = some u) (h : Q u s)
    (hn : x ≠ "__name__" := by decide) (hd : (x == ("__debug__" : Str)) = false := by decide) : wpAny (model X.prog X.w) X.A (eval (.Name x pos) X.env) Q E s := by
  obtain ⟨mb, h1, h2⟩ := I.mod.blt
  exact Calls.Name_function_global I.ok.kind hg (Calls.loadGlobal_builtin (by rw [I.ok.glob]; exact I.mod.glob.keeps I.bk) hm (by rw [I.ok.blt]; exact h1.keeps I.bk) ((h2 x hn).trans hv) h) hd
/-- a module's constant, a class, a function, as a value -/
theorem pe_glob {x : Str} {v : V} {u : Value} {pos : Pos} (hg : Gl X x) (hm : X.mg x = some u) (r : RelV v u) (hd : (x == ("__debug__" : Str)) = false := by decide) : PE X (.Name x pos) (tC v) :=
  fun _ _ _ H _ I h => ld_glob I hg hm ⟨v, H, I, r, h⟩ hd
theorem pe_bltn {x : Str} {v : V} {u : Value} {pos : Pos} (hg : Gl X x) (hm : X.mg x = none) (hv : bootBuiltins x = some u) (r : RelV v u) (hn : x ≠ "__name__" := by decide) (hd : (x == ("__debug__" : Str)) = false := by decide) : PE X (.Name x pos) (tC v) :=
  fun _ _ _ H _ I h => ld_blt I hg hm hv ⟨v, H, I, r, h⟩ hn hd

/-! ### arithmetic -/
variable {a b : Expr} {ta tb : TE} {pos : Pos}
/-! ### comparisons -/
def PC (X : Cx) (op : CmpOp) (a b : Expr) (t : TE) : Prop :=
  ∀ (pins : List (Addr × Obj)) (s : Shared) (σ : St) (H : Hp) (Q : VK), Inv X pins σ H s → t σ H Q →
    wpAny (model X.prog X.w) X.A (eval a X.env) (fun v s₁ => wpAny (model X.prog X.w) X.A (eval b X.env) (fun u s₂ => wpAny (model X.prog X.w) X.A (compareOp op v u) (EP X pins σ Q) X.xe s₂) X.xe s₁) X.xe s
theorem nobehind (b : Expr) {op : CmpOp} (h : op ≠ .In) (h2 : op ≠ .NotIn) : behindInMarks op b = false := by
  have e1 : (op == CmpOp.In) = false := by cases op <;> first | rfl | exact absurd rfl h
  have e2 : (op == CmpOp.NotIn) = false := by cases op <;> first | rfl | exact absurd rfl h2
  cases b <;> simp [behindInMarks, e1, e2]
/-- a comparison as a value, as a test -/
abbrev tB (t : TE) : TT := fun σ H Q => t σ H fun x H1 => ∃ c, x = .bl c ∧ Q c H1
theorem pt_cmp {op : CmpOp} {t : TE} (h : PC X op a b t) (h1 : behindInMarks op b = false := by first | exact nobehind _ (by decide) (by decide) | rfl) : PT X (.Compare a [op] [b] pos) (tB t) := by
  intro pins s σ H Q I hw
  refine wpAny_isTrue_Compare1 (thn (h pins s σ H _ I hw) fun v s1 h1 => thn h1 fun u s2 h2 => thn h2 fun c s3 ⟨x, H1, I1, r1, q1⟩ => ?_) h1
  obtain ⟨d, rfl, q⟩ := q1
  cases r1
  exact wpAny_truthy_bool ⟨H1, I1, q⟩
/-- an expression whose value is a bool, as a test -/
theorem pt_val {e : Expr} {t : TE} (h : PE X e t) (he : ∀ whole, isTrue e X.env whole = (do let v ← whole; standAt e.pos; holding [v] (truthy v)) := by intro _; rfl) : PT X e (tB t) := by
  intro pins s σ H Q I hw
  refine isTrue_plain (thn (h pins s σ H _ I hw) fun v s1 ⟨x, H1, I1, r1, q1⟩ => ?_) (he _)
  obtain ⟨d, rfl, q⟩ := q1
  cases r1
  exact wpAny_truthy_bool ⟨H1, I1, q⟩

/-! ### and, or, not -/
variable {tA tB' : TT} {rest : List Expr}
abbrev tAnd (t u : TT) : TT := fun σ H Q => t σ H fun c H1 => if c = true then u σ H1 Q else Q false H1
abbrev tOr (t u : TT) : TT := fun σ H Q => t σ H fun c H1 => if c = true then Q true H1 else u σ H1 Q
abbrev tNot (t : TT) : TT := fun σ H Q => t σ H fun c H1 => Q (!c) H1
theorem pw_and1 (ha : PT X a tA) : PW X (.BoolOp .And [a] pos) tA := by
  intro wh pins s σ H Q I h
  refine isTrue_and (thn (ha pins s σ H Q I h) fun c s1 e => ?_)
  cases c with
  | true => exact isTrue_and_nil e
  | false => exact e
theorem pw_or1 (ha : PT X a tA) : PW X (.BoolOp .Or [a] pos) tA := by
  intro wh pins s σ H Q I h
  refine isTrue_or (thn (ha pins s σ H Q I h) fun c s1 e => ?_)
  cases c with
  | false => exact isTrue_or_nil e
  | true => exact e
theorem pw_and (ha : PT X a tA) (hb : PW X (.BoolOp .And (b :: rest) pos) tB') : PW X (.BoolOp .And (a :: b :: rest) pos) (tAnd tA tB') := by
  intro wh pins s σ H Q I h
  refine isTrue_and (thn (ha pins s σ H _ I h) fun c s1 ⟨H1, I1, q1⟩ => ?_)
  cases c with
  | true => exact hb wh pins s1 σ H1 Q I1 q1
  | false => exact ⟨H1, I1, q1⟩
theorem pw_or (ha : PT X a tA) (hb : PW X (.BoolOp .Or (b :: rest) pos) tB') : PW X (.BoolOp .Or (a :: b :: rest) pos) (tOr tA tB') := by
  intro wh pins s σ H Q I h
  refine isTrue_or (thn (ha pins s σ H _ I h) fun c s1 ⟨H1, I1, q1⟩ => ?_)
  cases c with
  | true => exact ⟨H1, I1, q1⟩
  | false => exact hb wh pins s1 σ H1 Q I1 q1
theorem pt_not (ha : PT X a tA) : PT X (.UnaryOp .Not a pos) (tNot tA) := by
  intro pins s σ H Q I h
  exact isTrue_not (ha pins s σ H (fun c H1 => Q (!c) H1) I h)
/-- .. as values (bools) -/
abbrev tAndV (ta tb : TE) : TE := fun σ H Q => ta σ H fun x H1 => ∃ c, x = .bl c ∧ if c = true then tb σ H1 Q else Q (.bl false) H1
abbrev tNotV (ta : TE) : TE := fun σ H Q => ta σ H fun x H1 => ∃ c, x = .bl c ∧ Q (.bl (!c)) H1
theorem pe_one {op} {t : TE} (h : PE X a t) : PE X (.BoolOp op [a] pos) t := fun pins s σ H Q I hw => BoolOp_one (h pins s σ H Q I hw)
theorem pe_and (ha : PE X a ta) (hb : PE X (.BoolOp .And (b :: rest) pos) tb) : PE X (.BoolOp .And (a :: b :: rest) pos) (tAndV ta tb) := by
  intro pins s σ H Q I h
  refine BoolOp_and (thn (ha pins s σ H _ I h) fun v s1 ⟨x, H1, I1, r1, q1⟩ => ?_)
  obtain ⟨c, rfl, q1⟩ := q1
  cases r1
  refine wpAny_truthy_bool ?_
  cases c with
  | true => exact hb pins s1 σ H1 Q I1 q1
  | false => exact ⟨.bl false, H1, I1, rfl, q1⟩
theorem pe_not (ha : PE X a ta) : PE X (.UnaryOp .Not a pos) (tNotV ta) := by
  intro pins s σ H Q I h
  refine UnaryOp_ (thn (ha pins s σ H _ I h) fun v s1 ⟨x, H1, I1, r1, q1⟩ => ?_)
  obtain ⟨c, rfl, q1⟩ := q1
  cases r1
  exact not_of (wpAny_truthy_bool ⟨.bl (!c), H1, I1, rfl, q1⟩)
/-- a if t else b -/
abbrev tIf (t : TT) (ta tb : TE) : TE := fun σ H Q => t σ H fun c H1 => if c = true then ta σ H1 Q else tb σ H1 Q
theorem pe_ifExp {c : Expr} (hc : PT X c tA) (ha : PE X a ta) (hb : PE X b tb) : PE X (.IfExp c a b pos) (tIf tA ta tb) := by
  intro pins s σ H Q I h
  refine wpAny_IfExp (thn (hc pins s σ H _ I h) fun d s1 ⟨H1, I1, q1⟩ => ?_)
  cases d with
  | true => exact ha pins s1 σ H1 Q I1 q1
  | false => exact hb pins s1 σ H1 Q I1 q1
end
end L2

namespace L2
open PySem PySem.Spec PyProof.Rows

/-! ### a list, a tuple that is read: tracked, frozen, or an object of the module -/
def SqL (K : PySem.W.Frag) (H : Hp) (a : Addr) (xs : List V) : Prop :=
  Rd H a (.lst xs) ∨
    ∃ (o : Obj) (its : Array Value) (n : Nat), K.lookup a = some o ∧ o.cls = .type "list" ∧ o.dict = none ∧ o.data = .seq its n ∧ its.size ≤ sizeLine ∧ Vals xs its.toList
def SqT (K : PySem.W.Frag) (H : Hp) (a : Addr) (xs : List V) : Prop :=
  Rd H a (.tup xs) ∨
    ∃ (o : Obj) (its : Array Value) (n : Nat), K.lookup a = some o ∧ o.cls = .type "tuple" ∧ o.data = .seq its n ∧ its.size ≤ sizeLine ∧ Vals xs its.toList
def absV : Value → Option V
  | .none => some .non
  | .bool b => some (.bl b)
  | .int i _ => some (.int i)
  | .str x _ => some (.str x)
  | .bytes b _ => some (.byt b)
  | .float b _ => some (.flt b)
  | .ref a => some (.ref a)
  | .type n => some (.ty n)
  | _ => none
theorem RelV.abs {x : V} {u : Value} (r : RelV x u) : absV u = some x := by
  cases x with
  | non => cases r; rfl
  | bl _ => cases r; rfl
  | int _ => obtain ⟨t, rfl⟩ := r; rfl
  | str _ => obtain ⟨t, rfl⟩ := r; rfl
  | byt _ => obtain ⟨t, rfl⟩ := r; rfl
  | flt _ => obtain ⟨t, rfl⟩ := r; rfl
  | ref _ => cases r; rfl
  | ty _ => cases r; rfl
theorem RelV.inj {x y : V} {u : Value} (r : RelV x u) (q : RelV y u) : x = y := Option.some.inj (r.abs.symm.trans q.abs)
theorem Vals.inj : ∀ {xs ys : List V} {us : List Value}, Vals xs us → Vals ys us → xs = ys
  | _, _, _, .nil, .nil => rfl
  | _, _, _, .cons r t, .cons r' t' => by rw [r.inj r', Vals.inj t t']
section
variable {X : Cx} {pins : List (Addr × Obj)} {σ : St} {H : Hp} {s : Shared} {a : Addr} {xs ys : List V}
theorem SqL.of {K : PySem.W.Frag} (h : H a = some (.lst xs)) : SqL K H a xs := .inl (.inl h)
theorem SqT.of {K : PySem.W.Frag} (h : H a = some (.tup xs)) : SqT K H a xs := .inl (.inl h)
theorem Inv.list (I : Inv X pins σ H s) (h : SqL X.K H a xs) : ∃ its : List Value, Vals xs its ∧ PlainL s.heap a its.toArray ∧ xs.length ≤ sizeLine := by
  rcases h with h | ⟨o, its, n, hk, hc, hd, hs, hz, r⟩
  · obtain ⟨z, its, n, r, e⟩ := h.ok I.hok
    exact ⟨its, r, ⟨_, n, e, rfl, rfl, rfl⟩, z⟩
  · refine ⟨its.toList, r, ⟨o, n, I.kIn a o hk, hc, hd, by simpa using hs⟩, ?_⟩
    have e := r.length
    simp only [Array.length_toList] at e
    omega
theorem Inv.tuple (I : Inv X pins σ H s) (h : SqT X.K H a xs) : ∃ its : List Value, Vals xs its ∧ IsTup s.heap a its.toArray ∧ xs.length ≤ sizeLine := by
  rcases h with h | ⟨o, its, n, hk, hc, hs, hz, r⟩
  · obtain ⟨z, its, r, p⟩ := h.ok I.hok
    exact ⟨its, r, p.tup, z⟩
  · refine ⟨its.toList, r, ⟨o, I.kIn a o hk, hc, n, by simpa using hs⟩, ?_⟩
    have e := r.length
    simp only [Array.length_toList] at e
    omega
theorem Inv.list_inj (I : Inv X pins σ H s) (h : SqL X.K H a xs) (h' : SqL X.K H a ys) : xs = ys := by
  obtain ⟨its, r, ⟨o, n, e, _, _, d⟩, _⟩ := I.list h
  obtain ⟨its', r', ⟨o', n', e', _, _, d'⟩, _⟩ := I.list h'
  rw [e] at e'; cases e'
  rw [d] at d'
  injection d' with d1 _
  have : its = its' := by simpa using congrArg Array.toList d1
  subst this
  exact r.inj r'
theorem Inv.tuple_inj (I : Inv X pins σ H s) (h : SqT X.K H a xs) (h' : SqT X.K H a ys) : xs = ys := by
  obtain ⟨its, r, ⟨o, e, _, n, d⟩, _⟩ := I.tuple h
  obtain ⟨its', r', ⟨o', e', _, n', d'⟩, _⟩ := I.tuple h'
  rw [e] at e'; cases e'
  rw [d] at d'
  injection d' with d1 _
  have : its = its' := by simpa using congrArg Array.toList d1
  subst this
  exact r.inj r'
end

/-! ### another wish about exceptions -/
abbrev Cx.wish (X : Cx) (E : Value → Shared → Prop) : Cx := { X with xe := E }
/-- no exception leaves -/
abbrev Cx.nox (X : Cx) : Cx := X.wish fun _ _ => False
theorem Cx.Ok.wish {X : Cx} (ok : X.Ok) (E : Value → Shared → Prop) : (X.wish E).Ok :=
  ⟨ok.mod, ok.kind, ok.glob, ok.blt, ok.above, ok.inj, ok.has, ok.cab, ok.hd, ok.frames, ok.stk, ok.exf, ok.bs, ok.bsz, ok.noex, ok.exfs, ok.funs, ok.frf⟩
theorem Cx.Ok.unwish {X : Cx} {E : Value → Shared → Prop} (ok : (X.wish E).Ok) : X.Ok :=
  ⟨ok.mod, ok.kind, ok.glob, ok.blt, ok.above, ok.inj, ok.has, ok.cab, ok.hd, ok.frames, ok.stk, ok.exf, ok.bs, ok.bsz, ok.noex, ok.exfs, ok.funs, ok.frf⟩
section
variable {X : Cx} {pins : List (Addr × Obj)} {σ : St} {H : Hp} {s : Shared} {E : Value → Shared → Prop}
theorem Inv.wish (I : Inv X pins σ H s) (E : Value → Shared → Prop) : Inv (X.wish E) pins σ H s := ⟨I.ok.wish E, I.os, I.bare, I.base, I.loc, I.cell, I.free, I.freeC, I.pin, I.hok, I.len⟩
theorem Inv.unwish (I : Inv (X.wish E) pins σ H s) : Inv X pins σ H s := ⟨I.ok.unwish, I.os, I.bare, I.base, I.loc, I.cell, I.free, I.freeC, I.pin, I.hok, I.len⟩
theorem SP.unwish {D : Ends} {f : Flow} {s' : Shared} (h : SP (X.wish E) pins D f s') : SP X pins D f s' := by
  cases f with
  | next => obtain ⟨σ', H', I, q⟩ := h; exact ⟨σ', H', I.unwish, q⟩
  | brk => obtain ⟨σ', H', I, q⟩ := h; exact ⟨σ', H', I.unwish, q⟩
  | cont => obtain ⟨σ', H', I, q⟩ := h; exact ⟨σ', H', I.unwish, q⟩
  | ret u => obtain ⟨v, σ', H', I, r, q⟩ := h; exact ⟨v, σ', H', I.unwish, r, q⟩
theorem PSs.nox {st : List Stmt} {t : TS} (h : PSs X.nox st t) : PSs X st t := fun pins s σ H D I hw =>
  wpAny_mono (h pins s σ H D (I.wish _) hw) (fun _ _ q => q.unwish) fun _ _ z => False.elim z
end

/-! ### blocks and small statements -/
section
variable {X : Cx} {st : Stmt} {rest : List Stmt} {t u : TS} {e : Expr} {te : TE} {pos : Pos}
abbrev tNext : TS := fun D σ H => D.nx σ H
abbrev tSeq (t u : TS) : TS := fun D σ H => t { D with nx := u D } σ H
theorem pss_nil : PSs X [] tNext := fun _ _ σ H _ I h => wpAny_execs_nil ⟨σ, H, I, h⟩
theorem pss_cons (h1 : PS X st t) (h2 : PSs X rest u) : PSs X (st :: rest) (tSeq t u) := by
  intro pins s σ H D I h
  refine wpAny_execs_cons (thn (h1 pins s σ H { D with nx := u D } I h) fun f s1 q => ?_)
  cases f with
  | next =>
    obtain ⟨σ', H', I', q⟩ := q
    exact h2 pins s1 σ' H' D I' q
  | ret v => exact q
  | brk => exact q
  | cont => exact q
theorem pss_one (h1 : PS X st t) : PSs X [st] t := by
  intro pins s σ H D I h
  refine wpAny_execs_cons (thn (h1 pins s σ H D I h) fun f s1 q => ?_)
  cases f with
  | next => exact wpAny_execs_nil q
  | ret v => exact q
  | brk => exact q
  | cont => exact q
/-- in a def's body nothing is shown -/
theorem Inv.quiet {pins : List (Addr × Obj)} {σ : St} {H : Hp} {s : Shared} (I : Inv X pins σ H s) : interactive X.env = false := by simp [interactive, I.ok.kind]
/-- an expression whose value is dropped -/
abbrev tDrop (te : TE) : TS := fun D σ H => te σ H fun _ H1 => D.nx σ H1
theorem ps_expr (he : PE X e te) (hs : swapsWith e none pos.line X.env = pure false := by rfl) : PS X (.Expr e pos) (tDrop te) := by
  intro pins s σ H D I h
  exact wpAny_Expr_any (thn (he pins s σ H _ I h) fun v s1 ⟨x, H1, I1, r1, q1⟩ => ⟨σ, H1, I1, q1⟩) I.quiet hs
abbrev tRet (te : TE) : TS := fun D σ H => te σ H D.rt
theorem ps_ret (he : PE X e te) : PS X (.Return (some e) pos) (tRet te) := by
  intro pins s σ H D I h
  exact wpAny_Return_some (thn (he pins s σ H _ I h) fun v s1 ⟨x, H1, I1, r1, q1⟩ => ⟨x, σ, H1, I1, r1, q1⟩)
abbrev tIfS (c : TT) (t u : TS) : TS := fun D σ H => c σ H fun b H1 => if b = true then t D σ H1 else u D σ H1
theorem ps_if {c : Expr} {a b : List Stmt} {tc : TT} (hc : PT X c tc) (ha : PSs X a t) (hb : PSs X b u) : PS X (.If c a b pos) (tIfS tc t u) := by
  intro pins s σ H D I h
  refine wpAny_If (thn (hc pins s σ H _ I h) fun d s1 ⟨H1, I1, q1⟩ => ?_)
  cases d with
  | true => exact ha pins s1 σ H1 D I1 q1
  | false => exact hb pins s1 σ H1 D I1 q1
end

/-! ### targets -/
abbrev TG := V → St → Hp → (St → Hp → Prop) → Prop
abbrev TGs := List V → St → Hp → (St → Hp → Prop) → Prop
def PG (X : Cx) (target : Expr) (t : TG) : Prop :=
  ∀ (pins : List (Addr × Obj)) (s : Shared) (σ : St) (H : Hp) (v : V) (u : Value) (Q : St → Hp → Prop), Inv X pins σ H s → RelV v u → t v σ H Q →
    wpAny (model X.prog X.w) X.A (assign target X.env u) (fun _ s' => ∃ σ' H', Inv X pins σ' H' s' ∧ Q σ' H') X.xe s
/-- several targets, one after another -/
def PGs (X : Cx) (ts : List Expr) (t : TGs) : Prop :=
  ∀ (pins : List (Addr × Obj)) (s : Shared) (σ : St) (H : Hp) (vs : List V) (us : List Value) (Q : St → Hp → Prop), Inv X pins σ H s → Vals vs us → t vs σ H Q →
    wpAny (model X.prog X.w) X.A (assignInOrder ((assignEach ts X.env).map (·.2)) us) (fun _ s' => ∃ σ' H', Inv X pins σ' H' s' ∧ Q σ' H') X.xe s
/-- o[i] = v, by values -/
abbrev TSet := V → V → V → Hp → (Hp → Prop) → Prop
def PSet (X : Cx) (t : TSet) : Prop :=
  ∀ (pins : List (Addr × Obj)) (s : Shared) (σ : St) (H : Hp) (o i v : V) (ov iv u : Value) (Q : Hp → Prop), Inv X pins σ H s → RelV o ov → RelV i iv → RelV v u → t o i v H Q →
    wpAny (model X.prog X.w) X.A (setItem ov iv u) (fun _ s' => ∃ H', Inv X pins σ H' s' ∧ Q H') X.xe s
section
variable {X : Cx} {pos : Pos}
abbrev gName (i : Nat) : TG := fun v σ H Q => Q (σ.set i (some v)) H
theorem pg_name {i : Nat} {x : Str} (hN : X.N.Nodup) (hi : X.N[i]? = some x) (hx : Loc X.env.scope x) (hf : X.fn x = true ∨ X.env.scope.names.lookup x = some .local := by first | exact .inl rfl | exact .inr rfl | assumption) : PG X (.Name x pos) (gName i) := by
  intro pins s σ H v u Q I r h
  exact wpAny_assign_Name (store_ok I hN hi hx r (fun s' I' => ⟨_, H, I', h⟩) hf)
abbrev gNil : TGs := fun vs σ H Q => vs = [] ∧ Q σ H
abbrev gCons (t : TG) (u : TGs) : TGs := fun vs σ H Q => ∃ v r, vs = v :: r ∧ t v σ H fun σ' H' => u r σ' H' Q
theorem pgs_nil : PGs X [] gNil := by
  intro pins s σ H vs us Q I r h
  obtain ⟨e, h⟩ := h
  subst e
  cases r
  exact assignInOrder_nil ⟨σ, H, I, h⟩
theorem pgs_cons {e : Expr} {es : List Expr} {t : TG} {u : TGs} (h1 : PG X e t) (h2 : PGs X es u)
    (hs : (assignEach (e :: es) X.env).map (·.2) = assign e X.env :: (assignEach es X.env).map (·.2) := by rfl) : PGs X (e :: es) (gCons t u) := by
  intro pins s σ H vs us Q I r h
  obtain ⟨v, vr, e1, h⟩ := h
  subst e1
  cases r with
  | cons r rr =>
    rw [hs]
    refine assignInOrder_cons (thn (h1 pins s σ H _ _ _ I r h) fun _ s1 ⟨σ1, H1, I1, q1⟩ => ?_)
    exact h2 pins s1 σ1 H1 _ _ Q I1 rr q1
/-- (a, b, ..) = a tuple of that length -/
def gTup (K : PySem.W.Frag) (n : Nat) (t : TGs) : TG := fun v σ H Q => ∃ a xs, v = .ref a ∧ SqT K H a xs ∧ xs.length = n ∧ t xs σ H Q
theorem pg_tup {es : List Expr} {k : Nat} {t : TGs} {n : Nat} (hc : X.calm = true) (h : PGs X es t)
    (hn : (assignEach es X.env).length = n := by rfl) (hst : (assignEach es X.env).findIdx? (·.1) = none := by rfl) : PG X (.Tuple es k pos) (gTup X.K n t) := by
  intro pins s σ H v u Q I r hw
  obtain ⟨a, xs, e1, hq, hl, hw⟩ := hw
  subst e1
  cases r
  obtain ⟨its, rv, ht, hz⟩ := I.tuple hq
  refine assign_Tuple_tuple (I.ok.hd hc) ht (by simp [hn, ← hl, rv.length]) hst fun h' hx => ?_
  have I1 : Inv X pins σ H { s with heap := h' } := I.kept (t' := s.toks) fun b o e => hx b o (Nat.ne_of_lt (Heap.lt_size e)) e
  exact h pins _ σ H xs _ Q I1 (by simpa using rv) hw
/-- o[i] = .. -/
abbrev gSub (to ti : TE) (t : TSet) : TG := fun v σ H Q => to σ H fun o H1 => ti σ H1 fun i H2 => t o i v H2 fun H3 => Q σ H3
theorem pg_sub {o i : Expr} {to ti : TE} {t : TSet} (ho : PE X o to) (hi : PE X i ti) (hs : PSet X t)
    (ha : ∀ v, assign (.Subscript o i pos) X.env v = (do
      let ov ← holding [v] (eval o X.env)
      let iv ← holding [v, ov] (eval i X.env)
      standAt pos
      holding [v, ov, iv] (setItem ov iv v)
      release [v, ov, iv] []) := by intro _; rfl) : PG X (.Subscript o i pos) (gSub to ti t) := by
  intro pins s σ H v u Q I r h
  rw [ha]
  refine wpAny_bind (wpAny_holding (thn (ho pins s σ H _ I h) fun ov s1 ⟨x, H1, I1, r1, q1⟩ => ?_))
  refine wpAny_bind (wpAny_holding (thn (hi pins s1 σ H1 _ I1 q1) fun iv s2 ⟨y, H2, I2, r2, q2⟩ => ?_))
  refine wpAny_bind (wpAny_standAt (wpAny_bind (wpAny_holding (thn (hs pins s2 σ H2 x y v ov iv u _ I2 r1 r2 r q2) fun _ s3 ⟨H3, I3, q3⟩ => ?_))))
  exact wpAny_release ⟨σ, H3, I3, q3⟩
/-- target = value -/
abbrev tAsg (te : TE) (g : TG) : TS := fun D σ H => te σ H fun x H1 => g x σ H1 D.nx
theorem ps_asg {tg e : Expr} {te : TE} {g : TG} (he : PE X e te) (hg : PG X tg g) (hs : swapsWithSole [tg] e pos.line X.env = pure false := by rfl) (hw : swappedStores [tg] e X.env = pure none := by rfl)
    (h1 : (assignEach [tg] X.env).map (·.2) = [assign tg X.env] := by rfl) : PS X (.Assign [tg] e pos) (tAsg te g) := by
  intro pins s σ H D I h
  refine wpAny_Assign_stores (thn (he pins s σ H _ I h) fun v s1 ⟨x, H1, I1, r1, q1⟩ => ?_) hs hw
  rw [h1]
  exact thn (hg pins s1 σ H1 x v _ I1 r1 q1) fun _ s2 q => q
/-- name = value -/
theorem ps_set {i : Nat} {x : Str} {e : Expr} {te : TE} {pos' : Pos} (hN : X.N.Nodup) (hi : X.N[i]? = some x) (hx : Loc X.env.scope x) (he : PE X e te) (hs : swapsWith e (some (.Name x pos')) pos.line X.env = pure false := by rfl) (hf : X.fn x = true ∨ X.env.scope.names.lookup x = some .local := by first | exact .inl rfl | exact .inr rfl | assumption) :
    PS X (.Assign [.Name x pos'] e pos) (tAsg te (gName i)) := by
  intro pins s σ H D I h
  refine wpAny_Assign_Name (thn (he pins s σ H _ I h) fun v s1 ⟨y, H1, I1, r1, q1⟩ => ?_) hs
  exact store_ok I1 hN hi hx r1 (fun s2 I2 => ⟨_, H1, I2, q1⟩) hf
/-- a, b = x, y with plain local names: stored from the right; the pair itself is not tracked (the opening rows as in PyProof/Rows/TupAssign.lean:23) -/
abbrev tPar (i j : Nat) (ta : TA) : TS := fun D σ H => ta σ H fun vs H1 => ∃ v w, vs = [v, w] ∧ D.nx ((σ.set i (some v)).set j (some w)) H1
theorem ps_par {i j : Nat} {x y : Str} {a b : Expr} {ta : TA} {px py pt : Pos} {kt k2 pt2} (hc : X.calm = true) (hN : X.N.Nodup) (hi : X.N[i]? = some x) (hj : X.N[j]? = some y) (hij : i ≠ j)
    (hx : X.env.scope.names.lookup x = some .local) (hy : X.env.scope.names.lookup y = some .local) (ha : PA X [a, b] ta)
    (hw : swappedStores [.Tuple [.Name x px, .Name y py] kt pt] (.Tuple [a, b] k2 pt2) X.env = pure (some [x, y]))
    (hs : swapsWithSole [.Tuple [.Name x px, .Name y py] kt pt] (.Tuple [a, b] k2 pt2) pos.line X.env = pure false := by rfl) :
    PS X (.Assign [.Tuple [.Name x px, .Name y py] kt pt] (.Tuple [a, b] k2 pt2) pos) (tPar i j ta) := by
  intro pins s σ H D I h
  rw [exec_Assign_arm]
  refine wpAny_bind (wpAny_standAt ?_)
  rw [hs]
  refine wpAny_bind (wpAny_pure ?_)
  rw [if_neg (by decide)]
  refine wpAny_bind (Tuple_ (thn (ha _ pins s σ H _ I h) fun us s1 ⟨vs, H1, I1, r1, q1⟩ => ?_))
  obtain ⟨v, w, e1, q1⟩ := q1
  subst e1
  obtain ⟨u1, u2, rfl, rv, rw'⟩ : ∃ u1 u2, us = [u1, u2] ∧ RelV v u1 ∧ RelV w u2 := by
    cases r1 with
    | cons p q =>
      cases q with
      | cons p' q' =>
        cases q'
        exact ⟨_, _, rfl, p, p'⟩
  refine wpAny_newObj_type ?_ (by show 2 ≤ sizeLine; decide)
  have I2 : Inv X pins σ H1 { s1 with heap := s1.heap.push { cls := .type "tuple", data := .seq [u1, u2].toArray } } := I1.kept (t' := s1.toks) fun b o e => Heap.get?_push_of_some _ e
  rw [hw]
  refine wpAny_bind (wpAny_pure ?_)
  show wpAny (model X.prog X.w) X.A (do rule "assign.swapped-stores"; let items ← unpackItems (.ref s1.heap.objs.size) 2 none; assignInOrder [fun v => bindName X.env y v, fun v => bindName X.env x v] items.reverse; pure Flow.next) _ _ _
  refine wpAny_bind (wpAny_rule (wpAny_bind (unpackItems_tuple (items := #[u1, u2]) (I.ok.hd hc) (IsTup.new s1.heap _) fun h' hx' => ?_)))
  have I3 := I2.kept (h' := h') (t' := s1.toks) fun b o e => hx' b o (Nat.ne_of_lt (Heap.lt_size e)) e
  show wpAny _ _ (assignInOrder [fun v => bindName X.env y v, fun v => bindName X.env x v] [u2, u1] >>= fun _ => pure Flow.next) _ _ _
  refine wpAny_bind (assignInOrder_cons (wpAny_bindName (store_ok I3 hN hj (.inl hy) rw' (fun s2 I4 => ?_) (.inr hy))))
  refine assignInOrder_cons (wpAny_bindName (store_ok I4 hN hi (.inl hx) rv (fun s3 I5 => assignInOrder_nil (wpAny_pure ?_)) (.inr hx)))
  rw [List.set_comm _ _ (Ne.symm hij)] at I5
  exact ⟨_, H1, I5, q1⟩
end

/-! ### while -/
section
variable {X : Cx} {pos : Pos}
end

/-! ### what a loop or a comprehension walks -/
/-- at turn i: it yields x (the heap may grow), or it stops -/
structure It where
  go : Nat → Hp → Prop
  yld : Nat → Hp → V → Hp → Prop
  stop : Nat → Hp → Prop
/-- the iterator's own objects may turn: they are not the frame's, not pinned, younger than the entry (or a comprehension's own) -/
def FpOk (X : Cx) (pins : List (Addr × Obj)) (H : Hp) (b : Addr) : Prop :=
  H b = none ∧ b ≠ X.env.locals ∧ b ∉ X.fs ∧ (b ∈ X.ex ∨ X.s₀.heap.objs.size ≤ b) ∧ (∀ x c, X.env.cells.lookup x = some c → c ≠ b) ∧ ∀ p ∈ X.pn ++ pins, p.1 ≠ b
theorem Inv.fpOk {X : Cx} {pins : List (Addr × Obj)} {σ : St} {H H' : Hp} {s : Shared} {b : Addr} (I : Inv X pins σ H s) (hb : s.heap.objs.size ≤ b) (hn : H' b = none) : FpOk X pins H' b := by
  refine ⟨hn, Nat.ne_of_gt (Nat.lt_of_lt_of_le I.lt hb), I.nofs hb, .inr (Nat.le_trans I.sz hb), fun x c e z => ?_, fun p hp z => ?_⟩
  · obtain ⟨v, q⟩ := I.cell x c e
    exact absurd (Nat.lt_of_lt_of_le q.lt (by rw [z]; exact hb)) (Nat.lt_irrefl _)
  · exact absurd (Nat.lt_of_lt_of_le (Heap.lt_size (I.pin p hp).1) (by rw [z]; exact hb)) (Nat.lt_irrefl _)
structure Turn (P : Program) (w : World) (K : PySem.W.Frag) (tg : Expr) (J : It) (fp : List Addr) (it : Addr) (tn : Nat → Heap → Prop) : Prop where
  mem : it ∈ fp
  obj : ∀ i h, tn i h → ∀ b ∈ fp, ∃ o, h.get? b = some o ∧ ∀ v, o.data ≠ .cell v
  keep : ∀ i h h', tn i h → (∀ b ∈ fp, ∀ o, h.get? b = some o → h'.get? b = some o) → tn i h'
  item : ∀ (X : Cx), X.prog = P → X.w = w → X.K = K → X.calm = true → ∀ (i : Nat) (pins : List (Addr × Obj)) (s : Shared) (σ : St) (H : Hp) (E : Value → Shared → Prop), Inv X pins σ H s → (∀ b ∈ fp, FpOk X pins H b) → tn i s.heap → J.go i H →
    wpAny (model P w) X.A (pyNext (.ref it)) (fun r s1 => ∃ u, r = some u ∧
      wpAny (model P w) X.A (letOwnedTupleGo tg (.ref it) u) (fun _ s2 => ∃ x H', Inv X pins σ H' s2 ∧ RelV x u ∧ J.yld i H x H' ∧ tn (i + 1) s2.heap ∧ ∀ b ∈ fp, H' b = none) E s1) E s
  done : ∀ (X : Cx), X.prog = P → X.w = w → X.K = K → X.calm = true → ∀ (i : Nat) (pins : List (Addr × Obj)) (s : Shared) (σ : St) (H : Hp) (E : Value → Shared → Prop), Inv X pins σ H s → (∀ b ∈ fp, FpOk X pins H b) → tn i s.heap → J.stop i H →
    wpAny (model P w) X.A (pyNext (.ref it)) (fun r s1 => r = none ∧ Inv X pins σ H s1) E s
  self : ∀ (A : Around) (i : Nat) (s : Shared) (Q : Value → Shared → Prop) (E : Value → Shared → Prop), tn i s.heap → Q (.ref it) s → wpAny (model P w) A (pyIter (.ref it)) Q E s
abbrev TI := St → Hp → (It → Hp → Prop) → Prop
/-- an iterator has come -/
def PIE (X : Cx) (pins : List (Addr × Obj)) (σ : St) (tg : Expr) (R : It → Hp → Prop) (itv : Value) (s2 : Shared) : Prop :=
  ∃ (it : Addr) (fp : List Addr) (tn : Nat → Heap → Prop) (J : It) (H' : Hp), itv = .ref it ∧ Inv X pins σ H' s2 ∧ Turn X.prog X.w X.K tg J fp it tn ∧ tn 0 s2.heap ∧ (∀ b ∈ fp, FpOk X pins H' b) ∧ R J H'
def PI (X : Cx) (tg iter : Expr) (wi : TI) : Prop :=
  ∀ (pins : List (Addr × Obj)) (s : Shared) (σ : St) (H : Hp) (R : It → Hp → Prop), Inv X pins σ H s → wi σ H R →
    wpAny (model X.prog X.w) X.A (eval iter X.env) (fun v s1 => wpAny (model X.prog X.w) X.A (pyIter v) (PIE X pins σ tg R) X.xe s1) X.xe s

/-- the step ahead of the store is nothing for an iterator that keeps no tuple -/
theorem go_of {M : Model} {A : Around} {E : Value → Shared → Prop} {s : Shared} {tg : Expr} {it : Addr} {u : Value} {o : Obj} {n : String} {vs : Array Value} {Q : Unit → Shared → Prop} (ho : s.heap.get? it = some o) (hc : o.cls = .type n) (hd : o.data = .fields vs)
    (hn : ["enumerate", "zip", "dict_itemiterator", "dict_reverseitemiterator", "odict_iterator", "itertools.zip_longest", "itertools.pairwise"].contains n = false) (hQ : Q () s) : wpAny M A (letOwnedTupleGo tg (.ref it) u) Q E s := by
  unfold letOwnedTupleGo
  cases tg <;> first
    | exact wpAny_pure hQ
    | (cases u <;> first
        | exact wpAny_pure hQ
        | (refine wpAny_bind (wpAny_load ho ?_)
           rw [hc, hd]
           show wpAny M A (if (["enumerate", "zip", "dict_itemiterator", "dict_reverseitemiterator", "odict_iterator", "itertools.zip_longest", "itertools.pairwise"].contains n && vs[0]? == some (rawInt _)) = true then _ else _) Q E s
           rw [if_neg (by intro h; rw [hn, Bool.false_and] at h; cases h)]
           exact wpAny_pure hQ))

/-- the list at a, as it stands at each turn (a loop may append to it) -/
def Itl (K : PySem.W.Frag) (a : Addr) : It :=
  ⟨fun i H => ∃ xs x, SqL K H a xs ∧ xs[i]? = some x, fun i H x H' => H' = H ∧ ∀ xs, SqL K H a xs → xs[i]? = some x, fun i H => ∃ xs, SqL K H a xs ∧ xs.length ≤ i⟩
def Itt (K : PySem.W.Frag) (a : Addr) : It :=
  ⟨fun i H => ∃ xs x, SqT K H a xs ∧ xs[i]? = some x, fun i H x H' => H' = H ∧ ∀ xs, SqT K H a xs → xs[i]? = some x, fun i H => ∃ xs, SqT K H a xs ∧ xs.length ≤ i⟩
/-- lo, lo + 1, .. (n of them) -/
def Itr (lo : Int) (n : Nat) : It := ⟨fun i _ => i < n, fun i H x H' => H' = H ∧ x = .int (lo + i), fun i _ => n ≤ i⟩
theorem turn_list {P : Program} {w : World} {K : PySem.W.Frag} {tg : Expr} (a it : Addr) : Turn P w K tg (Itl K a) [it] it (fun i h => h.IsListIter it a i) where
  mem := by simp
  obj := fun i h st b hb => by
    have e : b = it := by simpa using hb
    subst e
    obtain ⟨o, e, c, d⟩ := st
    exact ⟨o, e, fun v z => by rw [d] at z; cases z⟩
  keep := fun i h h' st k => st.at fun o e => k it (by simp) o e
  item := by
    intro X hP hw hK hc i pins s σ H E I hf st hg
    subst hP hw hK
    obtain ⟨xs, x, hq, hx⟩ := hg
    obtain ⟨its, rv, p, hz⟩ := I.list hq
    obtain ⟨u, hu, ru⟩ := rv.get hx
    obtain ⟨f0, f1, f2, f3, f4, f5⟩ := hf it (by simp)
    refine wpAny_pyNext_list_item st p.isList (x := u) (by simpa using hu) fun h' st' sb => ?_
    have I1 : Inv X pins σ H { s with heap := h' } := I.turned (t' := s.toks) (fun b o hb e => (sb.2 b hb).trans e) f0 f1 f3 f4 f5
    obtain ⟨o, e, c, d⟩ := id st'
    exact ⟨u, rfl, go_of (s := { s with heap := h' }) e c d (by decide) ⟨x, H, I1, ru, ⟨rfl, fun ys hy => by rw [I.list_inj hy hq]; exact hx⟩, st', fun b hb => (hf b hb).1⟩⟩
  done := by
    intro X hP hw hK hc i pins s σ H E I hf st hg
    subst hP hw hK
    obtain ⟨xs, hq, hx⟩ := hg
    obtain ⟨its, rv, p, hz⟩ := I.list hq
    obtain ⟨f0, f1, f2, f3, f4, f5⟩ := hf it (by simp)
    have hl := rv.length
    exact wpAny_pyNext_list_end (I.ok.hd hc) st p.isList (by simp; omega) fun h' eb => ⟨rfl, I.turned (t' := s.toks) (fun b o hb e => eb b o hb e) f0 f1 f3 f4 f5⟩
  self := fun _ _ _ _ _ st h => wpAny_pyIter_listiter st h
theorem turn_tuple {P : Program} {w : World} {K : PySem.W.Frag} {tg : Expr} (a it : Addr) : Turn P w K tg (Itt K a) [it] it (fun i h => h.IsTupleIter it a i) where
  mem := by simp
  obj := fun i h st b hb => by
    have e : b = it := by simpa using hb
    subst e
    obtain ⟨o, e, c, d⟩ := st
    exact ⟨o, e, fun v z => by rw [d] at z; cases z⟩
  keep := fun i h h' st k => st.at fun o e => k it (by simp) o e
  item := by
    intro X hP hw hK hc i pins s σ H E I hf st hg
    subst hP hw hK
    obtain ⟨xs, x, hq, hx⟩ := hg
    obtain ⟨its, rv, p, hz⟩ := I.tuple hq
    obtain ⟨u, hu, ru⟩ := rv.get hx
    obtain ⟨f0, f1, f2, f3, f4, f5⟩ := hf it (by simp)
    refine wpAny_pyNext_tuple_item st (show s.heap.IsTuple a its.toArray from p) (x := u) (by simpa using hu) fun h' st' sb => ?_
    have I1 : Inv X pins σ H { s with heap := h' } := I.turned (t' := s.toks) (fun b o hb e => (sb.2 b hb).trans e) f0 f1 f3 f4 f5
    obtain ⟨o, e, c, d⟩ := id st'
    exact ⟨u, rfl, go_of (s := { s with heap := h' }) e c d (by decide) ⟨x, H, I1, ru, ⟨rfl, fun ys hy => by rw [I.tuple_inj hy hq]; exact hx⟩, st', fun b hb => (hf b hb).1⟩⟩
  done := by
    intro X hP hw hK hc i pins s σ H E I hf st hg
    subst hP hw hK
    obtain ⟨xs, hq, hx⟩ := hg
    obtain ⟨its, rv, p, hz⟩ := I.tuple hq
    obtain ⟨f0, f1, f2, f3, f4, f5⟩ := hf it (by simp)
    have hl := rv.length
    exact wpAny_pyNext_tuple_end (I.ok.hd hc) st (show s.heap.IsTuple a its.toArray from p) (by simp; omega) fun h' eb => ⟨rfl, I.turned (t' := s.toks) (fun b o hb e => eb b o hb e) f0 f1 f3 f4 f5⟩
  self := fun _ _ _ _ _ st h => wpAny_pyIter_tupleiter st h
theorem turn_range {P : Program} {w : World} {K : PySem.W.Frag} {tg : Expr} (it : Addr) (lo : Int) (n : Nat) : Turn P w K tg (Itr lo n) [it] it (fun i h => IsRangeIter h it (lo + (i : Nat) * 1) ((n : Int) - (i : Nat)) 1) where
  mem := by simp
  obj := fun i h st b hb => by
    have e : b = it := by simpa using hb
    subst e
    exact ⟨_, st, fun v z => by
      have z' : Data.fields _ = Data.cell v := z
      cases z'⟩
  keep := fun i h h' st k => k it (by simp) _ st
  item := by
    intro X hP hw hK hc i pins s σ H E I hf st hg
    subst hP hw hK
    obtain ⟨f0, f1, f2, f3, f4, f5⟩ := hf it (by simp)
    have W := Walks.range (prog := X.prog) (w := X.w) (I.ok.hd hc) it lo 1 n
    refine W.item i s _ _ hg st fun v h' tk hv st' kk => ?_
    obtain ⟨t, rfl⟩ := hv
    have I1 : Inv X pins σ H { s with heap := h', toks := tk } := I.turned (fun b o hb e => kk b o (by simpa using hb) e) f0 f1 f3 f4 f5
    refine ⟨_, rfl, go_of (s := { s with heap := h', toks := tk }) (n := "range_iterator") st' rfl rfl (by decide) ⟨.int (lo + i), H, I1, ⟨t, ?_⟩, ⟨rfl, rfl⟩, st', fun b hb => (hf b hb).1⟩⟩
    rw [Int.mul_one]
  done := by
    intro X hP hw hK hc i pins s σ H E I hf st hg
    subst hP hw hK
    obtain ⟨f0, f1, f2, f3, f4, f5⟩ := hf it (by simp)
    exact wpAny_pyNext_range_end (I.ok.hd hc) st (by have : n ≤ i := hg; omega) fun h' eb => ⟨rfl, I.turned (t' := s.toks) (fun b o hb e => eb b o hb e) f0 f1 f3 f4 f5⟩
  self := fun _ _ _ _ _ st h => wpAny_pyIter_rangeiter st h
end L2

namespace L2
open PySem PySem.Spec PyProof.Rows
section
variable {X : Cx} {tg : Expr}
/-- a range object just made, walked -/
theorem range_it {pins : List (Addr × Obj)} {σ : St} {H : Hp} {s : Shared} {R : It → Hp → Prop} {E : Value → Shared → Prop} {lo hi : Int} {t u v : Tok} {tk : Nat} (I : Inv X pins σ H s) (h1 : -(2 ^ 62) ≤ lo) (h2 : lo < 2 ^ 62) (h3 : -(2 ^ 62) ≤ hi) (h4 : hi < 2 ^ 62)
    (q : R (Itr lo (hi - lo).toNat) H) : wpAny (model X.prog X.w) X.A (pyIter (.ref s.heap.objs.size)) (PIE X pins σ tg R) E { s with heap := s.heap.push { cls := .type "range", data := .fields #[.int lo t, .int hi u, .int 1 v] }, toks := tk } := by
  refine wpAny_pyIter_range (IsRange.new ..) (small_one h1 h2 h3 h4) ?_
  have I1 : Inv X pins σ H { s with heap := s.heap.push { cls := .type "range", data := .fields #[.int lo t, .int hi u, .int 1 v] }, toks := tk } := I.kept fun b o e => Heap.get?_push_of_some _ e
  refine ⟨(s.heap.push { cls := .type "range", data := .fields #[.int lo t, .int hi u, .int 1 v] }).objs.size, [(s.heap.push { cls := .type "range", data := .fields #[.int lo t, .int hi u, .int 1 v] }).objs.size], _, _, H, rfl,
    I1.kept (t' := tk) fun b o e => Heap.get?_push_of_some _ e, turn_range _ lo (hi - lo).toNat, ?_, fun b hb => ?_, q⟩
  · have e1 : lo + ((0 : Nat) : Int) * 1 = lo := by simp
    have e2 : (((hi - lo).toNat : Nat) : Int) - ((0 : Nat) : Int) = Builtin.Range.rangeSize lo hi 1 := by rw [rangeSize_one]; split <;> omega
    show IsRangeIter _ _ (lo + ((0 : Nat) : Int) * 1) ((((hi - lo).toNat : Nat) : Int) - ((0 : Nat) : Int)) 1
    rw [e1, e2]
    exact Heap.get?_push_size _ rfl
  · have e : b = (s.heap.push { cls := .type "range", data := .fields #[.int lo t, .int hi u, .int 1 v] }).objs.size := by simpa using hb
    subst e
    exact I1.fpOk (Nat.le_refl _) (I1.hok.fresh (Nat.le_refl _))
def iRng1 (ta : TA) : TI := fun σ H R => ta σ H fun vs H1 => ∃ j : Int, vs = [.int j] ∧ -(2 ^ 62) ≤ j ∧ j < 2 ^ 62 ∧ R (Itr 0 j.toNat) H1
theorem pi_range1 {a : Expr} {ta : TA} {p pos : Pos} (hg : Gl X "range") (hm : X.mg "range" = none) (ha : PA X [a] ta) (hs : starEach [a] X.env = [(false, eval a X.env)] := by rfl) : PI X tg (.Call (.Name "range" p) [a] [] pos) (iRng1 ta) := by
  intro pins s σ H R I h
  refine Call_ (ld_blt I hg hm boot_range (PyProof.Rows.callWith_type1 (thn (ha pos pins s σ H _ I h) fun us s1 ⟨vs, H1, I1, r1, q1⟩ => ?_) hs rfl))
  obtain ⟨j, e, q1, q2, q⟩ := q1
  subst e
  cases r1 with
  | cons r rr =>
    cases rr
    obtain ⟨t, rfl⟩ := r
    exact call_range_1 (range_it I1 (by omega) (by omega) q1 q2 (by simpa using q))
/-! ### for -/
/-- W: the invariant by the turn and a measure; N: what the body is to reach -/
def tFor (wi : TI) (g : TG) (tb : TS) : TS := fun D σ H => wi σ H fun J H1 => ∃ W : Nat → Nat → St → Hp → Prop, (∃ m, W 0 m σ H1) ∧ ∀ i m σ H, W i m σ H →
  (J.stop i H ∧ D.nx σ H) ∨ (J.go i H ∧ ∃ N : St → Hp → Prop, (∀ σ' H', N σ' H' → ∃ m', m' < m ∧ W (i + 1) m' σ' H') ∧ ∀ x H', J.yld i H x H' → g x σ H' fun σ2 H2 => tb { D with nx := N, ct := N, bk := D.nx } σ2 H2)
/-- the records at fp as they stand -/
def pinsAt (fp : List Addr) (h : Heap) : List (Addr × Obj) := fp.filterMap fun b => (h.get? b).map fun o => (b, o)
theorem mem_pinsAt {fp : List Addr} {h : Heap} {b : Addr} {o : Obj} (hb : b ∈ fp) (e : h.get? b = some o) : (b, o) ∈ pinsAt fp h := List.mem_filterMap.mpr ⟨b, hb, by rw [e]; rfl⟩
theorem of_pinsAt {fp : List Addr} {h : Heap} {p : Addr × Obj} (hp : p ∈ pinsAt fp h) : p.1 ∈ fp ∧ h.get? p.1 = some p.2 := by
  obtain ⟨b, hb, e⟩ := List.mem_filterMap.mp hp
  cases q : h.get? b with
  | none => rw [q] at e; cases e
  | some o =>
    rw [q] at e
    have e' : (b, o) = p := Option.some.inj e
    subst e'
    exact ⟨hb, q⟩
theorem Inv.pinned {pins : List (Addr × Obj)} {σ : St} {H : Hp} {s : Shared} {fp : List Addr} (I : Inv X pins σ H s) (hf : ∀ b ∈ fp, FpOk X pins H b) (ho : ∀ b ∈ fp, ∃ o, s.heap.get? b = some o ∧ ∀ v, o.data ≠ .cell v) : Inv X (pins ++ pinsAt fp s.heap) σ H s :=
  I.pins_of fun p hp => (List.mem_append.mp hp).elim (fun z => I.pin p (List.mem_append_right _ z)) fun z => by
    obtain ⟨hb, e⟩ := of_pinsAt z
    obtain ⟨f0, f1, f2, _⟩ := hf p.1 hb
    obtain ⟨o, e', d⟩ := ho p.1 hb
    rw [e] at e'; cases e'
    exact ⟨e, f0, f1, f2, d⟩
theorem Inv.unpinned {pins pl : List (Addr × Obj)} {σ : St} {H : Hp} {s : Shared} (I : Inv X (pins ++ pl) σ H s) : Inv X pins σ H s := I.pins_of fun p hp => I.pin p (List.mem_append_right _ (List.mem_append_left _ hp))
theorem ps_for {iter : Expr} {body : List Stmt} {wi : TI} {g : TG} {tb : TS} {pos : Pos} (hp : PassesOwn (model X.prog X.w) X.A X.env X.xe) (hc : X.calm = true) (hi : PI X tg iter wi) (hg : PG X tg g) (hb : PSs X body tb)
    (hs : ∀ x, foldedSetIterable iter X.env x = pure x := by intro _; rfl) : PS X (.For tg iter body [] pos) (tFor wi g tb) := by
  intro pins s σ H D I h
  refine wpAny_For (thn (hi pins s σ H _ I h) fun v s1 h1 => thn h1 fun itv s2 h2 => ?_) hs
  obtain ⟨it, fp, tn, J, H2, e, I2, T, st2, f2, W, ⟨m0, w0⟩, turn⟩ := h2
  subst e
  -- what stays true of the iterator's objects through the loop
  have stat : ∀ {H' : Hp}, (∀ b ∈ fp, H' b = none) → ∀ b ∈ fp, FpOk X pins H' b := fun hn b hb => ⟨hn b hb, (f2 b hb).2⟩
  refine codeAny_forLoop_any (fun n s' => ∃ i σ' H', Inv X pins σ' H' s' ∧ tn i s'.heap ∧ (∀ b ∈ fp, H' b = none) ∧ W i n σ' H') ?_ m0 ⟨0, σ, H2, I2, st2, fun b hb => (f2 b hb).1, w0⟩
  rintro n s3 ⟨i, σ3, H3, I3, st3, fr3, w3⟩
  rcases turn i n σ3 H3 w3 with ⟨stop, qn⟩ | ⟨go, N, hN, step⟩
  · refine wpAny_passesOwn hp (thn (T.done X rfl rfl rfl hc i pins s3 σ3 H3 X.xe I3 (stat fr3) st3 stop) fun r s4 ⟨hr, I4⟩ => ?_)
    subst hr
    exact wpAny_execs_nil ⟨σ3, H3, I4, qn⟩
  · refine wpAny_passesOwn hp (thn (T.item X rfl rfl rfl hc i pins s3 σ3 H3 X.xe I3 (stat fr3) st3 go) fun r s4 ⟨u, hr, h4⟩ => ?_)
    subst hr
    refine wpAny_passesOwn hp (thn h4 fun _ s5 ⟨x, H5, I5, r5, y5, st5, fr5⟩ => ?_)
    have I5' := I5.pinned (stat fr5) (T.obj _ _ st5)
    refine wpAny_passesOwn hp (thn (hg _ s5 σ3 H5 x u _ I5' r5 (step x H5 y5)) fun _ s6 ⟨σ6, H6, I6, q6⟩ => ?_)
    refine wpAny_passesOwn hp (thn (hb _ s6 σ6 H6 _ I6 q6) fun f s7 q7 => ?_)
    have again : ∀ {σ7 : St} {H7 : Hp}, Inv X (pins ++ pinsAt fp s5.heap) σ7 H7 s7 → N σ7 H7 → ∃ m, m < n ∧ ∃ i σ' H', Inv X pins σ' H' s7 ∧ tn i s7.heap ∧ (∀ b ∈ fp, H' b = none) ∧ W i m σ' H' := fun {σ7 H7} I7 n7 => by
      obtain ⟨m', hm, w7⟩ := hN σ7 H7 n7
      refine ⟨m', hm, i + 1, σ7, H7, I7.unpinned, T.keep _ _ _ st5 fun b hb o e => (I7.pin (b, o) (List.mem_append_right _ (List.mem_append_right _ (mem_pinsAt hb e)))).1, fun b hb => ?_, w7⟩
      obtain ⟨o, e, d⟩ := T.obj _ _ st5 b hb
      exact (I7.pin (b, o) (List.mem_append_right _ (List.mem_append_right _ (mem_pinsAt hb e)))).2.1
    cases f with
    | next => obtain ⟨σ7, H7, I7, n7⟩ := q7; exact again I7 n7
    | cont => obtain ⟨σ7, H7, I7, n7⟩ := q7; exact again I7 n7
    | brk => obtain ⟨σ7, H7, I7, q7⟩ := q7; exact ⟨σ7, H7, I7.unpinned, q7⟩
    | ret v => obtain ⟨x7, σ7, H7, I7, r7, q7⟩ := q7; exact ⟨x7, σ7, H7, I7.unpinned, r7, q7⟩
end

/-! ### the forms one uses -/
/-- over a list that the body leaves as it is -/
theorem for_list {K : PySem.W.Frag} {a : Addr} {xs : List V} {g : TG} {tb : TS} {D : Ends} {σ : St} {H : Hp} (Pv : Nat → St → Hp → Prop) (h0 : Pv 0 σ H) (hl : ∀ i σ H, i ≤ xs.length → Pv i σ H → SqL K H a xs)
    (hs : ∀ i x σ H, xs[i]? = some x → Pv i σ H → g x σ H fun σ2 H2 => tb { D with nx := Pv (i + 1), ct := Pv (i + 1), bk := D.nx } σ2 H2) (hd : ∀ σ H, Pv xs.length σ H → D.nx σ H) :
    ∃ W : Nat → Nat → St → Hp → Prop, (∃ m, W 0 m σ H) ∧ ∀ i m σ H, W i m σ H →
      ((Itl K a).stop i H ∧ D.nx σ H) ∨ ((Itl K a).go i H ∧ ∃ N : St → Hp → Prop, (∀ σ' H', N σ' H' → ∃ m', m' < m ∧ W (i + 1) m' σ' H') ∧ ∀ x H', (Itl K a).yld i H x H' → g x σ H' fun σ2 H2 => tb { D with nx := N, ct := N, bk := D.nx } σ2 H2) := by
  refine ⟨fun i m σ H => m = xs.length - i ∧ i ≤ xs.length ∧ Pv i σ H, ⟨xs.length, by simp, Nat.zero_le _, h0⟩, ?_⟩
  rintro i m σ H ⟨rfl, hi, p⟩
  have q := hl i σ H hi p
  by_cases hlt : i < xs.length
  · refine .inr ⟨⟨xs, xs[i], q, by simp [hlt]⟩, Pv (i + 1), fun σ' H' p' => ⟨xs.length - (i + 1), by omega, rfl, hlt, p'⟩, fun x H' y => ?_⟩
    obtain ⟨e, y⟩ := y
    subst e
    exact hs i x σ _ (y xs q) p
  · have e : i = xs.length := by omega
    subst e
    exact .inl ⟨⟨xs, q, Nat.le_refl _⟩, hd σ H p⟩
theorem for_tup {K : PySem.W.Frag} {a : Addr} {xs : List V} {g : TG} {tb : TS} {D : Ends} {σ : St} {H : Hp} (Pv : Nat → St → Hp → Prop) (h0 : Pv 0 σ H) (hl : ∀ i σ H, i ≤ xs.length → Pv i σ H → SqT K H a xs)
    (hs : ∀ i x σ H, xs[i]? = some x → Pv i σ H → g x σ H fun σ2 H2 => tb { D with nx := Pv (i + 1), ct := Pv (i + 1), bk := D.nx } σ2 H2) (hd : ∀ σ H, Pv xs.length σ H → D.nx σ H) :
    ∃ W : Nat → Nat → St → Hp → Prop, (∃ m, W 0 m σ H) ∧ ∀ i m σ H, W i m σ H →
      ((Itt K a).stop i H ∧ D.nx σ H) ∨ ((Itt K a).go i H ∧ ∃ N : St → Hp → Prop, (∀ σ' H', N σ' H' → ∃ m', m' < m ∧ W (i + 1) m' σ' H') ∧ ∀ x H', (Itt K a).yld i H x H' → g x σ H' fun σ2 H2 => tb { D with nx := N, ct := N, bk := D.nx } σ2 H2) := by
  refine ⟨fun i m σ H => m = xs.length - i ∧ i ≤ xs.length ∧ Pv i σ H, ⟨xs.length, by simp, Nat.zero_le _, h0⟩, ?_⟩
  rintro i m σ H ⟨rfl, hi, p⟩
  have q := hl i σ H hi p
  by_cases hlt : i < xs.length
  · refine .inr ⟨⟨xs, xs[i], q, by simp [hlt]⟩, Pv (i + 1), fun σ' H' p' => ⟨xs.length - (i + 1), by omega, rfl, hlt, p'⟩, fun x H' y => ?_⟩
    obtain ⟨e, y⟩ := y
    subst e
    exact hs i x σ _ (y xs q) p
  · have e : i = xs.length := by omega
    subst e
    exact .inl ⟨⟨xs, q, Nat.le_refl _⟩, hd σ H p⟩
theorem for_range {lo : Int} {n : Nat} {g : TG} {tb : TS} {D : Ends} {σ : St} {H : Hp} (Pv : Nat → St → Hp → Prop) (h0 : Pv 0 σ H)
    (hs : ∀ i σ H, i < n → Pv i σ H → g (.int (lo + i)) σ H fun σ2 H2 => tb { D with nx := Pv (i + 1), ct := Pv (i + 1), bk := D.nx } σ2 H2) (hd : ∀ σ H, Pv n σ H → D.nx σ H) :
    ∃ W : Nat → Nat → St → Hp → Prop, (∃ m, W 0 m σ H) ∧ ∀ i m σ H, W i m σ H →
      ((Itr lo n).stop i H ∧ D.nx σ H) ∨ ((Itr lo n).go i H ∧ ∃ N : St → Hp → Prop, (∀ σ' H', N σ' H' → ∃ m', m' < m ∧ W (i + 1) m' σ' H') ∧ ∀ x H', (Itr lo n).yld i H x H' → g x σ H' fun σ2 H2 => tb { D with nx := N, ct := N, bk := D.nx } σ2 H2) := by
  refine ⟨fun i m σ H => m = n - i ∧ i ≤ n ∧ Pv i σ H, ⟨n, by simp, Nat.zero_le _, h0⟩, ?_⟩
  rintro i m σ H ⟨rfl, hi, p⟩
  by_cases hlt : i < n
  · refine .inr ⟨hlt, Pv (i + 1), fun σ' H' p' => ⟨n - (i + 1), by omega, rfl, hlt, p'⟩, fun x H' y => ?_⟩
    obtain ⟨e, y⟩ := y
    subst e y
    exact hs i σ _ hlt p
  · have e : i = n := by omega
    subst e
    exact .inl ⟨Nat.le_refl _, hd σ H p⟩
end L2

namespace L2
open PySem PySem.Spec PyProof.Rows

abbrev R2 := V → V → Hp → VK → Prop
/-- a two-place operation on values: f is binaryOp op, inplaceOp op or compareOp op -/
def OpR (X : Cx) (f : Value → Value → Sem Value) (r : R2) : Prop :=
  ∀ (pins : List (Addr × Obj)) (s : Shared) (σ : St) (H : Hp) (x y : V) (v u : Value) (Q : VK), Inv X pins σ H s → RelV x v → RelV y u → r x y H Q →
    wpAny (model X.prog X.w) X.A (f v u) (EP X pins σ Q) X.xe s
/-- a one-place operation -/
def UnR (X : Cx) (f : Value → Sem Value) (r : V → Hp → VK → Prop) : Prop :=
  ∀ (pins : List (Addr × Obj)) (s : Shared) (σ : St) (H : Hp) (x : V) (v : Value) (Q : VK), Inv X pins σ H s → RelV x v → r x H Q →
    wpAny (model X.prog X.w) X.A (f v) (EP X pins σ Q) X.xe s
/-- a call of a value that is known (a builtin, a type) with values -/
def CallR (X : Cx) (f : Value) (r : List V → Hp → VK → Prop) : Prop :=
  ∀ (pins : List (Addr × Obj)) (s : Shared) (σ : St) (H : Hp) (xs : List V) (us : List Value) (Q : VK), Inv X pins σ H s → Vals xs us → r xs H Q →
    wpAny (model X.prog X.w) X.A (call f us) (EP X pins σ Q) X.xe s
abbrev tOp (r : R2) (ta tb : TE) : TE := fun σ H Q => ta σ H fun x H1 => tb σ H1 fun y H2 => r x y H2 Q
abbrev tUn (r : V → Hp → VK → Prop) (ta : TE) : TE := fun σ H Q => ta σ H fun x H1 => r x H1 Q
/-- ints in, under C, and a value out -/
def rI (C : Int → Int → Prop) (g : Int → Int → V) : R2 := fun x y H Q => ∃ i j, x = .int i ∧ y = .int j ∧ C i j ∧ Q (g i j) H
def rI0 (g : Int → Int → V) : R2 := fun x y H Q => ∃ i j, x = .int i ∧ y = .int j ∧ Q (g i j) H
def rU (g : Int → V) : V → Hp → VK → Prop := fun x H Q => ∃ i, x = .int i ∧ Q (g i) H

section
variable {X : Cx} {a b c : Expr} {ta tb tc : TE} {pos : Pos}

theorem binT (ha : PE X a ta) (hb : PE X b tb) {pins : List (Addr × Obj)} {s : Shared} {σ : St} {H : Hp} {R : V → V → Hp → Prop} (I : Inv X pins σ H s)
    (h : ta σ H fun x H1 => tb σ H1 fun y H2 => R x y H2) {Q : Value → Shared → Prop} {f : Value → Value → Sem Value}
    (hf : ∀ v u s2 x y H2, Inv X pins σ H2 s2 → RelV x v → RelV y u → R x y H2 → wpAny (model X.prog X.w) X.A (f v u) Q X.xe s2) :
    wpAny (model X.prog X.w) X.A (eval a X.env) (fun v s₁ => wpAny (model X.prog X.w) X.A (eval b X.env) (fun u s₂ => wpAny (model X.prog X.w) X.A (f v u) Q X.xe s₂) X.xe s₁) X.xe s := by
  refine thn (ha pins s σ H _ I h) fun v s1 ⟨x, H1, I1, r1, q1⟩ => ?_
  refine thn (hb pins s1 σ H1 _ I1 q1) fun u s2 ⟨y, H2, I2, r2, q2⟩ => ?_
  exact hf v u s2 x y H2 I2 r1 r2 q2

theorem pe_op {op : Operator} {r : R2} (ho : OpR X (binaryOp op) r) (ha : PE X a ta) (hb : PE X b tb) : PE X (.BinOp a op b pos) (tOp r ta tb) := by
  intro pins s σ H Q I h
  exact wpAny_BinOp (binT ha hb I h fun v u s2 x y H2 I2 rx ry q => ho pins s2 σ H2 x y v u Q I2 rx ry q)
theorem pe_un {op : UnaryOp} {r : V → Hp → VK → Prop} (ho : UnR X (unaryOp op) r) (ha : PE X a ta) : PE X (.UnaryOp op a pos) (tUn r ta) := by
  intro pins s σ H Q I h
  exact UnaryOp_ (thn (ha pins s σ H _ I h) fun v s1 ⟨x, H1, I1, r1, q1⟩ => ho pins s1 σ H1 x v Q I1 r1 q1)
/-! ### ints -/
theorem opI {f : Value → Value → Sem Value} {C : Int → Int → Prop} {g : Int → Int → Int}
    (rule : ∀ (i j : Int) (t u : Tok) (s : Shared) (Q : Value → Shared → Prop) (E : Value → Shared → Prop), C i j → Q (.int (g i j) s.toks) { s with toks := s.toks + 1 } → wpAny (model X.prog X.w) X.A (f (.int i t) (.int j u)) Q E s) :
    OpR X f (rI C fun i j => .int (g i j)) := by
  intro pins s σ H x y v u Q I rx ry h
  obtain ⟨i, j, rfl, rfl, hc, q⟩ := h
  obtain ⟨t, rfl⟩ := rx
  obtain ⟨t', rfl⟩ := ry
  exact rule i j t t' s _ _ hc ⟨.int (g i j), H, I.tok _, ⟨_, rfl⟩, q⟩
theorem opI0 {f : Value → Value → Sem Value} {g : Int → Int → Int}
    (rule : ∀ (i j : Int) (t u : Tok) (s : Shared) (Q : Value → Shared → Prop) (E : Value → Shared → Prop), Q (.int (g i j) s.toks) { s with toks := s.toks + 1 } → wpAny (model X.prog X.w) X.A (f (.int i t) (.int j u)) Q E s) :
    OpR X f (rI0 fun i j => .int (g i j)) := by
  intro pins s σ H x y v u Q I rx ry h
  obtain ⟨i, j, rfl, rfl, q⟩ := h
  obtain ⟨t, rfl⟩ := rx
  obtain ⟨t', rfl⟩ := ry
  exact rule i j t t' s _ _ ⟨.int (g i j), H, I.tok _, ⟨_, rfl⟩, q⟩
theorem opB0 {f : Value → Value → Sem Value} {g : Int → Int → Bool}
    (rule : ∀ (i j : Int) (t u : Tok) (s : Shared) (Q : Value → Shared → Prop) (E : Value → Shared → Prop), Q (.bool (g i j)) s → wpAny (model X.prog X.w) X.A (f (.int i t) (.int j u)) Q E s) :
    OpR X f (rI0 fun i j => .bl (g i j)) := by
  intro pins s σ H x y v u Q I rx ry h
  obtain ⟨i, j, rfl, rfl, q⟩ := h
  obtain ⟨t, rfl⟩ := rx
  obtain ⟨t', rfl⟩ := ry
  exact rule i j t t' s _ _ ⟨.bl (g i j), H, I, rfl, q⟩

def CPow (i j : Int) : Prop := 0 ≤ j ∧ j ≤ 1000000 ∧ i.natAbs < 2 ^ 64
def CMul (i j : Int) : Prop := (-(2 ^ 64) < i ∧ i < 2 ^ 64) ∨ (-(2 ^ 64) < j ∧ j < 2 ^ 64)
theorem CMul.ok {i j : Int} (h : CMul i j) : IntMulOk i j := by
  rcases h with ⟨h1, h2⟩ | ⟨h1, h2⟩
  · exact .of_left (intBits_le_64 h1 h2)
  · exact .of_right (intBits_le_64 h1 h2)
theorem op_add : OpR X (binaryOp .Add) (rI0 fun i j => .int (i + j)) := opI0 fun _ _ _ _ _ _ _ q => add_int q
theorem op_sub : OpR X (binaryOp .Sub) (rI0 fun i j => .int (i - j)) := opI0 fun _ _ _ _ _ _ _ q => sub_int q
theorem op_mul : OpR X (binaryOp .Mult) (rI CMul fun i j => .int (i * j)) := opI fun _ _ _ _ _ _ _ hc q => mul_int q hc.ok
/-- % by a positive divisor of any size -/
theorem op_mod : OpR X (binaryOp .Mod) (rI (fun _ j => 0 < j) fun i j => .int (i % j)) := opI fun i j _ _ _ _ _ hc q => by
  have h1 : (0 : Int) < j := hc
  exact mod_int' (by omega) (by rw [Int.fmod_eq_emod_of_nonneg i (by omega)]; exact q)
theorem op_pow : OpR X (binaryOp .Pow) (rI CPow fun i j => .int (i ^ j.toNat)) := opI fun _ _ _ _ _ _ _ hc q => pow_int_small hc.1 hc.2.1 hc.2.2 q
theorem unI {f : Value → Sem Value} {g : Int → Int}
    (rule : ∀ (i : Int) (t : Tok) (s : Shared) (Q : Value → Shared → Prop) (E : Value → Shared → Prop), Q (.int (g i) s.toks) { s with toks := s.toks + 1 } → wpAny (model X.prog X.w) X.A (f (.int i t)) Q E s) :
    UnR X f (rU fun i => .int (g i)) := by
  intro pins s σ H x v Q I rx h
  obtain ⟨i, rfl, q⟩ := h
  obtain ⟨t, rfl⟩ := rx
  exact rule i t s _ _ ⟨.int (g i), H, I.tok _, ⟨_, rfl⟩, q⟩
theorem un_neg : UnR X (unaryOp .USub) (rU fun i => .int (-i)) := unI fun _ _ _ _ _ q => neg_int q
/-! ### bools among ints: n += (a < b) -/
end

/-! ### comparisons -/
/-- the scalars that == tells apart as data does -/
def scal : V → V → Bool
  | .non, .non => true | .non, .int _ => true | .int _, .non => true | .non, .bl _ => true | .bl _, .non => true | .non, .str _ => true | .str _, .non => true
  | .int _, .int _ => true | .bl _, .bl _ => true | .str _, .str _ => true | .byt _, .byt _ => true
  | .int _, .str _ => true | .str _, .int _ => true | .bl _, .str _ => true | .str _, .bl _ => true
  | _, _ => false
def rEq : R2 := fun x y H Q => scal x y = true ∧ Q (.bl (decide (x = y))) H
def rNe : R2 := fun x y H Q => scal x y = true ∧ Q (.bl (!decide (x = y))) H

theorem dec_int {i j : Int} : decide (V.int i = V.int j) = (i == j) := by
  rw [Bool.eq_iff_iff]
  simp
theorem dec_bl {i j : Bool} : decide (V.bl i = V.bl j) = (i == j) := by
  rw [Bool.eq_iff_iff]
  simp
theorem dec_str {i j : Str} : decide (V.str i = V.str j) = (i == j) := by
  rw [Bool.eq_iff_iff]
  simp
theorem dec_byt {i j : Array UInt8} : decide (V.byt i = V.byt j) = (i.toList == j.toList) := by
  rw [Bool.eq_iff_iff]
  cases i
  cases j
  simp

section
variable {X : Cx} {a b c : Expr} {ta tb tc : TE} {pos : Pos}
theorem fin_bl {pins : List (Addr × Obj)} {σ : St} {H : Hp} {s : Shared} {Q : VK} {k k' : Bool} (I : Inv X pins σ H s) (q : Q (.bl k) H) (e : k = k') : EP X pins σ Q (.bool k') s := by
  subst e
  exact ⟨.bl k, H, I, rfl, q⟩
theorem op_eq : OpR X (compareOp .Eq) rEq := by
  intro pins s σ H x y v u Q I rx ry h
  obtain ⟨hs, q⟩ := h
  cases x with
  | non =>
    cases rx
    cases y with
    | non => cases ry; exact PySem.EqNone.eq_none_none (fin_bl I q (by simp))
    | bl j => cases ry; exact PySem.EqNone.eq_none_bool (fin_bl I q (by simp))
    | int j => obtain ⟨t', rfl⟩ := ry; exact PySem.EqNone.eq_none_int (fin_bl I q (by simp))
    | str j => obtain ⟨t', rfl⟩ := ry; exact PySem.EqNone.eq_none_str (fin_bl I q (by simp))
    | _ => exact absurd (show false = true from hs) Bool.false_ne_true
  | bl i =>
    cases rx
    cases y with
    | non => cases ry; exact PySem.EqNone.eq_bool_none (fin_bl I q (by simp))
    | bl j => cases ry; exact eq_bool (fin_bl I q dec_bl)
    | str j => obtain ⟨t', rfl⟩ := ry; exact PySem.EqMixed.eq_bool_str (fin_bl I q (by simp))
    | _ => exact absurd (show false = true from hs) Bool.false_ne_true
  | int i =>
    obtain ⟨t, rfl⟩ := rx
    cases y with
    | non => cases ry; exact PySem.EqNone.eq_int_none (fin_bl I q (by simp))
    | int j => obtain ⟨t', rfl⟩ := ry; exact eq_int (fin_bl I q dec_int)
    | str j => obtain ⟨t', rfl⟩ := ry; exact PySem.EqMixed.eq_int_str (fin_bl I q (by simp))
    | _ => exact absurd (show false = true from hs) Bool.false_ne_true
  | str i =>
    obtain ⟨t, rfl⟩ := rx
    cases y with
    | non => cases ry; exact PySem.EqNone.eq_str_none (fin_bl I q (by simp))
    | bl j => cases ry; exact PySem.EqMixed.eq_str_bool (fin_bl I q (by simp))
    | int j => obtain ⟨t', rfl⟩ := ry; exact PySem.EqMixed.eq_str_int (fin_bl I q (by simp))
    | str j => obtain ⟨t', rfl⟩ := ry; exact eq_str (fin_bl I q dec_str)
    | _ => exact absurd (show false = true from hs) Bool.false_ne_true
  | byt i =>
    obtain ⟨t, rfl⟩ := rx
    cases y with
    | byt j => obtain ⟨t', rfl⟩ := ry; exact PySem.W.eq_bytes (fin_bl I q dec_byt)
    | _ => exact absurd (show false = true from hs) Bool.false_ne_true
  | _ => cases y <;> exact absurd (show false = true from hs) Bool.false_ne_true
theorem op_ne : OpR X (compareOp .NotEq) rNe := by
  intro pins s σ H x y v u Q I rx ry h
  obtain ⟨hs, q⟩ := h
  cases x with
  | non =>
    cases rx
    cases y with
    | non => cases ry; exact PySem.EqNone.ne_none_none (fin_bl I q (by simp))
    | bl j => cases ry; exact PySem.EqNone.ne_none_bool (fin_bl I q (by simp))
    | int j => obtain ⟨t', rfl⟩ := ry; exact PySem.EqNone.ne_none_int (fin_bl I q (by simp))
    | str j => obtain ⟨t', rfl⟩ := ry; exact PySem.EqNone.ne_none_str (fin_bl I q (by simp))
    | _ => exact absurd (show false = true from hs) Bool.false_ne_true
  | bl i =>
    cases rx
    cases y with
    | non => cases ry; exact PySem.EqNone.ne_bool_none (fin_bl I q (by simp))
    | bl j => cases ry; exact ne_bool (fin_bl I q (congrArg not dec_bl))
    | str j => obtain ⟨t', rfl⟩ := ry; exact PySem.EqMixed.ne_bool_str (fin_bl I q (by simp))
    | _ => exact absurd (show false = true from hs) Bool.false_ne_true
  | int i =>
    obtain ⟨t, rfl⟩ := rx
    cases y with
    | non => cases ry; exact PySem.EqNone.ne_int_none (fin_bl I q (by simp))
    | int j => obtain ⟨t', rfl⟩ := ry; exact ne_int (fin_bl I q (congrArg not dec_int))
    | str j => obtain ⟨t', rfl⟩ := ry; exact PySem.EqMixed.ne_int_str (fin_bl I q (by simp))
    | _ => exact absurd (show false = true from hs) Bool.false_ne_true
  | str i =>
    obtain ⟨t, rfl⟩ := rx
    cases y with
    | non => cases ry; exact PySem.EqNone.ne_str_none (fin_bl I q (by simp))
    | bl j => cases ry; exact PySem.EqMixed.ne_str_bool (fin_bl I q (by simp))
    | int j => obtain ⟨t', rfl⟩ := ry; exact PySem.EqMixed.ne_str_int (fin_bl I q (by simp))
    | str j => obtain ⟨t', rfl⟩ := ry; exact ne_str (fin_bl I q (congrArg not dec_str))
    | _ => exact absurd (show false = true from hs) Bool.false_ne_true
  | byt i =>
    obtain ⟨t, rfl⟩ := rx
    cases y with
    | byt j => obtain ⟨t', rfl⟩ := ry; exact PySem.W.ne_bytes (fin_bl I q (congrArg not dec_byt))
    | _ => exact absurd (show false = true from hs) Bool.false_ne_true
  | _ => cases y <;> exact absurd (show false = true from hs) Bool.false_ne_true

theorem op_lt : OpR X (compareOp .Lt) (rI0 fun i j => .bl (decide (i < j))) := opB0 fun _ _ _ _ _ _ _ q => lt_int q
theorem op_le : OpR X (compareOp .LtE) (rI0 fun i j => .bl (decide (i ≤ j))) := opB0 fun _ _ _ _ _ _ _ q => le_int q
theorem op_gt : OpR X (compareOp .Gt) (rI0 fun i j => .bl (decide (j < i))) := opB0 fun _ _ _ _ _ _ _ q => gt_int q
theorem op_ge : OpR X (compareOp .GtE) (rI0 fun i j => .bl (decide (j ≤ i))) := opB0 fun _ _ _ _ _ _ _ q => ge_int q
/-- is None, is not None: the right side a value none -/
theorem op_isN : OpR X (compareOp .Is) (fun x y H Q => y = .non ∧ Q (.bl (decide (x = .non))) H) := by
  intro pins s σ H x y v u Q I rx ry h
  obtain ⟨rfl, q⟩ := h
  cases ry
  refine is_none_gen (fin_bl I q ?_)
  cases x <;> first
    | (cases rx; rfl)
    | (obtain ⟨t, rfl⟩ := rx; rfl)
theorem op_notN : OpR X (compareOp .IsNot) (fun x y H Q => y = .non ∧ Q (.bl (!decide (x = .non))) H) := by
  intro pins s σ H x y v u Q I rx ry h
  obtain ⟨rfl, q⟩ := h
  cases ry
  refine isnot_none_gen (fin_bl I q ?_)
  cases x <;> first
    | (cases rx; rfl)
    | (obtain ⟨t, rfl⟩ := rx; rfl)

/-- two rules for one operation: by cases -/
theorem OpR.or {f : Value → Value → Sem Value} {r r' : R2} (h : OpR X f r) (h' : OpR X f r') : OpR X f (fun x y H Q => r x y H Q ∨ r' x y H Q) := by
  intro pins s σ H x y v u Q I rx ry q
  rcases q with q | q
  · exact h pins s σ H x y v u Q I rx ry q
  · exact h' pins s σ H x y v u Q I rx ry q

theorem nomark (b : Expr) {op : CmpOp} (h : op ≠ .In := by decide) (h2 : op ≠ .NotIn := by decide) : behindInMarks op b = false := by
  have e1 : (op == CmpOp.In) = false := by cases op <;> first | rfl | exact absurd rfl h
  have e2 : (op == CmpOp.NotIn) = false := by cases op <;> first | rfl | exact absurd rfl h2
  cases b <;> simp [behindInMarks, e1, e2]
/-- a comparison as a value; hm: nomark b, or (for in, not in) by with_unfolding_all rfl -/
theorem pe_cmpR {op : CmpOp} {r : R2} (ho : OpR X (compareOp op) r) (ha : PE X a ta) (hb : PE X b tb) (hm : behindInMarks op b = false) : PE X (.Compare a [op] [b] pos) (tOp r ta tb) := by
  intro pins s σ H Q I h
  exact wpAny_Compare1 (binT ha hb I h fun v u s2 x y H2 I2 rx ry q => ho pins s2 σ H2 x y v u Q I2 rx ry q) hm
/-- a reading of a value as a test -/
abbrev tTest (t : TE) : TT := fun σ H Q => t σ H fun x H' => ∃ k, x = .bl k ∧ Q k H'
theorem pt_cmpR {op : CmpOp} {r : R2} (ho : OpR X (compareOp op) r) (ha : PE X a ta) (hb : PE X b tb) (hm : behindInMarks op b = false) : PT X (.Compare a [op] [b] pos) (tTest (tOp r ta tb)) := by
  intro pins s σ H Q I h
  refine wpAny_isTrue_Compare1 (thn (ha pins s σ H _ I h) fun v s1 ⟨x, H1, I1, r1, q1⟩ => thn (hb pins s1 σ H1 _ I1 q1) fun u s2 ⟨y, H2, I2, r2, q2⟩ =>
    thn (ho pins s2 σ H2 x y v u _ I2 r1 r2 q2) fun c s3 ⟨z, H3, I3, r3, k, e, q3⟩ => ?_) hm
  subst e
  cases r3
  exact wpAny_truthy_bool ⟨H3, I3, q3⟩
/-! ### truth -/
theorem line63 : (sizeLine : Nat) < 2 ^ 63 := by rw [sizeLine_eq]; decide
/-! ### strs and bytes -/
/-! ### scalar builtins, by CallR -/
theorem vals1 {x : V} {us : List Value} (r : Vals [x] us) : ∃ u, us = [u] ∧ RelV x u := by
  cases r with
  | cons r1 r2 => cases r2; exact ⟨_, rfl, r1⟩
theorem vals2 {x y : V} {us : List Value} (r : Vals [x, y] us) : ∃ u w', us = [u, w'] ∧ RelV x u ∧ RelV y w' := by
  cases r with
  | cons r1 r2 =>
    cases r2 with
    | cons r3 r4 => cases r4; exact ⟨_, _, rfl, r1, r3⟩
theorem call_abs : CallR X (.builtin "abs") (fun xs H Q => ∃ i, xs = [.int i] ∧ Q (.int (if i < 0 then -i else i)) H) := by
  intro pins s σ H xs us Q I r h
  obtain ⟨i, rfl, q⟩ := h
  obtain ⟨u, rfl, t, rfl⟩ := vals1 r
  exact call_abs_int fun u tk => ⟨.int (if i < 0 then -i else i), H, I.tok _, ⟨_, rfl⟩, q⟩
theorem call_max2 (hc : X.calm = true) : CallR X (.builtin "max") (fun xs H Q => ∃ i j, xs = [.int i, .int j] ∧ Q (.int (if j > i then j else i)) H) := by
  intro pins s σ H xs us Q I r h
  obtain ⟨i, j, rfl, q⟩ := h
  obtain ⟨u, w', rfl, ⟨t, rfl⟩, ⟨t', rfl⟩⟩ := vals2 r
  refine max_two_ints (I.ok.hd hc) fun h' tk k => ⟨_, H, I.kept k, ?_, q⟩
  by_cases hj : j > i
  · rw [if_pos hj, if_pos hj]; exact ⟨_, rfl⟩
  · rw [if_neg hj, if_neg hj]; exact ⟨_, rfl⟩
theorem call_int1 : CallR X (.type "int") (fun xs H Q => (∃ i, xs = [.int i] ∧ Q (.int i) H) ∨ ∃ k, xs = [.bl k] ∧ Q (.int (if k then 1 else 0)) H) := by
  intro pins s σ H xs us Q I r h
  rcases h with ⟨i, rfl, q⟩ | ⟨k, rfl, q⟩
  · obtain ⟨u, rfl, t, rfl⟩ := vals1 r
    exact call_int_int ⟨.int i, H, I, ⟨_, rfl⟩, q⟩
  · obtain ⟨u, rfl, r1⟩ := vals1 r
    cases r1
    exact call_int_bool ⟨.int (if k then 1 else 0), H, I.tok _, ⟨_, rfl⟩, q⟩
end
end L2

namespace L2
open PySem PySem.Spec PyProof.Rows

/-! ### an instance, its attributes a map -/
structure ObjM (h : Heap) (x dx C : Addr) (mA : Str → Option Value) : Prop where
  obj : h.get? x = some (PySem.W.instObj C dx)
  ns : h.Ns1 dx mA
  ne : dx ≠ x

theorem lookIn_ns {h : Heap} {dx : Addr} {mA : Str → Option Value} (n : h.Ns1 dx mA) : ∃ od, h.get? dx = some od ∧ ∀ name, PySem.W.lookIn name od = some (mA name) := by
  obtain ⟨o, es, ep, ho, hd, hk, _, hm⟩ := n
  refine ⟨o, ho, fun name => ?_⟩
  have e := hm name
  unfold nsFind findBy at e
  rw [← Array.find?_toList] at e
  unfold PySem.W.lookIn
  rw [hd]
  dsimp only
  split
  · rename_i y q
    rw [q] at e
    exact congrArg some e
  · rename_i q
    rw [q] at e
    have a : es.toList.any (·.refKey) = false := by
      rw [List.any_eq_false]
      intro y hy
      obtain ⟨z, t, hkey⟩ := hk y (Array.mem_toList_iff.mp hy)
      simp [DictEntry.refKey, hkey]
    have a' : ¬ es.toList.any (·.refKey) = true := by rw [a]; exact Bool.false_ne_true
    rw [if_neg a']
    exact congrArg some e

theorem ObjM.look {h : Heap} {x dx C : Addr} {mA : Str → Option Value} (I : ObjM h x dx C mA) : ∃ od, PySem.W.InstAt h x (PySem.W.instObj C dx) C (some od) ∧ ∀ name, PySem.W.lookIn name od = some (mA name) :=
  let ⟨od, ho, hl⟩ := lookIn_ns I.ns
  ⟨od, ⟨I.obj, rfl, rfl, ho⟩, hl⟩

section
variable {prog : Program} {w : World} {A : Around} {E : Value → Shared → Prop} {s : Shared} {K : PySem.W.Frag} {x dx C f : Addr} {mA : Str → Option Value} {name : Str} {v : Value}

end

/-! ### the attributes as a list of pairs -/
section
variable {P : Program} {w : World} {H H' : Hp} {h h' : Heap} {a C dx : Addr} {fs fs' : List (Str × V)}
theorem ins_get (hok : HOk P w H h) (e : H a = some (.ins C dx fs)) : ∃ mA, ObjM h a dx C mA ∧ (∀ f, RelO (fs.lookup f) (mA f)) ∧ PySem.Within mA (fs.map (·.1)) ∧ fs.length ≤ 1000 ∧ H dx = some (.own a) := by
  obtain ⟨d, z, ne, ob, mA, n, r, q⟩ := (show ObjOk P w H h a (.ins C dx fs) from hok a _ e)
  exact ⟨mA, ⟨ob, n, ne⟩, r, q, z, d⟩
end

/-! ### what of the text a class must have -/
structure Cls (K : PySem.W.Frag) (C : Addr) : Prop where
  pg : PySem.W.plainGet K C Str.empty = true
  hd : PySem.W.hasDictIn K C = true
  po : PySem.W.plainOver K C = true
  sa : PySem.W.findIn K (.ref C) "__setattr__" = some (some (.builtin "object.__setattr__"))
theorem Cls.get {K : PySem.W.Frag} {C : Addr} (c : Cls K C) (f : Str) : PySem.W.plainGet K C f = true := c.pg
/-- a constant of the class -/
structure Con (K : PySem.W.Frag) (C : Addr) (f : Str) (v : V) (u : Value) : Prop where
  at_ : PySem.W.findIn K (.ref C) f = some (some u)
  rel : RelV v u
  get : PySem.W.specialIn K u "__get__" = some none
  cp : PySem.W.copiedNames.contains f = false
/-- a method: a plain def of the class or of one above it -/
structure Meth (K : PySem.W.Frag) (C : Addr) (m : Str) (f : Addr) : Prop where
  at_ : PySem.W.findIn K (.ref C) m = some (some (.ref f))
  fn : PySem.W.isFn K (.ref f) = true
  kp : PySem.W.keepIn K (.ref f) = true

section
variable {X : Cx} {pins : List (Addr × Obj)} {σ : St} {H : Hp} {s : Shared} {a C dx : Addr} {fs : List (Str × V)} {f : Str} {v : V} {A : Around} {E : Value → Shared → Prop}

/-- e.f where nothing but the object is asked: through attributeBase (super) and the last hold -/
theorem attr_of {prog : Program} {w : World} {env : Env} {e : Expr} {f : Str} {pos : Pos} {s : Shared} {Q : Value → Shared → Prop} (hb : attributeBase e f env (eval e env) = eval e env)
    (h : wpAny (model prog w) A (eval e env) (fun o s₁ => wpAny (model prog w) A (getAttr o f true) Q E s₁) E s) : wpAny (model prog w) A (eval (.Attribute e f pos) env) Q E s :=
  Attribute_any_ h (by rw [arm_eval_Attribute, hb])
end

/-! ### readings and rules -/
section
variable {X : Cx} {o e value : Expr} {f : Str} {pos pos' tpos : Pos} {ta tv : TE}
end

/-! ### isinstance -/
section
variable {X : Cx} {pins : List (Addr × Obj)} {σ : St} {H : Hp} {s : Shared} {A : Around} {E : Value → Shared → Prop} {Q : Value → Shared → Prop} {c : Value} {b : Bool}
/-- the type of a value, as the fragment's deciders take it; for an instance its class -/
inductive TyOf (K : PySem.W.Frag) (H : Hp) : V → Value → Prop where
  | non : TyOf K H .non (.type "NoneType")
  | bl (x : Bool) : TyOf K H (.bl x) (.type "bool")
  | int (i : Int) : TyOf K H (.int i) (.type "int")
  | str (x : Str) : TyOf K H (.str x) (.type "str")
  | flt (x : UInt64) : TyOf K H (.flt x) (.type "float")
  | lst {a : Addr} {xs : List V} (e : H a = some (.lst xs)) : TyOf K H (.ref a) (.type "list")
  | frz {a : Addr} {o : Obj} {xs : List V} (e : H a = some (.frz o (.lst xs))) : TyOf K H (.ref a) (.type "list")
  | tup {a : Addr} {xs : List V} (e : H a = some (.tup xs)) : TyOf K H (.ref a) (.type "tuple")
  | dK {a : Addr} {kvs : List (Key × V)} (e : H a = some (.dK kvs)) : TyOf K H (.ref a) (.type "dict")
  | dT {a : Addr} {kvs : List (List Key × V)} (e : H a = some (.dT kvs)) : TyOf K H (.ref a) (.type "dict")
  | ins {a C dx : Addr} {fs : List (Str × V)} (e : H a = some (.ins C dx fs)) (cl : Cls K C) (ha : PySem.W.findIn K (.ref C) "__class__" = some (some (.builtin "object.__class__")))
      (hn : PySem.W.specialIn K (.builtin "object.__class__") "__get__" = some (some (.builtin "getset_descriptor.__get__"))) (htk : PySem.W.takesIn K (.builtin "object.__class__") = some true)
      (hm : PySem.W.mroIn K C (.type "object") = some true) : TyOf K H (.ref a) (.ref C)
/-- isinstance(x, c) for one class c, a built-in or an own one: kitOne's answer -/
theorem isinst_ok {x : V} {u t : Value} (I : Inv X pins σ H s) (rx : RelV x u) (ty : TyOf X.K H x t) (e : PySem.W.kitOne X.K t c = some b) (h : ∀ tk, Q (.bool b) { s with toks := tk }) :
    wpAny (model X.prog X.w) A (call (.builtin "isinstance") [u, c]) Q E s := by
  cases ty with
  | non => cases (show u = Value.none from rx); exact PySem.W.kia_one PySem.W.kitx_none I.kIn True.intro e (fun z => nomatch z) h
  | bl y => cases (show u = Value.bool y from rx); exact PySem.W.kia_one PySem.W.kitx_bool I.kIn True.intro e (fun z => nomatch z) h
  | int i => obtain ⟨t, q⟩ := (show ∃ t, u = Value.int i t from rx); cases q; exact PySem.W.kia_one PySem.W.kitx_int I.kIn True.intro e (fun z => nomatch z) h
  | str y => obtain ⟨t, q⟩ := (show ∃ t, u = Value.str y t from rx); cases q; exact PySem.W.kia_one PySem.W.kitx_str I.kIn True.intro e (fun z => nomatch z) h
  | flt y => obtain ⟨t, q⟩ := (show ∃ t, u = Value.float y t from rx); cases q; exact PySem.W.kia_one PySem.W.kitx_float I.kIn True.intro e (fun z => nomatch z) h
  | @lst a xs ea =>
    cases (show u = Value.ref a from rx)
    obtain ⟨_, _, n, _, h1⟩ := (show ObjOk X.prog X.w H s.heap a (.lst xs) from I.hok a _ ea)
    exact PySem.W.kia_one PySem.W.kitx_list I.kIn ⟨_, h1, rfl⟩ e (fun z => nomatch z) h
  | @frz a ob xs ea =>
    cases (show u = Value.ref a from rx)
    obtain ⟨_, _, _, n, _, h1⟩ := (show ObjOk X.prog X.w H s.heap a (.frz ob (.lst xs)) from I.hok a _ ea)
    exact PySem.W.kia_one PySem.W.kitx_list I.kIn ⟨_, h1, rfl⟩ e (fun z => nomatch z) h
  | @tup a xs ea =>
    cases (show u = Value.ref a from rx)
    obtain ⟨_, _, _, p⟩ := (show ObjOk X.prog X.w H s.heap a (.tup xs) from I.hok a _ ea)
    obtain ⟨o, h1, h2, _⟩ := p
    exact PySem.W.kia_one PySem.W.kitx_tuple I.kIn ⟨o, h1, h2⟩ e (fun z => nomatch z) h
  | @dK a kvs ea =>
    cases (show u = Value.ref a from rx)
    obtain ⟨_, _, vs, _, p⟩ := (show ObjOk X.prog X.w H s.heap a (.dK kvs) from I.hok a _ ea)
    obtain ⟨o, es, ep, h1, h2, _⟩ := p
    exact PySem.W.kia_one PySem.W.kitx_dict I.kIn ⟨o, h1, h2.1⟩ e (fun z => nomatch z) h
  | @dT a kvs ea =>
    cases (show u = Value.ref a from rx)
    obtain ⟨_, _, xs, _, o, es, ep, h1, h2, _⟩ := (show ObjOk X.prog X.w H s.heap a (.dT kvs) from I.hok a _ ea)
    exact PySem.W.kia_one PySem.W.kitx_dict I.kIn ⟨o, h1, h2.1⟩ e (fun z => nomatch z) h
  | @ins a C dx fs ea cl ha hn htk hm =>
    cases (show u = Value.ref a from rx)
    obtain ⟨mA, O, _⟩ := ins_get I.hok ea
    obtain ⟨od, J, _⟩ := O.look
    exact PySem.W.kia_one (PySem.W.kitx_own (cl.get _) cl.hd ha hn htk hm) I.kIn J e (fun z => nomatch z) h
end
end L2

namespace L2
open PySem PySem.Spec PyProof.Rows

/-! ### room -/
structure Room (k : Nat) (A : Around) : Prop where
  hd : A.handled = none
  dp : A.depth + 3 * k + 5 < recursionLimit
  un : A.units + 16 * k + 200 < cLine
  gd : A.guards = some []
theorem Room.mono {j k : Nat} {A : Around} (r : Room k A) (h : j ≤ k) : Room j A := ⟨r.hd, by have := r.dp; omega, by have := r.un; omega, r.gd⟩
theorem Room.deeper {k : Nat} {A : Around} (r : Room (k + 1) A) (env : Env) : Room k (A.deeper env) :=
  ⟨r.hd, by have := r.dp; show A.depth + 1 + 3 * k + 5 < _; omega, by have := r.un; show A.units + 3 + 16 * k + 200 < _; omega, r.gd⟩
theorem Room.depth {k : Nat} {A : Around} (r : Room k A) : A.depth < recursionLimit := by have := r.dp; omega
theorem Room.units {k : Nat} {A : Around} (r : Room k A) : A.units + 64 < cLine := by have := r.un; omega
/-! ### argument lists and displays -/
abbrev tNil : TA := fun _ H Q => Q [] H
abbrev tCons (ta : TE) (tr : TA) : TA := fun σ H Q => ta σ H fun x H1 => tr σ H1 fun xs H2 => Q (x :: xs) H2
section
variable {X : Cx} {e : Expr} {es : List Expr} {te : TE} {t : TA} {pos : Pos}
theorem pa_nil : PA X [] tNil := fun _ _ _ _ H Q I h => Calls.spliced_nil ⟨[], H, I, .nil, h⟩
theorem pa_cons (ha : PE X e te) (hr : PA X es t) (hs : starEach (e :: es) X.env = (false, eval e X.env) :: starEach es X.env := by rfl) : PA X (e :: es) (tCons te t) := by
  intro pos pins s σ H Q I h
  rw [hs]
  show wpAny _ _ (spliced ((false, eval e X.env) :: backTo pos (starEach es X.env))) _ _ s
  refine Calls.spliced_cons (thn (ha pins s σ H _ I h) fun u s1 ⟨x, H1, I1, r1, q1⟩ => ?_)
  exact thn (hr pos pins s1 σ H1 _ I1 q1) fun us s2 ⟨xs, H2, I2, r2, q2⟩ => ⟨x :: xs, H2, I2, .cons r1 r2, q2⟩

/-- a tuple, a list of written items -/
abbrev tTup (t : TA) : TE := fun σ H Q => t σ H fun xs H1 => xs.length ≤ sizeLine ∧ ∀ p, H1 p = none → Q (.ref p) (upd H1 p (.tup xs))
abbrev tLst (t : TA) : TE := fun σ H Q => t σ H fun xs H1 => xs.length ≤ sizeLine ∧ ∀ p, H1 p = none → Q (.ref p) (upd H1 p (.lst xs))
theorem pe_tup {x1} (h : PA X es t) : PE X (.Tuple es x1 pos) (tTup t) := by
  intro pins s σ H Q I hq
  refine wpAny_Tuple_spliced (thn (h pos pins s σ H _ I hq) fun us s1 ⟨xs, H1, I1, r, z, q⟩ => ⟨by rw [← r.length]; exact z, ?_⟩)
  have hf : H1 s1.heap.objs.size = none := I1.hok.fresh (Nat.le_refl _)
  refine ⟨.ref s1.heap.objs.size, upd H1 s1.heap.objs.size (.tup xs), I1.laid (t' := s1.toks) (fun b u e => Heap.get?_push_of_some _ e) (Nat.le_refl _) ?_, rfl, q _ hf⟩
  exact ⟨z, us, r, ⟨_, Heap.get?_push_size _ rfl, rfl, _, rfl, rfl⟩⟩
theorem pe_lst (h : PA X es t) : PE X (.List es pos) (tLst t) := by
  intro pins s σ H Q I hq
  refine wpAny_List_spliced (thn (h pos pins s σ H _ I hq) fun us s1 ⟨xs, H1, I1, r, z, q⟩ => ⟨by rw [← r.length]; exact z, ?_⟩)
  have hf : H1 s1.heap.objs.size = none := I1.hok.fresh (Nat.le_refl _)
  refine ⟨.ref s1.heap.objs.size, upd H1 s1.heap.objs.size (.lst xs), I1.laid (t' := s1.toks) (fun b u e => Heap.get?_push_of_some _ e) (Nat.le_refl _) ?_, rfl, q _ hf⟩
  exact ⟨z, us, 0, r, Heap.get?_push_size _ rfl⟩
end

/-! ### what a def promises -/
/-- a def's promise: the bound arguments in the parameters' order, the heap, the wanted end, the wanted exception -/
abbrev Sp := List V → Hp → VK → XK → Prop
/-- how an exception lies behind a call (file 08 gives it): the callers' frames, abstract heap and state ahead of the call, the wish, the exception, the state -/
abbrev CXT := List Env → Hp → Shared → XK → Value → Shared → Prop

/-- the state at a call -/
structure Env0 (P : Program) (w : World) (K : PySem.W.Frag) (mg : Str → Option Value) (base : Heap) (A : Around) (outer : List Env) (s : Shared) (H : Hp) : Prop where
  frames : A.frames = some outer
  mod : Mod K mg base
  bs : ∀ b o, base.get? b = some o → s.heap.get? b = some o ∧ H b = none
  bsz : base.objs.size ≤ s.heap.objs.size
  funs : s.heap.FunFrames base outer
  frf : ∀ b ∈ frs outer, H b = none
  hok : HOk P w H s.heap
  bare : AllBare s.gens
/-- a call's end -/
def CE (outer : List Env) (P : Program) (w : World) (H : Hp) (s : Shared) (Q : VK) (u : Value) (s' : Shared) : Prop :=
  ∃ v H', s'.os = s.os ∧ AllBare s'.gens ∧ Un (frs outer) [] H H' s.heap s'.heap ∧ HOk P w H' s'.heap ∧ RelV v u ∧ Q v H'
def CR (CX : CXT) (outer : List Env) (P : Program) (w : World) (H : Hp) (s : Shared) (Q : VK) (E : XK) (r : Result) (s' : Shared) : Prop :=
  match r with
  | .ok (.ret u) => CE outer P w H s Q u s'
  | .ok _ => False
  | .error e => CX outer H s E e s'
structure FnOk (P : Program) (w : World) (K : PySem.W.Frag) (mg : Str → Option Value) (base : Heap) (CX : CXT) (k : Nat) (f : Addr) (fd : FuncData) (ps : List Str) (sp : Sp) : Prop where
  len : ∀ vs H Q E, sp vs H Q E → vs.length = ps.length
  run : ∀ (A : Around) (outer : List Env) (s : Shared) (H : Hp) (args : Args) (us : List Value) (vs : List V) (Q : VK) (E : XK), Room k A → Env0 P w K mg base A outer s H → BindsTo s fd args (ps.zip us) → Vals vs us → sp vs H Q E →
    codeAny (model P w) A (.call (.ref f) args) (CR CX outer P w H s Q E) s
section
variable {X : Cx} {pins : List (Addr × Obj)} {σ : St} {H : Hp} {s s' : Shared}
/-- from a body: what a callee wants -/
theorem Inv.env0 (I : Inv X pins σ H s) : Env0 X.prog X.w X.K X.mg X.base X.A X.stack s H :=
  ⟨I.ok.frames, I.ok.mod, I.bs, Nat.le_trans I.ok.bsz I.sz, I.stack, I.stkFree, I.hok, I.bare⟩
/-- behind a call -/
theorem Inv.after {Q : VK} {u : Value} (I : Inv X pins σ H s) (h : CE X.stack X.prog X.w H s Q u s') : EP X pins σ Q u s' := by
  obtain ⟨v, H', os, bare, un, hok, r, q⟩ := h
  obtain ⟨hh, g, d, t, os'⟩ := s'
  obtain rfl : os' = s.os := os
  exact ⟨v, H', I.call (h' := hh) (g' := g) (d' := d) (t' := t) (ch := []) un hok bare (fun b z => absurd z (by simp)), r, q⟩
end

/-! ### calls -/
/-- f(..): the written arguments, then the defaults dvs; E: what is wanted of an exception -/
abbrev tCall (sp : Sp) (dvs : List V) (E : XK) (t : TA) : TE := fun σ H Q => t σ H fun vs H1 => sp (vs ++ dvs) H1 Q E
/-- how the parameters are bound: us the positional arguments, kw the keywords' values by name, ds the defaults that fill up -/
def Binds (K : PySem.W.Frag) (fd : FuncData) (ps : List Str) (ds : List Value) : Prop :=
  ∀ (s : Shared) (us : List Value), K.In s.heap → (us ++ ds).length = ps.length → BindsTo s fd ⟨us, []⟩ (ps.zip (us ++ ds))
/-- every parameter is given -/
theorem Binds.all {K : PySem.W.Frag} {fd : FuncData} {ps : List Str} (h : ∀ us : List Value, us.length = ps.length → bindArgs fd ⟨us, []⟩ = pure (ps.zip us)) : Binds K fd ps [] := fun s us _ hl => by
  rw [List.append_nil] at hl ⊢
  exact .of_eq (h us hl)

/-- an exception of a callee reaches what this body wants of exceptions -/
def Passes (CX : CXT) (X : Cx) (E : XK) : Prop := ∀ (pins : List (Addr × Obj)) (σ : St) (H : Hp) (s : Shared) (e : Value) (s' : Shared), Inv X pins σ H s → CX X.stack H s E e s' → X.xe e s'

section
variable {X : Cx} {CX : CXT} {k : Nat} {f C : Addr} {fd : FuncData} {ps : List Str} {sp : Sp} {dvs : List V} {ds : List Value} {E : XK} {x m : Str} {p pos apos : Pos} {e o : Expr} {es : List Expr} {ta : TE} {t : TA}

/-- the callee runs -/
theorem run_fn {pins : List (Addr × Obj)} {σ : St} {H : Hp} {s : Shared} {Q : VK} {us : List Value} {vs : List V} (F : FnOk X.prog X.w X.K X.mg X.base CX k f fd ps sp) (hr : Room k X.A) (hb : Binds X.K fd ps ds) (hd : Vals dvs ds) (hx : Passes CX X E)
    (I : Inv X pins σ H s) (r : Vals vs us) (h : sp (vs ++ dvs) H Q E) : wpAny (model X.prog X.w) X.A (call (.ref f) us) (EP X pins σ Q) X.xe s := by
  have r2 : Vals (vs ++ dvs) (us ++ ds) := r.append hd
  have hl : (us ++ ds).length = ps.length := by rw [← r2.length]; exact F.len _ _ _ _ h
  refine wpAny_call (codeAny_mono (F.run X.A X.stack s H ⟨us, []⟩ (us ++ ds) (vs ++ dvs) Q E hr I.env0 (hb s us I.kIn hl) r2 h) fun r s' hq => ?_)
  cases r with
  | error e => exact hx pins σ H s e s' I hq
  | ok fl =>
    cases fl with
    | ret u => exact I.after hq
    | next => exact False.elim hq
    | brk => exact False.elim hq
    | cont => exact False.elim hq

theorem pe_call (F : FnOk X.prog X.w X.K X.mg X.base CX k f fd ps sp) (hr : Room k X.A) (hg : Gl X x) (hm : X.mg x = some (.ref f)) (hk : PySem.W.keepIn X.K (.ref f) = true) (hb : Binds X.K fd ps ds) (hd : Vals dvs ds) (hx : Passes CX X E)
    (ha : PA X (e :: es) t) (hdb : (x == ("__debug__" : Str)) = false := by decide) (he : starEach (e :: es) X.env = (false, eval e X.env) :: starEach es X.env := by rfl) (hpl : (backTo pos (starEach es X.env)).any (·.1) = false := by rfl) :
    PE X (.Call (.Name x p) (e :: es) [] pos) (tCall sp dvs E t) := by
  intro pins s σ H Q I h
  refine wpAny_Call_Name_kw (ld_glob I hg hm ?_ hdb)
  refine PySem.W.callWith_K (h₀ := X.base) I.ok.mod.kin hk (thn (ha pos pins s σ H _ I h) fun us s1 ⟨vs, H1, I1, r, q⟩ => ⟨I1.kIn, ?_⟩) he hpl
  exact run_fn F hr hb hd hx I1 r q
/-- what a class must have to be made -/
structure Mk (K : PySem.W.Frag) (C f : Addr) : Prop where
  makes : PySem.W.makesIn K C = true
  init : PySem.W.findIn K (.ref C) "__init__" = some (some (.ref f))
  fn : PySem.W.isFn K (.ref f) = true
  kp : PySem.W.keepIn K (.ref C) = true

end

/-! ### keywords -/
section
variable {X : Cx} {CX : CXT} {k : Nat} {f C : Addr} {fd : FuncData} {ps ks : List Str} {sp : Sp} {E : XK} {x m : Str} {p pos apos kpos : Pos} {e o : Expr} {es : List Expr} {kws : List Keyword} {te ta : TE} {t tk : TA} {nm : Option Str}
/-- how a call with keywords binds: g puts the positional values us and the keywords' values ws (names ks) in the parameters' order, defaults among them -/
structure KBinds (K : PySem.W.Frag) (fd : FuncData) (ps ks : List Str) (g : List Value → List Value → List Value) (gV : List V → List V → List V) : Prop where
  to : ∀ (s : Shared) (us ws : List Value), K.In s.heap → (g us ws).length = ps.length → BindsTo s fd ⟨us, ks.zip ws⟩ (ps.zip (g us ws))
  rel : ∀ {vs : List V} {us : List Value} {zs : List V} {ws : List Value}, Vals vs us → Vals zs ws → Vals (gV vs zs) (g us ws)
variable {g : List Value → List Value → List Value} {gV : List V → List V → List V}
end

/-! ### a def's body keeps its promise -/
/-- names: the parameters first -/
structure FnScope (N P : List Str) (sc : Scope) : Prop where
  kind : sc.kind = .function
  co : sc.isCoroutine = false
  gen : sc.isGenerator = false
  nd : N.Nodup
  pre : N.take P.length = P
  par : ∀ x ∈ P, sc.names.lookup x = some .local ∨ sc.names.lookup x = some .cell
  nofree : ∀ y ∈ sc.names, y.2 ≠ .free

theorem bindL_out {kindOf : Str → Option NameKind} {x : Str} : ∀ {binds : List (Str × Value)} {m : Str → Option Value}, (∀ v, (x, v) ∉ binds) → bindL kindOf binds m x = m x
  | [], _, _ => rfl
  | (n, v) :: r, m, h => by
    unfold bindL
    rw [bindL_out fun w hw => h w (List.mem_cons_of_mem _ hw)]
    split
    · have : x ≠ n := by rintro rfl; exact h v List.mem_cons_self
      simp [this]
    · rfl
theorem bindC_out {kindOf : Str → Option NameKind} {x : Str} : ∀ {binds : List (Str × Value)} {m : Str → Option Value}, (∀ v, (x, v) ∉ binds) → bindC kindOf binds m x = m x
  | [], _, _ => rfl
  | (n, v) :: r, m, h => by
    unfold bindC
    rw [bindC_out fun w hw => h w (List.mem_cons_of_mem _ hw)]
    split
    · rfl
    · have : x ≠ n := by rintro rfl; exact h v List.mem_cons_self
      simp [this]
theorem bindL_get {kindOf : Str → Option NameKind} {x : Str} {v : Value} : ∀ {P : List Str} {vs : List Value} {i : Nat} {m : Str → Option Value}, P.Nodup → P[i]? = some x → vs[i]? = some v → kindOf x = some .local →
    bindL kindOf (P.zip vs) m x = some v
  | [], _, _, _, _, h, _, _ => by simp at h
  | _ :: _, [], _, _, _, _, h, _ => by simp at h
  | p :: P, w :: vs, 0, m, nd, h1, h2, hk => by
    simp at h1 h2; subst h1; subst h2
    show bindL kindOf ((p, w) :: P.zip vs) m p = _
    unfold bindL
    rw [bindL_out fun v hv => (List.nodup_cons.mp nd).1 (List.of_mem_zip hv).1, if_pos hk]
    simp
  | p :: P, w :: vs, i + 1, m, nd, h1, h2, hk => by
    show bindL kindOf ((p, w) :: P.zip vs) m x = _
    unfold bindL
    exact bindL_get (i := i) (List.nodup_cons.mp nd).2 (by simpa using h1) (by simpa using h2) hk
theorem bindC_get {kindOf : Str → Option NameKind} {x : Str} {v : Value} : ∀ {P : List Str} {vs : List Value} {i : Nat} {m : Str → Option Value}, P.Nodup → P[i]? = some x → vs[i]? = some v → kindOf x ≠ some .local →
    bindC kindOf (P.zip vs) m x = some v
  | [], _, _, _, _, h, _, _ => by simp at h
  | _ :: _, [], _, _, _, _, h, _ => by simp at h
  | p :: P, w :: vs, 0, m, nd, h1, h2, hk => by
    simp at h1 h2; subst h1; subst h2
    show bindC kindOf ((p, w) :: P.zip vs) m p = _
    unfold bindC
    rw [bindC_out fun v hv => (List.nodup_cons.mp nd).1 (List.of_mem_zip hv).1, if_neg hk]
    simp
  | p :: P, w :: vs, i + 1, m, nd, h1, h2, hk => by
    show bindC kindOf ((p, w) :: P.zip vs) m x = _
    unfold bindC
    exact bindC_get (i := i) (List.nodup_cons.mp nd).2 (by simpa using h1) (by simpa using h2) hk

/-- the names' values at the entry -/
def start (N : List Str) (vs : List V) : St := vs.map some ++ List.replicate (N.length - vs.length) none

/-- the context of a def's body, at its entry; an exception leaves the frame, then lies as CX says -/
def cxOf (CX : CXT) (P : Program) (w : World) (K : PySem.W.Frag) (mg : Str → Option Value) (base : Heap) (N : List Str) (qual : Str) (scope : Scope) (f : Addr) (cd : Value) (A : Around) (outer : List Env) (s : Shared) (H : Hp) (E : XK) : Cx where
  prog := P
  w := w
  K := K
  mg := mg
  base := base
  A := A.deeper (envOfC qual scope s.heap.objs.size f cd)
  N := N
  s₀ := s
  H₀ := H
  env := envOfC qual scope s.heap.objs.size f cd
  outer := outer
  stack := envOfC qual scope s.heap.objs.size f cd :: outer
  ex := []
  calm := true
  fn := fun _ => true
  pn := []
  xe := fun e s' => wpAny (model P w) (A.deeper (envOfC qual scope s.heap.objs.size f cd)) (leaving (envOfC qual scope s.heap.objs.size f cd) e) (fun _ s'' => CX outer H s E e s'') (fun e' s'' => CX outer H s E e' s'') s'

theorem cell_has {sc : Scope} {n : Nat} {x : Str} (h : sc.names.lookup x = some .cell) : ∃ c, (cellsFrom n sc.names []).lookup x = some c := by
  have q := PySem.W.cellsFrom_some sc.names n [] (.inl h)
  exact Option.isSome_iff_exists.mp q

theorem inv_start {CX : CXT} {P : Program} {w : World} {K : PySem.W.Frag} {mg : Str → Option Value} {base : Heap} {N ps : List Str} {qual : Str} {scope : Scope} {f : Addr} {cd : Value} {A : Around} {outer : List Env} {s s1 : Shared} {H : Hp} {E : XK} {us : List Value} {vs : List V}
    (S : FnScope N ps scope) (hd : A.handled = none) (e0 : Env0 P w K mg base A outer s H) (hl : vs.length = ps.length) (r : Vals vs us)
    (x : InCallC s s.heap.objs.size (bindL (envOfC qual scope s.heap.objs.size f cd).kindOf (ps.zip us) fun _ => none) (cellsFrom (s.heap.objs.size + 1) scope.names []) (bindC (envOfC qual scope s.heap.objs.size f cd).kindOf (ps.zip us) fun _ => none) s1) :
    Inv (cxOf CX P w K mg base N qual scope f cd A outer s H E) [] (start N vs) H s1 := by
  have hpl : ps.length ≤ N.length := by have := congrArg List.length S.pre; rw [List.length_take] at this; omega
  obtain ⟨h1, tk, rfl, hk⟩ := x.done
  have noA : ∀ b : Addr, b ∉ (cxOf CX P w K mg base N qual scope f cd A outer s H E).ex := fun b z => absurd (show b ∈ ([] : List Addr) from z) (by simp)
  refine ⟨⟨e0.mod, S.kind, rfl, rfl, Nat.le_refl _, fun y z c h1 h2 => ?_, fun y hy => ?_, fun y c _ h => ?_, fun _ => hd, Around.frames_deeper e0.frames, .inr ⟨rfl, rfl⟩, fun b z => absurd z (noA b), e0.bs, e0.bsz, fun b _ _ => noA b, fun b z => absurd z (noA b), e0.funs, e0.frf⟩,
    rfl, e0.bare, Un.kept hk, ⟨_, x.toInCall.ns, fun i y v h1 h2 h3 => ?_⟩, fun y c h => ⟨_, x.cell y c h⟩, e0.hok.fresh (Nat.le_refl _), fun y c h => ?_, fun p hp => absurd (show p ∈ ([] : List (Addr × Obj)) from hp) (by simp), e0.hok.kept hk, ?_⟩
  · exact name_of_addr x.apart (PySem.mem_of_lookup h1) (PySem.mem_of_lookup h2)
  · have hy : scope.names.lookup y = some .cell ∨ scope.names.lookup y = some .free := hy
    rcases hy with hy | hy
    · exact cell_has hy
    · exact absurd rfl (S.nofree _ (PySem.mem_of_lookup hy))
  · exact Nat.le_of_lt (x.above y c (PySem.mem_of_lookup h))
  · have hi : i < vs.length := by
      unfold start at h2
      by_cases hi : i < vs.length
      · exact hi
      · rw [List.getElem?_append_right (by simpa using hi)] at h2
        rw [List.getElem?_replicate] at h2
        split at h2 <;> cases h2
    have ha : vs[i]? = some v := by
      unfold start at h2
      rw [List.getElem?_append_left (by simpa using hi), List.getElem?_map] at h2
      cases e : vs[i]? with
      | none => rw [e] at h2; cases h2
      | some a => rw [e] at h2; cases h2; rfl
    obtain ⟨u, hu, rv⟩ := r.get ha
    have hp : ps[i]? = some y := by
      rw [← S.pre, List.getElem?_take_of_lt (by omega)]; exact h1
    have ndP : ps.Nodup := by rw [← S.pre]; exact S.nd.sublist (List.take_sublist _ _)
    refine ⟨u, rv, ?_⟩
    rcases S.par y (List.mem_of_getElem? hp) with k | k
    · exact .inl ⟨k, bindL_get ndP hp hu k⟩
    · obtain ⟨c, e⟩ := cell_has (n := s.heap.objs.size + 1) k
      refine .inr ⟨.inl k, c, e, ?_⟩
      have q := x.cell y c e
      rw [bindC_get ndP hp hu (by show scope.names.lookup y ≠ _; rw [k]; decide)] at q
      exact q
  · exact e0.hok.fresh (Nat.le_of_lt (x.above y c (PySem.mem_of_lookup h)))
  · unfold start
    show _ = N.length
    rw [List.length_append, List.length_map, List.length_replicate]
    omega

/-- THE RULE: a def (or a method) of the text, by its body. The body's reading t is chosen for each entry; it is run at the parameters' values -/
theorem fn_of {CX : CXT} {P : Program} {w : World} {K : PySem.W.Frag} {mg : Str → Option Value} {base : Heap} {k : Nat} {f : Addr} {name qual : Str} {params : Arguments} {body : List Stmt} {scope : Scope} {dV kV doc pm cdv ct oc : Value} {an od : Option Addr}
    {osl : Array (Option Value)} {N ps : List Str} {sp : Sp} (lk : K.lookup f = some ⟨oc, od, .func (PySem.W.fnOf name qual params body scope dV kV doc pm an cdv ct), osl⟩) (hcd : PySem.W.codeIn K cdv qual = true) (S : FnScope N ps scope)
    (len : ∀ vs H Q E, sp vs H Q E → vs.length = ps.length)
    (hbody : ∀ (A : Around) (outer : List Env) (s : Shared) (H : Hp) (vs : List V) (Q : VK) (E : XK), Room k (A.deeper (envOfC qual scope s.heap.objs.size f cdv)) → sp vs H Q E →
      ∃ t, PSs (cxOf CX P w K mg base N qual scope f cdv A outer s H E) body t ∧ t { nx := fun _ H' => Q .non H', rt := Q } (start N vs) H) :
    FnOk P w K mg base CX (k + 1) f (PySem.W.fnOf name qual params body scope dV kV doc pm an cdv ct) ps sp := by
  refine ⟨len, fun A outer s H args us vs Q E hr e0 hb r hsp => ?_⟩
  have hl := len _ _ _ _ hsp
  have KX : K.In s.heap := e0.mod.kin.keeps fun b o e => (e0.bs b o e).1
  have lim : s.heap.NoLimit := e0.mod.nolimit.keeps fun b o e => (e0.bs b o e).1
  have hkind : ∀ y ∈ ps.zip us, scope.names.lookup y.1 = some .local ∨ (scope.names.lookup y.1 = some .cell ∧ ((cellsFrom (s.heap.objs.size + 1) scope.names []).lookup y.1).isSome = true) := fun ⟨n, v⟩ hy => by
    rcases S.par n (List.of_mem_zip hy).1 with q | q
    · exact .inl q
    · exact .inr ⟨q, PySem.W.cellsFrom_some _ _ _ (.inl q)⟩
  refine codeAny_call_function hr.depth (KX _ _ lk) rfl S.co S.gen rfl (PySem.W.codeRec_of KX hcd) (hb _ _ _ _ ?_)
  refine wpAny_newFunctionEnv_cells S.kind hkind fun env he s1 x => ?_
  subst he
  refine ⟨lim.keeps x.toInCall.keep, codeAny_func ?_⟩
  obtain ⟨t, ht, hq⟩ := hbody A outer s H vs Q E (hr.deeper _) hsp
  have I : Inv (cxOf CX P w K mg base N qual scope f cdv A outer s H E) [] (start N vs) H s1 := inv_start S hr.hd e0 hl r x
  refine wpAny_mono (ht [] s1 (start N vs) H _ I hq) (fun fl s' hs => ?_) fun e s' hs => hs
  have fin : ∀ {σ' : St} {H' : Hp} {v : V} {u : Value}, Inv (cxOf CX P w K mg base N qual scope f cdv A outer s H E) [] σ' H' s' → RelV v u → Q v H' → CE outer P w H s Q u s' :=
    fun {σ' H' v u} J rv q => ⟨v, H', J.os, J.bare, J.base, J.hok, rv, q⟩
  cases fl with
  | ret u =>
    obtain ⟨v, σ', H', J, rv, q⟩ := hs
    exact fin J rv q
  | next =>
    obtain ⟨σ', H', J, q⟩ := hs
    exact fin (v := V.non) (u := Value.none) J rfl q
  | brk =>
    obtain ⟨_, _, _, q⟩ := hs
    exact False.elim q
  | cont =>
    obtain ⟨_, _, _, q⟩ := hs
    exact False.elim q
end L2

namespace L2
open PySem PySem.Spec PyProof.Rows
section
variable {X : Cx} {x : Str} {p pos : Pos} {e : Expr} {es : List Expr} {t : TA} {id T : String} {r : List V → Hp → VK → Prop}

abbrev tCB (r : List V → Hp → VK → Prop) (t : TA) : TE := fun σ H Q => t σ H fun vs H1 => r vs H1 Q
/-- f(e, ..), f a built-in function -/
theorem pe_callB (hc : CallR X (.builtin id) r) (hg : Gl X x) (hm : X.mg x = none) (hv : bootBuiltins x = some (.builtin id)) (ha : PA X (e :: es) t) (hn : x ≠ "__name__" := by decide) (hdb : (x == ("__debug__" : Str)) = false := by decide)
    (he : starEach (e :: es) X.env = (false, eval e X.env) :: starEach es X.env := by rfl) (hpl : (backTo pos (starEach es X.env)).any (·.1) = false := by rfl) : PE X (.Call (.Name x p) (e :: es) [] pos) (tCB r t) := by
  intro pins s σ H Q I h
  refine wpAny_Call_Name_kw (ld_blt I hg hm hv ?_ hn hdb)
  exact PyProof.Rows.callWith_builtin1 (thn (ha pos pins s σ H _ I h) fun us s1 ⟨vs, H1, I1, r1, q1⟩ => hc pins s1 σ H1 vs us Q I1 r1 q1) he hpl
/-- T(e, ..), T a built-in type -/
theorem pe_callTy (hc : CallR X (.type T) r) (hg : Gl X x) (hm : X.mg x = none) (hv : bootBuiltins x = some (.type T)) (ha : PA X (e :: es) t) (hn : x ≠ "__name__" := by decide) (hdb : (x == ("__debug__" : Str)) = false := by decide)
    (he : starEach (e :: es) X.env = (false, eval e X.env) :: starEach es X.env := by rfl) (hpl : (backTo pos (starEach es X.env)).any (·.1) = false := by rfl) : PE X (.Call (.Name x p) (e :: es) [] pos) (tCB r t) := by
  intro pins s σ H Q I h
  refine wpAny_Call_Name_kw (ld_blt I hg hm hv ?_ hn hdb)
  exact PyProof.Rows.callWith_type1 (thn (ha pos pins s σ H _ I h) fun us s1 ⟨vs, H1, I1, r1, q1⟩ => hc pins s1 σ H1 vs us Q I1 r1 q1) he hpl
end
end L2

namespace HT
open PySem PyProof.Rows

section
open PySem.SeqAt
open PySem.AutoSeq1 (wpAny_loadPart')
open PySem.MeetsSeq PySem.MeetsSeq2 PySem.MeetsSeq3

end

section
variable {prog : Program} {w : World} {A : Around} {E : Value → Shared → Prop} {s : Shared}

/-- t + u, t not empty -/
theorem cat_tup {t b : Addr} {vs ws : List Value} {Q : Value → Shared → Prop} (ht : IsTup s.heap t vs.toArray) (hb : IsTup s.heap b ws.toArray) (hv : vs ≠ [])
    (h1 : ws = [] → Q (.ref t) s) (h2 : ws ≠ [] → Q (.ref s.heap.objs.size) { s with heap := s.heap.push { cls := .type "tuple", data := .seq (vs ++ ws).toArray } })
    (hsz : vs.length + ws.length ≤ sizeLine) : wpAny (model prog w) A (binaryOp .Add (.ref t) (.ref b)) Q E s := by
  obtain ⟨⟨cls, dd, data, sl⟩, ho, hc, n, hd⟩ := id ht
  obtain ⟨⟨cls2, dd2, data2, sl2⟩, ho2, hc2, n2, hd2⟩ := id hb
  simp only at hc hd hc2 hd2
  subst hc hd hc2 hd2
  have e : vs.toArray ++ ws.toArray = (vs ++ ws).toArray := by simp
  by_cases hw : ws = []
  · exact concat_meets ⟨_, ho, rfl⟩ ⟨_, ho2, rfl⟩ noFill_tuple_add seq_tuple_add PySem.F.slot_tuple_add PySem.F.entry_tuple_add (PySem.F.args_tuple_add_2 _ _)
      (tuple_addW1 t b vs.toArray ws.toArray n n2 dd dd2 sl sl2 (by simpa using hv) (by simp [hw])) ⟨ho, ho2, h1 hw⟩
  · refine concat_meets ⟨_, ho, rfl⟩ ⟨_, ho2, rfl⟩ noFill_tuple_add seq_tuple_add PySem.F.slot_tuple_add PySem.F.entry_tuple_add (PySem.F.args_tuple_add_2 _ _)
      (tuple_addW2 t b vs.toArray ws.toArray n n2 dd dd2 sl sl2 (by simpa using hv) (by simpa using hw) (by rw [List.size_toArray, List.size_toArray]; exact hsz)) ⟨ho, ho2, ?_⟩
    rw [e]
    exact h2 hw

/-! ### t[a:b], not the whole -/
/-- a slice's bound as a place among n (d where it is left out) -/
def sIx (n d : Nat) : Option Int → Nat
  | none => d
  | some v => if v < 0 then (v + (n : Int)).toNat else min v.toNat n
theorem sIx_nat (n d k : Nat) : sIx n d (some (k : Int)) = min k n := by
  show (if (k : Int) < 0 then ((k : Int) + (n : Int)).toNat else min (k : Int).toNat n) = min k n
  rw [if_neg (by omega), Int.toNat_natCast]
theorem sIx_le (n d : Nat) (hd : d ≤ n) (o : Option Int) : sIx n d o ≤ n := by
  cases o with
  | none => exact hd
  | some v =>
    show (if v < 0 then (v + (n : Int)).toNat else min v.toNat n) ≤ n
    by_cases hv : v < 0
    · rw [if_pos hv]; omega
    · rw [if_neg hv]; exact Nat.min_le_right _ _
theorem clip_eq (v : Int) (n d : Nat) : (if v < 0 then max (v + (n : Int)) 0 else min v (n : Int)) = ((sIx n d (some v) : Nat) : Int) := by
  show (if v < 0 then max (v + (n : Int)) 0 else min v (n : Int)) = (((if v < 0 then (v + (n : Int)).toNat else min v.toNat n) : Nat) : Int)
  by_cases hv : v < 0
  · simp only [if_pos hv]; omega
  · simp only [if_neg hv]; omega
theorem adjust_gen (lo hi : Option Int) (n : Nat) : Builtin.Slice.sliceAdjust lo hi 1 (n : Int) = (((sIx n 0 lo : Nat) : Int), ((sIx n n hi : Nat) : Int)) := by
  have h1 : ¬ ((1 : Int) < 0) := by omega
  unfold Builtin.Slice.sliceAdjust
  simp only [h1, if_false]
  refine Prod.ext ?_ ?_
  · cases lo with
    | none => rfl
    | some v => exact clip_eq v n 0
  · cases hi with
    | none => rfl
    | some v => exact clip_eq v n n
theorem places_gen (i j : Nat) : Builtin.Slice.slicePlaces (i : Int) (j : Int) 1 = j - i := by
  unfold Builtin.Slice.slicePlaces
  have h1 : (1 : Int) > 0 := by omega
  simp only [h1, if_true, Int.ediv_one]
  split <;> omega
theorem slicePart_ {v : Value} {o : Option Int} {Q : Option Int → Shared → Prop} (p : IsPart v o) (h : Q o s) : wpAny (model prog w) A (Builtin.Slice.slicePartIndex v) Q E s := by
  cases p with
  | none => exact slicePart_none h
  | int i t => exact slicePart_int h
theorem sliceApplied_gen {sl : Addr} {vl vu : Value} {lo hi : Option Int} {n : Nat} {Q : Int × Int × Nat → Shared → Prop} (hs : s.heap.IsSliceOf sl vl vu .none) (pl : IsPart vl lo) (pu : IsPart vu hi)
    (h : Q (((sIx n 0 lo : Nat) : Int), 1, sIx n n hi - sIx n 0 lo) s) : wpAny (model prog w) A (Builtin.Slice.sliceApplied (.ref sl) (pure (n : Int))) Q E s := by
  obtain ⟨os, hos, hcs, hds⟩ := id hs
  unfold Builtin.Slice.sliceApplied Builtin.Slice.sliceFields
  refine wpAny_bind (wpAny_bind (wpAny_field hos hds (x := vl) rfl (wpAny_bind (wpAny_field hos hds (x := vu) rfl (wpAny_bind (wpAny_field hos hds (x := .none) rfl (wpAny_pure ?_)))))))
  refine wpAny_bind (slicePart_none ?_)
  show wpAny _ _ (if ((1 : Int) == 0) = true then _ else _) _ _ s
  rw [if_neg (by decide)]
  refine wpAny_bind (slicePart_ pl (wpAny_bind (slicePart_ pu (wpAny_bind (wpAny_pure ?_)))))
  show wpAny _ _ (match Builtin.Slice.sliceAdjust lo hi 1 (n : Int) with | (lo, hi) => pure (lo, (1 : Int), Builtin.Slice.slicePlaces lo hi 1)) _ _ s
  rw [adjust_gen lo hi n]
  show wpAny _ _ (pure (((sIx n 0 lo : Nat) : Int), (1 : Int), Builtin.Slice.slicePlaces ((sIx n 0 lo : Nat) : Int) ((sIx n n hi : Nat) : Int) 1)) _ _ s
  rw [places_gen]
  exact wpAny_pure h
theorem pick_gen (xs : Array Value) (i k : Nat) : ((List.range k).filterMap fun (m : Nat) => xs[((i : Int) + (m : Int) * 1).toNat]?).toArray = ((xs.toList.drop i).take k).toArray := by
  have e : (fun (m : Nat) => xs[((i : Int) + (m : Int) * 1).toNat]?) = fun m => xs[i + m]? := by
    funext m
    have : ((i : Int) + (m : Int) * 1).toNat = i + m := by omega
    rw [this]
  rw [e]
  have := pick_run xs i k
  rw [List.filterMap_map] at this
  have e2 : ((fun x => xs[x]?) ∘ fun x => i + x) = fun m => xs[i + m]? := rfl
  rw [e2] at this
  rw [this]

theorem getItem_tuple_cut {t sl : Addr} {items : Array Value} {vl vu : Value} {lo hi : Option Int} {Q : Value → Shared → Prop} (ht : IsTup s.heap t items) (hs : s.heap.IsSliceOf sl vl vu .none) (pl : IsPart vl lo) (pu : IsPart vu hi)
    (hw : ¬ (sIx items.size 0 lo = 0 ∧ sIx items.size items.size hi = items.size))
    (h : Q (.ref s.heap.objs.size) { s with heap := s.heap.push { cls := .type "tuple", data := .seq ((items.toList.drop (sIx items.size 0 lo)).take (sIx items.size items.size hi - sIx items.size 0 lo)).toArray } })
    (hsz : items.size ≤ sizeLine) : wpAny (model prog w) A (getItem (.ref t) (.ref sl)) Q E s := by
  have htake : sizeOk (.seq ((items.toList.drop (sIx items.size 0 lo)).take (sIx items.size items.size hi - sIx items.size 0 lo)).toArray) := by
    show ((items.toList.drop (sIx items.size 0 lo)).take (sIx items.size items.size hi - sIx items.size 0 lo)).toArray.size ≤ sizeLine
    rw [List.size_toArray, List.length_take, List.length_drop, Array.length_toList]
    omega
  have hj : sIx items.size items.size hi ≤ items.size := sIx_le _ _ (Nat.le_refl _) hi
  obtain ⟨os, hos, hcs, hds⟩ := id hs
  have hTs : s.TypeIs (.ref sl) "slice" := ⟨os, hos, hcs⟩
  unfold getItem
  try with_reducible refine wpAny_holding ?_
  first | refine wpAny_bind (wpAny_pure ?_) | skip
  refine wpAny_bind (wpAny_sequenceKey ht.typeIs (by decide) ?_)
  refine wpAny_bind (wpAny_callSpecial?_slot (name := Str.ofString "__getitem__") ht.typeIs PyProof.Rows.slot_tuple_getitem
    (wpAny_call_entry PyProof.Rows.slot_tuple_getitem ht.typeIs entry_tuple_getitem ?_ (args_tuple_getitem _ _)))
  show wpAny _ _ (Builtin.Tuple.tupleItemsOf (.ref t) >>= _) _ _ s
  refine wpAny_bind (tupleItemsOf_ ht ?_)
  refine wpAny_bind (wpAny_typeOf hTs ?_)
  rw [if_pos (by decide)]
  refine wpAny_bind (sliceApplied_gen hs pl pu ?_)
  have hno : ¬ ((((sIx items.size 0 lo : Nat) : Int) == 0 && (1 : Int) == 1 && (sIx items.size items.size hi - sIx items.size 0 lo) == items.size) = true) := by
    intro q
    rw [Bool.and_eq_true, Bool.and_eq_true] at q
    have q1 : ((sIx items.size 0 lo : Nat) : Int) = 0 := eq_of_beq q.1.1
    have q2 : sIx items.size items.size hi - sIx items.size 0 lo = items.size := eq_of_beq q.2
    exact hw ⟨by omega, by omega⟩
  show wpAny _ _ (if (((sIx items.size 0 lo : Nat) : Int) == 0 && (1 : Int) == 1 && (sIx items.size items.size hi - sIx items.size 0 lo) == items.size) = true then _ else _) _ _ s
  rw [if_neg hno, pick_gen]
  first
    | exact wpAny_bind (m := Builtin.Tuple.tupleExact _) (wpAny_newObj_type (wpAny_pure ⟨_, rfl, wpAny_pure h⟩) htake)
    | exact wpAny_bind (m := Builtin.Tuple.tupleExact _) (wpAny_newObj_type (wpAny_bind (wpAny_pure (wpAny_pure ⟨_, rfl, wpAny_pure h⟩))) htake)
    | exact wpAny_bind (wpAny_bind (m := Builtin.Tuple.tupleExact _) (wpAny_newObj_type (wpAny_pure (wpAny_pure ⟨_, rfl, wpAny_pure h⟩)) htake))
    | exact wpAny_bind (wpAny_bind (m := Builtin.Tuple.tupleExact _) (wpAny_newObj_type (wpAny_pure ⟨_, rfl, wpAny_pure h⟩) htake))
end
end HT

namespace L2
open PySem PySem.Spec PyProof.Rows

/-! ### the parts of a slice -/
abbrev TO := St → Hp → (Option Int → Hp → Prop) → Prop
/-- a slice's part (left out, or an int) -/
def PO (X : Cx) (e : Option Expr) (t : TO) : Prop :=
  ∀ (pins : List (Addr × Obj)) (s : Shared) (σ : St) (H : Hp) (Q : Option Int → Hp → Prop), Inv X pins σ H s → t σ H Q →
    wpAny (model X.prog X.w) X.A (evalPart e X.env) (fun u s' => ∃ o H', Inv X pins σ H' s' ∧ IsPart u o ∧ Q o H') X.xe s
abbrev tNoPart : TO := fun _ H Q => Q none H
abbrev tPart (t : TE) : TO := fun σ H Q => t σ H fun x H1 => ∃ i, x = .int i ∧ Q (some i) H1

theorem intsAre_of {ns : List Int} : ∀ {us : List Value}, Vals (ns.map V.int) us → IntsAre us ns := by
  induction ns with
  | nil => intro us r; rw [List.map_nil] at r; cases r; exact .nil
  | cons n ns ih =>
    intro us r
    rw [List.map_cons] at r
    cases r with
    | cons r1 r2 =>
      obtain ⟨t, e⟩ := r1
      subst e
      exact .cons n t (ih r2)

section
variable {X : Cx} {e : Expr} {te : TE} {lo hi : Option Expr} {tl th : TO} {pos p2 : Pos}

theorem po_none : PO X none tNoPart := by
  intro pins s σ H Q I h
  rw [evalPart_none]
  exact wpAny_pure ⟨none, H, I, .none, h⟩
theorem po_some (h : PE X e te) : PO X (some e) (tPart te) := by
  intro pins s σ H Q I hw
  rw [evalPart_some]
  refine thn (h pins s σ H _ I hw) fun u s1 ⟨x, H1, I1, r1, q1⟩ => ?_
  obtain ⟨i, rfl, q⟩ := q1
  obtain ⟨t, rfl⟩ := r1
  exact ⟨some i, H1, I1, .int i t, q⟩

/-- what a slice of a value is, by values: the slice object stands at sl -/
def SlR (X : Cx) (r : V → Option Int → Option Int → Hp → VK → Prop) : Prop :=
  ∀ (pins : List (Addr × Obj)) (s : Shared) (σ : St) (H : Hp) (x : V) (v vl vu : Value) (lo hi : Option Int) (sl : Addr) (Q : VK), Inv X pins σ H s → RelV x v → s.heap.IsSliceOf sl vl vu .none → IsPart vl lo → IsPart vu hi → r x lo hi H Q →
    ∃ T id, typeLookup (.type T) "__getitem__" = pure (some (.builtin id)) ∧ s.TypeIs v T ∧ wpAny (model X.prog X.w) X.A (getItem v (.ref sl)) (EP X pins σ Q) X.xe s
theorem SlR.or {r r' : V → Option Int → Option Int → Hp → VK → Prop} (h : SlR X r) (h' : SlR X r') : SlR X (fun x lo hi H Q => r x lo hi H Q ∨ r' x lo hi H Q) := by
  intro pins s σ H x v vl vu lo hi sl Q I rx hs pl pu q
  rcases q with q | q
  · exact h pins s σ H x v vl vu lo hi sl Q I rx hs pl pu q
  · exact h' pins s σ H x v vl vu lo hi sl Q I rx hs pl pu q
abbrev tSl (r : V → Option Int → Option Int → Hp → VK → Prop) (te : TE) (tl th : TO) : TE := fun σ H Q => te σ H fun x H1 => tl σ H1 fun l H2 => th σ H2 fun u H3 => r x l u H3 Q
/-- a[lo:hi], any a -/
theorem pe_slice {r : V → Option Int → Option Int → Hp → VK → Prop} (hr : SlR X r) (he : PE X e te) (hl : PO X lo tl) (hu : PO X hi th) : PE X (.Subscript e (.Slice lo hi none p2) pos) (tSl r te tl th) := by
  intro pins s σ H Q I h
  refine Subscript_ (thn (he pins s σ H _ I h) fun v s1 ⟨x, H1, I1, r1, q1⟩ => ?_)
  refine wpAny_Slice (thn (hl pins s1 σ H1 _ I1 q1) fun vl s2 ⟨l, H2, I2, pl, q2⟩ => thn (hu pins s2 σ H2 _ I2 q2) fun vu s3 ⟨u, H3, I3, pu, q3⟩ => ?_)
  rw [evalPart_none]
  refine wpAny_pure ?_
  have I4 : Inv X pins σ H3 { s3 with heap := s3.heap.push { cls := .type "slice", data := .fields #[vl, vu, .none] } } := I3.kept (t' := s3.toks) fun b ob q => Heap.get?_push_of_some _ q
  obtain ⟨T, id, hT, ht, hg⟩ := hr pins { s3 with heap := s3.heap.push { cls := .type "slice", data := .fields #[vl, vu, .none] } } σ H3 x v vl vu l u s3.heap.objs.size Q I4 r1 (Heap.IsSliceOf.new ..) pl pu q3
  show wpAny (model X.prog X.w) X.A (subscriptTail e (.Slice lo hi none p2) v (.ref s3.heap.objs.size)) (EP X pins σ Q) X.xe { s3 with heap := s3.heap.push { cls := .type "slice", data := .fields #[vl, vu, .none] } }
  exact tail_any (ops := [.ref s3.heap.objs.size, v]) ht hT hg (by with_unfolding_all rfl)

/-- the items of xs[lo:hi] -/
def cutV (xs : List V) (lo hi : Option Int) : List V := (xs.drop (HT.sIx xs.length 0 lo)).take (HT.sIx xs.length xs.length hi - HT.sIx xs.length 0 lo)
theorem cutV_length (xs : List V) (lo hi : Option Int) : (cutV xs lo hi).length ≤ xs.length := by
  unfold cutV
  rw [List.length_take, List.length_drop]
  omega
/-- t[lo:hi], not the whole of it (the whole would be t itself) -/
def rSlT (K : PySem.W.Frag) : V → Option Int → Option Int → Hp → VK → Prop := fun x lo hi H Q => ∃ a xs, x = .ref a ∧ SqT K H a xs ∧
  ¬ (HT.sIx xs.length 0 lo = 0 ∧ HT.sIx xs.length xs.length hi = xs.length) ∧ ∀ p, H p = none → Q (.ref p) (upd H p (.tup (cutV xs lo hi)))
theorem sl_tup : SlR X (rSlT X.K) := by
  intro pins s σ H x v vl vu lo hi sl Q I rx hs pl pu h
  obtain ⟨a, xs, rfl, hx, hw, q⟩ := h
  cases rx
  obtain ⟨its, r, ht, hz⟩ := I.tuple hx
  have hlen : its.toArray.size = xs.length := by rw [List.size_toArray]; exact r.length.symm
  refine ⟨"tuple", _, PyProof.Rows.slot_tuple_getitem.lookup, ht.typeIs, ?_⟩
  refine HT.getItem_tuple_cut ht hs pl pu (by rw [hlen]; exact hw) ?_ (by rw [hlen]; exact hz)
  rw [hlen]
  refine ⟨.ref s.heap.objs.size, _, I.laid (t' := s.toks) (o := .tup (cutV xs lo hi)) (fun b ob q => Heap.get?_push_of_some _ q) (Nat.le_refl _) ?_, rfl, q _ (I.hok.fresh (Nat.le_refl _))⟩
  exact ⟨Nat.le_trans (cutV_length xs lo hi) hz, _, (r.drop (HT.sIx xs.length 0 lo)).take (HT.sIx xs.length xs.length hi - HT.sIx xs.length 0 lo), IsTupD.new _ _⟩

/-! ### t < u, t + u -/
/-- t + u, t not empty: u empty gives t itself -/
def rCatT (K : PySem.W.Frag) : R2 := fun x y H Q => ∃ a b xs ys, x = .ref a ∧ y = .ref b ∧ SqT K H a xs ∧ SqT K H b ys ∧ xs ≠ [] ∧ xs.length + ys.length ≤ sizeLine ∧
  (ys = [] → Q (.ref a) H) ∧ (ys ≠ [] → ∀ p, H p = none → Q (.ref p) (upd H p (.tup (xs ++ ys))))
theorem Vals.nil_iff {xs : List V} {us : List Value} (r : Vals xs us) : us = [] ↔ xs = [] := by
  cases r with
  | nil => simp
  | cons _ _ => simp
theorem op_catT : OpR X (binaryOp .Add) (rCatT X.K) := by
  intro pins s σ H x y v u Q I rx ry h
  obtain ⟨a, b, xs, ys, rfl, rfl, ha, hb, hx, hz, q1, q2⟩ := h
  cases rx
  cases ry
  obtain ⟨its, r1, p1, _⟩ := I.tuple ha
  obtain ⟨its2, r2, p2, _⟩ := I.tuple hb
  refine HT.cat_tup p1 p2 (fun z => hx (r1.nil_iff.mp z)) (fun z => ⟨.ref a, H, I, rfl, q1 (r2.nil_iff.mp z)⟩) (fun z => ?_) (by rw [← r1.length, ← r2.length]; exact hz)
  refine ⟨.ref s.heap.objs.size, _, I.laid (t' := s.toks) (o := .tup (xs ++ ys)) (fun b ob q => Heap.get?_push_of_some _ q) (Nat.le_refl _) ?_, rfl, q2 (fun w => z (r2.nil_iff.mpr w)) _ (I.hok.fresh (Nat.le_refl _))⟩
  exact ⟨by rw [List.length_append]; exact hz, _, r1.append r2, IsTupD.new _ _⟩
end
end L2

namespace L2
open PySem PySem.Spec PyProof.Rows

/-! ### places -/
/-- the place that an index of any sign means -/
def ixN (n : Nat) (i : Int) : Option Nat := if 0 ≤ i then (if i < n then some i.toNat else none) else if -(n : Int) ≤ i then some (i + n).toNat else none
def atI {α : Type} (xs : List α) (i : Int) : Option α := (ixN xs.length i).bind fun j => xs[j]?
theorem ixN_seq {n : Nat} {i : Int} {j : Nat} (h : ixN n i = some j) : seqIndex? i n = some j ∧ j < n ∧ -(n : Int) ≤ i ∧ i < n := by
  unfold ixN at h
  by_cases h0 : 0 ≤ i
  · rw [if_pos h0] at h
    by_cases h1 : i < n
    · rw [if_pos h1] at h
      have e : i.toNat = j := Option.some.inj h
      exact ⟨by rw [seqIndex_of h0 h1, e], by omega, by omega, h1⟩
    · rw [if_neg h1] at h; cases h
  · rw [if_neg h0] at h
    by_cases h1 : -(n : Int) ≤ i
    · rw [if_pos h1] at h
      have e : (i + n).toNat = j := Option.some.inj h
      exact ⟨by rw [seqIndex_neg (by omega) h1, e], by omega, h1, by omega⟩
    · rw [if_neg h1] at h; cases h
theorem atI_get {α : Type} {xs : List α} {i : Int} {v : α} (h : atI xs i = some v) : ∃ j, seqIndex? i xs.length = some j ∧ xs[j]? = some v ∧ j < xs.length ∧ -(xs.length : Int) ≤ i ∧ i < xs.length := by
  unfold atI at h
  cases e : ixN xs.length i with
  | none => rw [e] at h; cases h
  | some j =>
    rw [e] at h
    obtain ⟨h1, h2, h3, h4⟩ := ixN_seq e
    exact ⟨j, h1, h, h2, h3, h4⟩
theorem atI_nat {α : Type} {xs : List α} {j : Nat} {v : α} (h : xs[j]? = some v) : atI xs (j : Int) = some v := by
  have hj : j < xs.length := (List.getElem?_eq_some_iff.mp h).1
  have e : ixN xs.length (j : Int) = some j := by
    unfold ixN
    rw [if_pos (by omega), if_pos (by omega)]; simp
  unfold atI; rw [e]; exact h
/-! ### what may be subscripted -/
/-- what stands as an index of a plain subscript -/
def PlainIx (b : Expr) : Prop := ∀ o i, subscripted b false o i = operate [o, i] (getItem o i)
/-- a subscript by values -/
def IxR (X : Cx) (r : R2) : Prop :=
  ∀ (value slice : Expr) (pins : List (Addr × Obj)) (s : Shared) (σ : St) (H : Hp) (x y : V) (v u : Value) (Q : VK), Inv X pins σ H s → RelV x v → RelV y u → r x y H Q →
    subscripted slice false v u = operate [v, u] (getItem v u) → wpAny (model X.prog X.w) X.A (subscriptTail value slice v u) (EP X pins σ Q) X.xe s
/-- a call of a builtin's method by values: the receiver, the arguments -/
def MtR (X : Cx) (id : String) (r : V → List V → Hp → VK → Prop) : Prop :=
  ∀ (pins : List (Addr × Obj)) (s : Shared) (σ : St) (H : Hp) (x : V) (xs : List V) (v : Value) (us : List Value) (Q : VK), Inv X pins σ H s → RelV x v → Vals xs us → r x xs H Q →
    wpAny (model X.prog X.w) X.A (call (.builtin id) (v :: us)) (EP X pins σ Q) X.xe s
section
variable {X : Cx} {a b : Expr} {ta tb : TE} {pos : Pos}
theorem IxR.or {r r' : R2} (h : IxR X r) (h' : IxR X r') : IxR X (fun x y H Q => r x y H Q ∨ r' x y H Q) := by
  intro value slice pins s σ H x y v u Q I rx ry q hs
  rcases q with q | q
  · exact h value slice pins s σ H x y v u Q I rx ry q hs
  · exact h' value slice pins s σ H x y v u Q I rx ry q hs
/-- a[b] -/
theorem pe_ix {r : R2} (hr : IxR X r) (ha : PE X a ta) (hb : PE X b tb) (hs : PlainIx b) : PE X (.Subscript a b pos) (tOp r ta tb) := by
  intro pins s σ H Q I h
  exact Subscript_ (binT ha hb I h fun v u s2 x y H2 I2 rx ry q => hr a b pins s2 σ H2 x y v u Q I2 rx ry q (hs _ _))

def rIxL (K : PySem.W.Frag) : R2 := fun x y H Q => ∃ p xs i v, x = .ref p ∧ y = .int i ∧ SqL K H p xs ∧ atI xs i = some v ∧ Q v H
def rIxT (K : PySem.W.Frag) : R2 := fun x y H Q => ∃ p xs i v, x = .ref p ∧ y = .int i ∧ SqT K H p xs ∧ atI xs i = some v ∧ Q v H
def rIxS : R2 := fun x y H Q => ∃ z i c, x = .str z ∧ y = .int i ∧ z.length ≤ sizeLine ∧ atI z.cps.toList i = some c ∧ Q (.str ⟨#[c]⟩) H
theorem ix_list : IxR X (rIxL X.K) := by
  intro value slice pins s σ H x y v u Q I rx ry h hs
  obtain ⟨p, xs, i, z, rfl, rfl, hq, he, q⟩ := h
  cases rx
  obtain ⟨t, rfl⟩ := ry
  obtain ⟨its, r, pl, hz⟩ := I.list hq
  obtain ⟨j, h1, h2, h3, h4, h5⟩ := atI_get he
  obtain ⟨w, ew, rw'⟩ := r.get h2
  have hl := r.length
  have hn := line63
  have fin : EP X pins σ Q w s := ⟨z, H, I, rw', q⟩
  by_cases h0 : 0 ≤ i
  · have hj : i.toNat = j := by
      rw [seqIndex_of h0 h5] at h1
      exact Option.some.inj h1
    exact item_listR pl.isList h0 (by omega) (by rw [hj]; simpa using ew) fin hs
  · have hj : (i + (its.toArray.size : Int)).toNat = j := by
      rw [seqIndex_neg (by omega) h4] at h1
      rw [List.size_toArray, ← hl]
      exact Option.some.inj h1
    exact subscriptTail_builtinR (x := w) pl.isList.typeIs slot_list_getitem.lookup
      (wpAny_getItem_list_neg (Q := fun r s' => r = w ∧ EP X pins σ Q r s') pl.isList (by omega) (by rw [List.size_toArray] <;> omega) (by omega) (by rw [hj]; simpa using ew) ⟨rfl, fin⟩) hs
theorem ix_tup : IxR X (rIxT X.K) := by
  intro value slice pins s σ H x y v u Q I rx ry h hs
  obtain ⟨p, xs, i, z, rfl, rfl, hq, he, q⟩ := h
  cases rx
  obtain ⟨t, rfl⟩ := ry
  obtain ⟨its, r, pl, hz⟩ := I.tuple hq
  obtain ⟨j, h1, h2, h3, h4, h5⟩ := atI_get he
  obtain ⟨w, ew, rw'⟩ := r.get h2
  have hl := r.length
  have hn := line63
  have fin : EP X pins σ Q w s := ⟨z, H, I, rw', q⟩
  exact subscriptTail_builtinR (x := w) pl.typeIs slot_tuple_getitem.lookup
    (getItem_tuple (j := j) (Q := fun r s' => r = w ∧ EP X pins σ Q r s') pl (by omega) (by omega) (by rw [List.size_toArray, ← hl]; exact h1) (by simpa using ew) ⟨rfl, fin⟩) hs
theorem ix_str : IxR X rIxS := by
  intro value slice pins s σ H x y v u Q I rx ry h hs
  obtain ⟨z, i, c, rfl, rfl, hz, he, q⟩ := h
  obtain ⟨t, rfl⟩ := rx
  obtain ⟨t', rfl⟩ := ry
  obtain ⟨j, h1, h2, h3, h4, h5⟩ := atI_get he
  have hl : z.cps.toList.length = z.length := by simp [Str.length]
  rw [hl] at h1 h4 h5
  have hn := line63
  exact tail_any (typeIs_str s z t) slot_str_getitem.lookup (getItem_str (c := c) (by
    have e1 : decide (i < -(2 ^ 63 : Int)) = false := decide_eq_false (by omega)
    have e2 : decide (i ≥ 2 ^ 63) = false := decide_eq_false (by omega)
    rw [e1, e2, Bool.or_false]) (by rw [h1]; simpa using h2) ⟨.str ⟨#[c]⟩, H, I.tok _, ⟨_, rfl⟩, q⟩) hs
/-- list, tuple or str -/
def rIx (K : PySem.W.Frag) : R2 := fun x y H Q => rIxL K x y H Q ∨ rIxT K x y H Q ∨ rIxS x y H Q
theorem ix_seq : IxR X (rIx X.K) := ix_list.or (ix_tup.or ix_str)

/-! ### xs[i] = v, any sign -/
/-- the list's object behind a store -/
theorem mapSeq_set (its : List Value) (n j : Nat) (u : Value) : Obj.mapSeq (·.setIfInBounds j u) { cls := .type "list", data := .seq its.toArray n } = { cls := .type "list", data := .seq (its.set j u).toArray n } := by
  simp [Obj.mapSeq]
theorem Inv.lst {pins : List (Addr × Obj)} {σ : St} {H : Hp} {s : Shared} {p : Addr} {xs : List V} (I : Inv X pins σ H s) (h : H p = some (.lst xs)) :
    ∃ (its : List Value) (n : Nat), Vals xs its ∧ s.heap.get? p = some { cls := .type "list", data := .seq its.toArray n } ∧ xs.length ≤ sizeLine := by
  obtain ⟨z, its, n, r, e⟩ := I.hok p _ h
  exact ⟨its, n, r, e, z⟩
/-- the list at p is written by an update of its object -/
theorem Inv.lstUpd {pins : List (Addr × Obj)} {σ : St} {H : Hp} {s : Shared} {p : Addr} {xs ys : List V} {its its' : List Value} {n n' : Nat} {f : Obj → Obj} (I : Inv X pins σ H s) (h : H p = some (.lst xs))
    (ho : s.heap.get? p = some { cls := .type "list", data := .seq its.toArray n }) (hf : f { cls := .type "list", data := .seq its.toArray n } = { cls := .type "list", data := .seq its'.toArray n' }) (r : Vals ys its') (hz : ys.length ≤ sizeLine) (t : Nat) :
    Inv X pins σ (upd H p (.lst ys)) { s with heap := s.heap.update p f, toks := t } := by
  have e : (s.heap.update p f).get? p = some { cls := .type "list", data := .seq its'.toArray n' } := by
    rw [Heap.get?_update_self f ho (by rw [hf] <;> rfl), hf]
  refine I.write (x := p) (e := p) (by rw [h]; trivial) (.inl rfl) (fun b u hb q => (Heap.get?_update_other _ _ (Ne.symm hb)).trans q) ⟨_, e⟩ ?_
  exact ⟨hz, its', n', r, e⟩
def rSetL : V → V → V → Hp → (Hp → Prop) → Prop := fun o i v H Q => ∃ p xs k j, o = .ref p ∧ i = .int k ∧ H p = some (.lst xs) ∧ ixN xs.length k = some j ∧ Q (upd H p (.lst (xs.set j v)))
theorem set_list : PSet X rSetL := by
  intro pins s σ H o i v ov iv u Q I ro ri rv h
  obtain ⟨p, xs, k, j, rfl, rfl, hp, hj, q⟩ := h
  cases ro
  obtain ⟨t, rfl⟩ := ri
  obtain ⟨its, n, r, ho, hz⟩ := I.lst hp
  obtain ⟨h1, h2, h3, h4⟩ := ixN_seq hj
  have hl := r.length
  have hn := line63
  have I' : Inv X pins σ (upd H p (.lst (xs.set j v))) { s with heap := s.heap.update p (Obj.mapSeq (·.setIfInBounds j u)) } :=
    I.lstUpd hp ho (mapSeq_set its n j u) (r.set rv j) (by rw [List.length_set]; exact hz) s.toks
  by_cases h0 : 0 ≤ k
  · have hk : k.toNat = j := by
      rw [seqIndex_of h0 h4] at h1
      exact Option.some.inj h1
    exact PySem.W.ki_setAt ho h0 (by omega) (by rw [List.size_toArray, ← hl]; exact h4) (by rw [hk]; exact ⟨_, I', q⟩)
  · have hk : (k + (its.toArray.size : Int)).toNat = j := by
      rw [seqIndex_neg (by omega) h3] at h1
      rw [List.size_toArray, ← hl]
      exact Option.some.inj h1
    exact PySem.W.ki_setBack ho (by omega) (by rw [List.size_toArray, ← hl]; exact h3) (by omega) (by rw [hk]; exact ⟨_, I', q⟩)

/-! ### slices -/
theorem slice_bounds (lo hi : Option Int) (n : Nat) : (sliceBounds lo hi none n).1 = ((HT.sIx n 0 lo : Nat) : Int) ∧ (sliceBounds lo hi none n).2.1 = ((HT.sIx n n hi : Nat) : Int) ∧ (sliceBounds lo hi none n).2.2 = 1 := by
  refine ⟨?_, ?_, rfl⟩
  · cases lo with
    | none => simp [sliceBounds, HT.sIx]
    | some i =>
      simp only [sliceBounds, HT.sIx, Option.getD_none, show (1 : Int) > 0 by decide, if_true]
      by_cases h : i < 0
      · simp only [h, if_true] <;> omega
      · simp only [h, if_false] <;> omega
  · cases hi with
    | none => simp [sliceBounds, HT.sIx]
    | some i =>
      simp only [sliceBounds, HT.sIx, Option.getD_none, show (1 : Int) > 0 by decide, if_true]
      by_cases h : i < 0
      · simp only [h, if_true] <;> omega
      · simp only [h, if_false] <;> omega
theorem slicePick_cut (its : List Value) (lo hi : Option Int) : slicePick its.toArray lo hi none = ((its.drop (HT.sIx its.length 0 lo)).take (HT.sIx its.length its.length hi - HT.sIx its.length 0 lo)).toArray := by
  obtain ⟨h1, h2, h3⟩ := slice_bounds lo hi its.toArray.size
  unfold slicePick
  rw [h1, h2, h3]
  simp only [sliceRange_one, pick_run, List.size_toArray] <;> rfl
/-- xs[lo:hi] of a list: a new list -/
def rSlL (K : PySem.W.Frag) : V → Option Int → Option Int → Hp → VK → Prop := fun x lo hi H Q => ∃ a xs, x = .ref a ∧ SqL K H a xs ∧ ∀ p, H p = none → Q (.ref p) (upd H p (.lst (cutV xs lo hi)))
theorem sl_list : SlR X (rSlL X.K) := by
  intro pins s σ H x v vl vu lo hi sl Q I rx hs pl pu h
  obtain ⟨a, xs, rfl, hx, q⟩ := h
  cases rx
  obtain ⟨its, r, ht, hz⟩ := I.list hx
  have hlen := r.length
  refine ⟨"list", _, slot_list_getitem.lookup, ht.isList.typeIs, ?_⟩
  refine wpAny_getItem_list_slice ht.isList hs pl pu .none (by simp) ?_ (by rw [List.size_toArray] <;> omega)
  rw [slicePick_cut, ← hlen]
  refine ⟨.ref s.heap.objs.size, _, I.laid (t' := s.toks) (o := .lst (cutV xs lo hi)) (fun b ob q => Heap.get?_push_of_some _ q) (Nat.le_refl _) ?_, rfl, q _ (I.hok.fresh (Nat.le_refl _))⟩
  exact ⟨Nat.le_trans (cutV_length xs lo hi) hz, _, 0, (r.drop (HT.sIx xs.length 0 lo)).take (HT.sIx xs.length xs.length hi - HT.sIx xs.length 0 lo), Heap.get?_push_size _ rfl⟩

/-! ### in, not in: flat items -/
/-! ### len, list(x), tuple(x) of any list or tuple that is read -/
theorem call_len_seq : CallR X (.builtin "len") (fun xs H Q => ∃ p ys, xs = [.ref p] ∧ (SqL X.K H p ys ∨ SqT X.K H p ys) ∧ Q (.int ys.length) H) := by
  intro pins s σ H xs us Q I r h
  obtain ⟨p, ys, rfl, hq, q⟩ := h
  obtain ⟨u, rfl, rx⟩ := vals1 r
  cases rx
  have hn := line63
  rcases hq with hq | hq
  · obtain ⟨its, r', pl, hz⟩ := I.list hq
    have hlen := r'.length
    exact Calls.call_len_list pl.isList (by simp only [List.size_toArray] <;> omega) ⟨.int ys.length, H, I.tok _, ⟨s.toks + 1, by rw [List.size_toArray, hlen]⟩, q⟩
  · obtain ⟨its, r', pl, hz⟩ := I.tuple hq
    have hlen := r'.length
    exact len_tuple pl (by simp only [List.size_toArray] <;> omega) ⟨.int ys.length, H, I.tok _, ⟨s.toks + 1, by rw [List.size_toArray, hlen]⟩, q⟩
theorem call_list_of : CallR X (.type "list") (fun xs H Q => ∃ p ys, xs = [.ref p] ∧ (SqL X.K H p ys ∨ SqT X.K H p ys) ∧ ∀ l, H l = none → Q (.ref l) (upd H l (.lst ys))) := by
  intro pins s σ H xs us Q I r h
  obtain ⟨p, ys, rfl, hq, q⟩ := h
  obtain ⟨u, rfl, rx⟩ := vals1 r
  cases rx
  have fin : ∀ (its : List Value), Vals ys its → ys.length ≤ sizeLine → ∀ (h' : Heap) (c' : Nat), (∀ b o', s.heap.get? b = some o' → h'.get? b = some o') →
      h'.get? s.heap.objs.size = some { cls := .type "list", dict := none, data := .seq its.toArray c', slots := #[] } → EP X pins σ Q (.ref s.heap.objs.size) { s with heap := h' } := fun its r' hz h' c' kp e =>
    ⟨.ref s.heap.objs.size, _, I.laid (t' := s.toks) kp (Nat.le_refl _) (show ObjOk X.prog X.w _ h' _ (.lst ys) from ⟨hz, its, c', r', e⟩), rfl, q _ (I.hok.fresh (Nat.le_refl _))⟩
  rcases hq with hq | hq
  · obtain ⟨its, r', pl, hz⟩ := I.list hq
    have hlen := r'.length
    obtain ⟨o, ho, hc, n, hd⟩ := pl.isList
    exact call_list_seq p (.inl rfl) ho hc hd (fun h' c' kp e => fin its r' hz h' c' kp e) (by simp only [List.size_toArray] <;> omega)
  · obtain ⟨its, r', pl, hz⟩ := I.tuple hq
    have hlen := r'.length
    obtain ⟨o, ho, hc, n, hd⟩ := pl
    exact call_list_seq p (.inr rfl) ho hc hd (fun h' c' kp e => fin its r' hz h' c' kp e) (by simp only [List.size_toArray] <;> omega)
theorem call_tuple_of : CallR X (.type "tuple") (fun xs H Q => ∃ p ys, xs = [.ref p] ∧ ((SqL X.K H p ys ∧ ∀ l, H l = none → Q (.ref l) (upd H l (.tup ys))) ∨ (SqT X.K H p ys ∧ Q (.ref p) H))) := by
  intro pins s σ H xs us Q I r h
  obtain ⟨p, ys, rfl, h⟩ := h
  obtain ⟨u, rfl, rx⟩ := vals1 r
  cases rx
  rcases h with ⟨hq, q⟩ | ⟨hq, q⟩
  · obtain ⟨its, r', pl, hz⟩ := I.list hq
    have hlen := r'.length
    refine call_tuple_list pl.isList (fun h' kp => ?_) (by simp only [List.size_toArray] <;> omega)
    have I1 : Inv X pins σ H { s with heap := h' } := I.kept (t' := s.toks) kp
    have I2 : Inv X pins σ (upd H h'.objs.size (.tup ys)) { s with heap := h'.push { cls := .type "tuple", data := .seq its.toArray } } :=
      I1.laid (t' := s.toks) (fun b o e => Heap.get?_push_of_some _ e) (Nat.le_refl _) (show ObjOk X.prog X.w _ _ _ (.tup ys) from ⟨hz, its, r', IsTupD.new _ _⟩)
    exact ⟨.ref h'.objs.size, _, I2, rfl, q _ (I1.hok.fresh (Nat.le_refl _))⟩
  · obtain ⟨its, r', pl, hz⟩ := I.tuple hq
    exact call_tuple_same pl ⟨.ref p, H, I, rfl, q⟩

/-! ### the call of a builtin's method: o.m(..) -/
/-- the value is of that builtin type -/
def tyV (K : PySem.W.Frag) (T : String) (x : V) (H : Hp) : Prop := match x with
  | .str _ => T = "str"
  | .int _ => T = "int"
  | .ref p => (T = "list" ∧ ∃ xs, SqL K H p xs) ∨ (T = "tuple" ∧ ∃ o, K.lookup p = some o ∧ o.cls = .type "tuple" ∧ o.dict = none) ∨
      (T = "dict" ∧ ((∃ kvs, H p = some (.dK kvs)) ∨ ∃ kvs, H p = some (.dT kvs))) ∨ (T = "set" ∧ ∃ S n, H p = some (.set S n))
  | _ => False
theorem tyV_is {pins : List (Addr × Obj)} {σ : St} {H : Hp} {s : Shared} {T : String} {x : V} {v : Value} (I : Inv X pins σ H s) (r : RelV x v) (ty : tyV X.K T x H) :
    s.TypeIs v T ∧ ∀ a, v = .ref a → ∃ ob, s.heap.get? a = some ob ∧ ob.dict = none := by
  cases x with
  | str z =>
    obtain ⟨t, rfl⟩ := r
    cases (show T = "str" from ty)
    exact ⟨typeIs_str s z t, fun _ e => nomatch e⟩
  | int i =>
    obtain ⟨t, rfl⟩ := r
    cases (show T = "int" from ty)
    exact ⟨typeIs_int s i t, fun _ e => nomatch e⟩
  | ref p =>
    cases r
    rcases ty with ⟨rfl, xs, hq⟩ | ⟨rfl, o, hk, hc, hd⟩ | ⟨rfl, hk⟩ | ⟨rfl, S, n, hk⟩
    · obtain ⟨its, _, pl, _⟩ := I.list hq
      refine ⟨pl.isList.typeIs, fun a e => ?_⟩
      cases e
      obtain ⟨o, n, e, c, hd, _⟩ := pl
      exact ⟨o, e, hd⟩
    · refine ⟨⟨o, I.kIn p o hk, hc⟩, fun a e => ?_⟩
      cases e
      exact ⟨o, I.kIn _ o hk, hd⟩
    · have z : ∃ o, s.heap.get? p = some o ∧ o.ExactDict := by
        rcases hk with ⟨kvs, hk⟩ | ⟨kvs, hk⟩
        · obtain ⟨_, _, _, _, o, _, _, e, ex, _⟩ := I.hok p _ hk
          exact ⟨o, e, ex⟩
        · obtain ⟨_, _, _, _, o, _, _, e, ex, _⟩ := I.hok p _ hk
          exact ⟨o, e, ex⟩
      obtain ⟨o, e, ex⟩ := z
      refine ⟨⟨o, e, ex.1⟩, fun a e2 => ?_⟩
      cases e2
      exact ⟨o, e, ex.2.1⟩
    · obtain ⟨o, _, _, _, e, ex, _⟩ := I.hok p _ hk
      refine ⟨⟨o, e, ex.1⟩, fun a e2 => ?_⟩
      cases e2
      exact ⟨o, e, ex.2.1⟩
  | _ => exact False.elim ty
abbrev tBM (K : PySem.W.Frag) (T : String) (r : V → List V → Hp → VK → Prop) (to : TE) (t : TA) : TE := fun σ H Q => to σ H fun x H1 => tyV K T x H1 ∧ t σ H1 fun xs H2 => r x xs H2 Q
variable {o e : Expr} {es : List Expr} {to : TE} {t : TA} {name : Str} {apos cpos : Pos} {T id : String} {r : V → List V → Hp → VK → Prop}
theorem pe_bm (pa : PlainAttrs T) (slot : Slot T name id) (hty : typeOf (.builtin id) = pure (.type "method_descriptor")) (hm : MtR X id r) (ho : PE X o to) (ha : PA X (e :: es) t)
    (hbase : attributeBase o name X.env (eval o X.env) = eval o X.env := by rfl)
    (hfew : ((backTo cpos (starEach (e :: es) X.env)).all (fun x => !x.1) && (backToKw cpos (keywordEach [] X.env)).all (fun x => x.1.isSome)
      && decide ((e :: es).length + ([] : List Keyword).length + (if ([] : List Keyword).isEmpty then 0 else 1) < 30)) = true := by rfl)
    (hline : (apos.endLine == cpos.line) = true := by rfl) (hs : starEach (e :: es) X.env = (false, eval e X.env) :: starEach es X.env := by rfl) (hplain : (backTo cpos (starEach es X.env)).any (·.1) = false := by rfl) :
    PE X (.Call (.Attribute o name apos) (e :: es) [] cpos) (tBM X.K T r to t) := by
  intro pins s σ H Q I h
  refine wpAny_Call_method_late hbase hfew hline rfl (thn (ho pins s σ H _ I h) fun v s1 ⟨x, H1, I1, r1, ty, q1⟩ => ?_)
  obtain ⟨h1, h2⟩ := tyV_is I1 r1 ty
  refine ⟨T, id, pa, slot, hty, h1, h2, ?_⟩
  have hA := ha cpos pins s1 σ H1 _ I1 q1
  rw [hs] at hA ⊢
  refine Calls.callWith_builtin (by show (false || (backTo cpos (starEach es X.env)).any (·.1)) = false; rw [hplain] <;> rfl) (Calls.evalArgs_plain ?_)
  exact thn hA fun us s2 ⟨vs, H2, I2, r2, q2⟩ => hm pins s2 σ H2 x vs v us Q I2 r1 r2 q2
/- xs.append(e), list.index on a module's tuple .. are MtR facts of 06m -/
end
end L2

namespace L2
open PySem PySem.Spec PyProof.Rows

def MtM (X : Cx) (id : String) (r : V → List V → Hp → VK → Prop) : Prop :=
  ∀ (pins : List (Addr × Obj)) (s : Shared) (σ : St) (H : Hp) (x : V) (xs : List V) (v : Value) (us : List Value) (Q : VK), Inv X pins σ H s → RelV x v → Vals xs us → r x xs H Q →
    wpAny (model X.prog X.w) X.A (call (.builtin id) (v :: us)) (EP X pins σ Q) X.xe s

/-! ### lists of values -/
theorem Vals.one : ∀ {x : V} {us : List Value}, Vals [x] us → ∃ u, us = [u] ∧ RelV x u
  | _, _, .cons r .nil => ⟨_, rfl, r⟩
theorem Vals.reverse {xs : List V} {us : List Value} (h : Vals xs us) : Vals xs.reverse us.reverse := by
  induction h with
  | nil => exact .nil
  | cons r t ih => rw [List.reverse_cons, List.reverse_cons]; exact Vals.append ih (.cons r .nil)
theorem Vals.rep {xs : List V} {us : List Value} (h : Vals xs us) : ∀ k : Nat, Vals (List.replicate k xs).flatten (List.replicate k us).flatten
  | 0 => .nil
  | k + 1 => by
    rw [List.replicate_succ, List.replicate_succ, List.flatten_cons, List.flatten_cons]
    exact Vals.append h (Vals.rep h k)
theorem foldl_rep (its : List Value) : ∀ (k : Nat) (acc : List Value),
    List.foldl (fun x1 x2 => x1 ++ x2) acc.toArray (List.replicate k its.toArray) = (acc ++ (List.replicate k its).flatten).toArray
  | 0, acc => by simp
  | k + 1, acc => by
    have e : acc.toArray ++ its.toArray = (acc ++ its).toArray := by simp
    have e2 : (acc ++ its) ++ (List.replicate k its).flatten = acc ++ (List.replicate (k + 1) its).flatten := by
      rw [List.replicate_succ, List.flatten_cons, List.append_assoc]
    rw [← e2, ← foldl_rep its k (acc ++ its), ← e, List.replicate_succ, List.foldl_cons]

section
variable {X : Cx} {pins : List (Addr × Obj)} {σ : St} {H : Hp} {s : Shared} {l b : Addr} {xs ys zs : List V}

/-! ### the two steps: a tracked list is rewritten, a new list is laid -/
theorem Inv.lset {its its' : List Value} {n : Nat} {f : Array Value → Array Value} {t' : Nat} (I : Inv X pins σ H s) (hH : H l = some (.lst xs))
    (e : s.heap.get? l = some { cls := .type "list", data := .seq its.toArray n }) (hf : f its.toArray = its'.toArray) (hv : Vals ys its') (hz : ys.length ≤ sizeLine) :
    Inv X pins σ (upd H l (.lst ys)) { s with heap := s.heap.update l (Obj.mapSeq f), toks := t' } := by
  have q := PySem.IsL.update e f
  rw [hf] at q
  refine I.write (x := l) (e := l) (by rw [hH]; exact trivial) (.inl rfl) (fun b' u hb hu => (Heap.get?_update_other s.heap (Obj.mapSeq f) (Ne.symm hb)).trans hu) ⟨_, q⟩ ?_
  exact ⟨hz, its', _, hv, q⟩
theorem Inv.lnew {its : List Value} {t' : Nat} (I : Inv X pins σ H s) (hv : Vals ys its) (hz : ys.length ≤ sizeLine) :
    Inv X pins σ (upd H s.heap.objs.size (.lst ys)) { s with heap := s.heap.push { cls := .type "list", data := .seq its.toArray }, toks := t' } :=
  I.laid (fun _ _ q => Heap.get?_push_of_some _ q) (Nat.le_refl _) ⟨hz, its, 0, hv, Heap.get?_push_size _ rfl⟩
theorem Inv.fresh (I : Inv X pins σ H s) : H s.heap.objs.size = none := I.hok.fresh (Nat.le_refl _)
theorem Inv.lstM (I : Inv X pins σ H s) (hH : H l = some (.lst xs)) : xs.length ≤ sizeLine ∧ ∃ (its : List Value) (n : Nat), Vals xs its ∧ xs.length = its.length ∧ s.heap.get? l = some { cls := .type "list", data := .seq its.toArray n } := by
  obtain ⟨z, its, n, r, e⟩ := I.hok l _ hH
  exact ⟨z, its, n, r, r.length, e⟩

theorem notLongL {n : Nat} (h : n ≤ sizeLine) : Builtin.List.listTooLong n = false := by
  unfold Builtin.List.listTooLong
  exact decide_eq_false (by omega)
end

section
variable {X : Cx}

/-! ### methods -/
def rAppend : V → List V → Hp → VK → Prop := fun x vs H Q => ∃ l xs y, x = .ref l ∧ vs = [y] ∧ H l = some (.lst xs) ∧ xs.length < sizeLine ∧ Q .non (upd H l (.lst (xs ++ [y])))
theorem mt_append : MtM X "list.append" rAppend := by
  intro pins s σ H x vs v us Q I rx rv h
  obtain ⟨l, xs, y, rfl, rfl, hH, hz, q⟩ := h
  cases rx
  obtain ⟨u, rfl, ru⟩ := rv.one
  obtain ⟨z, its, n, r, hl, e⟩ := I.lstM hH
  refine call_meets F.slot_list_append ⟨_, e, rfl⟩ F.entry_list_append (F.args_list_append_2 _ _) (PySem.list_append l its.toArray n u (by rw [List.size_toArray]; omega)) ⟨e, ?_⟩
  refine ⟨.non, _, I.lset (its' := its ++ [u]) hH e (by simp) (r.append (.cons ru .nil)) ?_, rfl, q⟩
  rw [List.length_append, List.length_singleton]
  omega

def rExtend : V → List V → Hp → VK → Prop := fun x vs H Q => ∃ l b xs zs, x = .ref l ∧ vs = [.ref b] ∧ H l = some (.lst xs) ∧ H b = some (.lst zs) ∧ xs.length + zs.length ≤ sizeLine ∧ Q .non (upd H l (.lst (xs ++ zs)))
theorem mt_extend : MtM X "list.extend" rExtend := by
  intro pins s σ H x vs v us Q I rx rv h
  obtain ⟨l, b, xs, zs, rfl, rfl, hH, hB, hz, q⟩ := h
  cases rx
  obtain ⟨u, rfl, ru⟩ := rv.one
  cases ru
  obtain ⟨z, its, n, r, hl, e⟩ := I.lstM hH
  obtain ⟨z2, its2, n2, r2, hl2, e2⟩ := I.lstM hB
  have hsz : its.toArray.size + its2.toArray.size ≤ sizeLine := by rw [List.size_toArray, List.size_toArray]; omega
  have hlong : ¬ (!its.toArray.isEmpty && Builtin.List.listTooLong (its.toArray.size + its2.toArray.size)) = true := by
    rw [notLongL hsz, Bool.and_false]
    exact Bool.false_ne_true
  refine call_meets F.slot_list_extend ⟨_, e, rfl⟩ F.entry_list_extend (F.args_list_extend_2 _ _)
    (AutoSeq1.list_extend_list_list_0 l its.toArray n b its2.toArray n2 hlong (by rw [List.size_toArray]; omega) (by omega)) ⟨e, e2, ?_⟩
  refine ⟨.non, _, I.lset (its' := its ++ its2) hH e (by simp) (r.append r2) ?_, rfl, q⟩
  rw [List.length_append]
  omega

/-! ### list + list, list += list, list * int -/
def rCat : R2 := fun x y H Q => ∃ l b xs zs, x = .ref l ∧ y = .ref b ∧ H l = some (.lst xs) ∧ H b = some (.lst zs) ∧ xs.length + zs.length ≤ sizeLine ∧ ∀ p, H p = none → Q (.ref p) (upd H p (.lst (xs ++ zs)))
theorem op_cat : OpR X (binaryOp .Add) rCat := by
  intro pins s σ H x y v u Q I rx ry h
  obtain ⟨l, b, xs, zs, rfl, rfl, hH, hB, hz, q⟩ := h
  cases rx
  cases ry
  obtain ⟨z, its, n, r, hl, e⟩ := I.lstM hH
  obtain ⟨z2, its2, n2, r2, hl2, e2⟩ := I.lstM hB
  refine PySem.P.add_list e e2 ?_ (by rw [List.size_toArray, List.size_toArray]; omega)
  have ea : its.toArray ++ its2.toArray = (its ++ its2).toArray := by simp
  rw [ea]
  exact ⟨.ref _, _, I.lnew (t' := s.toks) (r.append r2) (by rw [List.length_append]; omega), rfl, q _ I.fresh⟩
/-- a list times an int (a negative one is nothing) -/
def rRep : R2 := fun x y H Q => ∃ l k xs, x = .ref l ∧ y = .int k ∧ H l = some (.lst xs) ∧ -(2 ^ 63) ≤ k ∧ k < 2 ^ 63 ∧ xs.length * k.toNat ≤ sizeLine ∧
  ∀ p, H p = none → Q (.ref p) (upd H p (.lst (List.replicate k.toNat xs).flatten))
theorem len_rep {α : Type} (xs : List α) (k : Nat) : (List.replicate k xs).flatten.length = k * xs.length := by
  induction k with
  | zero => simp
  | succ k ih => rw [List.replicate_succ, List.flatten_cons, List.length_append, ih, Nat.succ_mul, Nat.add_comm]
theorem op_rep : OpR X (binaryOp .Mult) rRep := by
  intro pins s σ H x y v u Q I rx ry h
  obtain ⟨l, k, xs, rfl, rfl, hH, h1, h2, hz, q⟩ := h
  cases rx
  obtain ⟨t, rfl⟩ := ry
  obtain ⟨z, its, n, r, hl, e⟩ := I.lstM hH
  have hlen : its.toArray.size * k.toNat ≤ sizeLine := by rw [List.size_toArray, ← hl]; exact hz
  have hcap : ¬ its.toArray.size * k.toNat > (2 ^ 63 - 1) / 8 := by
    have : (sizeLine : Nat) ≤ (2 ^ 63 - 1) / 8 := by decide
    omega
  have hfit : ¬ (!Builtin.List.listFitsIndex k) = true := by
    rw [fitsIndex_both h1 h2]
    exact Bool.false_ne_true
  have hlong : ¬ Builtin.List.listTooLong (its.toArray.size * k.toNat) = true := by
    rw [notLongL hlen]
    exact Bool.false_ne_true
  have hnew : List.foldl (fun x1 x2 => x1 ++ x2) #[] (List.replicate (if its.toArray.isEmpty = true then 0 else k.toNat) its.toArray) = (List.replicate k.toNat its).flatten.toArray := by
    have f0 : ∀ m : Nat, List.foldl (fun x1 x2 => x1 ++ x2) #[] (List.replicate m its.toArray) = (List.replicate m its).flatten.toArray := fun m => by
      have := foldl_rep its m []
      rw [List.nil_append] at this
      exact this
    rw [f0]
    cases its with
    | nil => simp
    | cons a r' => rw [if_neg (by simp)]
  refine wpAny_binaryOp_repeat_ref (T := "list") (U := "int") (by decide) ⟨_, e, rfl⟩ (fun s' => typeIs_int s' k t) noFill_list_mul F.fills_int_mul F.slot_int_rmul repeat_list F.slot_int_index.lookup
    (call_meets F.slot_int_rmul (typeIs_int s k t) F.entry_int_rmul (F.args_int_rmul_2 _ _) (int___rmul___int_list k t l its.toArray n)
      ⟨e, rfl, ⟨_, e, rfl⟩, call_meets F.slot_list_mul ⟨_, e, rfl⟩ F.entry_list_mul (F.args_list_mul_2 _ _) (AutoListH.list___mul___list_int_3 l its.toArray n k t hfit hcap hlong) ⟨e, ?_⟩⟩)
  rw [hnew]
  exact ⟨.ref _, _, I.lnew (t' := s.toks) (r.rep k.toNat) (by rw [len_rep, Nat.mul_comm]; exact hz), rfl, q _ I.fresh⟩

/-! ### del xs[i] -/
end

/-! ### xs[a:b] = ys -/
section
variable {prog : Program} {w : World} {A : Around} {E : Value → Shared → Prop} {s : Shared}
end

section
variable {X : Cx}
end
end L2

namespace Att
open PySem PySem.W PySem.Calls PyProof.Rows

/-! ### the script -/
theorem ints_of_wellAll {P : Params} {h : Heap} : ∀ (ns : List Int) (vs : List Value), WellAll P h vs (ns.map WData.int) → IntsAre vs ns := by
  intro ns
  induction ns with
  | nil =>
    intro vs w
    rw [List.map_nil] at w
    cases w
    exact .nil
  | cons n ns ih =>
    intro vs w
    rw [List.map_cons] at w
    cases w with
    | cons a b =>
      cases a
      exact .cons _ _ (ih _ b)

theorem script_of {l : OpenLaw} {n : Nat} (hn : l.most = some n) {P : Params} {h : Heap} {args : List WData} {vals : List Value}
    (hpre : l.row.toRowW.claim.pre args = true) (hwl : WellAll P h vals args) :
    ∃ a vs ns, vals = [Value.ref a] ∧ args = [WData.list (ns.map WData.int)] ∧ h.get? a = some { cls := .type "list", data := .seq vs.toArray } ∧ IntsAre vs ns ∧ ns.length ≤ n := by
  have hsh : WShape.hasAll [] args [.list .int] = true := (pre_splitW hpre).1
  have hc : l.pre.holds [] { args := args } = true := (pre_splitW hpre).2
  obtain ⟨d, r, rfl, h1, h2⟩ := hasAllW_cons hsh
  obtain rfl := hasAllW_nil h2
  obtain ⟨xs, rfl, h3⟩ := hasW_list h1
  obtain ⟨ns, rfl⟩ := items_int h3
  have hlen : ns.length ≤ n := by
    unfold OpenLaw.pre at hc
    have h4 : (WTm.not (.lt (.lit (.int (n : Int))) (.len (.arg 0)))).holds [] { args := [.list (ns.map .int)] } = true := by
      have h4 := (holds_andW hc).1
      rw [hn] at h4
      exact h4
    have h5 := condW_of h4 (w_not (w_lt w_lit (w_len_list (w_arg rfl))))
    rw [List.length_map] at h5
    refine Nat.le_of_not_lt fun q => ?_
    have q' : (n : Int) < ((ns.length : Nat) : Int) := by omega
    first
      | (rw [decide_eq_true q'] at h5; exact absurd h5 (by decide))
      | (simp at h5; omega)
  cases hwl with
  | cons w1 w2 =>
    cases w2
    cases w1 with
    | list ho hall => exact ⟨_, _, ns, rfl, rfl, ho, ints_of_wellAll ns _ hall, hlen⟩

theorem post_true (l : OpenLaw) (args : List WData) : l.row.toRowW.claim.post args (.bool true) args = true :=
  postW_of (r := l.row.toRowW) (X := (true == true))
    (show WShape.has [] (.bool true) .bool = true by first | rfl | decide | simp [WShape.has, WShape.arms, WShape.armsAll])
    (show (WTm.eq .res (.lit (.bool true))).value [] { args := args, res := some (.bool true), after := args } = some (.bool (true == true)) from w_eq_bool (w_res rfl) w_lit) rfl

/-! ### the attachment: holds_open's last premise (the goal 'hc' behind k_head) from a wpAny of the law's body -/
/-- the same from a codeAny of the CALL (for a layer whose function contracts speak of calls) -/
theorem attach_call {l : OpenLaw} {n : Nat} {q : Program} {loose : List Str} {XP : (Str → Option Value) → Heap → Prop} {YP : World → Heap → Prop} {d : DefRec}
    (hn : l.most = some n) (hdf : d.params.defaults = [])
    (call : ∀ (w : World) (s₀ s₁ : Shared) (mg mb : Str → Option Value) (fa : Addr) (o : Obj) (pm cd doc : Value) (a : Addr) (vs : List Value) (ns : List Int),
      Ground q loose [] XP w s₀ mg mb s₁.heap → YP w s₁.heap →
      s₁.heap.get? fa = some o → o.data = .func (docDef d.name d.params d.body d.scope pm cd doc) → s₁.heap.CodeRec cd d.name → mg d.name = some (.ref fa) →
      s₁.heap.get? a = some { cls := .type "list", data := .seq vs.toArray } → IntsAre vs ns → ns.length ≤ n → s₁.gens = #[] →
      codeAny (model l.prog w) callerA (.call (.ref fa) ⟨[.ref a], []⟩) (fun r s' => r = .ok (.ret (.bool true)) ∧ OldK s₁.heap s'.heap ∧ s'.os = s₁.os ∧ AllBare s'.gens) s₁) :
    WalkO q loose XP YP l.row.toRowW d [] (fun f vs => PySem.call f vs) := by
  intro w s₀ s₁ mg mb G Y fa o pm cd doc dV kV ho hd hcd hD hmg hg args vals as hpre hlay hrd hwl hlo
  obtain rfl : dV = .none := Dflts.none hD hdf
  obtain rfl : kV = .none := Dflts.noKw hD
  obtain ⟨a, vs, ns, rfl, rfl, hobj, hints, hlen⟩ := script_of hn hpre hwl
  refine enter_call (codeAny_mono (call w s₀ s₁ mg mb fa o pm cd doc a vs ns G Y ho (fd_plain hd) hcd hmg hobj hints hlen hg) fun r s' hq => ?_)
  obtain ⟨rfl, h2, h3, h4⟩ := hq
  exact ⟨.inl ⟨.bool true, .bool true, [], rfl, fun _ => rfl, .bool true, post_true l _, fun _ => ⟨List.Pairwise.nil, fun _ hm => (nomatch hm)⟩⟩, h2, h3, h4⟩

/-! ### rules over ANY heap (no ledger) from facts about the written part K: the library's own take a ledger (News) for what they write -/
section
variable {prog : Program} {w : World} {A : Around} {E : Value → Shared → Prop} {s : Shared} {K : Frag}

/-! the whole heap as the ledger: makes every rule that writes through a ledger a rule over any heap -/
end
end Att

namespace L2
open PySem PySem.Spec PyProof.Rows

theorem vals_ints : ∀ {vs : List Value} {ns : List Int}, IntsAre vs ns → Vals (ns.map V.int) vs
  | _, _, .nil => .nil
  | _, _, .cons n t h => .cons ⟨t, rfl⟩ (vals_ints h)

/-- nothing is tracked but the script, known to the object (or it is an object of the module) -/
def Only (H : Hp) : Prop := ∀ b, H b = none ∨ ∃ o xs, H b = some (.frz o (.lst xs))

/-- THE HEAD: the law's promise, at the heap behind the top. F, the promise of the law's def, may use that base is part of the heap (so K.In base, base.Ns mainGlobals mg stand in Mod) -/
theorem law_call {P : Program} {w : World} {K : PySem.W.Frag} {mg mb : Str → Option Value} {CX : CXT} {k : Nat} {fa a : Addr} {fd : FuncData} {x : Str} {sp : Sp} {s₁ : Shared} {vs : List Value} {ns : List Int}
    (KX : K.In s₁.heap) (hns : s₁.heap.Ns mainGlobals mg) (hb : s₁.heap.Ns builtinsNs mb) (hbb : ∀ x : Str, x ≠ "__name__" → mb x = bootBuiltins x) (hlim : s₁.heap.NoLimit) (hg : s₁.gens = #[])
    (ha : s₁.heap.get? a = some { cls := .type "list", data := .seq vs.toArray }) (hi : IntsAre vs ns) (hl : ns.length ≤ sizeLine) (hr : Room k callerA)
    (F : ∀ base : Heap, K.In base → base.Ns mainGlobals mg → FnOk P w K mg base CX k fa fd [x] sp) (hbind : ∀ (s : Shared) (u : Value), BindsTo s fd ⟨[u], []⟩ [(x, u)])
    (hsp : ∀ H : Hp, Only H → SqL K H a (ns.map V.int) → sp [.ref a] H (fun v _ => v = .bl true) fun _ _ _ => False)
    (hCX : ∀ H e s', CX [] H s₁ (fun _ _ _ => False) e s' → False) :
    codeAny (model P w) callerA (.call (.ref fa) ⟨[.ref a], []⟩) (fun r s' => r = .ok (.ret (.bool true)) ∧ OldK s₁.heap s'.heap ∧ s'.os = s₁.os ∧ AllBare s'.gens) s₁ := by
  have rv := vals_ints hi
  have lenV := hi.length
  -- from an abstract heap in which nothing but the script may be tracked
  have core : ∀ H : Hp, Only H → SqL K H a (ns.map V.int) → HOk P w H s₁.heap → (∀ b, H b ≠ none → b = a) → (H a ≠ none → K.lookup a = none) →
      codeAny (model P w) callerA (.call (.ref fa) ⟨[.ref a], []⟩) (fun r s' => r = .ok (.ret (.bool true)) ∧ OldK s₁.heap s'.heap ∧ s'.os = s₁.os ∧ AllBare s'.gens) s₁ := by
    intro H hO hS hok hA hK
    have base_of : ∀ {b : Addr} {o : Obj}, s₁.heap.get? b = some o → H b = none → (hidT s₁.heap H).get? b = some o := fun e n => hidT_get e n
    have noA : ∀ {b : Addr} {o : Obj} {es : Array DictEntry} {ep : Nat}, s₁.heap.get? b = some o → o.data = .dict es ep → H b = none := fun {b o es ep} e d => by
      cases q : H b with
      | none => rfl
      | some u =>
        have e' : b = a := hA b (by rw [q]; simp)
        subst e'
        rw [ha] at e; cases e
        have d' : Data.seq vs.toArray _ = Data.dict es ep := d
        cases d'
    have nsK : ∀ {b : Addr} {m : Str → Option Value}, s₁.heap.Ns b m → (hidT s₁.heap H).Ns b m := fun {b m} ⟨o, es, ep, e, d, r⟩ => ⟨o, es, ep, base_of e (noA e d), d, r⟩
    have hKb : K.In (hidT s₁.heap H) := fun b o e => base_of (KX b o e) (by
      cases q : H b with
      | none => rfl
      | some u =>
        have e' : b = a := hA b (by rw [q]; simp)
        subst e'
        rw [hK (by rw [q]; simp)] at e; cases e)
    have hM : Mod K mg (hidT s₁.heap H) := ⟨hKb, nsK hns, ⟨mb, nsK hb, hbb⟩, let ⟨mc, h1, h2⟩ := hlim; ⟨mc, nsK h1, h2⟩⟩
    have e0 : Env0 P w K mg (hidT s₁.heap H) callerA [] s₁ H := ⟨rfl, hM, fun b o e => of_hidT e, Nat.le_of_eq (hidT_size _ _), trivial, fun b hb => absurd (show b ∈ ([] : List Addr) from hb) (by simp), hok, .of_eq hg⟩
    refine codeAny_mono ((F _ hKb (nsK hns)).run callerA [] s₁ H ⟨[.ref a], []⟩ [.ref a] [.ref a] _ _ hr e0 (hbind s₁ (.ref a)) (.cons rfl .nil) (hsp H hO hS)) fun r s' h => ?_
    cases r with
    | error e => exact (hCX H e s' h).elim
    | ok fl =>
      cases fl with
      | next => exact False.elim h
      | brk => exact False.elim h
      | cont => exact False.elim h
      | ret u =>
        obtain ⟨v, H', os, bare, un, hok', r', q⟩ := h
        have q' : v = .bl true := q
        subst q'
        obtain rfl : u = Value.bool true := r'
        refine ⟨rfl, OldK.of_keep fun b o e => ?_, os, bare⟩
        cases q : H b with
        | none => exact un.keep b o e q (by intro z; exact absurd (show b ∈ ([] : List Addr) from z) (by simp)) (by simp)
        | some u =>
          rcases hO b with z | ⟨ob, xs, z⟩
          · rw [q] at z; cases z
          · have z2 := un.frzs b ob _ z
            obtain ⟨e1, _⟩ := hok b _ z
            obtain ⟨e2, _⟩ := hok' b _ z2
            rw [e] at e1; cases e1
            exact e2
  cases hk : K.lookup a with
  | some o =>
    -- the script is one of the module's own objects
    have e := KX a o hk
    rw [ha] at e
    cases e
    refine core (fun _ => none) (fun _ => .inl rfl) (.inr ⟨_, vs.toArray, _, hk, rfl, rfl, rfl, by rw [List.size_toArray, lenV]; exact hl, by simpa using rv⟩) (fun b u z => by have z' : (none : Option HO) = some u := z; cases z') (fun b z => absurd rfl z) fun z => absurd rfl z
  | none =>
    refine core (fun b => if b = a then some (.frz { cls := .type "list", data := .seq vs.toArray } (.lst (ns.map V.int))) else none) (fun b => ?_) (.inl (.inr ⟨{ cls := .type "list", data := .seq vs.toArray }, if_pos rfl⟩)) (fun b u z => ?_) (fun b z => ?_) fun _ => hk
    · by_cases hb : b = a
      · exact .inr ⟨_, _, if_pos hb⟩
      · exact .inl (if_neg hb)
    · by_cases hb : b = a
      · have z' := (if_pos hb).symm.trans z
        cases z'
        subst hb
        exact ⟨ha, by rw [List.length_map]; exact hl, vs, _, rv, ha⟩
      · have z' := (if_neg hb).symm.trans z
        cases z'
    · by_cases hb : b = a
      · exact hb
      · exact absurd (if_neg hb) z
end L2

namespace L2
open PySem PySem.Spec PyProof.Rows

abbrev KOf {K : PySem.W.Frag} {h : Heap} (_ : K.In h) : PySem.W.Frag := K

/-- the goal that k_head leaves (case hc), from the law's promise. F gives the function object fd (K's own) once, then the promise over every base -/
theorem walk_of {l : PySem.W.OpenLaw} {n k : Nat} {q : Program} {loose : List Str} {XP : (Str → Option Value) → Heap → Prop} {YP : World → Heap → Prop} {d : DefRec} {K : Params → PySem.W.Frag} {CX : World → CXT} {sp : World → Sp} {x : Str}
    (hn : l.most = some n) (hn2 : n ≤ sizeLine) (hdf : d.params.defaults = []) (hr : Room k callerA)
    (hY : ∀ (w : World) (h : Heap), YP w h → (K w.params).In h)
    (F : ∀ (w : World) (mg : Str → Option Value) (fa : Addr) (h : Heap), (K w.params).In h → h.Ns mainGlobals mg → mg d.name = some (.ref fa) →
      ∃ fd : FuncData, (∀ (s : Shared) (u : Value), BindsTo s fd ⟨[u], []⟩ [(x, u)]) ∧
        ∀ base : Heap, (K w.params).In base → base.Ns mainGlobals mg → FnOk l.prog w (K w.params) mg base (CX w) k fa fd [x] (sp w))
    (hsp : ∀ (w : World) (H : Hp) (a : Addr) (ns : List Int), ns.length ≤ n → Only H → SqL (K w.params) H a (ns.map V.int) → sp w [.ref a] H (fun v _ => v = .bl true) fun _ _ _ => False)
    (hCX : ∀ (w : World) (H : Hp) (s : Shared) (e : Value) (s' : Shared), CX w [] H s (fun _ _ _ => False) e s' → False) :
    PySem.W.WalkO q loose XP YP l.row.toRowW d [] (fun f vs => PySem.call f vs) := by
  refine Att.attach_call hn hdf fun w s₀ s₁ mg mb fa o pm cd doc a vs ns G Y ho hd hcd hmg hobj hints hlen hg => ?_
  have KX := hY w _ Y
  obtain ⟨fd, hb, hF⟩ := F w mg fa _ KX G.T.g hmg
  exact law_call KX G.T.g G.T.b G.T.builtins G.T.nolimit hg hobj hints (Nat.le_trans hlen hn2) hr hF hb (fun H hO hS => hsp w H a ns hlen hO hS) fun H e s' => hCX w H s₁ e s'
/-- the same where the promise hangs on the written part alone: (sp := My.sp_law), no hole under a binder -/
theorem walk_ofK {l : PySem.W.OpenLaw} {n k : Nat} {q : Program} {loose : List Str} {XP : (Str → Option Value) → Heap → Prop} {YP : World → Heap → Prop} {d : DefRec} {K : Params → PySem.W.Frag} {CX : CXT} {sp : PySem.W.Frag → Sp} {x : Str}
    (hn : l.most = some n) (hn2 : n ≤ sizeLine) (hdf : d.params.defaults = []) (hr : Room k callerA)
    (hY : ∀ (w : World) (h : Heap), YP w h → (K w.params).In h)
    (F : ∀ (w : World) (mg : Str → Option Value) (fa : Addr) (h : Heap), (K w.params).In h → h.Ns mainGlobals mg → mg d.name = some (.ref fa) →
      ∃ fd : FuncData, (∀ (s : Shared) (u : Value), BindsTo s fd ⟨[u], []⟩ [(x, u)]) ∧
        ∀ base : Heap, (K w.params).In base → base.Ns mainGlobals mg → FnOk l.prog w (K w.params) mg base CX k fa fd [x] (sp (K w.params)))
    (hsp : ∀ (K : PySem.W.Frag) (H : Hp) (a : Addr) (ns : List Int), ns.length ≤ n → Only H → SqL K H a (ns.map V.int) → sp K [.ref a] H (fun v _ => v = .bl true) fun _ _ _ => False)
    (hCX : ∀ (H : Hp) (s : Shared) (e : Value) (s' : Shared), CX [] H s (fun _ _ _ => False) e s' → False) :
    PySem.W.WalkO q loose XP YP l.row.toRowW d [] (fun f vs => PySem.call f vs) :=
  walk_of (K := K) (CX := fun _ => CX) (sp := fun w => sp (K w.params)) hn hn2 hdf hr hY F (fun w H a ns h1 h2 h3 => hsp (K w.params) H a ns h1 h2 h3) fun _ H s e s' => hCX H s e s'
end L2

/- THE LAST THEOREM (shape; LID, My.* are yours):
   My.Adr: a structure of the addresses that your layer names (classes, functions); My.Txt K t: a structure (Prop) of the equations over K;
   My.txt_mk : {K} {implicit addresses ..} (e1 : nsIn K mainGlobals "law" = some (some (.ref f))) (e2 : K.lookup f = some ⟨oc, od, .func (fnOf "law" "law" params body scope dV kV doc pm an cdv ct), sl⟩) (e3 : codeIn K cdv "law" = true) .. : ∃ t, My.Txt K t

set_option maxRecDepth 100000 in
set_option maxHeartbeats 0 in
theorem PySem.Challenge.cw_LID_holds : PySem.Challenge.rw_LID.Holds := by
  w_on; o_law; k_head; (case hw => w_witness2)
  k_fill
  refine L2.walk_of (l := PySem.Challenge.rw_LID) (n := 63) (k := 40) (x := "script") (CX := fun w => ..) (sp := fun _ => My.sp_law) rfl (by decide) rfl ⟨rfl, by decide, by decide⟩ (fun w h Y => PySem.W.kIn_of Y) ?F ?S ?C
  case F =>
    intro w mg fa h KX G hmg
    have T : ∃ t, My.Txt (L2.KOf KX) t := by
      dsimp only [L2.KOf]                          -- K must stand as «<heap const> w.params» for k_is
      refine' My.txt_mk ?e1 ?e2 ?e3 ..
      (case e1 => PySem.W.k_is)                    -- in the order: a name -> its address -> its object -> its parts
      (case e2 => PySem.W.k_is)
      ..
    obtain ⟨t, T⟩ := T
    have e0 := hmg.symm.trans (PySem.W.mg_of KX G T.law)
    cases e0                                       -- fa is the law's own address
    exact ⟨_, fun s u => .of_eq rfl, fun base kb nb => My.law_fn T kb nb⟩     -- if «.of_eq rfl» comes too early: refine' ⟨_, ?b, fun base kb nb => My.law_fn T kb nb⟩; exact fun s u => .of_eq rfl
  case S => exact fun w H a ns hl hO hS => ..
  case C => exact ..
(the tactic k_is has no namespace: write k_is) -/

/-! SHORT WORDS over the layer: a def of the text, its body, what a loop and a test want. -/
namespace L2
open PySem PySem.Spec PyProof.Rows

/-! ### the text by places -/
/-- the j-th statement of a class's body -/
def inClass (s : Stmt) (j : Nat) : Stmt := match s with
  | .ClassDef _ _ _ body _ _ _ _ _ _ _ => body.getD j (.Pass ⟨0, 0, 0, 0⟩)
  | _ => .Pass ⟨0, 0, 0, 0⟩
def defArgs (s : Stmt) : Arguments := match s with
  | .FunctionDef _ a _ _ _ _ _ _ _ _ => a
  | _ => { posonlyargs := [], args := [], vararg := none, kwonlyargs := [], kw_defaults := [], kwarg := none, defaults := [] }
def defBody (s : Stmt) : List Stmt := match s with
  | .FunctionDef _ _ b _ _ _ _ _ _ _ => b
  | _ => []
def defScope (s : Stmt) : Scope := match s with
  | .FunctionDef _ _ _ _ _ _ sc _ _ _ => sc
  | _ => { kind := .function, names := [], isGenerator := false, isCoroutine := false }

/-! ### no exception leaves a def -/
abbrev CX0 : CXT := fun _ _ _ _ _ _ => False
abbrev E0 : XK := fun _ _ _ => False
theorem pass0 {X : Cx} : Passes CX0 X E0 := fun _ _ _ _ _ _ _ h => h.elim

/-! ### a def (or method) of the text as it stands behind the top -/
structure Fun (K : PySem.W.Frag) (x qual : Str) (st : Stmt) (f : Addr) (fd : FuncData) : Prop where
  ex : ∃ (oc : Value) (od : Option Addr) (kV doc pm : Value) (an : Option Addr) (cdv ct : Value) (osl : Array (Option Value)),
    fd = PySem.W.fnOf x qual (defArgs st) (defBody st) (defScope st) .none kV doc pm an cdv ct ∧ K.lookup f = some ⟨oc, od, .func fd, osl⟩ ∧ PySem.W.codeIn K cdv qual = true
  kp : PySem.W.keepIn K (.ref f) = true
section
variable {P : Program} {w : World} {K : PySem.W.Frag} {mg : Str → Option Value} {base : Heap}
/-- THE RULE for a def: its body as a term of rules, and the reading of that term -/
theorem Fun.ok {x qual : Str} {st : Stmt} {f : Addr} {fd : FuncData} {N ps : List Str} {k : Nat} {sp : Sp} (F : Fun K x qual st f fd) (S : FnScope N ps (defScope st)) (len : ∀ vs H Q E, sp vs H Q E → vs.length = ps.length)
    (hbody : ∀ (cdv : Value) (A : Around) (outer : List Env) (s : Shared) (H : Hp) (vs : List V) (Q : VK) (E : XK), Room k (A.deeper (envOfC qual (defScope st) s.heap.objs.size f cdv)) → sp vs H Q E →
      ∃ t, PSs (cxOf CX0 P w K mg base N qual (defScope st) f cdv A outer s H E).nox (defBody st) t ∧ t { nx := fun _ H' => Q .non H', rt := Q } (start N vs) H) : FnOk P w K mg base CX0 (k + 1) f fd ps sp := by
  obtain ⟨oc, od, kV, doc, pm, an, cdv, ct, osl, rfl, lk, hcd⟩ := F.ex
  refine fn_of lk hcd S len fun A outer s H vs Q E hr hsp => ?_
  obtain ⟨t, h, q⟩ := hbody cdv A outer s H vs Q E hr hsp
  exact ⟨t, h.nox, q⟩
/-- how its arguments bind (no defaults): h is «fun _ _ _ _ _ _ us hl => match us, hl with | [_, _], _ => rfl», one _ a parameter -/
theorem Fun.binds {x qual : Str} {st : Stmt} {f : Addr} {fd : FuncData} {ps : List Str} (F : Fun K x qual st f fd)
    (h : ∀ (kV doc pm : Value) (an : Option Addr) (cdv ct : Value) (us : List Value), us.length = ps.length → bindArgs (PySem.W.fnOf x qual (defArgs st) (defBody st) (defScope st) .none kV doc pm an cdv ct) ⟨us, []⟩ = pure (ps.zip us)) : Binds K fd ps [] := by
  obtain ⟨oc, od, kV, doc, pm, an, cdv, ct, osl, rfl, lk, hcd⟩ := F.ex
  exact .all (h kV doc pm an cdv ct)
theorem fun_mk {x qual : Str} {st : Stmt} {f : Addr} {oc : Value} {od an : Option Addr} {osl : Array (Option Value)} {kV doc pm cdv ct : Value} (l : K.lookup f = some ⟨oc, od, .func (PySem.W.fnOf x qual (defArgs st) (defBody st) (defScope st) .none kV doc pm an cdv ct), osl⟩)
    (c : PySem.W.codeIn K cdv qual = true) (k : PySem.W.keepIn K (.ref f) = true) : Fun K x qual st f (PySem.W.fnOf x qual (defArgs st) (defBody st) (defScope st) .none kV doc pm an cdv ct) := ⟨⟨oc, od, kV, doc, pm, an, cdv, ct, osl, rfl, l, c⟩, k⟩
end
/-! ### expressions in short: the name that stands in the i-th slot -/
section
variable {X : Cx}
theorem pv (i : Nat) {x : Str} {pos : Pos} (hN : X.N[i]? = some x := by rfl) (hv : Vis X.env.scope x := by first | exact Or.inl rfl | exact Or.inr (Or.inl rfl) | exact Or.inr (Or.inr rfl)) (hd : (x == ("__debug__" : Str)) = false := by decide)
    (hcd : (x == ("__classdict__" : Str)) = false := by decide) : PE X (.Name x pos) (tVar i) := pe_var hN hv hd hcd
end

/-! ### tests -/
theorem iteF {A B : Prop} (h : B) : if false = true then A else B := by
  rw [if_neg Bool.false_ne_true]
  exact h
theorem iteT {A B : Prop} (h : A) : if true = true then A else B := by
  rw [if_pos rfl]
  exact h
theorem ite2 {c A B : Prop} [Decidable c] (h1 : c → A) (h2 : ¬ c → B) : if c then A else B := by
  by_cases h : c
  · rw [if_pos h]
    exact h1 h
  · rw [if_neg h]
    exact h2 h
/-! ### heaps -/
/-- all that was tracked is as it was -/
def Same (H H' : Hp) : Prop := ∀ b o, H b = some o → H' b = some o
theorem Same.refl (H : Hp) : Same H H := fun _ _ h => h
theorem Same.trans {H H1 H2 : Hp} (a : Same H H1) (b : Same H1 H2) : Same H H2 := fun c o h => b c o (a c o h)
theorem Same.free {H H' : Hp} (e : Same H H') {l : Addr} (h : H' l = Option.none) : H l = Option.none := by
  cases q : H l with
  | none => rfl
  | some o =>
    rw [e l o q] at h
    cases h
theorem Same.seq {K : PySem.W.Frag} {H H' : Hp} {a : Addr} {xs : List V} (e : Same H H') (h : SqL K H a xs) : SqL K H' a xs := by
  rcases h with (h | ⟨o, h⟩) | h
  · exact .inl (.inl (e _ _ h))
  · exact .inl (.inr ⟨o, e _ _ h⟩)
  · exact .inr h

end L2

set_option Elab.async false
set_option linter.all false
set_option maxRecDepth 100000
namespace L2
open PySem PySem.Spec PyProof.Rows

/-! ### lists of pairs as tables -/
section
variable {κ : Type} [DecidableEq κ]
/-- in its place, or at the end -/
def putK (kvs : List (κ × V)) (k : κ) (v : V) : List (κ × V) :=
  if (kvs.any fun kv => decide (kv.1 = k)) = true then kvs.map (fun kv => if kv.1 = k then (kv.1, v) else kv) else kvs ++ [(k, v)]
theorem length_putK (kvs : List (κ × V)) (k : κ) (v : V) : (putK kvs k v).length ≤ kvs.length + 1 := by
  unfold putK
  split
  · rw [List.length_map]; omega
  · rw [List.length_append, List.length_cons, List.length_nil]; omega
theorem RelO.isSome_eq {o : Option V} {u : Option Value} (r : RelO o u) : o.isSome = u.isSome := by
  cases o with
  | none => cases u with
    | none => rfl
    | some _ => exact (show False from r).elim
  | some _ => cases u with
    | none => exact (show False from r).elim
    | some _ => rfl
theorem KV.any {kvs : List (κ × V)} {vs : List (κ × Value)} (r : KV kvs vs) (k : κ) : (kvs.any fun kv => decide (kv.1 = k)) = vs.any fun kv => decide (kv.1 = k) := by
  unfold KV at r
  induction r with
  | nil => rfl
  | cons h t ih => rw [List.any_cons, List.any_cons, ih, h.1]
theorem KV.repl {kvs : List (κ × V)} {vs : List (κ × Value)} (r : KV kvs vs) (k : κ) {y : V} {u : Value} (ry : RelV y u) :
    KV (kvs.map fun kv => if kv.1 = k then (kv.1, y) else kv) (vs.map fun kv => if kv.1 = k then (kv.1, u) else kv) := by
  unfold KV at r ⊢
  induction r with
  | nil => exact .nil
  | @cons p q ps qs h t ih =>
    rw [List.map_cons, List.map_cons]
    refine .cons ?_ ih
    obtain ⟨h1, h2⟩ := h
    by_cases e : p.1 = k
    · rw [if_pos e, if_pos (h1.symm.trans e)]; exact ⟨h1, ry⟩
    · rw [if_neg e, if_neg (fun z => e (h1.trans z))]; exact ⟨h1, h2⟩
theorem KV.put {kvs : List (κ × V)} {vs : List (κ × Value)} (r : KV kvs vs) (k : κ) {y : V} {u : Value} (ry : RelV y u) : KV (putK kvs k y) (stored vs k u) := by
  unfold putK stored
  rw [r.any k]
  by_cases e : (vs.any fun kv => decide (kv.1 = k)) = true
  · rw [if_pos e, if_pos e]; exact r.repl k ry
  · rw [if_neg e, if_neg e]; exact Paired.snoc r ⟨rfl, ry⟩
end


/-! ### a tracked dict, its keys ints and texts or tuples of these -/
theorem kV_is {P : Program} {w : World} {k : Key} {u : Value} (r : RelV (kV k) u) : (mixKind P w).is k u = true := by
  cases k with
  | inl i => obtain ⟨t, e⟩ := (show ∃ t, u = Value.int i t from r); subst e; exact mixKind_int P w i t
  | inr x => obtain ⟨t, e⟩ := (show ∃ t, u = Value.str x t from r); subst e; exact mixKind_str P w x t
section
variable {P : Program} {w : World} {H : Hp} {h : Heap} {a : Addr}
theorem rd_of {u : HO} (ok : HOk P w H h) (e : Rd H a u) : ObjOk P w H h a u := e.ok ok
theorem dk_rd {kvs : List (Key × V)} (ok : HOk P w H h) (e : Rd H a (.dK kvs)) : kvs.length ≤ sizeLine ∧ (a == sysModules) = false ∧ ∃ vs, KV kvs vs ∧ h.DictOf (mixKind P w) a vs :=
  show ObjOk P w H h a (.dK kvs) from rd_of ok e
theorem dk_of {kvs : List (Key × V)} (ok : HOk P w H h) (e : H a = some (.dK kvs)) : kvs.length ≤ sizeLine ∧ (a == sysModules) = false ∧ ∃ vs, KV kvs vs ∧ h.DictOf (mixKind P w) a vs := dk_rd ok (.inl e)
end

section
variable {X : Cx} {pins : List (Addr × Obj)} {σ : St} {H : Hp} {s : Shared} {a : Addr} {y v : V} {u r : Value} {o : Option V} {A : Around} {E : Value → Shared → Prop}

theorem Inv.big (I : Inv X pins σ H s) : sysModules < s.heap.objs.size := by
  have h : mainGlobals < s.heap.objs.size := (I.mod.glob.keeps I.bk).lt
  exact Nat.lt_trans (by decide) h

/-- a dict's object is replaced -/
theorem d_write {h' : Heap} {t' : Nat} {ob : HO} (I : Inv X pins σ H s) (mu : Mut (H a)) (hs : Heap.SameBut a s.heap h') (he : ∃ q, h'.get? a = some q) (new : ObjOk X.prog X.w (upd H a ob) h' a ob) :
    Inv X pins σ (upd H a ob) { s with heap := h', toks := t' } :=
  I.write (x := a) (e := a) mu (.inl rfl) (fun b q hb z => (hs.2 b hb).trans z) he new
theorem dk_new {P : Program} {w : World} {H' : Hp} {h' : Heap} {kvs : List (Key × V)} {vs : List (Key × Value)} (z : kvs.length ≤ sizeLine) (hd : (a == sysModules) = false) (rel : KV kvs vs) (dd : h'.DictOf (mixKind P w) a vs) :
    ObjOk P w H' h' a (.dK kvs) := ⟨z, hd, vs, rel, dd⟩
end

section
variable {X : Cx} {pins : List (Addr × Obj)} {σ : St} {H : Hp} {s : Shared} {a : Addr} {kvs : List (Key × V)} {k : Key} {u : Value} {A : Around} {E : Value → Shared → Prop}
end


/-! ### readings and rules -/
section
variable {X : Cx} {o i e value : Expr} {pos pos' tpos : Pos} {td ty tv : TE}
end


/-! ### displays -/
theorem dk_empty {P : Program} {w : World} {H : Hp} (h : Heap) (hb : sysModules < h.objs.size) : ObjOk P w H (h.push { cls := .type "dict", data := .dict #[] }) h.objs.size (.dK []) :=
  ⟨Nat.zero_le _, beq_eq_false_iff_ne.mpr (Ne.symm (Nat.ne_of_lt hb)), [], .nil, Heap.DictOf.new h⟩
/-- {}, to be a dict of the kind that is wanted -/
def tDNewK : TE := fun _ H Q => ∀ p, H p = none → Q (.ref p) (upd H p (.dK []))
section
variable {X : Cx} {pos : Pos}
theorem pe_dnewK : PE X (.Dict [] [] pos) tDNewK := fun pins s σ H Q I h =>
  wpAny_Dict_empty ⟨.ref s.heap.objs.size, _, I.laid (a := s.heap.objs.size) (o := .dK []) (t' := s.toks) (fun _ _ q => Heap.get?_push_of_some _ q) (Nat.le_refl _) (dk_empty s.heap I.big), rfl, h _ (I.hok.fresh (Nat.le_refl _))⟩
end

/-- the pairs of a display, from the left -/
def tPairs : List (TE × TE) → St → Hp → (List (V × V) → Hp → Prop) → Prop
  | [], _, H, Q => Q [] H
  | (tk, tv) :: r, σ, H, Q => tk σ H fun x H1 => tv σ H1 fun y H2 => tPairs r σ H2 fun ps H3 => Q ((x, y) :: ps) H3
abbrev VV : List (V × V) → List (Value × Value) → Prop := Paired fun p q => RelV p.1 q.1 ∧ RelV p.2 q.2
def PPs (X : Cx) (pos : Pos) (keys : List (Option Expr)) (values : List Expr) (trs : List (TE × TE)) : Prop :=
  ∀ (pins : List (Addr × Obj)) (s : Shared) (σ : St) (H : Hp) (Q : List (V × V) → Hp → Prop), Inv X pins σ H s → tPairs trs σ H Q →
    wpAny (model X.prog X.w) X.A (evalPairs (pairTrees keys values X.env pos)) (fun vs s' => ∃ ps H', Inv X pins σ H' s' ∧ VV ps vs ∧ Q ps H') X.xe s
theorem pps_nil {X : Cx} {pos : Pos} : PPs X pos [] [] [] := fun pins s σ H Q I h => pairTrees_nil_walk ⟨[], H, I, .nil, h⟩
theorem pps_cons {X : Cx} {pos : Pos} {k v : Expr} {ks : List (Option Expr)} {vs : List Expr} {tk tv : TE} {trs : List (TE × TE)} (hk : PE X k tk) (hv : PE X v tv) (hr : PPs X pos ks vs trs) :
    PPs X pos (some k :: ks) (v :: vs) ((tk, tv) :: trs) := fun pins s σ H Q I h =>
  pairTrees_cons_walk (thn (hk pins s σ H _ I h) fun u s1 ⟨x, H1, I1, rx, q1⟩ => thn (hv pins s1 σ H1 _ I1 q1) fun w2 s2 ⟨y, H2, I2, ry, q2⟩ =>
    thn (hr pins s2 σ H2 _ I2 q2) fun ws s3 ⟨ps, H3, I3, rel, q3⟩ => ⟨(x, y) :: ps, H3, I3, .cons ⟨rx, ry⟩ rel, q3⟩)

def mergeK (kvs more : List (Key × V)) : List (Key × V) := more.foldl (fun acc kv => putK acc kv.1 kv.2) kvs
theorem KV.merge : ∀ {more : List (Key × V)} {rs : List (Key × Value)} {kvs : List (Key × V)} {vs : List (Key × Value)}, KV more rs → KV kvs vs → KV (mergeK kvs more) (merged vs rs) := by
  intro more rs kvs vs r
  unfold KV at r
  induction r generalizing kvs vs with
  | nil => intro q; exact q
  | @cons p q ps qs h t ih =>
    intro r0
    have e : KV (putK kvs p.1 p.2) (stored vs q.1 q.2) := by
      have := r0.put p.1 h.2
      rw [← h.1]; exact this
    exact ih e
theorem length_mergeK : ∀ (more kvs : List (Key × V)), (mergeK kvs more).length ≤ kvs.length + more.length
  | [], kvs => by show kvs.length ≤ kvs.length + 0; omega
  | p :: r, kvs => by
    have h1 := length_mergeK r (putK kvs p.1 p.2)
    have h2 := length_putK kvs p.1 p.2
    show (mergeK (putK kvs p.1 p.2) r).length ≤ _
    rw [List.length_cons]; omega
theorem carries_of {P : Program} {w : World} : ∀ {kvs : List (Key × V)} {ws : List (Value × Value)}, VV (kvs.map fun kv => (kV kv.1, kv.2)) ws → ∃ rs, Carries (mixKind P w) ws rs ∧ KV kvs rs
  | [], _, r => by rw [List.map_nil] at r; cases r; exact ⟨[], True.intro, .nil⟩
  | p :: kvs, _, r => by
    rw [List.map_cons] at r
    cases r with
    | @cons a b as bs h t =>
      obtain ⟨rs, c, q⟩ := carries_of (P := P) (w := w) t
      obtain ⟨b1, b2⟩ := b
      exact ⟨(p.1, b2) :: rs, ⟨kV_is h.1, rfl, c⟩, .cons ⟨rfl, h.2⟩ q⟩
/-- {k: v, ..} with keys ints and texts; the new dict stands empty while the pairs are made -/
def tDisp (trs : List (TE × TE)) : TE := fun σ H Q => ∀ p, H p = none → tPairs trs σ (upd H p (.dK [])) fun ps H2 => H2 p = some (.dK []) ∧ ∃ kvs : List (Key × V), ps = kvs.map (fun kv => (kV kv.1, kv.2)) ∧ kvs.length ≤ 15 ∧ Q (.ref p) (upd H2 p (.dK (mergeK [] kvs)))
theorem pe_disp {X : Cx} {pos : Pos} {keys : List (Option Expr)} {values : List Expr} {trs : List (TE × TE)} (h : PPs X pos keys values trs) (hall : keys.all (·.isSome) = true) (hl : keys.length = values.length) (h0 : keys ≠ [])
    (h15 : keys.length ≤ 15) : PE X (.Dict keys values pos) (tDisp trs) := by
  intro pins s σ H Q I q
  have hn := I.hok.fresh (Nat.le_refl s.heap.objs.size)
  have I1 := I.laid (a := s.heap.objs.size) (o := .dK []) (h' := s.heap.push { cls := .type "dict", data := .dict #[] }) (t' := s.toks) (fun _ _ q => Heap.get?_push_of_some _ q) (Nat.le_refl _) (dk_empty s.heap I.big)
  refine wpAny_Dict_walk (knd := mixKind X.prog X.w) hall hl h0 h15 (thn (h pins _ σ _ _ I1 (q _ hn)) fun ws s2 ⟨ps, H2, I2, rel, e, kvs, ep, lk, q2⟩ => ?_)
  subst ep
  obtain ⟨rs, c, rk⟩ := carries_of (P := X.prog) (w := X.w) rel
  obtain ⟨z, hd, vs0, r0, dd⟩ := dk_of I2.hok e
  cases r0
  refine ⟨rs, c, dd, fun h' dd' hs => ⟨.ref s.heap.objs.size, _, ?_, rfl, q2⟩⟩
  have hz : (mergeK [] kvs).length ≤ sizeLine := by
    have h1 := length_mergeK kvs []
    rw [List.length_nil] at h1
    rw [sizeLine_eq]; omega
  have he : ∃ q, h'.get? s.heap.objs.size = some q := let ⟨q, _, _, hq, _⟩ := dd'; ⟨q, hq⟩
  exact d_write I2 (by rw [e]; exact True.intro) hs he (dk_new hz hd (rk.merge .nil) dd')


/-! ### methods -/
/-- a method call o.m(e) of a built-in, with one argument: what must be seen of the text -/
structure M1 (X : Cx) (o : Expr) (m : Str) (apos : Pos) (e : Expr) (cpos : Pos) : Prop where
  base : attributeBase o m X.env (eval o X.env) = eval o X.env
  few : ((backTo cpos (starEach [e] X.env)).all (fun x => !x.1) && (backToKw cpos (keywordEach [] X.env)).all (fun x => x.1.isSome)
    && decide (([e] : List Expr).length + ([] : List Keyword).length + (if ([] : List Keyword).isEmpty then 0 else 1) < 30)) = true
  line : (apos.endLine == cpos.line) = true
  trees : backTo cpos (starEach [e] X.env) = [(false, eval e X.env)]
structure M2 (X : Cx) (o : Expr) (m : Str) (apos : Pos) (e f : Expr) (cpos : Pos) : Prop where
  base : attributeBase o m X.env (eval o X.env) = eval o X.env
  few : ((backTo cpos (starEach [e, f] X.env)).all (fun x => !x.1) && (backToKw cpos (keywordEach [] X.env)).all (fun x => x.1.isSome)
    && decide (([e, f] : List Expr).length + ([] : List Keyword).length + (if ([] : List Keyword).isEmpty then 0 else 1) < 30)) = true
  line : (apos.endLine == cpos.line) = true
  trees : backTo cpos (starEach [e, f] X.env) = [(false, eval e X.env), (false, eval f X.env)]

section
variable {X : Cx} {pins : List (Addr × Obj)} {σ : St} {H : Hp} {s : Shared} {a : Addr} {y d : V} {u r : Value} {o : Option V} {A : Around} {E : Value → Shared → Prop}
end

section
variable {X : Cx} {o e f : Expr} {apos cpos : Pos} {td ty tx : TE}
end

/-! ### dict(d): a copy -/
section
variable {X : Cx} {pins : List (Addr × Obj)} {σ : St} {H : Hp} {s : Shared} {a : Addr} {kvs : List (Key × V)} {A : Around} {E : Value → Shared → Prop}
end


section
variable {X : Cx} {pins : List (Addr × Obj)} {σ : St} {H : Hp} {s : Shared} {a : Addr} {y : V} {u : Value} {A : Around} {E : Value → Shared → Prop}
end
end L2

set_option Elab.async false
set_option linter.all false
set_option maxRecDepth 100000
/-! A list comprehension in the hand layer: one clause, at most one test, any target; the block runs in a context of its own. -/
namespace L2
open PySem PySem.Spec PyProof.Rows

/-! ### the cells of a block -/
def clOf (env : Env) : List (Str × NameKind) → List (Str × Addr) → List (Str × Addr)
  | [], acc => acc
  | (n, k) :: r, acc => if k == .free then clOf env r ((n, (env.cells.lookup n).getD 0) :: acc) else clOf env r acc
theorem closure_go {env : Env} : ∀ (names : List (Str × NameKind)) (acc : List (Str × Addr)), (∀ x ∈ names, x.2 = .free → ∃ c, env.cells.lookup x.1 = some c) →
    (forIn names acc (fun (x : Str × NameKind) (cs : List (Str × Addr)) => (if (x.2 == .free) = true then do let a ← cellOf env x.1; pure (ForInStep.yield ((x.1, a) :: cs)) else pure (ForInStep.yield cs) : Sem (ForInStep (List (Str × Addr)))))) = (pure (clOf env names acc) : Sem (List (Str × Addr)))
  | [], acc, _ => by rw [List.forIn_nil]; rfl
  | (n, k) :: r, acc, h => by
    have hr : ∀ x ∈ r, x.2 = .free → ∃ c, env.cells.lookup x.1 = some c := fun x hx => h x (List.mem_cons_of_mem _ hx)
    rw [List.forIn_cons]
    unfold clOf
    by_cases hk : (k == NameKind.free) = true
    · obtain ⟨c, hc⟩ := h (n, k) List.mem_cons_self (by simpa using hk)
      have hc' : env.cells.lookup n = some c := hc
      rw [if_pos hk]
      simp only [hk, if_true, cellOf, hc', pure_bind, Option.getD_some]
      exact closure_go r _ hr
    · rw [if_neg hk]
      simp only [hk, if_false, pure_bind, Bool.false_eq_true]
      exact closure_go r _ hr
theorem closure_of {env : Env} {scope : Scope} (h : ∀ x ∈ scope.names, x.2 = .free → ∃ c, env.cells.lookup x.1 = some c) : closureFor scope env = pure (clOf env scope.names []) := by
  have q := closure_go (env := env) scope.names [] h
  unfold closureFor
  simp only [bind_pure_comp] at q ⊢
  have e : (fun (x : Str × NameKind) (r : List (Str × Addr)) => (if (x.2 == NameKind.free) = true then (fun a => ForInStep.yield ((x.1, a) :: r)) <$> cellOf env x.1 else pure (ForInStep.yield r) : Sem (ForInStep (List (Str × Addr))))) = (fun (x : Str × NameKind) (cs : List (Str × Addr)) => (match x with | (name, kind) => if (kind == NameKind.free) = true then (fun a => ForInStep.yield ((name, a) :: cs)) <$> cellOf env name else pure (ForInStep.yield cs) : Sem (ForInStep (List (Str × Addr))))) := by
    funext x cs
    obtain ⟨n, k⟩ := x
    rfl
  rw [e] at q
  simpa using q
theorem clOf_lookup {env : Env} {x : Str} {c : Addr} : ∀ (names : List (Str × NameKind)) (acc : List (Str × Addr)), (∀ y ∈ names, y.2 = .free → ∃ c, env.cells.lookup y.1 = some c) → (clOf env names acc).lookup x = some c →
    acc.lookup x = some c ∨ env.cells.lookup x = some c
  | [], acc, _, h => .inl h
  | (n, k) :: r, acc, hf, h => by
    have hr : ∀ x ∈ r, x.2 = .free → ∃ c, env.cells.lookup x.1 = some c := fun x hx => hf x (List.mem_cons_of_mem _ hx)
    unfold clOf at h
    by_cases hk : (k == NameKind.free) = true
    · rw [if_pos hk] at h
      obtain ⟨d, hd⟩ := hf (n, k) List.mem_cons_self (by simpa using hk)
      have hd' : env.cells.lookup n = some d := hd
      rcases clOf_lookup r _ hr h with q | q
      · rw [List.lookup_cons, hd'] at q
        by_cases hx : (x == n) = true
        · rw [hx] at q
          have e : x = n := by simpa using hx
          subst e
          simp only [Option.getD_some] at q
          exact .inr (hd'.trans q)
        · have hx' : (x == n) = false := by simpa using hx
          rw [hx'] at q
          exact .inl q
      · exact .inr q
    · rw [if_neg hk] at h
      exact clOf_lookup r _ hr h
theorem clOf_has {env : Env} {x : Str} : ∀ (names : List (Str × NameKind)) (acc : List (Str × Addr)), ((x, NameKind.free) ∈ names ∨ ∃ c, acc.lookup x = some c) → ∃ c, (clOf env names acc).lookup x = some c
  | [], acc, h => by
    rcases h with h | h
    · cases h
    · exact h
  | (n, k) :: r, acc, h => by
    unfold clOf
    by_cases hk : (k == NameKind.free) = true
    · rw [if_pos hk]
      refine clOf_has r _ ?_
      by_cases hx : (x == n) = true
      · exact .inr ⟨_, by rw [List.lookup_cons, hx]⟩
      · have hx' : (x == n) = false := by simpa using hx
        rcases h with h | ⟨c, h⟩
        · rcases List.mem_cons.mp h with e | h
          · cases e; simp at hx
          · exact .inl h
        · exact .inr ⟨c, by rw [List.lookup_cons, hx']; exact h⟩
    · rw [if_neg hk]
      refine clOf_has r _ ?_
      rcases h with h | h
      · rcases List.mem_cons.mp h with e | h
        · cases e; simp at hk
        · exact .inl h
      · exact .inr h
theorem cellsFrom_lookup {x : Str} {c : Addr} : ∀ (names : List (Str × NameKind)) (n : Nat) (acc : List (Str × Addr)), (cellsFrom n names acc).lookup x = some c → acc.lookup x = some c ∨ (n ≤ c ∧ (x, NameKind.cell) ∈ names)
  | [], _, _, h => .inl h
  | (y, k) :: r, n, acc, h => by
    unfold cellsFrom at h
    by_cases hk : (k == NameKind.cell) = true
    · rw [if_pos hk] at h
      have hk' : k = .cell := by simpa using hk
      rcases cellsFrom_lookup r _ _ h with q | ⟨q1, q2⟩
      · rw [List.lookup_cons] at q
        by_cases hx : (x == y) = true
        · rw [hx] at q
          cases q
          exact .inr ⟨Nat.le_refl _, by rw [show x = y by simpa using hx, hk']; exact List.mem_cons_self⟩
        · rw [show (x == y) = false by simpa using hx] at q
          exact .inl q
      · exact .inr ⟨by omega, List.mem_cons_of_mem _ q2⟩
    · rw [if_neg hk] at h
      rcases cellsFrom_lookup r _ _ h with q | ⟨q1, q2⟩
      · exact .inl q
      · exact .inr ⟨q1, List.mem_cons_of_mem _ q2⟩
theorem cellsFrom_own {x : Str} {c : Addr} : ∀ (names : List (Str × NameKind)) (n : Nat) (acc : List (Str × Addr)), (x, NameKind.cell) ∈ names → (cellsFrom n names acc).lookup x = some c → n ≤ c
  | [], _, _, h, _ => by cases h
  | (y, k) :: r, n, acc, hm, h => by
    unfold cellsFrom at h
    by_cases hk : (k == NameKind.cell) = true
    · rw [if_pos hk] at h
      by_cases hx : (x == y) = true
      · rcases cellsFrom_lookup r _ _ h with q | ⟨q1, q2⟩
        · rw [List.lookup_cons, hx] at q
          cases q
          exact Nat.le_refl _
        · omega
      · rcases List.mem_cons.mp hm with e | hm
        · cases e; simp at hx
        · have := cellsFrom_own r _ _ hm h
          omega
    · rw [if_neg hk] at h
      rcases List.mem_cons.mp hm with e | hm
      · cases e; simp at hk
      · exact cellsFrom_own r _ _ hm h
/-- every cell lies below the next free place, no two names share one -/
theorem cellsFrom_inj : ∀ (names : List (Str × NameKind)) (n : Nat) (acc : List (Str × Addr)), (∀ x c, acc.lookup x = some c → c < n) → (∀ x y c, acc.lookup x = some c → acc.lookup y = some c → x = y) →
    ∀ x y c, (cellsFrom n names acc).lookup x = some c → (cellsFrom n names acc).lookup y = some c → x = y
  | [], _, _, _, hi => hi
  | (z, k) :: r, n, acc, hb, hi => by
    unfold cellsFrom
    by_cases hk : (k == NameKind.cell) = true
    · rw [if_pos hk]
      refine cellsFrom_inj r (n + 1) _ (fun x c h => ?_) (fun x y c h1 h2 => ?_)
      · rw [List.lookup_cons] at h
        by_cases hx : (x == z) = true
        · rw [hx] at h; cases h; exact Nat.lt_succ_self _
        · rw [show (x == z) = false by simpa using hx] at h
          exact Nat.lt_succ_of_lt (hb x c h)
      · rw [List.lookup_cons] at h1 h2
        by_cases hx : (x == z) = true
        · rw [hx] at h1; cases h1
          by_cases hy : (y == z) = true
          · rw [show x = z by simpa using hx, show y = z by simpa using hy]
          · rw [show (y == z) = false by simpa using hy] at h2
            exact absurd (hb y n h2) (Nat.lt_irrefl _)
        · rw [show (x == z) = false by simpa using hx] at h1
          by_cases hy : (y == z) = true
          · rw [hy] at h2; cases h2
            exact absurd (hb x n h1) (Nat.lt_irrefl _)
          · rw [show (y == z) = false by simpa using hy] at h2
            exact hi x y c h1 h2
    · rw [if_neg hk]
      exact cellsFrom_inj r n acc hb hi
theorem cellsFrom_isCell {names : List (Str × NameKind)} : ∀ (names : List (Str × NameKind)) (h : Heap) (acc : List (Str × Addr)), (∀ x c, acc.lookup x = some c → ∃ v, h.IsCell c v) → ∀ x c, (cellsFrom h.objs.size names acc).lookup x = some c → ∃ v, (pushCells h names).IsCell c v
  | [], _, _, hi => hi
  | (z, k) :: r, h, acc, hi => by
    unfold cellsFrom pushCells
    by_cases hk : (k == NameKind.cell) = true
    · rw [if_pos hk, if_pos hk]
      have q := cellsFrom_isCell (names := names) r (h.push { cls := .type "cell", data := .cell none }) ((z, h.objs.size) :: acc) (fun x c hx => by
        rw [List.lookup_cons] at hx
        by_cases hz : (x == z) = true
        · rw [hz] at hx; cases hx
          exact ⟨none, ⟨_, Heap.get?_push_size _ rfl, rfl⟩⟩
        · rw [show (x == z) = false by simpa using hz] at hx
          obtain ⟨v, w⟩ := hi x c hx
          exact ⟨v, w.keeps fun b o e => Heap.get?_push_of_some _ e⟩)
      rwa [Heap.size_push] at q
    · rw [if_neg hk, if_neg hk]
      exact cellsFrom_isCell (names := names) r h acc hi
theorem new_compEnv {M : Model} {A : Around} {E : Value → Shared → Prop} {s : Shared} {scope : Scope} {globals : Addr} {cl : List (Str × Addr)} {qual : Str} {env : Env} {Q : Env → Shared → Prop}
    (hQ : Q { scope := scope, locals := s.heap.objs.size, globals := globals, cells := cellsFrom (s.heap.objs.size + 1) scope.names cl, qual := qual, func := none, code := env.code, frame := env.frame, builtins := env.builtins } { s with heap := pushCells (s.heap.push { cls := .type "dict", data := .dict #[] }) scope.names }) :
    wpAny M A (newFunctionEnv scope globals cl [] qual none .none (some env)) Q E s := by
  simp only [newFunctionEnv, Option.isSome_some, if_true]
  refine wpAny_bind (wpAny_alloc ?_)
  refine wpAny_bind (wpAny_layCells _ (fun name kind cells => by cases hkc : kind == NameKind.cell <;> simp [hkc]) _ _ _ _ ?_)
  rw [show ({ s with heap := s.heap.push { cls := .type "dict", data := .dict #[] } } : Shared).heap.objs.size = s.heap.objs.size + 1 from Heap.size_push ..]
  simp only [List.forIn_nil, pure_bind]
  exact wpAny_pure hQ

/-! ### the turn -/
theorem compLoop_own {prog : Program} {w : World} {A : Around} {R : Result → Shared → Prop} {s : Shared} {elt target iter : Expr} {ifs : List Expr} {scope : Scope} {pos : Pos} {it acc : Value} {env : Env} (I : Nat → Shared → Prop)
    (turn : ∀ n s, I n s → wpAny (model prog w) A (pyNext it) (fun r s1 => match r with
      | none => R (.ok .next) s1
      | some v => wpAny (model prog w) A (letOwnedTupleGo target it v) (fun _ s1' => wpAny (model prog w) A (assign target env v) (fun _ s2 =>
          wpAny (model prog w) A (forIn ifs true fun c r => if r = true then do let ok ← isTrue c env (eval c env); pure (ForInStep.yield ok) else pure (ForInStep.yield r)) (fun ok s3 =>
            if ok = true then wpAny (model prog w) A (eval elt env) (fun x s4 =>
              wpAny (model prog w) A (call (.builtin "list.append") [acc, x]) (fun _ s5 => ∃ m, m < n ∧ I m s5) (fun _ _ => False) s4) (fun _ _ => False) s3
            else ∃ m, m < n ∧ I m s3) (fun _ _ => False) s2) (fun _ _ => False) s1') (fun _ _ => False) s1) (fun _ _ => False) s)
    (n : Nat) (h : I n s) :
    codeAny (model prog w) A (.compLoop (.ListComp elt [⟨target, iter, ifs, 0⟩] scope pos) 0 it acc env) R s := by
  refine codeAny_loop rfl I (fun n s hI => ?_) n h
  show wpAny _ A ((compTurn (.ListComp elt [⟨target, iter, ifs, 0⟩] scope pos) 0 it acc env).onRaise (fun x => do noteFrame x env; theTreesLotGoes x)) _ _ s
  refine wpAny_noted ?_
  rw [compTurn_list]
  refine wpAny_bind (wpAny_standAt (wpAny_bind (wpAny_mono (turn n s hI) (fun r s1 h1 => ?_) fun _ _ h' => h'.elim)))
  cases r with
  | none => exact wpAny_pure h1
  | some v =>
    refine wpAny_bind (wpAny_mono h1 (fun _ s1' h1' => wpAny_bind (wpAny_mono h1' (fun _ s2 h2 => wpAny_bind (wpAny_mono h2 (fun ok s3 h3 => ?_) fun _ _ h' => h'.elim)) fun _ _ h' => h'.elim)) fun _ _ h' => h'.elim)
    cases ok with
    | false => exact wpAny_pure ⟨rfl, h3⟩
    | true =>
      exact wpAny_bind (wpAny_bind (wpAny_mono h3 (fun x s4 h4 => wpAny_bind (wpAny_mono h4 (fun _ s5 h5 => wpAny_pure (wpAny_pure ⟨rfl, h5⟩)) fun _ _ h' => h'.elim)) fun _ _ h' => h'.elim))
end L2

set_option Elab.async false
set_option linter.all false
set_option maxRecDepth 100000
namespace L2
open PySem PySem.Spec PyProof.Rows

/-- the block's context, at its entry s, H: no exception leaves it -/
def cxComp (X : Cx) (scope : Scope) (N : List Str) (s : Shared) (H : Hp) (fp : List Addr) : Cx where
  prog := X.prog
  w := X.w
  K := X.K
  mg := X.mg
  base := X.base
  A := X.A
  N := N
  s₀ := s
  H₀ := H
  env := { scope := relabel scope X.env, locals := s.heap.objs.size, globals := X.env.globals, cells := cellsFrom (s.heap.objs.size + 1) scope.names (clOf X.env scope.names []), qual := X.env.qual, func := none, code := X.env.code, frame := X.env.frame, builtins := X.env.builtins }
  outer := X.stack
  stack := X.stack
  ex := fp
  fn := fun x => decide ((x, NameKind.cell) ∈ scope.names)
  calm := X.calm
  pn := []
  xe := fun _ _ => False
/-- the names seen in the block: its own (none), and those of the frame around by their slots (some j) -/
def capS (js : List (Option Nat)) (σ : St) : St := js.map fun o => match o with | none => none | some j => (σ[j]?).join
def capOk (X : Cx) (scope : Scope) (N : List Str) (js : List (Option Nat)) : Bool :=
  (N.length == js.length) && (N.zip js).all fun p => match p.2 with
    | none => true
    | some j => X.N[j]? == some p.1 && (scope.names.lookup p.1 == some .free && (X.env.scope.names.lookup p.1 == some .cell || X.env.scope.names.lookup p.1 == some .free))
/-- what is asked of the block's scope: a free name is a cell's or a free one around -/
def scOk (X : Cx) (scope : Scope) : Bool :=
  scope.names.all fun p => (p.2 != .free || (X.env.scope.names.lookup p.1 == some .cell || X.env.scope.names.lookup p.1 == some .free)) && scope.names.lookup p.1 == some p.2
section
variable {X : Cx} {pins : List (Addr × Obj)} {σ : St} {H : Hp} {s : Shared} {scope : Scope}
theorem scOk.get (h : scOk X scope = true) {p : Str × NameKind} (hp : p ∈ scope.names) : (p.2 = .free → X.env.scope.names.lookup p.1 = some .cell ∨ X.env.scope.names.lookup p.1 = some .free) ∧ scope.names.lookup p.1 = some p.2 := by
  have q := List.all_eq_true.mp h p hp
  rw [Bool.and_eq_true] at q
  refine ⟨fun e => ?_, by simpa using q.2⟩
  have q1 := q.1
  rw [e] at q1
  simpa using q1
theorem scOk.cells (I : Inv X pins σ H s) (h : scOk X scope = true) : ∀ x ∈ scope.names, x.2 = .free → ∃ c, X.env.cells.lookup x.1 = some c := fun x hx e => I.ok.has x.1 ((scOk.get h hx).1 e)
theorem scOk.one (h : scOk X scope = true) {x : Str} {k j : NameKind} (e : (x, k) ∈ scope.names) (e' : (x, j) ∈ scope.names) : k = j := by
  have q1 := (scOk.get h e).2
  have q2 := (scOk.get h e').2
  exact Option.some.inj (q1.symm.trans q2)
/-- a cell of the block: its own, or one of the frame around -/
theorem comp_cell (I : Inv X pins σ H s) (h : scOk X scope = true) {n : Nat} {x : Str} {c : Addr} (e : (cellsFrom n scope.names (clOf X.env scope.names [])).lookup x = some c) : X.env.cells.lookup x = some c ∨ (n ≤ c ∧ (x, NameKind.cell) ∈ scope.names) := by
  rcases cellsFrom_lookup _ _ _ e with q | q
  · rcases clOf_lookup _ _ (scOk.cells I h) q with z | z
    · cases z
    · exact .inl z
  · exact .inr q
theorem relabel_lookup {env : Env} {x : Str} {k : NameKind} : ∀ {names : List (Str × NameKind)}, (names.map fun (n, k) => if (k == NameKind.free && env.scope.kind == .function && env.kindOf n == some .cell) then (n, NameKind.cell) else (n, k)).lookup x = some k →
    names.lookup x = some k ∨ (k = .cell ∧ names.lookup x = some .free)
  | [], h => by cases h
  | (n, j) :: r, h => by
    rw [List.map_cons] at h
    replace h : List.lookup x ((if (j == NameKind.free && env.scope.kind == .function && env.kindOf n == some .cell) = true then (n, NameKind.cell) else (n, j)) :: _) = some k := h
    by_cases hc : (j == NameKind.free && env.scope.kind == .function && env.kindOf n == some .cell) = true
    · rw [if_pos hc, List.lookup_cons] at h
      rw [List.lookup_cons]
      by_cases hx : (x == n) = true
      · rw [hx] at h ⊢
        cases h
        simp only [Bool.and_eq_true] at hc
        exact .inr ⟨rfl, by rw [show j = .free by simpa using hc.1.1]⟩
      · rw [show (x == n) = false by simpa using hx] at h ⊢
        exact relabel_lookup h
    · rw [if_neg hc, List.lookup_cons] at h
      rw [List.lookup_cons]
      by_cases hx : (x == n) = true
      · rw [hx] at h ⊢
        exact .inl h
      · rw [show (x == n) = false by simpa using hx] at h ⊢
        exact relabel_lookup h
theorem relabel_free {env : Env} {x : Str} : ∀ {names : List (Str × NameKind)}, names.lookup x = some .free →
    (names.map fun (n, k) => if (k == NameKind.free && env.scope.kind == .function && env.kindOf n == some .cell) then (n, NameKind.cell) else (n, k)).lookup x = some .cell ∨
    (names.map fun (n, k) => if (k == NameKind.free && env.scope.kind == .function && env.kindOf n == some .cell) then (n, NameKind.cell) else (n, k)).lookup x = some .free
  | [], h => by cases h
  | (n, j) :: r, h => by
    rw [List.map_cons]
    show List.lookup x ((if (j == NameKind.free && env.scope.kind == .function && env.kindOf n == some .cell) = true then (n, NameKind.cell) else (n, j)) :: _) = some .cell ∨ List.lookup x ((if (j == NameKind.free && env.scope.kind == .function && env.kindOf n == some .cell) = true then (n, NameKind.cell) else (n, j)) :: _) = some .free
    rw [List.lookup_cons] at h
    by_cases hx : (x == n) = true
    · rw [hx] at h
      cases h
      by_cases hc : (NameKind.free == NameKind.free && env.scope.kind == .function && env.kindOf n == some .cell) = true
      · rw [if_pos hc, List.lookup_cons, hx]; exact .inl rfl
      · rw [if_neg hc, List.lookup_cons, hx]; exact .inr rfl
    · rw [show (x == n) = false by simpa using hx] at h
      by_cases hc : (j == NameKind.free && env.scope.kind == .function && env.kindOf n == some .cell) = true
      · rw [if_pos hc, List.lookup_cons, show (x == n) = false by simpa using hx]; exact relabel_free h
      · rw [if_neg hc, List.lookup_cons, show (x == n) = false by simpa using hx]; exact relabel_free h

theorem ok_comp {N : List Str} {fp : List Addr} (I : Inv X pins σ H s) (hk : scope.kind = .function) (h : scOk X scope = true) (hf : ∀ b ∈ fp, FpOk X pins H b) (ho : ∀ b ∈ fp, ∃ o, s.heap.get? b = some o ∧ ∀ v, o.data ≠ .cell v) : (cxComp X scope N s H fp).Ok where
  mod := I.ok.mod
  kind := hk
  glob := I.ok.glob
  blt := I.ok.blt
  above := Nat.le_refl _
  inj := fun x y c h1 h2 => cellsFrom_inj _ _ _ (fun z c hz => by
      rcases clOf_lookup _ _ (scOk.cells I h) hz with q | q
      · cases q
      · obtain ⟨v, w⟩ := I.cell z c q
        exact Nat.lt_succ_of_lt w.lt) (fun y z c h1 h2 => by
      rcases clOf_lookup _ _ (scOk.cells I h) h1 with q | q
      · cases q
      · rcases clOf_lookup _ _ (scOk.cells I h) h2 with q' | q'
        · cases q'
        · exact I.ok.inj y z c q q') x y c h1 h2
  has := fun x hx => by
    have key : (x, NameKind.cell) ∈ scope.names ∨ (x, NameKind.free) ∈ scope.names := by
      rcases hx with hx | hx
      · rcases relabel_lookup hx with q | ⟨_, q⟩
        · exact .inl (PySem.mem_of_lookup q)
        · exact .inr (PySem.mem_of_lookup q)
      · rcases relabel_lookup hx with q | ⟨q, _⟩
        · exact .inr (PySem.mem_of_lookup q)
        · cases q
    rcases key with q | q
    · have e : scope.names.lookup x = some .cell := (scOk.get h q).2
      exact Option.isSome_iff_exists.mp (PySem.W.cellsFrom_some scope.names _ _ (.inl e))
    · obtain ⟨c, hc⟩ := clOf_has (env := X.env) scope.names [] (.inl q)
      exact Option.isSome_iff_exists.mp (PySem.W.cellsFrom_some scope.names _ _ (.inr (by rw [hc]; rfl)))
  cab := fun x c hx hc => Nat.le_of_succ_le (cellsFrom_own _ _ _ (of_decide_eq_true hx) hc)
  hd := I.ok.hd
  frames := I.ok.frames
  stk := .inl rfl
  exf := fun b hb => by
    obtain ⟨o, e, d⟩ := ho b hb
    refine ⟨Nat.ne_of_lt (Heap.lt_size e), fun x c hc z => ?_⟩
    rcases comp_cell I h hc with q | ⟨q, _⟩
    · exact (hf b hb).2.2.2.2.1 x c q z
    · rw [z] at q
      exact absurd (Nat.lt_of_lt_of_le (Heap.lt_size e) (Nat.le_of_succ_le q)) (Nat.lt_irrefl _)
  bs := I.bs
  bsz := Nat.le_trans I.ok.bsz I.sz
  noex := fun b o e hb => by
    rcases (hf b hb).2.2.2.1 with q | q
    · exact I.ok.noex b o e q
    · exact absurd (Nat.lt_of_lt_of_le (Heap.lt_size e) (Nat.le_trans I.ok.bsz q)) (Nat.lt_irrefl _)
  exfs := fun b hb hs => by
    rcases List.mem_cons.mp (I.stkSub b hs) with q | q
    · exact (hf b hb).2.1 q
    · exact (hf b hb).2.2.1 q
  funs := I.stack
  frf := I.stkFree

theorem inv_comp {N : List Str} {js : List (Option Nat)} {fp : List Addr} (I : Inv X pins σ H s) (hk : scope.kind = .function) (h : scOk X scope = true) (hc : capOk X scope N js = true) (hf : ∀ b ∈ fp, FpOk X pins H b) (ho : ∀ b ∈ fp, ∃ o, s.heap.get? b = some o ∧ ∀ v, o.data ≠ .cell v) :
    Inv (cxComp X scope N s H fp) [] (capS js σ) H { s with heap := pushCells (s.heap.push { cls := .type "dict", data := .dict #[] }) scope.names } := by
  have kp : ∀ b o, s.heap.get? b = some o → (pushCells (s.heap.push { cls := .type "dict", data := .dict #[] }) scope.names).get? b = some o := fun b o e => pushCells_keeps _ _ _ _ (Heap.get?_push_of_some _ e)
  have hcap : N.length = js.length ∧ ∀ p ∈ N.zip js, ∀ j, p.2 = some j → X.N[j]? = some p.1 ∧ scope.names.lookup p.1 = some .free ∧ (X.env.scope.names.lookup p.1 = some .cell ∨ X.env.scope.names.lookup p.1 = some .free) := by
    unfold capOk at hc
    rw [Bool.and_eq_true] at hc
    refine ⟨by simpa using hc.1, fun p hp j e => ?_⟩
    have q := List.all_eq_true.mp hc.2 p hp
    rw [e] at q
    simpa using q
  refine ⟨ok_comp I hk h hf ho, rfl, I.bare, Un.kept kp, ?_, fun x c e => ?_, I.hok.fresh (Nat.le_refl _), fun x c e => ?_, fun p hp => absurd (show p ∈ ([] : List (Addr × Obj)) from hp) (by simp), I.hok.kept kp, ?_⟩
  · refine ⟨fun _ => none, (Heap.Ns.new s.heap (.type "dict")).keeps (pushCells_keeps _ _), fun i x v h1 h2 h3 => ?_⟩
    obtain ⟨o, ho1, ho2⟩ : ∃ o, js[i]? = some o ∧ (match o with | none => none | some j => (σ[j]?).join) = some v := by
      unfold capS at h2
      rw [List.getElem?_map] at h2
      cases e : js[i]? with
      | none => rw [e] at h2; cases h2
      | some o => rw [e] at h2; exact ⟨o, rfl, Option.some.inj h2⟩
    cases o with
    | none => cases ho2
    | some j =>
      have hz : (x, some j) ∈ N.zip js := List.mem_of_getElem? (i := i) (by rw [List.getElem?_zip_eq_some]; exact ⟨h1, ho1⟩)
      obtain ⟨q1, q2, q3⟩ := hcap.2 _ hz j rfl
      have hσ : σ[j]? = some (some v) := by
        have ho2 : (σ[j]?).join = some v := ho2
        cases e : σ[j]? with
        | none => rw [e] at ho2; cases ho2
        | some w => rw [e] at ho2; exact congrArg some ho2
      obtain ⟨m, hn, hl⟩ := I.loc
      obtain ⟨u, r, l⟩ := hl j x v q1 hσ (by rcases q3 with z | z; exact .inr (.inl z); exact .inr (.inr z))
      refine ⟨u, r, .inr ⟨relabel_free q2, ?_⟩⟩
      have fin : ∀ c, X.env.cells.lookup x = some c → s.heap.IsCell c (some u) → ∃ c, (cellsFrom (s.heap.objs.size + 1) scope.names (clOf X.env scope.names [])).lookup x = some c ∧ (pushCells (s.heap.push { cls := .type "dict", data := .dict #[] }) scope.names).IsCell c (some u) := fun c hc hv => by
        obtain ⟨d, hd⟩ := clOf_has (env := X.env) scope.names [] (.inl (PySem.mem_of_lookup q2))
        obtain ⟨c', hc'⟩ := Option.isSome_iff_exists.mp (PySem.W.cellsFrom_some scope.names (s.heap.objs.size + 1) (clOf X.env scope.names []) (.inr (by rw [hd]; rfl)))
        refine ⟨c', hc', ?_⟩
        rcases comp_cell I h hc' with z | ⟨_, z⟩
        · rw [hc] at z; cases z
          exact hv.keeps kp
        · have := scOk.one h z (PySem.mem_of_lookup q2)
          cases this
      rcases l with ⟨hk, _⟩ | ⟨_, c, hc, hv⟩
      · have hk : X.env.scope.names.lookup x = some .local := hk
        rcases q3 with z | z <;> (rw [z] at hk; cases hk)
      · exact fin c hc hv
  · have q := cellsFrom_isCell (names := []) scope.names (s.heap.push { cls := .type "dict", data := .dict #[] }) (clOf X.env scope.names []) (fun y d hd => by
      rcases clOf_lookup _ _ (scOk.cells I h) hd with z | z
      · cases z
      · obtain ⟨v, w⟩ := I.cell y d z
        exact ⟨v, w.keeps fun b o e => Heap.get?_push_of_some _ e⟩)
    rw [Heap.size_push] at q
    exact q x c e
  · rcases comp_cell I h e with q | ⟨q, _⟩
    · exact I.freeC x c q
    · exact I.hok.fresh (Nat.le_of_succ_le q)
  · show (capS js σ).length = N.length
    unfold capS
    rw [List.length_map, hcap.1]
end
end L2

set_option Elab.async false
set_option linter.all false
set_option maxRecDepth 100000
namespace L2
open PySem PySem.Spec PyProof.Rows

/-- [elt for target in iter if test]: J what is walked, l the new list; W: the invariant by the turn, a measure, the items so far -/
def CompW (J : It) (l : Addr) (σ : St) (H1 : Hp) (g : TG) (tc : TT) (te : TE) (Q : VK) : Prop := ∃ W : Nat → Nat → List V → St → Hp → Prop,
  (∃ m, W 0 m [] σ (upd H1 l (.lst []))) ∧ ∀ i m ys σ2 H2, W i m ys σ2 H2 →
    (J.stop i H2 ∧ Q (.ref l) H2) ∨
    (J.go i H2 ∧ ∀ x H3, J.yld i H2 x H3 → g x σ2 H3 fun σ4 H4 => tc σ4 H4 fun b H5 =>
      if b = true then te σ4 H5 fun y H6 => H6 l = some (.lst ys) ∧ ys.length < sizeLine ∧ ∃ m', m' < m ∧ W (i + 1) m' (ys ++ [y]) σ4 (upd H6 l (.lst (ys ++ [y])))
      else ∃ m', m' < m ∧ W (i + 1) m' ys σ4 H5)
abbrev tComp (wi : TI) (js : List (Option Nat)) (g : TG) (tc : TT) (te : TE) : TE := fun σ H Q => wi σ H fun J H1 => ∀ l, H1 l = none → CompW J l (capS js σ) H1 g tc te Q
/-- the tests of a clause: none, or one -/
def PTs (X : Cx) (ifs : List Expr) (t : TT) : Prop :=
  ∀ (pins : List (Addr × Obj)) (s : Shared) (σ : St) (H : Hp) (Q : Bool → Hp → Prop), Inv X pins σ H s → t σ H Q →
    wpAny (model X.prog X.w) X.A (forIn ifs true fun c r => if r = true then do let ok ← isTrue c X.env (eval c X.env); pure (ForInStep.yield ok) else pure (ForInStep.yield r)) (TP X pins σ Q) X.xe s
abbrev tYes : TT := fun _ H Q => Q true H
theorem pts_nil {X : Cx} : PTs X [] tYes := fun pins s σ H Q I h => wpAny_tests_nil ⟨H, I, h⟩
theorem pts_one {X : Cx} {c : Expr} {t : TT} (h : PT X c t) : PTs X [c] t := fun pins s σ H Q I q => wpAny_tests_one (h pins s σ H Q I q)

theorem pe_lcomp {X : Cx} {tg elt iter : Expr} {ifs : List Expr} {scope : Scope} {pos : Pos} {N : List Str} {js : List (Option Nat)} {wi : TI} {g : TG} {tc : TT} {te : TE} (hcalm : X.calm = true)
    (hi : PI X tg iter wi) (hg : ∀ s H fp, PG (cxComp X scope N s H fp) tg g) (hc : ∀ s H fp, PTs (cxComp X scope N s H fp) ifs tc) (he : ∀ s H fp, PE (cxComp X scope N s H fp) elt te)
    (hk : scope.kind = .function := by rfl) (h1 : scOk X scope = true := by rfl) (h2 : capOk X scope N js = true := by rfl)
    (hs : ∀ x, foldedSetIterable iter X.env x = pure x := by intro _; rfl) : PE X (.ListComp elt [⟨tg, iter, ifs, 0⟩] scope pos) (tComp wi js g tc te) := by
  intro pins s σ H Q I h
  rw [eval_ListComp]
  refine wpAny_comprehension_free (use := none) rfl hs (closure_of (scOk.cells I h1)) hk (fun x hx hl => by rw [(scOk.get h1 hx).2, hl]) ?_
  refine thn (hi pins s σ H _ I h) fun v s1 h1' => thn h1' fun itv s2 h2' => ?_
  obtain ⟨it, fp, tn, J, H2, e, I2, T, st2, f2, q⟩ := h2'
  subst e
  refine wpAny_newObj_type ?_
  have hl : H2 s2.heap.objs.size = none := I2.hok.fresh (Nat.le_refl _)
  obtain ⟨W, ⟨m0, w0⟩, turn⟩ := q _ hl
  have I3 : Inv X pins σ (upd H2 s2.heap.objs.size (.lst [])) { s2 with heap := s2.heap.push { cls := .type "list", data := .seq ([] : List Value).toArray } } := I2.lnew (t' := s2.toks) (ys := []) .nil (Nat.zero_le _)
  generalize hs3 : ({ s2 with heap := s2.heap.push { cls := .type "list", data := .seq ([] : List Value).toArray } } : Shared) = s3 at I3
  generalize hH3 : upd H2 s2.heap.objs.size (.lst []) = H3 at I3 w0
  generalize hl' : s2.heap.objs.size = l at turn hH3 hl
  have kp3 : ∀ b o, s2.heap.get? b = some o → s3.heap.get? b = some o := fun b o e => by rw [← hs3]; exact Heap.get?_push_of_some _ e
  have ob3 : ∀ b ∈ fp, ∃ o, s3.heap.get? b = some o ∧ ∀ v, o.data ≠ .cell v := fun b hb => by
    obtain ⟨o, e, d⟩ := T.obj _ _ st2 b hb
    exact ⟨o, kp3 b o e, d⟩
  have f3 : ∀ b ∈ fp, FpOk X pins H3 b := fun b hb => by
    obtain ⟨o, e, d⟩ := T.obj _ _ st2 b hb
    refine ⟨?_, (f2 b hb).2⟩
    rw [← hH3, upd_ne (Nat.ne_of_lt (by rw [← hl']; exact Heap.lt_size e))]
    exact (f2 b hb).1
  refine new_compEnv ?_
  have I4 := inv_comp (N := N) (js := js) I3 hk h1 h2 f3 ob3
  have st4 : tn 0 (pushCells (s3.heap.push { cls := .type "dict", data := .dict #[] }) scope.names) := T.keep _ _ _ st2 fun b hb o e => pushCells_keeps _ _ _ _ (Heap.get?_push_of_some _ (kp3 b o e))
  have fr4 : ∀ b ∈ fp, H3 b = none := fun b hb => (f3 b hb).1
  have fpX : ∀ {H' : Hp}, (∀ b ∈ fp, H' b = none) → ∀ b ∈ fp, FpOk (cxComp X scope N s3 H3 fp) [] H' b := fun hn b hb => by
    have ok := I4.ok
    refine ⟨hn b hb, (ok.exf b hb).1, ok.exfs b hb, .inl hb, (ok.exf b hb).2, fun p hp => absurd (show p ∈ ([] : List (Addr × Obj)) from hp) (by simp)⟩
  -- the block's end
  have fin : ∀ {σ' : St} {H' : Hp} {s' : Shared}, Inv (cxComp X scope N s3 H3 fp) [] σ' H' s' → Q (.ref l) H' → compPost (model X.prog X.w) X.A X.xe none (EP X pins σ Q) (.ref l) s3.heap.objs.size (.ok .next) s' := fun {σ' H' s'} I' q' => by
    obtain ⟨m, hn, _⟩ := id I'.loc
    refine ⟨m, hn, fun h' hsb => ⟨.ref l, H', ?_, rfl, q'⟩⟩
    have hfr : H' s3.heap.objs.size = none := I'.free
    refine I3.call' (s' := { s' with heap := h' }) (ch := fp) I'.os ⟨fun b o e n hb hx => ?_, fun b o e n hb hx => ?_, I'.base.free, fun b o e hx => ?_, I'.base.tups, I'.base.frzs, I'.base.tbls⟩ (fun b u e => ?_) I'.bare (fun b hb => ⟨(f3 b hb).2.2.2.1, (f3 b hb).2.1, (f3 b hb).2.2.2.2.1, (f3 b hb).2.2.2.2.2⟩)
    · exact (hsb.2 b (Nat.ne_of_lt (Heap.lt_size e))).trans (I'.base.keep b o e n hb hx)
    · obtain ⟨sl, z⟩ := I'.base.slot b o e n hb hx
      exact ⟨sl, (hsb.2 b (Nat.ne_of_lt (Heap.lt_size e))).trans z⟩
    · obtain ⟨o', z⟩ := I'.base.there b o e hx
      exact ⟨o', (hsb.2 b (Nat.ne_of_lt (Heap.lt_size e))).trans z⟩
    · refine (I'.hok b u e).stay (fun c w' hc z => (hsb.2 c ?_).trans z) (fun _ z => z) fun _ _ z => z
      rintro rfl
      rcases hc with rfl | hc
      · rw [hfr] at e; cases e
      · rw [hfr] at hc; cases hc
  have loop : codeAny (model X.prog X.w) X.A (.compLoop (.ListComp elt [⟨tg, iter, ifs, 0⟩] scope pos) 0 (.ref it) (.ref l) (cxComp X scope N s3 H3 fp).env) (compPost (model X.prog X.w) X.A X.xe none (EP X pins σ Q) (.ref l) s3.heap.objs.size)
      { s3 with heap := pushCells (s3.heap.push { cls := .type "dict", data := .dict #[] }) scope.names } := by
    refine compLoop_own (fun n s' => ∃ i ys σ' H', Inv (cxComp X scope N s3 H3 fp) [] σ' H' s' ∧ tn i s'.heap ∧ (∀ b ∈ fp, H' b = none) ∧ W i n ys σ' H') ?_ m0 ⟨0, [], capS js σ, H3, I4, st4, fr4, w0⟩
    rintro n s5 ⟨i, ys, σ5, H5, I5, st5, fr5, w5⟩
    rcases turn i n ys σ5 H5 w5 with ⟨stop, qn⟩ | ⟨go, step⟩
    · refine thn (T.done (cxComp X scope N s3 H3 fp) rfl rfl rfl hcalm i [] s5 σ5 H5 _ I5 (fpX fr5) st5 stop) fun r s6 ⟨hr, I6⟩ => ?_
      subst hr
      exact fin I6 qn
    · refine thn (T.item (cxComp X scope N s3 H3 fp) rfl rfl rfl hcalm i [] s5 σ5 H5 _ I5 (fpX fr5) st5 go) fun r s6 ⟨u, hr, h6⟩ => ?_
      subst hr
      refine thn h6 fun _ s7 ⟨x, H7, I7, r7, y7, st7, fr7⟩ => ?_
      have I7' := I7.pinned (fpX fr7) (T.obj _ _ st7)
      have again : ∀ {σ8 : St} {H8 : Hp} {s8 : Shared} {ys8 : List V}, Inv (cxComp X scope N s3 H3 fp) ([] ++ pinsAt fp s7.heap) σ8 H8 s8 → (∃ m', m' < n ∧ W (i + 1) m' ys8 σ8 H8) →
          ∃ m, m < n ∧ ∃ i ys σ' H', Inv (cxComp X scope N s3 H3 fp) [] σ' H' s8 ∧ tn i s8.heap ∧ (∀ b ∈ fp, H' b = none) ∧ W i m ys σ' H' := fun {σ8 H8 s8 ys8} I8 ⟨m', hm, w8⟩ => by
        refine ⟨m', hm, i + 1, ys8, σ8, H8, I8.unpinned, T.keep _ _ _ st7 fun b hb o e => (I8.pin (b, o) (List.mem_append_right _ (List.mem_append_right _ (mem_pinsAt hb e)))).1, fun b hb => ?_, w8⟩
        obtain ⟨o, e, d⟩ := T.obj _ _ st7 b hb
        exact (I8.pin (b, o) (List.mem_append_right _ (List.mem_append_right _ (mem_pinsAt hb e)))).2.1
      refine thn (hg s3 H3 fp _ s7 σ5 H7 x u _ I7' r7 (step x H7 y7)) fun _ s8 ⟨σ8, H8, I8, q8⟩ => ?_
      refine thn (hc s3 H3 fp _ s8 σ8 H8 _ I8 q8) fun ok s9 ⟨H9, I9, q9⟩ => ?_
      cases ok with
      | false =>
        rw [if_neg Bool.false_ne_true] at q9 ⊢
        exact again I9 q9
      | true =>
        rw [if_pos rfl] at q9 ⊢
        refine thn (he s3 H3 fp _ s9 σ8 H9 _ I9 q9) fun y s10 ⟨vy, H10, I10, r10, a10, z10, q10⟩ => ?_
        refine thn (mt_append (X := cxComp X scope N s3 H3 fp) _ s10 σ8 H10 (.ref l) [vy] (.ref l) [y] (fun _ H' => ∃ m', m' < n ∧ W (i + 1) m' (ys ++ [vy]) σ8 H') I10 rfl (.cons r10 .nil) ⟨l, ys, vy, rfl, rfl, a10, z10, q10⟩) fun _ s11 ⟨_, H11, I11, _, q11⟩ => ?_
        exact again I11 q11
  first
    | exact codeAny_compStart_list loop (T.self _ 0 _ _ _ st4 loop)
    | (rw [← hs3] at loop st4
       exact codeAny_compStart_list loop (T.self _ 0 _ _ _ st4 loop))
end L2

set_option Elab.async false
set_option linter.all false
set_option maxRecDepth 100000
namespace L2
open PySem PySem.Spec PyProof.Rows

section
variable {X : Cx}
theorem call_isinst : CallR X (.builtin "isinstance") (fun xs H Q => ∃ x T t b, xs = [x, .ty T] ∧ TyOf X.K H x t ∧ PySem.W.kitOne X.K t (.type T) = some b ∧ Q (.bl b) H) := by
  intro pins s σ H xs us Q I r h
  obtain ⟨x, T, t, b, rfl, ty, e, q⟩ := h
  obtain ⟨u, w', rfl, rx, ry⟩ := vals2 r
  obtain rfl : w' = Value.type T := ry
  exact isinst_ok I rx ty e fun tk => ⟨.bl b, H, I.tok _, rfl, q⟩
/-- the truth of a flat value -/
def truV : V → Bool
  | .bl b => b
  | .int i => i != 0
  | _ => false
def truOk : V → Bool
  | .bl _ => true
  | .int _ => true
  | .non => true
  | _ => false
theorem truthy_V {A : Around} {s : Shared} {x : V} {v : Value} {Q : Bool → Shared → Prop} {E : Value → Shared → Prop} (r : RelV x v) (f : truOk x = true) (h : Q (truV x) s) : wpAny (model X.prog X.w) A (truthy v) Q E s := by
  cases x with
  | bl b => cases r; exact wpAny_truthy_bool h
  | int i => obtain ⟨t, rfl⟩ := r; exact truthy_int h
  | non => cases r; exact truthy_none h
  | _ => exact absurd (show false = true from f) Bool.false_ne_true
theorem range_all' {α : Type} (f : α → Bool) (d : α) (xs : List α) : ((List.range xs.length).all fun i => f (xs.getD i d)) = xs.all f := by
  rw [Bool.eq_iff_iff, List.all_eq_true, List.all_eq_true]
  constructor
  · intro h x hx
    obtain ⟨i, hi, rfl⟩ := List.getElem_of_mem hx
    have := h i (List.mem_range.mpr hi)
    rwa [List.getD_eq_getElem?_getD, List.getElem?_eq_getElem hi, Option.getD_some] at this
  · intro h i hi
    have hi := List.mem_range.mp hi
    rw [List.getD_eq_getElem?_getD, List.getElem?_eq_getElem hi, Option.getD_some]
    exact h _ (List.getElem_mem hi)
theorem range_any' {α : Type} (f : α → Bool) (d : α) (xs : List α) : ((List.range xs.length).any fun i => f (xs.getD i d)) = xs.any f := by
  rw [Bool.eq_iff_iff, List.any_eq_true, List.any_eq_true]
  constructor
  · rintro ⟨i, hi, h⟩
    have hi := List.mem_range.mp hi
    rw [List.getD_eq_getElem?_getD, List.getElem?_eq_getElem hi, Option.getD_some] at h
    exact ⟨_, List.getElem_mem hi, h⟩
  · rintro ⟨x, hx, h⟩
    obtain ⟨i, hi, rfl⟩ := List.getElem_of_mem hx
    exact ⟨i, List.mem_range.mpr hi, by rw [List.getD_eq_getElem?_getD, List.getElem?_eq_getElem hi, Option.getD_some]; exact h⟩
theorem call_all (hc : X.calm = true) : CallR X (.builtin "all") (fun xs H Q => ∃ p ys, xs = [.ref p] ∧ SqL X.K H p ys ∧ ys.all truOk = true ∧ Q (.bl (ys.all truV)) H) := by
  intro pins s σ H xs us Q I r h
  obtain ⟨p, ys, rfl, hq, hf, q⟩ := h
  obtain ⟨u, rfl, rx⟩ := vals1 r
  cases rx
  obtain ⟨its, r', pl, hz⟩ := I.list hq
  have hlt : p < s.heap.objs.size := by obtain ⟨_, e, _⟩ := pl.isList; exact Heap.lt_size e
  have hlen := r'.length
  refine call_all_walk (wpAny_pyIter_list pl.isList ?_)
  refine ⟨s.heap.objs.size, [s.heap.objs.size, p], [s.heap.objs.size], its.toArray.size, _, _, fun i => truV (ys.getD i .non), rfl, Walks.list (A := X.A.in1) (I.ok.hd hc) _ p (Nat.ne_of_lt hlt) its.toArray,
    ⟨⟨_, Heap.get?_push_size _ rfl, rfl, rfl⟩, pl.isList.push _⟩, fun i v s' Q' E' hP hQ => ?_, fun h' tk hk => ?_⟩
  · have hi : its[i]? = some v := by simpa using hP
    have hy : ∃ y, ys[i]? = some y := by
      have := (List.getElem?_eq_some_iff.mp hi).1
      exact ⟨ys[i], List.getElem?_eq_getElem (by omega)⟩
    obtain ⟨y, hy⟩ := hy
    obtain ⟨v', hv', rv⟩ := r'.get hy
    rw [hi] at hv'; cases hv'
    refine truthy_V (X := X) rv (List.all_eq_true.mp hf y (List.mem_of_getElem? hy)) ?_
    have hQ : Q' (truV (ys.getD i V.non)) s' := hQ
    rw [List.getD_eq_getElem?_getD, hy, Option.getD_some] at hQ
    exact hQ
  · rw [List.size_toArray, ← hlen, range_all']
    exact ⟨.bl _, H, I.kept fun b x e => hk b x (fun hm => by rw [List.mem_singleton.mp hm] at e; exact Nat.lt_irrefl _ (Heap.lt_size e)) (Heap.get?_push_of_some _ e), rfl, q⟩
theorem call_any (hc : X.calm = true) : CallR X (.builtin "any") (fun xs H Q => ∃ p ys, xs = [.ref p] ∧ SqL X.K H p ys ∧ ys.all truOk = true ∧ Q (.bl (ys.any truV)) H) := by
  intro pins s σ H xs us Q I r h
  obtain ⟨p, ys, rfl, hq, hf, q⟩ := h
  obtain ⟨u, rfl, rx⟩ := vals1 r
  cases rx
  obtain ⟨its, r', pl, hz⟩ := I.list hq
  have hlt : p < s.heap.objs.size := by obtain ⟨_, e, _⟩ := pl.isList; exact Heap.lt_size e
  have hlen := r'.length
  refine call_any_walk (wpAny_pyIter_list pl.isList ?_)
  refine ⟨s.heap.objs.size, [s.heap.objs.size, p], [s.heap.objs.size], its.toArray.size, _, _, fun i => truV (ys.getD i .non), rfl, Walks.list (A := X.A.in1) (I.ok.hd hc) _ p (Nat.ne_of_lt hlt) its.toArray,
    ⟨⟨_, Heap.get?_push_size _ rfl, rfl, rfl⟩, pl.isList.push _⟩, fun i v s' Q' E' hP hQ => ?_, fun h' tk hk => ?_⟩
  · have hi : its[i]? = some v := by simpa using hP
    have hy : ∃ y, ys[i]? = some y := by
      have := (List.getElem?_eq_some_iff.mp hi).1
      exact ⟨ys[i], List.getElem?_eq_getElem (by omega)⟩
    obtain ⟨y, hy⟩ := hy
    obtain ⟨v', hv', rv⟩ := r'.get hy
    rw [hi] at hv'; cases hv'
    refine truthy_V (X := X) rv (List.all_eq_true.mp hf y (List.mem_of_getElem? hy)) ?_
    have hQ : Q' (truV (ys.getD i V.non)) s' := hQ
    rw [List.getD_eq_getElem?_getD, hy, Option.getD_some] at hQ
    exact hQ
  · rw [List.size_toArray, ← hlen, range_any']
    exact ⟨.bl _, H, I.kept fun b x e => hk b x (fun hm => by rw [List.mem_singleton.mp hm] at e; exact Nat.lt_irrefl _ (Heap.lt_size e)) (Heap.get?_push_of_some _ e), rfl, q⟩
/-- sum of a list of ints -/
theorem call_sumL (hc : X.calm = true) : CallR X (.builtin "sum") (fun xs H Q => ∃ (p : Addr) (ns : List Int), xs = [.ref p] ∧ SqL X.K H p (ns.map V.int) ∧ Q (.int ns.sum) H) := by
  intro pins s σ H xs us Q I r h
  obtain ⟨p, ns, rfl, hq, q⟩ := h
  obtain ⟨u, rfl, rx⟩ := vals1 r
  cases rx
  obtain ⟨its, r', pl, hz⟩ := I.list hq
  have hi : IntsAre its ns := intsAre_of r'
  obtain ⟨xs, hx⟩ := hi.allInts.items
  have hl' : s.heap.IsList p (intItems xs) := hx ▸ pl.isList
  refine sum_intListG (I.ok.hd hc) hl' fun h' tk t' hk => ?_
  have e1 : ns = xs.toList.map (·.1) := by
    rw [← nums_intItems, ← hx]
    exact (show numsOf its.toArray.toList = ns from hi.numsOf).symm
  have e2 : preSum (numAt xs) xs.size = ns.sum := by
    rw [preSum_eq, List.take_of_length_le (by simp), e1]
  rw [e2]
  exact ⟨.int _, H, I.kept hk, ⟨t', rfl⟩, q⟩
end
end L2

set_option Elab.async false
set_option linter.all false
set_option maxRecDepth 100000
namespace L2
open PySem PySem.Spec PyProof.Rows
open PySem.AutoSeq1 (wpAny_loadPart')

/-- all that was tracked is as it was -/
theorem Same.upd {H : Hp} {a : Addr} {o : HO} (h : H a = none) : Same H (upd H a o) := fun b u e => by rw [upd_ne (ne_of_none e h)]; exact e

theorem range_containsW (r : Addr) (a b x : Int) (t u v z : Tok) :
    Meets (Builtin.«range.__contains__» ⟨[.ref r, .int x z], []⟩) (fun _ R s => s.heap.get? r = some { cls := .type "range", data := .fields #[.int a t, .int b u, .int 1 v] } ∧ R (.ok (.ret (.bool (Builtin.Range.rangePlace? a b 1 x).isSome))) s) :=
  .of_wp fun prog w A R s h => by
    obtain ⟨hp, g, d, tk, os⟩ := s; obtain ⟨hl, h⟩ := h
    wp_walk using wpAny_loadPart' hl
    exact ⟨_, rfl, h⟩
theorem list_extendW (l : Addr) (items : Array Value) (n : Nat) (b : Addr) (items2 : Array Value) (n2 : Nat) (dd : Option Addr) (sl : Array (Option Value)) (hs0 : ¬(!items.isEmpty && Builtin.List.listTooLong (items.size + items2.size)) = true) (hs1 : items.size ≤ sizeLine) (hs2 : items.size + items2.size ≤ sizeLine + 1) :
    Meets (Builtin.«list.extend» ⟨[.ref l, .ref b], []⟩) (fun _ R s => s.heap.get? l = some { cls := .type "list", dict := none, data := .seq items n, slots := #[] } ∧ s.heap.get? b = some { cls := .type "tuple", dict := dd, data := .seq items2 n2, slots := sl } ∧ R (.ok (.ret Value.none)) { s with heap := s.heap.update l (Obj.mapSeq fun x => x ++ items2), toks := s.toks }) :=
  .of_wp fun prog w A R s h => by
    obtain ⟨hp, g, d, tk, os⟩ := s; obtain ⟨hl, hb, h⟩ := h; have f1 := AutoSeq1.idx_int; have f2 := AutoSeq1.sub_tuple_tuple; have f3 := AutoSeq1.sub_list_list; have f4 := AutoSeq1.sub_tuple_list; have f5 := AutoSeq1.sub_list_tuple
    have hz' : (items ++ items2).size ≤ sizeLine + 1 := by rw [Array.size_append]; exact hs2
    wp_walk using (wpAny_updateSeq hl rfl (hz := hs1) (_hz' := hz')), wpAny_loadPart' hl, wpAny_loadPart' hb; exact ⟨_, rfl, h⟩
theorem tuple_mulW (l : Addr) (items : Array Value) (n : Nat) (x : Int) (u : Tok) (dd : Option Addr) (sl : Array (Option Value)) (h0 : ¬ (x < -(2 ^ 63) || x ≥ 2 ^ 63) = true) (h1 : ¬ (items.isEmpty || x == 1) = true) (h2 : ¬ (x ≤ 0 || items.isEmpty) = true) (h3 : ¬ items.size * x > (2 ^ 63 - 1) / 8) (h4 : ¬ Builtin.Tuple.tupleTooMany (items.size * x) = true)
    (hz : (List.foldl (fun x1 x2 => x1 ++ x2) #[] (List.replicate x.toNat items)).size ≤ sizeLine) :
    Meets (Builtin.«tuple.__mul__» ⟨[.ref l, .int x u], []⟩) (fun _ R s => s.heap.get? l = some { cls := .type "tuple", dict := dd, data := .seq items n, slots := sl } ∧ R (.ok (.ret (Value.ref s.heap.objs.size))) { s with heap := s.heap.push { cls := Value.type "tuple", data := Data.seq (List.foldl (fun x1 x2 => x1 ++ x2) #[] (List.replicate x.toNat items)) }, toks := s.toks }) :=
  .of_wp fun prog w A R s h => by
    obtain ⟨hp, g, d, tk, os⟩ := s; obtain ⟨hl, h⟩ := h; have f1 := AutoSeq1.idx_int
    wp_walk using wpAny_loadPart' hl
    rw [if_neg h0]
    wp_walk using wpAny_loadPart' hl
    rw [if_neg h3]
    wp_walk using wpAny_loadPart' hl
    exact ⟨_, rfl, h⟩
theorem tuple_mulW1 (l : Addr) (items : Array Value) (n : Nat) (x : Int) (u : Tok) (dd : Option Addr) (sl : Array (Option Value)) (h0 : ¬ (x < -(2 ^ 63) || x ≥ 2 ^ 63) = true) (h1 : (items.isEmpty || x == 1) = true) :
    Meets (Builtin.«tuple.__mul__» ⟨[.ref l, .int x u], []⟩) (fun _ R s => s.heap.get? l = some { cls := .type "tuple", dict := dd, data := .seq items n, slots := sl } ∧ R (.ok (.ret (Value.ref l))) s) :=
  .of_wp fun prog w A R s h => by
    obtain ⟨hp, g, d, tk, os⟩ := s; obtain ⟨hl, h⟩ := h; have f1 := AutoSeq1.idx_int
    wp_walk using wpAny_loadPart' hl
    rw [if_neg h0]
    wp_walk using wpAny_loadPart' hl
    exact ⟨_, rfl, h⟩
theorem int_rmul_tuple (a : Int) (t : Tok) (l : Addr) (items : Array Value) (n : Nat) (dd : Option Addr) (sl : Array (Option Value)) :
    Meets (Builtin.«int.__rmul__» ⟨[.int a t, .ref l], []⟩) (fun _ R s => s.heap.get? l = some { cls := .type "tuple", dict := dd, data := .seq items n, slots := sl } ∧ R (.ok (.ret Value.notImplemented)) s) :=
  .of_wp fun prog w A R s h => by obtain ⟨hp, g, d, tk, os⟩ := s; obtain ⟨hl, h⟩ := h; wp_walk; exact ⟨_, rfl, h⟩
theorem noFill_tuple_mul : fillsNumberSlot (.type "tuple") "mul" = pure false :=
  PySem.fillsNumberSlot_seq (id := "tuple.__mul__") (r := some (.builtin "tuple.__rmul__")) F.slot_tuple_mul.lookup (by decide +kernel) F.slot_tuple_rmul.lookup (by decide +kernel)
theorem repeat_tuple : seqRepeat? (.type "tuple") = pure (some (.builtin "tuple.__mul__")) := by
  unfold seqRepeat?
  rw [PySem.seqSlot_of (T := "tuple") (name := "__mul__") (id := "tuple.__mul__") F.slot_tuple_mul.lookup (by decide +kernel), PySem.seqSlot_of (T := "tuple") (name := "__rmul__") (id := "tuple.__rmul__") F.slot_tuple_rmul.lookup (by decide +kernel)]
  rfl

section
variable {X : Cx}
/-- range(a, b) as a value -/
theorem call_range2V : CallR X (.type "range") (fun xs H Q => ∃ i j : Int, xs = [.int i, .int j] ∧ ∀ p, H p = none → Q (.ref p) (upd H p (.rng i j))) := by
  intro pins s σ H xs us Q I r h
  obtain ⟨i, j, rfl, q⟩ := h
  obtain ⟨u, w', rfl, ⟨t, rfl⟩, ⟨t', rfl⟩⟩ := vals2 r
  refine call_range_2 ⟨.ref s.heap.objs.size, _, I.laid (o := .rng i j) (fun b o e => Heap.get?_push_of_some _ e) (Nat.le_refl _) ?_, rfl, q _ I.fresh⟩
  exact ⟨_, _, _, Heap.get?_push_size _ rfl⟩
theorem place_one (a b x : Int) : (Builtin.Range.rangePlace? a b 1 x).isSome = decide (a ≤ x ∧ x < b) := by
  unfold Builtin.Range.rangePlace?
  simp only [show (1 : Int) > 0 by decide, if_true, Int.emod_one, beq_self_eq_true, Bool.and_true]
  by_cases h : a ≤ x ∧ x < b
  · rw [decide_eq_true h, if_pos (by simp [h.1, h.2])]; rfl
  · rw [decide_eq_false h, if_neg (by simpa using h)]; rfl
def rInR (neg : Bool) : R2 := fun x y H Q => ∃ i p a b, x = .int i ∧ y = .ref p ∧ H p = some (.rng a b) ∧ Q (.bl (if neg then !decide (a ≤ i ∧ i < b) else decide (a ≤ i ∧ i < b))) H
theorem op_notInR : OpR X (compareOp .NotIn) (rInR true) := by
  intro pins s σ H x y v u Q I rx ry h
  obtain ⟨i, p, a, b, rfl, rfl, hp, q⟩ := h
  obtain ⟨t, rfl⟩ := rx
  cases ry
  obtain ⟨t1, t2, t3, e⟩ := I.hok p _ hp
  refine PySem.SeqRoads2.notIn_meets ⟨_, e, rfl⟩ F.slot_range_contains F.entry_range_contains (F.args_range_contains_2 _ _) (range_containsW p a b i t1 t2 t3 t) ⟨e, _, rfl, ?_⟩
  rw [place_one]
  exact ⟨.bl _, H, I, rfl, q⟩
def rExtendT (K : PySem.W.Frag) : V → List V → Hp → VK → Prop := fun x vs H Q => ∃ l b xs zs, x = .ref l ∧ vs = [.ref b] ∧ H l = some (.lst xs) ∧ SqT K H b zs ∧ xs.length + zs.length ≤ sizeLine ∧ Q .non (upd H l (.lst (xs ++ zs)))
theorem mt_extendT : MtM X "list.extend" (rExtendT X.K) := by
  intro pins s σ H x vs v us Q I rx rv h
  obtain ⟨l, b, xs, zs, rfl, rfl, hH, hB, hz, q⟩ := h
  cases rx
  obtain ⟨u, rfl, ru⟩ := rv.one
  cases ru
  obtain ⟨z, its, n, r, hl, e⟩ := I.lstM hH
  obtain ⟨its2, r2, ⟨⟨cls, dd, data, sl⟩, e2, hc, n2, hd⟩, _⟩ := I.tuple hB
  simp only at hc hd
  subst hc hd
  have hl2 := r2.length
  have hsz : its.toArray.size + its2.toArray.size ≤ sizeLine := by rw [List.size_toArray, List.size_toArray]; omega
  have hlong : ¬ (!its.toArray.isEmpty && Builtin.List.listTooLong (its.toArray.size + its2.toArray.size)) = true := by
    rw [notLongL hsz, Bool.and_false]
    exact Bool.false_ne_true
  refine call_meets F.slot_list_extend ⟨_, e, rfl⟩ F.entry_list_extend (F.args_list_extend_2 _ _)
    (list_extendW l its.toArray n b its2.toArray n2 dd sl hlong (by rw [List.size_toArray]; omega) (by omega)) ⟨e, e2, ?_⟩
  refine ⟨.non, _, I.lset (its' := its ++ its2) hH e (by simp) (r.append r2) ?_, rfl, q⟩
  rw [List.length_append]
  omega
/-- t + u of tuples, whichever are empty: some tuple, one of both or a new one -/
def rCatS (K : PySem.W.Frag) : R2 := fun x y H Q => ∃ a b xs ys, x = .ref a ∧ y = .ref b ∧ H a = some (.tup xs) ∧ H b = some (.tup ys) ∧ xs.length + ys.length ≤ sizeLine ∧ ∀ p H', Same H H' → H' p = some (.tup (xs ++ ys)) → (p = a ∨ p = b ∨ H p = none) → Q (.ref p) H'
theorem op_catS : OpR X (binaryOp .Add) (rCatS X.K) := by
  intro pins s σ H x y v u Q I rx ry h
  obtain ⟨a, b, xs, ys, rfl, rfl, ha, hb, hz, q⟩ := h
  by_cases hx : xs = []
  · cases rx
    cases ry
    subst hx
    obtain ⟨its, r1, ⟨⟨cls, dd, data, sl⟩, e1, hc, n, hd⟩, _⟩ := I.tuple (SqT.of ha)
    obtain ⟨its2, r2, ⟨⟨cls2, dd2, data2, sl2⟩, e2, hc2, n2, hd2⟩, _⟩ := I.tuple (SqT.of hb)
    simp only at hc hd hc2 hd2
    subst hc hd hc2 hd2
    cases r1
    exact concat_meets ⟨_, e1, rfl⟩ ⟨_, e2, rfl⟩ noFill_tuple_add seq_tuple_add PySem.F.slot_tuple_add PySem.F.entry_tuple_add (PySem.F.args_tuple_add_2 _ _)
      (tuple_addW0 a b _ _ n n2 dd dd2 sl sl2 rfl) ⟨e1, e2, ⟨.ref b, H, I, rfl, q b H (Same.refl H) hb (.inr (.inl rfl))⟩⟩
  · refine op_catT pins s σ H _ _ v u Q I rx ry ⟨a, b, xs, ys, rfl, rfl, SqT.of ha, SqT.of hb, hx, hz, fun e => q a H (Same.refl H) (by rw [ha, e, List.append_nil]) (.inl rfl), fun _ p hp => q p _ (Same.upd hp) upd_same (.inr (.inr hp))⟩
/-- t[lo:hi] of a tuple, also the whole of it -/
def rSlS (K : PySem.W.Frag) : V → Option Int → Option Int → Hp → VK → Prop := fun x lo hi H Q => ∃ a xs, x = .ref a ∧ H a = some (.tup xs) ∧ ∀ p H', Same H H' → H' p = some (.tup (cutV xs lo hi)) → (p = a ∨ H p = none) → Q (.ref p) H'
theorem sl_tupS : SlR X (rSlS X.K) := by
  intro pins s σ H x v vl vu lo hi sl Q I rx hs pl pu h
  obtain ⟨a, xs, rfl, hx, q⟩ := h
  by_cases hw : HT.sIx xs.length 0 lo = 0 ∧ HT.sIx xs.length xs.length hi = xs.length
  · cases rx
    obtain ⟨its, r, ht, hz⟩ := I.tuple (SqT.of (K := X.K) hx)
    have hlen : its.toArray.size = xs.length := by rw [List.size_toArray]; exact r.length.symm
    refine ⟨"tuple", _, PyProof.Rows.slot_tuple_getitem.lookup, ht.typeIs, ?_⟩
    have hcut : cutV xs lo hi = xs := by
      unfold cutV
      rw [hw.1, hw.2, List.drop_zero, Nat.sub_zero, List.take_length]
    obtain ⟨os, hos, hcs, hds⟩ := id hs
    have hTs : s.TypeIs (.ref sl) "slice" := ⟨os, hos, hcs⟩
    unfold getItem
    try with_reducible refine wpAny_holding ?_
    first | refine wpAny_bind (wpAny_pure ?_) | skip
    refine wpAny_bind (wpAny_sequenceKey ht.typeIs (by decide) ?_)
    refine wpAny_bind (wpAny_callSpecial?_slot (name := Str.ofString "__getitem__") ht.typeIs PyProof.Rows.slot_tuple_getitem
      (wpAny_call_entry PyProof.Rows.slot_tuple_getitem ht.typeIs entry_tuple_getitem ?_ (args_tuple_getitem _ _)))
    show wpAny _ _ (Builtin.Tuple.tupleItemsOf (.ref a) >>= _) _ _ s
    refine wpAny_bind (tupleItemsOf_ ht ?_)
    refine wpAny_bind (wpAny_typeOf hTs ?_)
    rw [if_pos (by decide)]
    refine wpAny_bind (HT.sliceApplied_gen hs pl pu ?_)
    rw [hlen, hw.1, hw.2]
    show wpAny _ _ (if ((((0 : Nat) : Int) == 0 && (1 : Int) == 1 && (xs.length - 0) == xs.length) = true) then _ else _) _ _ s
    rw [if_pos (by simp)]
    have fin : EP X pins σ Q (.ref a) s := ⟨.ref a, H, I, rfl, q a H (Same.refl H) (by rw [hcut]; exact hx) (.inl rfl)⟩
    refine wpAny_bind (wpAny_bind (wpAny_typeOf ht.typeIs (wpAny_pure ?_)))
    rw [if_pos (by decide)]
    exact wpAny_bind (wpAny_rule (wpAny_pure ⟨_, rfl, wpAny_pure fin⟩))
  · exact sl_tup pins s σ H _ v vl vu lo hi sl Q I rx hs pl pu ⟨a, xs, rfl, SqT.of hx, hw, fun p hp => q p _ (Same.upd hp) upd_same (.inr hp)⟩
end
end L2

set_option Elab.async false
set_option linter.all false
set_option maxRecDepth 100000
namespace L2
open PySem PySem.Spec PyProof.Rows
open PySem.AutoSeq1 (wpAny_loadPart')
section
variable {X : Cx}
/-- a tuple, not empty, so often (once at least) -/
def rRepT : R2 := fun x y H Q => ∃ a k xs, x = .ref a ∧ y = .int k ∧ H a = some (.tup xs) ∧ xs ≠ [] ∧ 1 ≤ k ∧ k < 2 ^ 31 ∧ xs.length * k.toNat ≤ sizeLine ∧ ∀ p H', Same H H' → H' p = some (.tup (List.replicate k.toNat xs).flatten) → (p = a ∨ H p = none) → Q (.ref p) H'
theorem op_repT : OpR X (binaryOp .Mult) rRepT := by
  intro pins s σ H x y v u Q I rx ry h
  obtain ⟨a, k, xs, rfl, rfl, hH, hne, h1, h2, hz, q⟩ := h
  cases rx
  obtain ⟨t, rfl⟩ := ry
  obtain ⟨its, r, ⟨⟨cls, dd, data, sl⟩, e, hc, n, hd⟩, _⟩ := I.tuple (SqT.of (K := X.K) hH)
  simp only at hc hd
  subst hc hd
  have hl := r.length
  have hn0 : its ≠ [] := fun z => hne (r.nil_iff.mp z)
  have hem : its.toArray.isEmpty = false := by
    cases its with
    | nil => exact absurd rfl hn0
    | cons _ _ => rfl
  have h0 : ¬ (decide (k < -(2 ^ 63)) || decide (k ≥ 2 ^ 63)) = true := by
    simp only [Bool.or_eq_true, decide_eq_true_eq]
    omega
  refine wpAny_binaryOp_repeat_ref (T := "tuple") (U := "int") (by decide) ⟨_, e, rfl⟩ (fun s' => typeIs_int s' k t) noFill_tuple_mul F.fills_int_mul F.slot_int_rmul repeat_tuple F.slot_int_index.lookup
    (call_meets F.slot_int_rmul (typeIs_int s k t) F.entry_int_rmul (F.args_int_rmul_2 _ _) (int_rmul_tuple k t a its.toArray n dd sl) ⟨e, rfl, ⟨_, e, rfl⟩, ?_⟩)
  by_cases hk : k = 1
  · subst hk
    refine call_meets F.slot_tuple_mul ⟨_, e, rfl⟩ F.entry_tuple_mul (F.args_tuple_mul_2 _ _) (tuple_mulW1 a its.toArray n 1 t dd sl h0 (by simp)) ⟨e, ?_⟩
    exact ⟨.ref a, H, I, rfl, q a H (Same.refl H) (by rw [hH]; simp) (.inl rfl)⟩
  · have hlen : its.toArray.size * k.toNat ≤ sizeLine := by rw [List.size_toArray, ← hl]; exact hz
    have hki : (its.toArray.size : Int) * k = ((its.toArray.size * k.toNat : Nat) : Int) := by
      rw [Int.natCast_mul, Int.toNat_of_nonneg (by omega)]
    have hs : sizeLine = 16777216 := sizeLine_eq
    have hnew : List.foldl (fun x1 x2 => x1 ++ x2) #[] (List.replicate k.toNat its.toArray) = (List.replicate k.toNat its).flatten.toArray := by
      have := foldl_rep its k.toNat []
      rw [List.nil_append] at this
      exact this
    refine call_meets F.slot_tuple_mul ⟨_, e, rfl⟩ F.entry_tuple_mul (F.args_tuple_mul_2 _ _) (tuple_mulW a its.toArray n k t dd sl h0 (by rw [hem]; simpa using hk) (by rw [hem]; simp; omega)
      (by rw [hki]; omega) (by rw [hki]; unfold Builtin.Tuple.tupleTooMany; rw [decide_eq_true_eq]; omega) (by rw [hnew, List.size_toArray, len_rep, ← hl, Nat.mul_comm]; exact hz)) ⟨e, ?_⟩
    rw [hnew]
    have I2 : Inv X pins σ (upd H s.heap.objs.size (.tup (List.replicate k.toNat xs).flatten)) { s with heap := s.heap.push { cls := .type "tuple", data := .seq (List.replicate k.toNat its).flatten.toArray }, toks := s.toks } :=
      I.laid (fun b o e => Heap.get?_push_of_some _ e) (Nat.le_refl _) ⟨by rw [len_rep, Nat.mul_comm]; exact hz, _, r.rep k.toNat, IsTupD.new _ _⟩
    exact ⟨.ref _, _, I2, rfl, q _ _ (Same.upd I.fresh) upd_same (.inr I.fresh)⟩
theorem places_back (n : Nat) : Builtin.Slice.slicePlaces ((n : Int) - 1) (-1) (-1) = n := by
  unfold Builtin.Slice.slicePlaces
  rw [if_neg (by decide)]
  by_cases h : (n : Int) - 1 > -1
  · rw [if_pos h]
    simp only [Int.neg_neg, Int.ediv_one]
    omega
  · rw [if_neg h]
    omega
theorem filterMap_map {α β : Type} {f : α → Option β} {g : α → β} : ∀ (l : List α), (∀ m ∈ l, f m = some (g m)) → l.filterMap f = l.map g
  | [], _ => rfl
  | m :: r, h => by
    rw [List.filterMap_cons, h m List.mem_cons_self, List.map_cons, filterMap_map r fun z hz => h z (List.mem_cons_of_mem _ hz)]
theorem sliceApplied_back {prog : Program} {w : World} {A : Around} {E : Value → Shared → Prop} {s : Shared} {sl : Addr} {t : Tok} {n : Nat} {Q : Int × Int × Nat → Shared → Prop} (hs : s.heap.IsSliceOf sl .none .none (.int (-1) t))
    (h : Q ((n : Int) - 1, -1, n) s) : wpAny (model prog w) A (Builtin.Slice.sliceApplied (.ref sl) (pure (n : Int))) Q E s := by
  obtain ⟨os, hos, hcs, hds⟩ := id hs
  unfold Builtin.Slice.sliceApplied Builtin.Slice.sliceFields
  refine wpAny_bind (wpAny_bind (wpAny_field hos hds (x := .none) rfl (wpAny_bind (wpAny_field hos hds (x := .none) rfl (wpAny_bind (wpAny_field hos hds (x := .int (-1) t) rfl (wpAny_pure ?_)))))))
  refine wpAny_bind (HT.slicePart_ (.int (-1) t) ?_)
  show wpAny _ _ (if ((-1 : Int) == 0) = true then _ else _) _ _ s
  rw [if_neg (by decide)]
  refine wpAny_bind (HT.slicePart_ .none (wpAny_bind (HT.slicePart_ .none (wpAny_bind (wpAny_pure ?_)))))
  show wpAny _ _ (pure (((n : Int) - 1), (-1 : Int), Builtin.Slice.slicePlaces ((n : Int) - 1) (-1) (-1))) _ _ s
  rw [places_back]
  exact wpAny_pure h
theorem pick_back (xs : List Value) : ((List.range xs.length).filterMap fun (m : Nat) => xs.toArray[(((xs.length : Int) - 1) + (m : Int) * (-1)).toNat]?).toArray = xs.reverse.toArray := by
  congr 1
  apply List.ext_getElem?
  intro i
  have e : (List.range xs.length).filterMap (fun (m : Nat) => xs.toArray[(((xs.length : Int) - 1) + (m : Int) * (-1)).toNat]?) = (List.range xs.length).map (fun m => xs.getD (xs.length - 1 - m) .none) := by
    apply filterMap_map
    intro m hm
    have hm := List.mem_range.mp hm
    have q : (((xs.length : Int) - 1) + (m : Int) * (-1)).toNat = xs.length - 1 - m := by omega
    rw [q]
    simp only [List.getElem?_toArray, Function.comp]
    rw [List.getD_eq_getElem?_getD, List.getElem?_eq_getElem (by omega)]
    rfl
  rw [e]
  by_cases hi : i < xs.length
  · rw [List.getElem?_map, List.getElem?_range hi, List.getElem?_reverse hi]
    simp only [Option.map_some]
    rw [List.getD_eq_getElem?_getD, List.getElem?_eq_getElem (by omega)]
    rfl
  · rw [List.getElem?_eq_none (by simp; omega), List.getElem?_eq_none (by simp; omega)]
/-- t[::-1] of a tuple: a new one -/
def RevT (x : V) (H2 : Hp) (Q : VK) : Prop := ∃ a xs, x = .ref a ∧ H2 a = some (.tup xs) ∧ ∀ p H', Same H2 H' → H' p = some (.tup xs.reverse) → Q (.ref p) H'
abbrev tRev (te ts : TE) : TE := fun σ H Q => te σ H fun x H1 => ts σ H1 fun y H2 => y = .int (-1) ∧ RevT x H2 Q
theorem pe_rev {e st : Expr} {te ts : TE} {pos p2 : Pos} (he : PE X e te) (hst : PE X st ts) : PE X (.Subscript e (.Slice none none (some st) p2) pos) (tRev te ts) := by
  intro pins s σ H Q I h
  refine Subscript_ (thn (he pins s σ H _ I h) fun v s1 ⟨x, H1, I1, r1, q1⟩ => ?_)
  refine wpAny_Slice ?_
  rw [evalPart_none]
  refine wpAny_pure (wpAny_pure ?_)
  rw [evalPart_some]
  refine thn (hst pins s1 σ H1 _ I1 q1) fun vs s3 ⟨y, H3, I3, r3, q3⟩ => ?_
  obtain ⟨rfl, a, xs, rfl, hx, q⟩ := q3
  obtain ⟨t, rfl⟩ := r3
  cases r1
  have I4 : Inv X pins σ H3 { s3 with heap := s3.heap.push { cls := .type "slice", data := .fields #[.none, .none, .int (-1) t] } } := I3.kept (t' := s3.toks) fun b ob q => Heap.get?_push_of_some _ q
  generalize hs4 : ({ s3 with heap := s3.heap.push { cls := .type "slice", data := .fields #[.none, .none, .int (-1) t] } } : Shared) = s4 at I4
  have hs : s4.heap.IsSliceOf s3.heap.objs.size .none .none (.int (-1) t) := by rw [← hs4]; exact Heap.IsSliceOf.new ..
  obtain ⟨its, r, ht, hz⟩ := I4.tuple (SqT.of (K := X.K) hx)
  have hlen : its.length = xs.length := r.length.symm
  have hg : wpAny (model X.prog X.w) X.A (getItem (.ref a) (.ref s3.heap.objs.size)) (EP X pins σ Q) X.xe s4 := by
    obtain ⟨os, hos, hcs, hds⟩ := id hs
    have hTs : s4.TypeIs (.ref s3.heap.objs.size) "slice" := ⟨os, hos, hcs⟩
    unfold getItem
    try with_reducible refine wpAny_holding ?_
    first | refine wpAny_bind (wpAny_pure ?_) | skip
    refine wpAny_bind (wpAny_sequenceKey ht.typeIs (by decide) ?_)
    refine wpAny_bind (wpAny_callSpecial?_slot (name := Str.ofString "__getitem__") ht.typeIs PyProof.Rows.slot_tuple_getitem
      (wpAny_call_entry PyProof.Rows.slot_tuple_getitem ht.typeIs entry_tuple_getitem ?_ (args_tuple_getitem _ _)))
    show wpAny _ _ (Builtin.Tuple.tupleItemsOf (.ref a) >>= _) _ _ s4
    refine wpAny_bind (tupleItemsOf_ ht ?_)
    refine wpAny_bind (wpAny_typeOf hTs ?_)
    rw [if_pos (by decide)]
    rw [show ((its.toArray.size : Nat) : Int) = (its.length : Int) by rw [List.size_toArray]]
    refine wpAny_bind (sliceApplied_back hs ?_)
    have hno : ¬ ((((its.length : Int) - 1) == 0 && (-1 : Int) == 1 && its.length == its.toArray.size) = true) := by simp
    show wpAny _ _ (if ((((its.length : Int) - 1) == 0 && (-1 : Int) == 1 && its.length == its.toArray.size) = true) then _ else _) _ _ s4
    rw [if_neg hno, pick_back]
    have fin : EP X pins σ Q (.ref s4.heap.objs.size) { s4 with heap := s4.heap.push { cls := .type "tuple", data := .seq its.reverse.toArray } } := by
      refine ⟨.ref s4.heap.objs.size, _, I4.laid (t' := s4.toks) (o := .tup xs.reverse) (fun b ob q => Heap.get?_push_of_some _ q) (Nat.le_refl _) ?_, rfl, q _ _ (Same.upd I4.fresh) upd_same⟩
      exact ⟨by rw [List.length_reverse]; exact hz, _, r.reverse, IsTupD.new _ _⟩
    have htake : sizeOk (.seq its.reverse.toArray) := by
      show its.reverse.toArray.size ≤ sizeLine
      rw [List.size_toArray, List.length_reverse, hlen]
      exact hz
    first
      | exact wpAny_bind (m := Builtin.Tuple.tupleExact _) (wpAny_newObj_type (wpAny_pure ⟨_, rfl, wpAny_pure fin⟩) htake)
      | exact wpAny_bind (m := Builtin.Tuple.tupleExact _) (wpAny_newObj_type (wpAny_bind (wpAny_pure (wpAny_pure ⟨_, rfl, wpAny_pure fin⟩))) htake)
      | exact wpAny_bind (wpAny_bind (m := Builtin.Tuple.tupleExact _) (wpAny_newObj_type (wpAny_pure (wpAny_pure ⟨_, rfl, wpAny_pure fin⟩)) htake))
      | exact wpAny_bind (wpAny_bind (m := Builtin.Tuple.tupleExact _) (wpAny_newObj_type (wpAny_pure ⟨_, rfl, wpAny_pure fin⟩) htake))
  rw [← hs4] at hg ht ⊢
  exact tail_any (ops := [.ref a, .ref s3.heap.objs.size]) ht.typeIs PyProof.Rows.slot_tuple_getitem.lookup hg (by with_unfolding_all rfl)
end
end L2

set_option Elab.async false
set_option linter.all false
set_option maxRecDepth 100000
/-! Rules that serve an operation whatever its operands are, defs by their promises, and things: values without the heap. -/
namespace L2
open PySem PySem.Spec PyProof.Rows

section
variable {X : Cx}
/-! ### one rule an operation -/
theorem log2_lt64 {j : Int} (h0 : 0 < j) (h : j < 2 ^ 64) : j.natAbs.log2 < 9000 := by
  have h1 : j.natAbs ≠ 0 := by omega
  have h2 : j.natAbs.log2 < 64 := (Nat.log2_lt h1).mpr (by omega)
  omega
def CDv (i j : Int) : Prop := 0 < j ∧ j < 2 ^ 64
theorem op_fdv : OpR X (binaryOp .FloorDiv) (rI CDv fun i j => .int (i / j)) := opI fun i j _ _ _ _ _ hc q => by
  have hb : j ≠ 0 := by have := hc.1; omega
  refine floordiv_int hb ?_ (.inl (PyProof.noPylong_of_log2 (log2_lt64 hc.1 hc.2)))
  rw [Int.fdiv_eq_ediv_of_nonneg i (by have := hc.1; omega)]
  exact q
theorem call_dvm : CallR X (.builtin "divmod") (fun xs H Q => ∃ i j, xs = [.int i, .int j] ∧ CDv i j ∧ ∀ p, H p = none → Q (.ref p) (upd H p (.tup [.int (i / j), .int (i % j)]))) := by
  intro pins s σ H xs us Q I r h
  obtain ⟨i, j, rfl, ⟨h1, h2⟩, q⟩ := h
  obtain ⟨u, w', rfl, ⟨t, rfl⟩, ⟨t', rfl⟩⟩ := vals2 r
  refine divmod_int (by omega) ?_ (.inl (PyProof.noPylong_of_log2 (log2_lt64 h1 h2)))
  rw [Int.fdiv_eq_ediv_of_nonneg i (by omega), Int.fmod_eq_emod_of_nonneg i (by omega)]
  have hn : H s.heap.objs.size = none := I.hok.fresh (Nat.le_refl _)
  refine ⟨.ref s.heap.objs.size, _, ?_, rfl, q _ hn⟩
  refine I.laid (fun b o e => Heap.get?_push_of_some _ e) (Nat.le_refl _) ⟨by simp only [List.length_cons, List.length_nil]; rw [sizeLine_eq]; decide, [.int (i / j) s.toks, .int (i % j) (s.toks + 1)], .cons ⟨_, rfl⟩ (.cons ⟨_, rfl⟩ .nil), ?_⟩
  exact ⟨_, Heap.get?_push_size s.heap rfl, rfl, 0, rfl, rfl⟩
/-- a + b: ints | lists | tuples | texts -/
def rAddU (K : PySem.W.Frag) : R2 := fun x y H Q => (rI0 fun i j => .int (i + j)) x y H Q ∨ rCat x y H Q ∨ rCatS K x y H Q
theorem uAdd : OpR X (binaryOp .Add) (rAddU X.K) := op_add.or (op_cat.or op_catS)
/-- a * b: ints | list, int | tuple, int -/
def rMulU : R2 := fun x y H Q => (rI CMul fun i j => .int (i * j)) x y H Q ∨ rRep x y H Q ∨ rRepT x y H Q
theorem uMul : OpR X (binaryOp .Mult) rMulU := op_mul.or (op_rep.or op_repT)
/-- a walk over a list or a tuple -/
abbrev iSeq (K : PySem.W.Frag) (tl : TE) : TI := fun σ H R => tl σ H fun x H1 => ∃ a, x = .ref a ∧ (((∃ xs, SqL K H1 a xs) ∧ R (Itl K a) H1) ∨ ((∃ xs, SqT K H1 a xs) ∧ R (Itt K a) H1))
theorem pi_seq {tg l : Expr} {tl : TE} (hl : PE X l tl) : PI X tg l (iSeq X.K tl) := by
  intro pins s σ H R I h
  refine thn (hl pins s σ H _ I h) fun v s1 ⟨x, H1, I1, r1, q1⟩ => ?_
  obtain ⟨a, e, q⟩ := q1
  subst e
  cases r1
  rcases q with ⟨⟨xs, hq⟩, q⟩ | ⟨⟨xs, hq⟩, q⟩
  · obtain ⟨its, rv, p, hz⟩ := I1.list hq
    refine wpAny_pyIter_list p.isList ?_
    refine ⟨s1.heap.objs.size, [s1.heap.objs.size], _, _, H1, rfl, I1.kept (t' := s1.toks) fun b o e => Heap.get?_push_of_some _ e, turn_list a _, ⟨_, Heap.get?_push_size _ rfl, rfl, rfl⟩, fun b hb => ?_, q⟩
    have e : b = s1.heap.objs.size := by simpa using hb
    subst e
    exact I1.fpOk (Nat.le_refl _) (I1.hok.fresh (Nat.le_refl _))
  · obtain ⟨its, rv, p, hz⟩ := I1.tuple hq
    refine wpAny_pyIter_tuple (show s1.heap.IsTuple a its.toArray from p) ?_
    refine ⟨s1.heap.objs.size, [s1.heap.objs.size], _, _, H1, rfl, I1.kept (t' := s1.toks) fun b o e => Heap.get?_push_of_some _ e, turn_tuple a _, ⟨_, Heap.get?_push_size _ rfl, rfl, rfl⟩, fun b hb => ?_, q⟩
    have e : b = s1.heap.objs.size := by simpa using hb
    subst e
    exact I1.fpOk (Nat.le_refl _) (I1.hok.fresh (Nat.le_refl _))
/-- a slice of a list or a tuple -/
def rSlU (K : PySem.W.Frag) : V → Option Int → Option Int → Hp → VK → Prop := fun x lo hi H Q => rSlL K x lo hi H Q ∨ rSlS K x lo hi H Q
theorem uSl : SlR X (rSlU X.K) := sl_list.or sl_tupS
end

/-! ### defs by their promises -/
structure Dfn (K : PySem.W.Frag) (mg : Str → Option Value) (x : Str) (st : Stmt) : Prop where
  ex : ∃ f fd, Fun K x x st f fd ∧ mg x = some (.ref f)
def Has (P : Program) (w : World) (K : PySem.W.Frag) (mg : Str → Option Value) (base : Heap) (x : Str) (ps : List Str) (k : Nat) (sp : Sp) : Prop :=
  ∃ f fd, PySem.W.keepIn K (.ref f) = true ∧ mg x = some (.ref f) ∧ Binds K fd ps [] ∧ FnOk P w K mg base CX0 k f fd ps sp
def BindOk (x : Str) (st : Stmt) (ps : List Str) : Prop := ∀ (kV doc pm : Value) (an : Option Addr) (cdv ct : Value) (us : List Value), us.length = ps.length → bindArgs (PySem.W.fnOf x x (defArgs st) (defBody st) (defScope st) .none kV doc pm an cdv ct) ⟨us, []⟩ = pure (ps.zip us)
section
variable {P : Program} {w : World} {K : PySem.W.Frag} {mg : Str → Option Value} {base : Heap}
theorem has_of {x : Str} {st : Stmt} {N ps : List Str} {k : Nat} {sp : Sp} (d : Dfn K mg x st) (S : FnScope N ps (defScope st)) (bd : BindOk x st ps) (len : ∀ vs H Q E, sp vs H Q E → vs.length = ps.length)
    (hbody : ∀ (f : Addr) (cdv : Value) (A : Around) (outer : List Env) (s : Shared) (H : Hp) (vs : List V) (Q : VK) (E : XK), Room k (A.deeper (envOfC x (defScope st) s.heap.objs.size f cdv)) → sp vs H Q E →
      ∃ t, PSs (cxOf CX0 P w K mg base N x (defScope st) f cdv A outer s H E).nox (defBody st) t ∧ t { nx := fun _ H' => Q .non H', rt := Q } (start N vs) H) : Has P w K mg base x ps (k + 1) sp := by
  obtain ⟨f, fd, F, m⟩ := d.ex
  exact ⟨f, fd, F.kp, m, F.binds bd, F.ok S len fun cdv A outer s H vs Q E hr hs => hbody f cdv A outer s H vs Q E hr hs⟩
end
theorem pe_callH {X : Cx} {x : Str} {ps : List Str} {k : Nat} {sp : Sp} {e : Expr} {es : List Expr} {t : TA} {p pos : Pos} (h : Has X.prog X.w X.K X.mg X.base x ps k sp) (hr : Room k X.A) (ha : PA X (e :: es) t) (hg : Gl X x := by rfl)
    (hdb : (x == ("__debug__" : Str)) = false := by decide) (he : starEach (e :: es) X.env = (false, eval e X.env) :: starEach es X.env := by rfl) (hpl : (backTo pos (starEach es X.env)).any (·.1) = false := by rfl) :
    PE X (.Call (.Name x p) (e :: es) [] pos) (tCall sp [] E0 t) := by
  obtain ⟨f, fd, kp, m, b, F⟩ := h
  exact pe_call F hr hg m kp b .nil pass0 ha hdb he hpl

/-! ### things -/
inductive T where
  | non | bl (b : Bool) | int (i : Int) | str (x : Str) | tup (ts : List T) | lst (ts : List T) | dct (ks : List Key) (ts : List T)
mutual
def Is (H : Hp) : V → T → Prop
  | v, .non => v = .non
  | v, .bl b => v = .bl b
  | v, .int i => v = .int i
  | v, .str x => v = .str x
  | v, .tup ts => ts.length ≤ 100000 ∧ ∃ a vs, v = .ref a ∧ H a = some (.tup vs) ∧ IsL H vs ts
  | v, .lst ts => ts.length ≤ 100000 ∧ ∃ a vs, v = .ref a ∧ H a = some (.lst vs) ∧ IsL H vs ts
  | v, .dct ks ts => ∃ a vs, v = .ref a ∧ H a = some (.dK (ks.zip vs)) ∧ ks.length = vs.length ∧ IsL H vs ts
def IsL (H : Hp) : List V → List T → Prop
  | vs, [] => vs = []
  | vs, t :: ts => ∃ v r, vs = v :: r ∧ Is H v t ∧ IsL H r ts
end
mutual
theorem Is.mono {H H' : Hp} (h : Same H H') : ∀ {v : V} {t : T}, Is H v t → Is H' v t
  | v, .non, r => by unfold Is at r ⊢; exact r
  | v, .bl b, r => by unfold Is at r ⊢; exact r
  | v, .int i, r => by unfold Is at r ⊢; exact r
  | v, .str x, r => by unfold Is at r ⊢; exact r
  | v, .tup ts, r => by
    unfold Is at r ⊢
    obtain ⟨z, a, vs, e, ha, q⟩ := r
    exact ⟨z, a, vs, e, h _ _ ha, IsL.mono h q⟩
  | v, .lst ts, r => by
    unfold Is at r ⊢
    obtain ⟨z, a, vs, e, ha, q⟩ := r
    exact ⟨z, a, vs, e, h _ _ ha, IsL.mono h q⟩
  | v, .dct ks ts, r => by
    unfold Is at r ⊢
    obtain ⟨a, vs, e, ha, l, q⟩ := r
    exact ⟨a, vs, e, h _ _ ha, l, IsL.mono h q⟩
theorem IsL.mono {H H' : Hp} (h : Same H H') : ∀ {vs : List V} {ts : List T}, IsL H vs ts → IsL H' vs ts
  | vs, [], r => by unfold IsL at r ⊢; exact r
  | vs, t :: ts, r => by
    unfold IsL at r ⊢
    obtain ⟨v, w, e, a, b⟩ := r
    exact ⟨v, w, e, Is.mono h a, IsL.mono h b⟩
end
end L2

set_option Elab.async false
set_option linter.all false
set_option maxRecDepth 100000
namespace L2
open PySem PySem.Spec PyProof.Rows

theorem IsL.nil {H : Hp} : IsL H [] [] := by unfold IsL; rfl
theorem IsL.cons {H : Hp} {v : V} {t : T} {vs : List V} {ts : List T} (a : Is H v t) (b : IsL H vs ts) : IsL H (v :: vs) (t :: ts) := by unfold IsL; exact ⟨v, vs, rfl, a, b⟩
theorem IsL.cons_inv {H : Hp} {vs : List V} {t : T} {ts : List T} (r : IsL H vs (t :: ts)) : ∃ v w, vs = v :: w ∧ Is H v t ∧ IsL H w ts := by unfold IsL at r; exact r
theorem IsL.nil_inv {H : Hp} {vs : List V} (r : IsL H vs []) : vs = [] := by unfold IsL at r; exact r
theorem IsL.length {H : Hp} : ∀ {ts : List T} {vs : List V}, IsL H vs ts → vs.length = ts.length
  | [], vs, r => by rw [r.nil_inv]; rfl
  | t :: ts, vs, r => by
    obtain ⟨v, w, rfl, _, q⟩ := r.cons_inv
    rw [List.length_cons, List.length_cons, q.length]
theorem IsL.get {H : Hp} : ∀ {ts : List T} {vs : List V} {i : Nat} {v : V}, IsL H vs ts → vs[i]? = some v → ∃ t, ts[i]? = some t ∧ Is H v t
  | [], vs, i, v, r, e => by rw [r.nil_inv] at e; simp at e
  | t :: ts, vs, 0, v, r, e => by
    obtain ⟨x, w, rfl, a, q⟩ := r.cons_inv
    rw [List.getElem?_cons_zero] at e ⊢
    cases e
    exact ⟨t, rfl, a⟩
  | t :: ts, vs, i + 1, v, r, e => by
    obtain ⟨x, w, rfl, a, q⟩ := r.cons_inv
    rw [List.getElem?_cons_succ] at e ⊢
    exact IsL.get q e
theorem IsL.getT {H : Hp} : ∀ {ts : List T} {vs : List V} {i : Nat} {t : T}, IsL H vs ts → ts[i]? = some t → ∃ v, vs[i]? = some v ∧ Is H v t
  | [], vs, i, v, r, e => by simp at e
  | t :: ts, vs, 0, v, r, e => by
    obtain ⟨x, w, rfl, a, q⟩ := r.cons_inv
    rw [List.getElem?_cons_zero] at e ⊢
    cases e
    exact ⟨x, rfl, a⟩
  | t :: ts, vs, i + 1, v, r, e => by
    obtain ⟨x, w, rfl, a, q⟩ := r.cons_inv
    rw [List.getElem?_cons_succ] at e ⊢
    exact IsL.getT q e
theorem IsL.append {H : Hp} : ∀ {ts us : List T} {vs ws : List V}, IsL H vs ts → IsL H ws us → IsL H (vs ++ ws) (ts ++ us)
  | [], us, vs, ws, r, q => by rw [r.nil_inv]; exact q
  | t :: ts, us, vs, ws, r, q => by
    obtain ⟨x, w, rfl, a, r⟩ := r.cons_inv
    exact .cons a (r.append q)
theorem IsL.take {H : Hp} : ∀ {ts : List T} {vs : List V} (n : Nat), IsL H vs ts → IsL H (vs.take n) (ts.take n)
  | _, _, 0, _ => by rw [List.take_zero, List.take_zero]; exact .nil
  | [], vs, n + 1, r => by rw [r.nil_inv]; exact .nil
  | t :: ts, vs, n + 1, r => by
    obtain ⟨x, w, rfl, a, r⟩ := r.cons_inv
    exact .cons a (r.take n)
theorem IsL.drop {H : Hp} : ∀ {ts : List T} {vs : List V} (n : Nat), IsL H vs ts → IsL H (vs.drop n) (ts.drop n)
  | _, _, 0, r => r
  | [], vs, n + 1, r => by rw [r.nil_inv]; exact .nil
  | t :: ts, vs, n + 1, r => by
    obtain ⟨x, w, rfl, a, r⟩ := r.cons_inv
    exact r.drop n
theorem IsL.reverse {H : Hp} : ∀ {ts : List T} {vs : List V}, IsL H vs ts → IsL H vs.reverse ts.reverse
  | [], vs, r => by rw [r.nil_inv]; exact .nil
  | t :: ts, vs, r => by
    obtain ⟨x, w, rfl, a, r⟩ := r.cons_inv
    rw [List.reverse_cons, List.reverse_cons]
    exact r.reverse.append (.cons a .nil)
theorem IsL.flat {H : Hp} : ∀ (k : Nat) {ts : List T} {vs : List V}, IsL H vs ts → IsL H (List.replicate k vs).flatten (List.replicate k ts).flatten
  | 0, ts, vs, r => by simpa using IsL.nil
  | k + 1, ts, vs, r => by
    rw [List.replicate_succ, List.replicate_succ, List.flatten_cons, List.flatten_cons]
    exact r.append (IsL.flat k r)
theorem IsL.one {H : Hp} {v : V} {t : T} (a : Is H v t) : IsL H [v] [t] := .cons a .nil
theorem Is.int {H : Hp} {i : Int} : Is H (.int i) (.int i) := by unfold Is; rfl
theorem Is.bl {H : Hp} {b : Bool} : Is H (.bl b) (.bl b) := by unfold Is; rfl
theorem Is.non {H : Hp} : Is H .non .non := by unfold Is; rfl
theorem Is.str {H : Hp} {x : Str} : Is H (.str x) (.str x) := by unfold Is; rfl
theorem Is.tup {H : Hp} {a : Addr} {vs : List V} {ts : List T} (h : H a = some (.tup vs)) (r : IsL H vs ts) (z : ts.length ≤ 100000) : Is H (.ref a) (.tup ts) := by unfold Is; exact ⟨z, a, vs, rfl, h, r⟩
theorem Is.lst {H : Hp} {a : Addr} {vs : List V} {ts : List T} (h : H a = some (.lst vs)) (r : IsL H vs ts) (z : ts.length ≤ 100000) : Is H (.ref a) (.lst ts) := by unfold Is; exact ⟨z, a, vs, rfl, h, r⟩
theorem Is.int_inv {H : Hp} {v : V} {i : Int} (r : Is H v (.int i)) : v = .int i := by unfold Is at r; exact r
theorem Is.tup_inv {H : Hp} {v : V} {ts : List T} (r : Is H v (.tup ts)) : ∃ a vs, v = .ref a ∧ H a = some (.tup vs) ∧ IsL H vs ts := by unfold Is at r; exact r.2
theorem Is.tup_len {H : Hp} {v : V} {ts : List T} (r : Is H v (.tup ts)) : ts.length ≤ 100000 := by unfold Is at r; exact r.1
theorem Is.lst_len {H : Hp} {v : V} {ts : List T} (r : Is H v (.lst ts)) : ts.length ≤ 100000 := by unfold Is at r; exact r.1
theorem Is.lst_inv {H : Hp} {v : V} {ts : List T} (r : Is H v (.lst ts)) : ∃ a vs, v = .ref a ∧ H a = some (.lst vs) ∧ IsL H vs ts := by unfold Is at r; exact r.2
theorem IsL.ints {H : Hp} : ∀ (ns : List Int), IsL H (ns.map V.int) (ns.map T.int)
  | [] => .nil
  | n :: ns => .cons Is.int (IsL.ints ns)
theorem IsL.ints_inv {H : Hp} : ∀ {ns : List Int} {vs : List V}, IsL H vs (ns.map T.int) → vs = ns.map V.int
  | [], vs, r => r.nil_inv
  | n :: ns, vs, r => by
    obtain ⟨x, w, rfl, a, r⟩ := r.cons_inv
    rw [a.int_inv, r.ints_inv]
    rfl

theorem small_line {n : Nat} (h : n ≤ 100000) : n ≤ sizeLine := by rw [sizeLine_eq]; omega
/-! ### a heap without one object -/
def del (H : Hp) (p : Addr) : Hp := fun b => if b = p then none else H b
theorem del_ne {H : Hp} {p b : Addr} (h : b ≠ p) : del H p b = H b := by unfold del; rw [if_neg h]
theorem del_same (H : Hp) (p : Addr) : Same (del H p) H := fun b o e => by
  unfold del at e
  by_cases h : b = p
  · rw [if_pos h] at e; cases e
  · rw [if_neg h] at e; exact e
theorem del_get {H : Hp} {p b : Addr} {o : HO} (e : del H p b = some o) : b ≠ p ∧ H b = some o := by
  unfold del at e
  by_cases h : b = p
  · rw [if_pos h] at e; cases e
  · rw [if_neg h] at e; exact ⟨h, e⟩
/-- all but the object at p is as it was -/
def But (p : Addr) (H H' : Hp) : Prop := Same (del H p) (del H' p)
theorem But.refl (p : Addr) (H : Hp) : But p H H := Same.refl _
theorem But.trans {p : Addr} {H H1 H2 : Hp} (a : But p H H1) (b : But p H1 H2) : But p H H2 := Same.trans a b
theorem But.of_same {p : Addr} {H H' : Hp} (h : Same H H') : But p H H' := fun b o e => by
  obtain ⟨n, e⟩ := del_get e
  rw [del_ne n]; exact h b o e
theorem But.upd {p : Addr} {H : Hp} {o : HO} : But p H (upd H p o) := fun b u e => by
  obtain ⟨n, e⟩ := del_get e
  rw [del_ne n, upd_ne n]; exact e
theorem But.get {p b : Addr} {H H' : Hp} {o : HO} (h : But p H H') (n : b ≠ p) (e : H b = some o) : H' b = some o := (del_get (h b o (by rw [del_ne n]; exact e))).2
theorem Is.del {p : Addr} {H : Hp} {v : V} {t : T} (r : Is (del H p) v t) : Is H v t := r.mono (del_same H p)
theorem IsL.del {p : Addr} {H : Hp} {v : List V} {t : List T} (r : IsL (del H p) v t) : IsL H v t := r.mono (del_same H p)

/-! ### isinstance of things -/
def tyT : T → String
  | .non => "NoneType" | .bl _ => "bool" | .int _ => "int" | .str _ => "str" | .tup _ => "tuple" | .lst _ => "list" | .dct _ _ => "dict"
theorem Is.tyOf {K : PySem.W.Frag} {H : Hp} {v : V} {t : T} (r : Is H v t) : TyOf K H v (.type (tyT t)) := by
  cases t with
  | non => unfold Is at r; subst r; exact .non
  | bl b => unfold Is at r; subst r; exact .bl b
  | int i => unfold Is at r; subst r; exact .int i
  | str x => unfold Is at r; subst r; exact .str x
  | tup ts => obtain ⟨a, vs, rfl, h, _⟩ := r.tup_inv; exact .tup h
  | lst ts => obtain ⟨a, vs, rfl, h, _⟩ := r.lst_inv; exact .lst h
  | dct ks ts => unfold Is at r; obtain ⟨a, vs, rfl, h, _⟩ := r; exact .dK h
def instN (a c : String) : Bool := a == c || (a == "bool" && c == "int")
theorem kit_all (K : PySem.W.Frag) : ∀ a ∈ ["NoneType", "bool", "int", "str", "tuple", "list", "dict"], ∀ c ∈ ["int", "bool", "tuple", "list", "dict", "str"], PySem.W.kitOne K (.type a) (.type c) = some (instN a c) := by
  intro a ha c hc
  simp only [List.mem_cons, List.not_mem_nil, or_false] at ha hc
  rcases ha with rfl | rfl | rfl | rfl | rfl | rfl | rfl <;> rcases hc with rfl | rfl | rfl | rfl | rfl | rfl <;> rfl
theorem call_inst {X : Cx} : CallR X (.builtin "isinstance") (fun xs H Q => ∃ x c t, xs = [x, .ty c] ∧ Is H x t ∧ c ∈ ["int", "bool", "tuple", "list", "dict", "str"] ∧ Q (.bl (instN (tyT t) c)) H) := by
  intro pins s σ H xs us Q I r h
  obtain ⟨x, c, t, e, ty, hc, q⟩ := h
  refine call_isinst pins s σ H xs us Q I r ⟨x, c, _, _, e, ty.tyOf, kit_all X.K (tyT t) ?_ c hc, q⟩
  cases t <;> simp [tyT]
end L2

set_option Elab.async false
set_option linter.all false
set_option maxRecDepth 100000
namespace L2
open PySem PySem.Spec PyProof.Rows

/-! ### argument lists, one by one -/
def notStar : Expr → Bool
  | .Starred _ _ => false
  | _ => true
theorem star_cons {e : Expr} {es : List Expr} {env : Env} (h : notStar e = true) : starEach (e :: es) env = (false, eval e env) :: starEach es env := by
  cases e <;> first | rfl | exact absurd h Bool.false_ne_true
theorem paC {X : Cx} {e : Expr} {es : List Expr} {te : TE} {t : TA} (ha : PE X e te) (hr : PA X es t) (hs : notStar e = true := by rfl) : PA X (e :: es) (tCons te t) := pa_cons ha hr (star_cons hs)
/-! ### written things -/
/-- what is new in H' -/
def frp (H H' : Hp) : Hp := fun b => if (H b).isSome = true then none else H' b
theorem frp_same (H H' : Hp) : Same (frp H H') H' := fun b o e => by
  unfold frp at e
  by_cases h : (H b).isSome = true
  · rw [if_pos h] at e; cases e
  · rw [if_neg h] at e; exact e
theorem frp_get {H H' : Hp} {b : Addr} {o : HO} (h : H b = none) (e : H' b = some o) : frp H H' b = some o := by unfold frp; rw [h]; exact e
theorem frp_some {H H' : Hp} {b : Addr} {o : HO} (e : frp H H' b = some o) : H b = none ∧ H' b = some o := by
  unfold frp at e
  by_cases h : (H b).isSome = true
  · rw [if_pos h] at e; cases e
  · rw [if_neg h] at e
    refine ⟨?_, e⟩
    cases q : H b with
    | none => rfl
    | some u => rw [q] at h; simp at h
theorem frp_right {H H1 H2 : Hp} (h : Same H1 H2) : Same (frp H H1) (frp H H2) := fun b o e => by
  obtain ⟨a, c⟩ := frp_some e
  exact frp_get a (h b o c)
theorem frp_left {H H1 H2 : Hp} (h : Same H H1) : Same (frp H1 H2) (frp H H2) := fun b o e => by
  obtain ⟨a, c⟩ := frp_some e
  exact frp_get (h.free a) c
theorem frp_del {H H' : Hp} {p : Addr} {o : HO} (h : H p = some o) : Same (frp H H') (del H' p) := fun b u e => by
  obtain ⟨a, c⟩ := frp_some e
  rw [del_ne fun z => by rw [z, h] at a; cases a]
  exact c
abbrev tTh (t : T) : TE := fun _ H Q => ∀ v H', Same H H' → Is (frp H H') v t → Q v H'
abbrev tThs (ts : List T) : TA := fun _ H Q => ∀ vs H', Same H H' → IsL (frp H H') vs ts → Q vs H'
section
variable {X : Cx} {e a b : Expr} {es : List Expr} {t : T} {ts : List T} {pos : Pos}
theorem PE.weak {te te' : TE} (h : PE X e te) (q : ∀ σ H Q, te' σ H Q → te σ H Q) : PE X e te' := fun pins s σ H Q I hq => h pins s σ H Q I (q _ _ _ hq)
theorem PA.weak {ta ta' : TA} (h : PA X es ta) (q : ∀ σ H Q, ta' σ H Q → ta σ H Q) : PA X es ta' := fun pos pins s σ H Q I hq => h pos pins s σ H Q I (q _ _ _ hq)
theorem th_intC {i j pos} : PE X (.Constant (.int i) j pos) (tTh (.int i)) := pe_int.weak fun _ H _ q => q _ H (Same.refl H) Is.int
theorem th_bl {b j pos} : PE X (.Constant (.bool b) j pos) (tTh (.bl b)) := pe_bl.weak fun _ H _ q => q _ H (Same.refl H) Is.bl
theorem th_non {j pos} : PE X (.Constant .none j pos) (tTh .non) := pe_non.weak fun _ H _ q => q _ H (Same.refl H) Is.non
theorem th_str {x j pos} : PE X (.Constant (.str x) j pos) (tTh (.str x)) := pe_str.weak fun _ H _ q => q _ H (Same.refl H) Is.str
/-- ints that are reckoned from written ones -/
theorem th_val {te : TE} {i : Int} (h : PE X e te) (q : ∀ σ H Q, Q (.int i) H → te σ H Q) : PE X e (tTh (.int i)) := h.weak fun σ H Q z => q σ H Q (z _ H (Same.refl H) Is.int)
theorem tha_nil : PA X [] (tThs []) := pa_nil.weak fun _ H _ q => q [] H (Same.refl H) .nil
theorem tha_cons (ha : PE X e (tTh t)) (hr : PA X es (tThs ts)) (hs : notStar e = true := by rfl) : PA X (e :: es) (tThs (t :: ts)) :=
  (paC ha hr hs).weak fun σ H Q q v H1 s1 r1 vs H2 s2 r2 => q (v :: vs) H2 (s1.trans s2) (.cons (r1.mono (frp_right s2)) (r2.mono (frp_left s1)))
theorem th_tup {x1} (h : PA X es (tThs ts)) (hz : Nat.ble ts.length 1000 = true := by rfl) : PE X (.Tuple es x1 pos) (tTh (.tup ts)) :=
  (pe_tup h).weak fun σ H Q q vs H1 s1 r1 => by
    have hl := r1.length
    have hz := Nat.le_of_ble_eq_true hz
    refine ⟨by rw [hl, sizeLine_eq]; omega, fun p hp => q _ _ (s1.trans (Same.upd hp)) (.tup (frp_get (s1.free hp) upd_same) (r1.mono (frp_right (Same.upd hp))) (by omega))⟩
theorem th_lst (h : PA X es (tThs ts)) (hz : Nat.ble ts.length 1000 = true := by rfl) : PE X (.List es pos) (tTh (.lst ts)) :=
  (pe_lst h).weak fun σ H Q q vs H1 s1 r1 => by
    have hl := r1.length
    have hz := Nat.le_of_ble_eq_true hz
    refine ⟨by rw [hl, sizeLine_eq]; omega, fun p hp => q _ _ (s1.trans (Same.upd hp)) (.lst (frp_get (s1.free hp) upd_same) (r1.mono (frp_right (Same.upd hp))) (by omega))⟩
theorem th_rep {k : Int} {j p2} (h : PE X a (tTh (.tup ts))) (h0 : ts ≠ []) (h1 : 1 ≤ k) (h2 : k ≤ 1000) (hz : ts.length ≤ 100) : PE X (.BinOp a .Mult (.Constant (.int k) j p2) pos) (tTh (.tup (List.replicate k.toNat ts).flatten)) :=
  (pe_op op_repT h pe_int).weak fun σ H Q q v H1 s1 r1 => by
    obtain ⟨p, vs, rfl, hp, r⟩ := r1.tup_inv
    obtain ⟨hp0, hp1⟩ := frp_some hp
    have hl := r.length
    have hmul : vs.length * k.toNat ≤ 100 * 1000 := Nat.mul_le_mul (by omega) (by omega)
    refine ⟨p, k, vs, rfl, rfl, hp1, ?_, h1, by omega, by rw [sizeLine_eq]; omega, fun p' H' s2 e2 hw => ?_⟩
    · intro z
      rw [z] at hl
      exact h0 (List.length_eq_zero_iff.mp hl.symm)
    · refine q _ _ (s1.trans s2) (.tup (frp_get ?_ e2) ((r.mono (frp_right s2)).flat k.toNat) (by rw [len_rep, Nat.mul_comm, ← hl]; omega))
      rcases hw with rfl | hw
      · exact hp0
      · exact s1.free hw
/-- a dict of one pair, the key a text -/
theorem th_dict1 {k : Str} {j p2 pos} (h : PE X e (tTh t)) : PE X (.Dict [some (.Constant (.str k) j p2)] [e] pos) (tTh (.dct [Sum.inr k] [t])) :=
  (pe_disp (pps_cons pe_str h pps_nil) rfl rfl (by simp) (by simp)).weak fun σ H Q q p hp => by
    intro v H1 s1 r1
    have e1 : H1 p = some (.dK []) := s1 p _ upd_same
    have s0 : Same H H1 := Same.trans (Same.upd hp) s1
    refine ⟨e1, [(Sum.inr k, v)], rfl, by simp, ?_⟩
    have e2 : mergeK [] [((Sum.inr k : Key), v)] = [((Sum.inr k : Key), v)] := rfl
    rw [e2]
    have s2 : Same H (upd H1 p (.dK [((Sum.inr k : Key), v)])) := fun b o eb => by
      have : b ≠ p := ne_of_none eb hp
      rw [upd_ne this]
      exact s0 b o eb
    refine q _ _ s2 ?_
    unfold Is
    refine ⟨p, [v], rfl, frp_get hp upd_same, rfl, .one (r1.mono ?_)⟩
    intro b o eb
    obtain ⟨a1, a2⟩ := frp_some eb
    have nb : b ≠ p := fun z => by rw [z, upd_same] at a1; cases a1
    rw [upd_ne nb] at a1
    exact frp_get a1 (by rw [upd_ne nb]; exact a2)
theorem th_dict0 {pos} : PE X (.Dict [] [] pos) (tTh (.dct [] [])) := pe_dnewK.weak fun σ H Q q p hp => q _ _ (Same.upd hp) (by unfold Is; exact ⟨p, [], rfl, frp_get hp upd_same, rfl, .nil⟩)
end
end L2

set_option Elab.async false
set_option linter.all false
set_option maxRecDepth 100000
namespace L2
open PySem PySem.Spec PyProof.Rows

/-! ### what is walked, by its items -/
structure Wk (J : It) (xs : List V) (P : Hp → Prop) : Prop where
  go : ∀ i H, i < xs.length → P H → J.go i H
  yld : ∀ i H x H', i < xs.length → P H → J.yld i H x H' → H' = H ∧ xs[i]? = some x
  stop : ∀ i H, xs.length ≤ i → P H → J.stop i H
  mono : ∀ H H', Same H H' → P H → P H'
theorem SqT.mono {K : PySem.W.Frag} {H H' : Hp} {a : Addr} {xs : List V} (e : Same H H') (h : SqT K H a xs) : SqT K H' a xs := by
  rcases h with (h | ⟨o, h⟩) | h
  · exact .inl (.inl (e _ _ h))
  · exact .inl (.inr ⟨o, e _ _ h⟩)
  · exact .inr h
theorem wk_tup {K : PySem.W.Frag} {a : Addr} {xs : List V} : Wk (Itt K a) xs (fun H => SqT K H a xs) where
  go := fun i H hi h => ⟨xs, xs[i], h, List.getElem?_eq_getElem hi⟩
  yld := fun i H x H' _ h y => ⟨y.1, y.2 xs h⟩
  stop := fun i H hi h => ⟨xs, h, hi⟩
  mono := fun H H' s h => h.mono s
theorem wk_list {K : PySem.W.Frag} {a : Addr} {xs : List V} : Wk (Itl K a) xs (fun H => SqL K H a xs) where
  go := fun i H hi h => ⟨xs, xs[i], h, List.getElem?_eq_getElem hi⟩
  yld := fun i H x H' _ h y => ⟨y.1, y.2 xs h⟩
  stop := fun i H hi h => ⟨xs, h, hi⟩
  mono := fun H H' s h => s.seq h
def upTo (lo : Int) (n : Nat) : List V := (List.range n).map fun i => V.int (lo + (i : Nat))
theorem upTo_len (lo : Int) (n : Nat) : (upTo lo n).length = n := by unfold upTo; rw [List.length_map, List.length_range]
theorem upTo_get {lo : Int} {n i : Nat} {v : V} (h : (upTo lo n)[i]? = some v) : i < n ∧ v = .int (lo + i) := by
  have hi : i < n := by
    have := (List.getElem?_eq_some_iff.mp h).1
    rwa [upTo_len] at this
  unfold upTo at h
  rw [List.getElem?_map, List.getElem?_range hi] at h
  exact ⟨hi, (Option.some.inj h).symm⟩
theorem wk_range {lo : Int} {n : Nat} : Wk (Itr lo n) (upTo lo n) (fun _ => True) where
  go := fun i H hi _ => by rw [upTo_len] at hi; exact hi
  yld := fun i H x H' hi _ y => ⟨y.1, by
    rw [upTo_len] at hi
    unfold upTo
    rw [List.getElem?_map, List.getElem?_range hi, y.2]; rfl⟩
  stop := fun i H hi _ => by rw [upTo_len] at hi; exact hi
  mono := fun _ _ _ h => h
theorem del_id {H : Hp} {l : Addr} (h : H l = none) : del H l = H := by
  funext b
  unfold del
  by_cases e : b = l
  · rw [if_pos e, e, h]
  · rw [if_neg e]
theorem But.same {H H' : Hp} {l : Addr} (h : H l = none) (b : But l H H') : Same H H' := by
  have b' : Same (del H l) (del H' l) := b
  rw [del_id h] at b'
  exact b'.trans (del_same H' l)
/-- [elt for x in ..] without a test, the target a name in slot 0: each item's value has F -/
theorem comp_map {J : It} {xs : List V} {P : Hp → Prop} (wk : Wk J xs P) {l : Addr} {te : TE} {σ σr : St} {H : Hp} {Q : VK} (F : Hp → Nat → V → Prop) (hF : ∀ H1 H2 i y, Same H1 H2 → F H1 i y → F H2 i y)
    (hσ : σ = none :: σr) (hl : H l = none) (hz : xs.length ≤ sizeLine) (hP : P H)
    (he : ∀ i x H1 Q1, xs[i]? = some x → Same H H1 → (∃ ys, H1 l = some (.lst ys)) → (∀ y H2, Same H1 H2 → F (del H2 l) i y → Q1 y H2) → te (some x :: σr) H1 Q1)
    (hQ : ∀ ys H', Same H H' → H' l = some (.lst ys) → ys.length = xs.length → (∀ j y, ys[j]? = some y → F (del H' l) j y) → Q (.ref l) H') :
    CompW J l σ H (gName 0) tYes te Q := by
  refine ⟨fun i m ys σ2 H2 => m = xs.length - i ∧ i ≤ xs.length ∧ (∃ o, σ2 = o :: σr) ∧ But l H H2 ∧ H2 l = some (.lst ys) ∧ ys.length = i ∧ ∀ j y, ys[j]? = some y → F (del H2 l) j y, ⟨xs.length, by simp, Nat.zero_le _, ⟨none, hσ⟩, But.upd, upd_same, rfl, fun j y e => by simp at e⟩, ?_⟩
  rintro i m ys σ2 H2 ⟨rfl, hi, ⟨o, rfl⟩, hb, hl2, hlen, hf⟩
  have hP2 : P H2 := wk.mono _ _ (hb.same hl) hP
  by_cases hlt : i < xs.length
  · refine .inr ⟨wk.go i H2 hlt hP2, fun x H3 y => ?_⟩
    obtain ⟨e, hx⟩ := wk.yld i H2 x H3 hlt hP2 y
    subst e
    unfold gName tYes
    refine iteT ?_
    refine he i x H3 _ hx (hb.same hl) ⟨ys, hl2⟩ fun y H6 s6 f6 => ?_
    have hb6 : But l H3 H6 := But.of_same s6
    refine ⟨s6 _ _ hl2, by omega, xs.length - (i + 1), by omega, rfl, hlt, ⟨some x, rfl⟩, hb.trans (hb6.trans But.upd), upd_same, by rw [List.length_append, hlen]; rfl, fun j y' e => ?_⟩
    have hd : Same (del H6 l) (del (upd H6 l (.lst (ys ++ [y]))) l) := But.upd
    by_cases hj : j < ys.length
    · rw [List.getElem?_append_left hj] at e
      exact hF _ _ j y' (Same.trans hb6 hd) (hf j y' e)
    · rw [List.getElem?_append_right (by omega)] at e
      have e0 : j - ys.length = 0 := by
        have := (List.getElem?_eq_some_iff.mp e).1
        rw [List.length_singleton] at this
        omega
      rw [e0] at e
      cases e
      have ej : j = i := by omega
      subst ej
      exact hF _ _ j _ hd f6
  · have e : i = xs.length := by omega
    subst e
    exact .inl ⟨wk.stop _ H2 (Nat.le_refl _) hP2, hQ ys H2 (hb.same hl) hl2 hlen hf⟩
/-- .. where each turn may change the object at p, of which G holds -/
theorem comp_mapB {J : It} {xs : List V} {P : Hp → Prop} (wk : Wk J xs P) {p l : Addr} {te : TE} {σ σr : St} {H : Hp} {Q : VK} (G : Hp → Prop) (F : Hp → Nat → V → Prop) (hF : ∀ H1 H2 i y, But p H1 H2 → F H1 i y → F H2 i y)
    (hσ : σ = none :: σr) (hl : H l = none) (hlp : l ≠ p) (hz : xs.length ≤ sizeLine) (hP : P H) (hPm : ∀ H1 H2, But p H1 H2 → P H1 → P H2) (hG0 : G H) (hG : ∀ H1 ys, G H1 → G (upd H1 l (.lst ys)))
    (he : ∀ i x H1 Q1, xs[i]? = some x → But p H H1 → G H1 → (∃ ys, H1 l = some (.lst ys)) → (∀ y H2, But p H1 H2 → G H2 → F (del H2 l) i y → Q1 y H2) → te (some x :: σr) H1 Q1)
    (hQ : ∀ ys H', But p H H' → G H' → H' l = some (.lst ys) → ys.length = xs.length → (∀ j y, ys[j]? = some y → F (del H' l) j y) → Q (.ref l) H') :
    CompW J l σ H (gName 0) tYes te Q := by
  have ul : ∀ H1 o, H1 = H1 → But p H H1 → But p H (upd H1 l o) := fun H1 o _ b c u e => by
    obtain ⟨h1, h2⟩ := del_get e
    rw [del_ne h1, upd_ne (ne_of_none h2 hl)]
    exact b.get h1 h2
  have dl : ∀ H1 o, But p (del H1 l) (del (upd H1 l o) l) := fun H1 o c u e => by
    obtain ⟨h1, h2⟩ := del_get e
    obtain ⟨h3, h4⟩ := del_get h2
    rw [del_ne h1, del_ne h3, upd_ne h3]
    exact h4
  have db : ∀ H1 H2, But p H1 H2 → But p (del H1 l) (del H2 l) := fun H1 H2 b c u e => by
    obtain ⟨h1, h2⟩ := del_get e
    obtain ⟨h3, h4⟩ := del_get h2
    rw [del_ne h1, del_ne h3]
    exact b.get h1 h4
  refine ⟨fun i m ys σ2 H2 => m = xs.length - i ∧ i ≤ xs.length ∧ (∃ o, σ2 = o :: σr) ∧ But p H H2 ∧ G H2 ∧ H2 l = some (.lst ys) ∧ ys.length = i ∧ ∀ j y, ys[j]? = some y → F (del H2 l) j y, ⟨xs.length, by simp, Nat.zero_le _, ⟨none, hσ⟩, ul H _ rfl (But.refl p H), hG _ _ hG0, upd_same, rfl, fun j y e => by simp at e⟩, ?_⟩
  rintro i m ys σ2 H2 ⟨rfl, hi, ⟨o, rfl⟩, hb, hg, hl2, hlen, hf⟩
  have hP2 : P H2 := hPm _ _ hb hP
  by_cases hlt : i < xs.length
  · refine .inr ⟨wk.go i H2 hlt hP2, fun x H3 y => ?_⟩
    obtain ⟨e, hx⟩ := wk.yld i H2 x H3 hlt hP2 y
    subst e
    unfold gName tYes
    refine iteT ?_
    refine he i x H3 _ hx hb hg ⟨ys, hl2⟩ fun y H6 b6 g6 f6 => ?_
    refine ⟨b6.get hlp hl2, by omega, xs.length - (i + 1), by omega, rfl, hlt, ⟨some x, rfl⟩, ul _ _ rfl (hb.trans b6), hG _ _ g6, upd_same, by rw [List.length_append, hlen]; rfl, fun j y' e => ?_⟩
    by_cases hj : j < ys.length
    · rw [List.getElem?_append_left hj] at e
      exact hF _ _ j y' (But.trans (db _ _ b6) (dl _ _)) (hf j y' e)
    · rw [List.getElem?_append_right (by omega)] at e
      have e0 : j - ys.length = 0 := by
        have := (List.getElem?_eq_some_iff.mp e).1
        rw [List.length_singleton] at this
        omega
      rw [e0] at e
      cases e
      have ej : j = i := by omega
      subst ej
      exact hF _ _ j _ (dl _ _) f6
  · have e : i = xs.length := by omega
    subst e
    exact .inl ⟨wk.stop _ H2 (Nat.le_refl _) hP2, hQ ys H2 hb hg hl2 hlen hf⟩
end L2

set_option Elab.async false
set_option linter.all false
set_option maxRecDepth 100000
/-! The rules again, the written part K named apart from the context (a comprehension's block is another context, of the same K). -/
namespace L2
open PySem PySem.Spec PyProof.Rows
section
variable {X : Cx}
/-- s1; rest, with what holds between (an if whose ways join) -/
abbrev tSeqR (t u : TS) : TS := fun D σ H => ∃ R : St → Hp → Prop, t { D with nx := R } σ H ∧ ∀ σ' H', R σ' H' → u D σ' H'
theorem pss_seq {st : Stmt} {rest : List Stmt} {t u : TS} (h1 : PS X st t) (h2 : PSs X rest u) : PSs X (st :: rest) (tSeqR t u) := by
  intro pins s σ H D I h
  obtain ⟨R, h, hR⟩ := h
  refine wpAny_execs_cons (thn (h1 pins s σ H { D with nx := R } I h) fun f s1 q => ?_)
  cases f with
  | next =>
    obtain ⟨σ', H', I', q⟩ := q
    exact h2 pins s1 σ' H' D I' (hR _ _ q)
  | ret v => exact q
  | brk => exact q
  | cont => exact q
def rLen (K : PySem.W.Frag) : List V → Hp → VK → Prop := fun xs H Q => ∃ p ys, xs = [.ref p] ∧ (SqL K H p ys ∨ SqT K H p ys) ∧ Q (.int ys.length) H
theorem kLen (K : PySem.W.Frag) (hK : X.K = K) : CallR X (.builtin "len") (rLen K) := by subst hK; exact call_len_seq
def rAll (K : PySem.W.Frag) : List V → Hp → VK → Prop := fun xs H Q => ∃ p ys, xs = [.ref p] ∧ SqL K H p ys ∧ ys.all truOk = true ∧ Q (.bl (ys.all truV)) H
theorem kAll (K : PySem.W.Frag) (hK : X.K = K) (hc : X.calm = true) : CallR X (.builtin "all") (rAll K) := by subst hK; exact call_all hc
def rAny (K : PySem.W.Frag) : List V → Hp → VK → Prop := fun xs H Q => ∃ p ys, xs = [.ref p] ∧ SqL K H p ys ∧ ys.all truOk = true ∧ Q (.bl (ys.any truV)) H
theorem kAny (K : PySem.W.Frag) (hK : X.K = K) (hc : X.calm = true) : CallR X (.builtin "any") (rAny K) := by subst hK; exact call_any hc
def rSumL (K : PySem.W.Frag) : List V → Hp → VK → Prop := fun xs H Q => ∃ (p : Addr) (ns : List Int), xs = [.ref p] ∧ SqL K H p (ns.map V.int) ∧ Q (.int ns.sum) H
theorem kSumL (K : PySem.W.Frag) (hK : X.K = K) (hc : X.calm = true) : CallR X (.builtin "sum") (rSumL K) := by subst hK; exact call_sumL hc
def rListOf (K : PySem.W.Frag) : List V → Hp → VK → Prop := fun xs H Q => ∃ p ys, xs = [.ref p] ∧ (SqL K H p ys ∨ SqT K H p ys) ∧ ∀ l, H l = none → Q (.ref l) (upd H l (.lst ys))
theorem kListOf (K : PySem.W.Frag) (hK : X.K = K) : CallR X (.type "list") (rListOf K) := by subst hK; exact call_list_of
def rTupOf (K : PySem.W.Frag) : List V → Hp → VK → Prop := fun xs H Q => ∃ p ys, xs = [.ref p] ∧ ((SqL K H p ys ∧ ∀ l, H l = none → Q (.ref l) (upd H l (.tup ys))) ∨ (SqT K H p ys ∧ Q (.ref p) H))
theorem kTupOf (K : PySem.W.Frag) (hK : X.K = K) : CallR X (.type "tuple") (rTupOf K) := by subst hK; exact call_tuple_of
def rInst : List V → Hp → VK → Prop := fun xs H Q => ∃ x c t, xs = [x, .ty c] ∧ Is H x t ∧ c ∈ ["int", "bool", "tuple", "list", "dict", "str"] ∧ Q (.bl (instN (tyT t) c)) H
theorem kInst : CallR X (.builtin "isinstance") rInst := call_inst
theorem kAdd (K : PySem.W.Frag) (hK : X.K = K) : OpR X (binaryOp .Add) (rAddU K) := by subst hK; exact uAdd
theorem kIx (K : PySem.W.Frag) (hK : X.K = K) : IxR X (rIx K) := by subst hK; exact ix_seq
theorem kSl (K : PySem.W.Frag) (hK : X.K = K) : SlR X (rSlU K) := by subst hK; exact uSl
theorem kSeq (K : PySem.W.Frag) (hK : X.K = K) {tg l : Expr} {tl : TE} (hl : PE X l tl) : PI X tg l (iSeq K tl) := by subst hK; exact pi_seq hl
theorem kTup (K : PySem.W.Frag) (hK : X.K = K) {es : List Expr} {k : Nat} {t : TGs} {n : Nat} {pos : Pos} (hc : X.calm = true) (h : PGs X es t)
    (hn : (assignEach es X.env).length = n := by rfl) (hst : (assignEach es X.env).findIdx? (·.1) = none := by rfl) : PG X (.Tuple es k pos) (gTup K n t) := by subst hK; exact pg_tup hc h hn hst
theorem kExtendT (K : PySem.W.Frag) (hK : X.K = K) : MtM X "list.extend" (rExtendT K) := by subst hK; exact mt_extendT
theorem kBm (K : PySem.W.Frag) (hK : X.K = K) {T : String} {o e : Expr} {es : List Expr} {to : TE} {t : TA} {name : Str} {apos cpos : Pos} {id : String} {r : V → List V → Hp → VK → Prop} (pa : PlainAttrs T) (slot : Slot T name id) (hty : typeOf (.builtin id) = pure (.type "method_descriptor")) (hm : MtR X id r) (ho : PE X o to) (ha : PA X (e :: es) t)
    (hbase : attributeBase o name X.env (eval o X.env) = eval o X.env := by rfl)
    (hfew : ((backTo cpos (starEach (e :: es) X.env)).all (fun x => !x.1) && (backToKw cpos (keywordEach [] X.env)).all (fun x => x.1.isSome)
      && decide ((e :: es).length + ([] : List Keyword).length + (if ([] : List Keyword).isEmpty then 0 else 1) < 30)) = true := by rfl)
    (hline : (apos.endLine == cpos.line) = true := by rfl) (hs : starEach (e :: es) X.env = (false, eval e X.env) :: starEach es X.env := by rfl) (hplain : (backTo cpos (starEach es X.env)).any (·.1) = false := by rfl) :
    PE X (.Call (.Attribute o name apos) (e :: es) [] cpos) (tBM K T r to t) := by
  subst hK
  exact pe_bm pa slot hty hm ho ha hbase hfew hline hs hplain
end
/-! ### tables: tuples of tuples of ints never change -/
def Tups (H H' : Hp) : Prop := ∀ a xs, H a = some (.tup xs) → H' a = some (.tup xs)
theorem Tups.trans {H H1 H2 : Hp} (a : Tups H H1) (b : Tups H1 H2) : Tups H H2 := fun x y h => b x y (a x y h)
theorem Same.tups {H H' : Hp} (h : Same H H') : Tups H H' := fun a xs e => h a _ e
theorem But.tups {p : Addr} {H H' : Hp} {xs : List V} (h : But p H H') (hp : H p = some (.lst xs)) : Tups H H' := fun a ys e => h.get (ne_of e hp (by intro z; cases z)) e
theorem tups_upd {H : Hp} {p : Addr} {xs : List V} {o : HO} (hp : H p = some (.lst xs)) : Tups H (upd H p o) := fun a ys e => by
  rw [upd_ne (ne_of e hp (by intro z; cases z))]; exact e
theorem tups_new {H : Hp} {p : Addr} {o : HO} (hp : H p = none) : Tups H (upd H p o) := (Same.upd hp).tups
def RowAt (H : Hp) (v : V) (r : List Int) : Prop := ∃ a, v = .ref a ∧ H a = some (.tup (r.map V.int))
theorem RowAt.mono {H H' : Hp} {v : V} {r : List Int} (h : RowAt H v r) (s : Tups H H') : RowAt H' v r := by
  obtain ⟨a, e, ha⟩ := h
  exact ⟨a, e, s _ _ ha⟩
def RowsAt (H : Hp) (vs : List V) (M : List (List Int)) : Prop := vs.length = M.length ∧ ∀ (j : Nat) v r, vs[j]? = some v → M[j]? = some r → RowAt H v r
theorem RowsAt.mono {H H' : Hp} {vs : List V} {M : List (List Int)} (h : RowsAt H vs M) (s : Tups H H') : RowsAt H' vs M := ⟨h.1, fun j v r a b => (h.2 j v r a b).mono s⟩
theorem RowsAt.nil {H : Hp} : RowsAt H [] [] := ⟨rfl, fun j v r a _ => by simp at a⟩
theorem RowsAt.snoc {H : Hp} {vs : List V} {M : List (List Int)} {v : V} {r : List Int} (h : RowsAt H vs M) (a : RowAt H v r) : RowsAt H (vs ++ [v]) (M ++ [r]) := by
  refine ⟨by rw [List.length_append, List.length_append, h.1]; rfl, fun j x y e1 e2 => ?_⟩
  by_cases hj : j < vs.length
  · rw [List.getElem?_append_left hj] at e1
    rw [List.getElem?_append_left (by rw [← h.1]; exact hj)] at e2
    exact h.2 j x y e1 e2
  · rw [List.getElem?_append_right (by omega)] at e1
    rw [List.getElem?_append_right (by rw [← h.1]; omega), ← h.1] at e2
    have e0 : j - vs.length = 0 := by
      have := (List.getElem?_eq_some_iff.mp e1).1
      rw [List.length_singleton] at this
      omega
    rw [e0] at e1 e2
    cases e1
    cases e2
    exact a
def TabAt (H : Hp) (v : V) (M : List (List Int)) : Prop := ∃ a vs, v = .ref a ∧ H a = some (.tup vs) ∧ RowsAt H vs M
theorem TabAt.mono {H H' : Hp} {v : V} {M : List (List Int)} (h : TabAt H v M) (s : Tups H H') : TabAt H' v M := by
  obtain ⟨a, vs, e, ha, r⟩ := h
  exact ⟨a, vs, e, s _ _ ha, r.mono s⟩
theorem tups_del {H : Hp} {p : Addr} {xs : List V} (hp : H p = some (.lst xs)) : Tups H (del H p) := fun a ys e => by rw [del_ne (ne_of e hp (by intro z; cases z))]; exact e
theorem RowAt.is {H : Hp} {v : V} {r : List Int} (h : RowAt H v r) (z : r.length ≤ 100000) : Is H v (.tup (r.map T.int)) := by
  obtain ⟨a, rfl, ha⟩ := h
  exact .tup ha (.ints r) (by rw [List.length_map]; exact z)
theorem RowsAt.is {H : Hp} : ∀ {M : List (List Int)} {vs : List V}, RowsAt H vs M → (∀ r ∈ M, r.length ≤ 100000) → IsL H vs (M.map fun r => T.tup (r.map T.int))
  | [], vs, h, _ => by rw [List.length_eq_zero_iff.mp h.1]; exact .nil
  | r :: M, [], h, _ => by have := h.1; simp at this
  | r :: M, v :: vs, h, z => .cons ((h.2 0 v r rfl rfl).is (z r List.mem_cons_self)) (RowsAt.is ⟨by have := h.1; simpa using this, fun j x y a b => h.2 (j + 1) x y a b⟩ fun y hy => z y (List.mem_cons_of_mem _ hy))
end L2

set_option Elab.async false
set_option linter.all false
set_option maxRecDepth 100000
/-! The judgements as structures: what is elaborated is not unfolded down to the machine. -/
namespace L2
open PySem PySem.Spec PyProof.Rows
/-- a new tuple, a new list of these items -/
def MkT (xs : List V) (H : Hp) (Q : VK) : Prop := xs.length ≤ sizeLine ∧ ∀ p, H p = none → Q (.ref p) (upd H p (.tup xs))
def MkL (xs : List V) (H : Hp) (Q : VK) : Prop := xs.length ≤ sizeLine ∧ ∀ p, H p = none → Q (.ref p) (upd H p (.lst xs))
abbrev tTupM (t : TA) : TE := fun σ H Q => t σ H fun xs H1 => MkT xs H1 Q
abbrev tLstM (t : TA) : TE := fun σ H Q => t σ H fun xs H1 => MkL xs H1 Q
structure QE (X : Cx) (e : Expr) (t : TE) : Prop where
  h : PE X e t
structure QT (X : Cx) (e : Expr) (t : TT) : Prop where
  h : PT X e t
structure QW (X : Cx) (e : Expr) (t : TT) : Prop where
  h : PW X e t
structure QA (X : Cx) (es : List Expr) (t : TA) : Prop where
  h : PA X es t
structure QS (X : Cx) (st : Stmt) (t : TS) : Prop where
  h : PS X st t
structure QB (X : Cx) (st : List Stmt) (t : TS) : Prop where
  h : PSs X st t
structure QI (X : Cx) (tg it : Expr) (t : TI) : Prop where
  h : PI X tg it t
structure QG (X : Cx) (tg : Expr) (t : TG) : Prop where
  h : PG X tg t
structure QGs (X : Cx) (tg : List Expr) (t : TGs) : Prop where
  h : PGs X tg t
structure QC (X : Cx) (ifs : List Expr) (t : TT) : Prop where
  h : PTs X ifs t
structure QO (X : Cx) (e : Option Expr) (t : TO) : Prop where
  h : PO X e t
structure QOp (X : Cx) (f : Value → Value → Sem Value) (r : R2) : Prop where
  h : OpR X f r
structure QUn (X : Cx) (f : Value → Sem Value) (r : V → Hp → VK → Prop) : Prop where
  h : UnR X f r
structure QCl (X : Cx) (f : Value) (r : List V → Hp → VK → Prop) : Prop where
  h : CallR X f r
structure QIx (X : Cx) (r : R2) : Prop where
  h : IxR X r
structure QSl (X : Cx) (r : V → Option Int → Option Int → Hp → VK → Prop) : Prop where
  h : SlR X r
structure QMt (X : Cx) (id : String) (r : V → List V → Hp → VK → Prop) : Prop where
  h : MtR X id r
section
variable {X : Cx} {e a b : Expr} {es rest : List Expr} {te ta tb : TE} {t : TA} {tt uu tA tB' : TT} {pos p p2 : Pos} {x : Str}
/-! #### names, constants, operations -/
theorem q_pv (i : Nat) (hN : X.N[i]? = some x := by rfl) (hv : Vis X.env.scope x := by first | exact Or.inl rfl | exact Or.inr (Or.inl rfl) | exact Or.inr (Or.inr rfl)) (hd : (x == ("__debug__" : Str)) = false := by decide)
    (hcd : (x == ("__classdict__" : Str)) = false := by decide) : QE X (.Name x pos) (tVar i) := ⟨pv i hN hv hd hcd⟩
theorem q_int {i j} : QE X (.Constant (.int i) j pos) (tC (.int i)) := ⟨pe_int⟩
theorem q_bl {b j} : QE X (.Constant (.bool b) j pos) (tC (.bl b)) := ⟨pe_bl⟩
theorem q_non {j} : QE X (.Constant .none j pos) (tC .non) := ⟨pe_non⟩
theorem q_str {x j} : QE X (.Constant (.str x) j pos) (tC (.str x)) := ⟨pe_str⟩
theorem q_glob {v : V} (h : ∃ u, X.mg x = some u ∧ RelV v u) (hg : Gl X x := by rfl) (hd : (x == ("__debug__" : Str)) = false := by decide) : QE X (.Name x pos) (tC v) := by
  obtain ⟨u, m, r⟩ := h
  exact ⟨pe_glob hg m r hd⟩
theorem q_ty (T : String) (hm : X.mg x = none) (hv : bootBuiltins x = some (.type T)) (hg : Gl X x := by rfl) (hn : x ≠ "__name__" := by decide) (hd : (x == ("__debug__" : Str)) = false := by decide) : QE X (.Name x pos) (tC (.ty T)) := ⟨pe_bltn (v := .ty T) hg hm hv rfl hn hd⟩
theorem q_op {op : Operator} {r : R2} (ho : QOp X (binaryOp op) r) (ha : QE X a ta) (hb : QE X b tb) : QE X (.BinOp a op b pos) (tOp r ta tb) := ⟨pe_op ho.h ha.h hb.h⟩
theorem q_un {op : UnaryOp} {r : V → Hp → VK → Prop} (ho : QUn X (unaryOp op) r) (ha : QE X a ta) : QE X (.UnaryOp op a pos) (tUn r ta) := ⟨pe_un ho.h ha.h⟩
theorem q_not (ha : QE X a ta) : QE X (.UnaryOp .Not a pos) (tNotV ta) := ⟨pe_not ha.h⟩
theorem q_one {op} (ha : QE X a ta) : QE X (.BoolOp op [a] pos) ta := ⟨pe_one ha.h⟩
theorem q_and (ha : QE X a ta) (hb : QE X (.BoolOp .And (b :: rest) pos) tb) : QE X (.BoolOp .And (a :: b :: rest) pos) (tAndV ta tb) := ⟨pe_and ha.h hb.h⟩
theorem q_if {c : Expr} (hc : QT X c tA) (ha : QE X a ta) (hb : QE X b tb) : QE X (.IfExp c a b pos) (tIf tA ta tb) := ⟨pe_ifExp hc.h ha.h hb.h⟩
theorem q_cmp {op : CmpOp} {r : R2} (ho : QOp X (compareOp op) r) (ha : QE X a ta) (hb : QE X b tb) (hm : behindInMarks op b = false) : QE X (.Compare a [op] [b] pos) (tOp r ta tb) := ⟨pe_cmpR ho.h ha.h hb.h hm⟩
theorem q_tcmp {op : CmpOp} {r : R2} (ho : QOp X (compareOp op) r) (ha : QE X a ta) (hb : QE X b tb) (hm : behindInMarks op b = false) : QT X (.Compare a [op] [b] pos) (tTest (tOp r ta tb)) := ⟨pt_cmpR ho.h ha.h hb.h hm⟩
theorem q_tval (ha : QE X e te) (he : ∀ whole, isTrue e X.env whole = (do let v ← whole; standAt e.pos; holding [v] (truthy v)) := by intro _; rfl) : QT X e (tB te) := ⟨pt_val ha.h he⟩
theorem q_tnot (ha : QT X a tA) : QT X (.UnaryOp .Not a pos) (tNot tA) := ⟨pt_not ha.h⟩
theorem q_wt (ha : QW X e tA) : QT X e tA := ⟨ha.h.pt⟩
theorem q_wand1 (ha : QT X a tA) : QW X (.BoolOp .And [a] pos) tA := ⟨pw_and1 ha.h⟩
theorem q_wor1 (ha : QT X a tA) : QW X (.BoolOp .Or [a] pos) tA := ⟨pw_or1 ha.h⟩
theorem q_wand (ha : QT X a tA) (hb : QW X (.BoolOp .And (b :: rest) pos) tB') : QW X (.BoolOp .And (a :: b :: rest) pos) (tAnd tA tB') := ⟨pw_and ha.h hb.h⟩
theorem q_wor (ha : QT X a tA) (hb : QW X (.BoolOp .Or (b :: rest) pos) tB') : QW X (.BoolOp .Or (a :: b :: rest) pos) (tOr tA tB') := ⟨pw_or ha.h hb.h⟩
/-! #### argument lists, displays -/
theorem q_nil : QA X [] tNil := ⟨pa_nil⟩
theorem q_cons (ha : QE X e te) (hr : QA X es t) (hs : notStar e = true := by rfl) : QA X (e :: es) (tCons te t) := ⟨paC ha.h hr.h hs⟩
theorem q_tup {x1} (h : QA X es t) : QE X (.Tuple es x1 pos) (tTupM t) := ⟨pe_tup h.h⟩
theorem q_lst (h : QA X es t) : QE X (.List es pos) (tLstM t) := ⟨pe_lst h.h⟩
variable {ts : List T} {u : T}
theorem w_int {i j} : QE X (.Constant (.int i) j pos) (tTh (.int i)) := ⟨th_intC⟩
theorem w_bl {b j} : QE X (.Constant (.bool b) j pos) (tTh (.bl b)) := ⟨th_bl⟩
theorem w_non {j} : QE X (.Constant .none j pos) (tTh .non) := ⟨th_non⟩
theorem w_str {x j} : QE X (.Constant (.str x) j pos) (tTh (.str x)) := ⟨th_str⟩
theorem w_val {i : Int} (h : QE X e te) (q : ∀ σ H Q, Q (.int i) H → te σ H Q) : QE X e (tTh (.int i)) := ⟨th_val h.h q⟩
theorem w_nil : QA X [] (tThs []) := ⟨tha_nil⟩
theorem w_cons (ha : QE X e (tTh u)) (hr : QA X es (tThs ts)) (hs : notStar e = true := by rfl) : QA X (e :: es) (tThs (u :: ts)) := ⟨tha_cons ha.h hr.h hs⟩
theorem w_tup {x1} (h : QA X es (tThs ts)) (hz : Nat.ble ts.length 1000 = true := by rfl) : QE X (.Tuple es x1 pos) (tTh (.tup ts)) := ⟨th_tup h.h hz⟩
theorem w_lst (h : QA X es (tThs ts)) (hz : Nat.ble ts.length 1000 = true := by rfl) : QE X (.List es pos) (tTh (.lst ts)) := ⟨th_lst h.h hz⟩
theorem w_rep {k : Int} {j} (h : QE X a (tTh (.tup ts))) (h0 : ts ≠ [] := by simp) (h1 : 1 ≤ k := by decide) (h2 : k ≤ 1000 := by decide) (hz : Nat.ble ts.length 100 = true := by rfl) : QE X (.BinOp a .Mult (.Constant (.int k) j p2) pos) (tTh (.tup (List.replicate k.toNat ts).flatten)) := ⟨th_rep h.h h0 h1 h2 (Nat.le_of_ble_eq_true hz)⟩
theorem w_dict1 {k : Str} {j} (h : QE X e (tTh u)) : QE X (.Dict [some (.Constant (.str k) j p2)] [e] pos) (tTh (.dct [Sum.inr k] [u])) := ⟨th_dict1 h.h⟩
theorem w_dict0 : QE X (.Dict [] [] pos) (tTh (.dct [] [])) := ⟨th_dict0⟩
/-! #### calls -/
theorem q_fn {ps : List Str} {k : Nat} {sp : Sp} (h : Has X.prog X.w X.K X.mg X.base x ps k sp) (hr : Room k X.A) (ha : QA X (e :: es) t) (hg : Gl X x := by rfl)
    (hdb : (x == ("__debug__" : Str)) = false := by decide) (he : notStar e = true := by rfl) (hpl : (backTo pos (starEach es X.env)).any (·.1) = false := by rfl) : QE X (.Call (.Name x p) (e :: es) [] pos) (tCall sp [] E0 t) := ⟨pe_callH h hr ha.h hg hdb (star_cons he) hpl⟩
theorem q_bi {id : String} {r : List V → Hp → VK → Prop} (hc : QCl X (.builtin id) r) (hm : X.mg x = none) (hv : bootBuiltins x = some (.builtin id)) (ha : QA X (e :: es) t) (hg : Gl X x := by rfl) (hn : x ≠ "__name__" := by decide) (hdb : (x == ("__debug__" : Str)) = false := by decide)
    (he : notStar e = true := by rfl) (hpl : (backTo pos (starEach es X.env)).any (·.1) = false := by rfl) : QE X (.Call (.Name x p) (e :: es) [] pos) (tCB r t) := ⟨pe_callB hc.h hg hm hv ha.h hn hdb (star_cons he) hpl⟩
theorem q_cty {T : String} {r : List V → Hp → VK → Prop} (hc : QCl X (.type T) r) (hm : X.mg x = none) (hv : bootBuiltins x = some (.type T)) (ha : QA X (e :: es) t) (hg : Gl X x := by rfl) (hn : x ≠ "__name__" := by decide) (hdb : (x == ("__debug__" : Str)) = false := by decide)
    (he : notStar e = true := by rfl) (hpl : (backTo pos (starEach es X.env)).any (·.1) = false := by rfl) : QE X (.Call (.Name x p) (e :: es) [] pos) (tCB r t) := ⟨pe_callTy hc.h hg hm hv ha.h hn hdb (star_cons he) hpl⟩
theorem q_bm (K : PySem.W.Frag) (hK : X.K = K) {T : String} {o : Expr} {to : TE} {name : Str} {apos cpos : Pos} {id : String} {r : V → List V → Hp → VK → Prop} (pa : PlainAttrs T) (slot : Slot T name id) (hty : typeOf (.builtin id) = pure (.type "method_descriptor")) (hm : QMt X id r) (ho : QE X o to) (ha : QA X (e :: es) t)
    (hbase : attributeBase o name X.env (eval o X.env) = eval o X.env := by rfl)
    (hfew : ((backTo cpos (starEach (e :: es) X.env)).all (fun x => !x.1) && (backToKw cpos (keywordEach [] X.env)).all (fun x => x.1.isSome)
      && decide ((e :: es).length + ([] : List Keyword).length + (if ([] : List Keyword).isEmpty then 0 else 1) < 30)) = true := by rfl)
    (hline : (apos.endLine == cpos.line) = true := by rfl) (hs : notStar e = true := by rfl) (hplain : (backTo cpos (starEach es X.env)).any (·.1) = false := by rfl) :
    QE X (.Call (.Attribute o name apos) (e :: es) [] cpos) (tBM K T r to t) := ⟨kBm K hK pa slot hty hm.h ho.h ha.h hbase hfew hline (star_cons hs) hplain⟩
/-! #### subscripts -/
theorem q_ix {r : R2} (hr : QIx X r) (ha : QE X a ta) (hb : QE X b tb) (hs : PlainIx b := by exact fun _ _ => rfl) : QE X (.Subscript a b pos) (tOp r ta tb) := ⟨pe_ix hr.h ha.h hb.h hs⟩
theorem q_sl {r : V → Option Int → Option Int → Hp → VK → Prop} {lo hi : Option Expr} {tl th : TO} (hr : QSl X r) (he : QE X e te) (hl : QO X lo tl) (hu : QO X hi th) : QE X (.Subscript e (.Slice lo hi none p2) pos) (tSl r te tl th) := ⟨pe_slice hr.h he.h hl.h hu.h⟩
theorem q_rev {st : Expr} {ts : TE} (he : QE X e te) (hst : QE X st ts) : QE X (.Subscript e (.Slice none none (some st) p2) pos) (tRev te ts) := ⟨pe_rev he.h hst.h⟩
theorem q_no : QO X none tNoPart := ⟨po_none⟩
theorem q_some (h : QE X e te) : QO X (some e) (tPart te) := ⟨po_some h.h⟩
/-! #### walks and targets -/
variable {tg : Expr}
theorem q_seq (K : PySem.W.Frag) (hK : X.K = K) (hl : QE X e te) : QI X tg e (iSeq K te) := ⟨kSeq K hK hl.h⟩
theorem q_rng1 (hm : X.mg "range" = none) (ha : QA X [a] t) (hg : Gl X "range" := by rfl) (hs : notStar a = true := by rfl) : QI X tg (.Call (.Name "range" p) [a] [] pos) (iRng1 t) := ⟨pi_range1 hg hm ha.h (star_cons hs)⟩
theorem q_name {i : Nat} (hN : X.N.Nodup) (hi : X.N[i]? = some x := by rfl) (hx : Loc X.env.scope x := by first | exact Or.inl rfl | exact Or.inr rfl) (hf : X.fn x = true ∨ X.env.scope.names.lookup x = some .local := by first | exact .inl rfl | exact .inr rfl | exact .inl (by decide +kernel)) : QG X (.Name x pos) (gName i) := ⟨pg_name hN hi hx hf⟩
theorem q_gnil : QGs X [] gNil := ⟨pgs_nil⟩
theorem q_gcons {es : List Expr} {t : TG} {u : TGs} (h1 : QG X e t) (h2 : QGs X es u) (hs : (assignEach (e :: es) X.env).map (·.2) = assign e X.env :: (assignEach es X.env).map (·.2) := by rfl) : QGs X (e :: es) (gCons t u) := ⟨pgs_cons h1.h h2.h hs⟩
theorem q_gtup (K : PySem.W.Frag) (hK : X.K = K) {es : List Expr} {k : Nat} {t : TGs} {n : Nat} (hc : X.calm = true) (h : QGs X es t) (hn : (assignEach es X.env).length = n := by rfl) (hst : (assignEach es X.env).findIdx? (·.1) = none := by rfl) : QG X (.Tuple es k pos) (gTup K n t) := ⟨kTup K hK hc h.h hn hst⟩
theorem q_gsub {o i : Expr} {to ti : TE} (ho : QE X o to) (hi : QE X i ti)
    (ha : ∀ v, assign (.Subscript o i pos) X.env v = (do
      let ov ← holding [v] (eval o X.env)
      let iv ← holding [v, ov] (eval i X.env)
      standAt pos
      holding [v, ov, iv] (setItem ov iv v)
      release [v, ov, iv] []) := by intro _; rfl) : QG X (.Subscript o i pos) (gSub to ti rSetL) := ⟨pg_sub ho.h hi.h set_list ha⟩
theorem q_c0 : QC X [] tYes := ⟨pts_nil⟩
theorem q_c1 (h : QT X e tt) : QC X [e] tt := ⟨pts_one h.h⟩
theorem q_comp {elt iter : Expr} {ifs : List Expr} {scope : Scope} (N : List Str) (js : List (Option Nat)) {wi : TI} {g : TG} {tc : TT} (hcalm : X.calm = true)
    (hi : QI X tg iter wi) (hg : ∀ s H fp, QG (cxComp X scope N s H fp) tg g) (hc : ∀ s H fp, QC (cxComp X scope N s H fp) ifs tc) (he : ∀ s H fp, QE (cxComp X scope N s H fp) elt te)
    (hk : scope.kind = .function := by rfl) (h1 : scOk X scope = true := by rfl) (h2 : capOk X scope N js = true := by rfl)
    (hs : ∀ x, foldedSetIterable iter X.env x = pure x := by intro _; rfl) : QE X (.ListComp elt [⟨tg, iter, ifs, 0⟩] scope pos) (tComp wi js g tc te) := ⟨pe_lcomp hcalm hi.h (fun s H fp => (hg s H fp).h) (fun s H fp => (hc s H fp).h) (fun s H fp => (he s H fp).h) hk h1 h2 hs⟩
/-! #### statements -/
variable {st : Stmt} {sts : List Stmt} {t1 t2 : TS}
theorem q_bnil : QB X [] tNext := ⟨pss_nil⟩
theorem q_bcons (h1 : QS X st t1) (h2 : QB X sts t2) : QB X (st :: sts) (tSeq t1 t2) := ⟨pss_cons h1.h h2.h⟩
theorem q_bseq (h1 : QS X st t1) (h2 : QB X sts t2) : QB X (st :: sts) (tSeqR t1 t2) := ⟨pss_seq h1.h h2.h⟩
theorem q_bone (h1 : QS X st t1) : QB X [st] t1 := ⟨pss_one h1.h⟩
theorem q_expr (he : QE X e te) (hs : swapsWith e none pos.line X.env = pure false := by rfl) : QS X (.Expr e pos) (tDrop te) := ⟨ps_expr he.h hs⟩
theorem q_ret (he : QE X e te) : QS X (.Return (some e) pos) (tRet te) := ⟨ps_ret he.h⟩
theorem q_sif {c : Expr} {bs cs : List Stmt} (hc : QT X c tt) (ha : QB X bs t1) (hb : QB X cs t2) : QS X (.If c bs cs pos) (tIfS tt t1 t2) := ⟨ps_if hc.h ha.h hb.h⟩
theorem q_for {iter : Expr} {body : List Stmt} {wi : TI} {g : TG} (hp : PassesOwn (model X.prog X.w) X.A X.env X.xe) (hc : X.calm = true) (hi : QI X tg iter wi) (hg : QG X tg g) (hb : QB X body t1)
    (hs : ∀ x, foldedSetIterable iter X.env x = pure x := by intro _; rfl) : QS X (.For tg iter body [] pos) (tFor wi g t1) := ⟨ps_for hp hc hi.h hg.h hb.h hs⟩
theorem q_set {i : Nat} (hN : X.N.Nodup) (he : QE X e te) (hi : X.N[i]? = some x := by rfl) (hx : Loc X.env.scope x := by first | exact Or.inl rfl | exact Or.inr rfl) (hs : swapsWith e (some (.Name x p2)) pos.line X.env = pure false := by rfl) (hf : X.fn x = true ∨ X.env.scope.names.lookup x = some .local := by first | exact .inl rfl | exact .inr rfl) :
    QS X (.Assign [.Name x p2] e pos) (tAsg te (gName i)) := ⟨ps_set hN hi hx he.h hs hf⟩
theorem q_asg {g : TG} (he : QE X e te) (hg : QG X tg g) (hs : swapsWithSole [tg] e pos.line X.env = pure false := by rfl) (hw : swappedStores [tg] e X.env = pure none := by rfl)
    (h1 : (assignEach [tg] X.env).map (·.2) = [assign tg X.env] := by rfl) : QS X (.Assign [tg] e pos) (tAsg te g) := ⟨ps_asg he.h hg.h hs hw h1⟩
theorem q_par (i j : Nat) {y : Str} {px py pt : Pos} {kt k2 pt2} (hN : X.N.Nodup) (hij : i ≠ j) (ha : QA X [a, b] t) (hi : X.N[i]? = some x := by rfl) (hj : X.N[j]? = some y := by rfl)
    (hx : X.env.scope.names.lookup x = some .local := by rfl) (hy : X.env.scope.names.lookup y = some .local := by rfl) (hc : X.calm = true := by rfl)
    (hw : swappedStores [.Tuple [.Name x px, .Name y py] kt pt] (.Tuple [a, b] k2 pt2) X.env = pure (some [x, y]) := by rfl)
    (hs : swapsWithSole [.Tuple [.Name x px, .Name y py] kt pt] (.Tuple [a, b] k2 pt2) pos.line X.env = pure false := by rfl) :
    QS X (.Assign [.Tuple [.Name x px, .Name y py] kt pt] (.Tuple [a, b] k2 pt2) pos) (tPar i j t) := ⟨ps_par hc hN hi hj hij hx hy ha.h hw hs⟩
/-! #### operations -/
theorem o_add (K : PySem.W.Frag) (hK : X.K = K) : QOp X (binaryOp .Add) (rAddU K) := ⟨kAdd K hK⟩
theorem o_sub : QOp X (binaryOp .Sub) (rI0 fun i j => .int (i - j)) := ⟨op_sub⟩
theorem o_mul : QOp X (binaryOp .Mult) rMulU := ⟨uMul⟩
theorem o_fdv : QOp X (binaryOp .FloorDiv) (rI CDv fun i j => .int (i / j)) := ⟨op_fdv⟩
theorem o_mod : QOp X (binaryOp .Mod) (rI (fun _ j => 0 < j) fun i j => .int (i % j)) := ⟨op_mod⟩
theorem o_pow : QOp X (binaryOp .Pow) (rI CPow fun i j => .int (i ^ j.toNat)) := ⟨op_pow⟩
theorem o_neg : QUn X (unaryOp .USub) (rU fun i => .int (-i)) := ⟨un_neg⟩
theorem o_eq : QOp X (compareOp .Eq) rEq := ⟨op_eq⟩
theorem o_ne : QOp X (compareOp .NotEq) rNe := ⟨op_ne⟩
theorem o_lt : QOp X (compareOp .Lt) (rI0 fun i j => .bl (decide (i < j))) := ⟨op_lt⟩
theorem o_le : QOp X (compareOp .LtE) (rI0 fun i j => .bl (decide (i ≤ j))) := ⟨op_le⟩
theorem o_gt : QOp X (compareOp .Gt) (rI0 fun i j => .bl (decide (j < i))) := ⟨op_gt⟩
theorem o_ge : QOp X (compareOp .GtE) (rI0 fun i j => .bl (decide (j ≤ i))) := ⟨op_ge⟩
def rIsN : R2 := fun x y H Q => y = .non ∧ Q (.bl (decide (x = .non))) H
def rNotN : R2 := fun x y H Q => y = .non ∧ Q (.bl (!decide (x = .non))) H
theorem o_isN : QOp X (compareOp .Is) rIsN := ⟨op_isN⟩
theorem o_notN : QOp X (compareOp .IsNot) rNotN := ⟨op_notN⟩
theorem o_notInR : QOp X (compareOp .NotIn) (rInR true) := ⟨op_notInR⟩
theorem o_ix (K : PySem.W.Frag) (hK : X.K = K) : QIx X (rIx K) := ⟨kIx K hK⟩
theorem o_sl (K : PySem.W.Frag) (hK : X.K = K) : QSl X (rSlU K) := ⟨kSl K hK⟩
theorem m_append : QMt X "list.append" rAppend := ⟨mt_append⟩
theorem m_extendT (K : PySem.W.Frag) (hK : X.K = K) : QMt X "list.extend" (rExtendT K) := ⟨kExtendT K hK⟩
theorem c_inst : QCl X (.builtin "isinstance") rInst := ⟨kInst⟩
theorem c_len (K : PySem.W.Frag) (hK : X.K = K) : QCl X (.builtin "len") (rLen K) := ⟨kLen K hK⟩
theorem c_all (K : PySem.W.Frag) (hK : X.K = K) (hc : X.calm = true := by rfl) : QCl X (.builtin "all") (rAll K) := ⟨kAll K hK hc⟩
theorem c_any (K : PySem.W.Frag) (hK : X.K = K) (hc : X.calm = true := by rfl) : QCl X (.builtin "any") (rAny K) := ⟨kAny K hK hc⟩
theorem c_sum (K : PySem.W.Frag) (hK : X.K = K) (hc : X.calm = true := by rfl) : QCl X (.builtin "sum") (rSumL K) := ⟨kSumL K hK hc⟩
def rMax2 : List V → Hp → VK → Prop := fun xs H Q => ∃ i j, xs = [.int i, .int j] ∧ Q (.int (if j > i then j else i)) H
theorem c_max2 (hc : X.calm = true := by rfl) : QCl X (.builtin "max") rMax2 := ⟨call_max2 hc⟩
def rAbs : List V → Hp → VK → Prop := fun xs H Q => ∃ i, xs = [.int i] ∧ Q (.int (if i < 0 then -i else i)) H
theorem c_abs : QCl X (.builtin "abs") rAbs := ⟨call_abs⟩
def rDvm : List V → Hp → VK → Prop := fun xs H Q => ∃ i j, xs = [.int i, .int j] ∧ CDv i j ∧ ∀ p, H p = none → Q (.ref p) (upd H p (.tup [.int (i / j), .int (i % j)]))
theorem c_dvm : QCl X (.builtin "divmod") rDvm := ⟨call_dvm⟩
def rInt1 : List V → Hp → VK → Prop := fun xs H Q => (∃ i, xs = [.int i] ∧ Q (.int i) H) ∨ ∃ k, xs = [.bl k] ∧ Q (.int (if k then 1 else 0)) H
theorem c_int1 : QCl X (.type "int") rInt1 := ⟨call_int1⟩
theorem c_list (K : PySem.W.Frag) (hK : X.K = K) : QCl X (.type "list") (rListOf K) := ⟨kListOf K hK⟩
theorem c_tuple (K : PySem.W.Frag) (hK : X.K = K) : QCl X (.type "tuple") (rTupOf K) := ⟨kTupOf K hK⟩
def rRange2 : List V → Hp → VK → Prop := fun xs H Q => ∃ i j : Int, xs = [.int i, .int j] ∧ ∀ p, H p = none → Q (.ref p) (upd H p (.rng i j))
theorem c_range2 : QCl X (.type "range") rRange2 := ⟨call_range2V⟩
end
section
variable {P : Program} {w : World} {K : PySem.W.Frag} {mg : Str → Option Value} {base : Heap}
theorem has_q {x : Str} {st : Stmt} {N ps : List Str} {k : Nat} {sp : Sp} (d : Dfn K mg x st) (S : FnScope N ps (defScope st)) (bd : BindOk x st ps) (len : ∀ vs H Q E, sp vs H Q E → vs.length = ps.length)
    (hbody : ∀ (f : Addr) (cdv : Value) (A : Around) (outer : List Env) (s : Shared) (H : Hp) (vs : List V) (Q : VK) (E : XK), Room k (A.deeper (envOfC x (defScope st) s.heap.objs.size f cdv)) → sp vs H Q E →
      ∃ t, QB (cxOf CX0 P w K mg base N x (defScope st) f cdv A outer s H E).nox (defBody st) t ∧ t { nx := fun _ H' => Q .non H', rt := Q } (start N vs) H) : Has P w K mg base x ps (k + 1) sp :=
  has_of d S bd len fun f cdv A outer s H vs Q E hr hs => let ⟨t, a, b⟩ := hbody f cdv A outer s H vs Q E hr hs; ⟨t, a.h, b⟩
end
end L2

set_option Elab.async false
set_option linter.all false
set_option maxRecDepth 100000
/-! Operations on things, apart from one list at p that others change. -/
namespace L2
open PySem PySem.Spec PyProof.Rows
theorem IsL.is {H : Hp} {vs : List V} {ts : List T} (A : IsL H vs ts) (i : Nat) {v : V} {t : T} (hv : vs[i]? = some v := by rfl) (ht : ts[i]? = some t := by rfl) : Is H v t := by
  obtain ⟨t', e, r⟩ := A.get hv
  rw [ht] at e
  cases e
  exact r
/-! ### a heap without the objects of S -/
open Classical in
noncomputable def dls (H : Hp) (S : Addr → Prop) : Hp := fun b => if S b then none else H b
theorem dls_ne {H : Hp} {S : Addr → Prop} {b : Addr} (h : ¬ S b) : dls H S b = H b := by unfold dls; rw [if_neg h]
theorem dls_get {H : Hp} {S : Addr → Prop} {b : Addr} {o : HO} (e : dls H S b = some o) : ¬ S b ∧ H b = some o := by
  unfold dls at e
  by_cases h : S b
  · rw [if_pos h] at e; cases e
  · rw [if_neg h] at e; exact ⟨h, e⟩
theorem dls_le (H : Hp) (S : Addr → Prop) : Same (dls H S) H := fun b o e => (dls_get e).2
theorem dls_same {S : Addr → Prop} {H H' : Hp} (s : Same H H') : Same (dls H S) (dls H' S) := fun b o e => by
  obtain ⟨n, e⟩ := dls_get e
  rw [dls_ne n]; exact s b o e
theorem dls_but {S : Addr → Prop} {p : Addr} {H H' : Hp} (h : S p) (b : But p H H') : Same (dls H S) (dls H' S) := fun c o e => by
  obtain ⟨n, e⟩ := dls_get e
  rw [dls_ne n]; exact b.get (fun z => n (z ▸ h)) e
/-- what stands apart: lists, dicts, no tuples -/
def Pen (H : Hp) (S : Addr → Prop) : Prop := ∀ b, S b → ∃ xs, H b = some (.lst xs)
theorem Pen.mono {H H' : Hp} {S : Addr → Prop} (h : Pen H S) (s : Same H H') : Pen H' S := fun b hb => by
  obtain ⟨xs, e⟩ := h b hb
  exact ⟨xs, s _ _ e⟩
theorem Pen.new {H : Hp} {S : Addr → Prop} {q : Addr} (h : Pen H S) (hq : H q = none) : ¬ S q := fun z => by
  obtain ⟨xs, e⟩ := h q z
  rw [hq] at e; cases e
theorem pen_one {H : Hp} {p : Addr} {xs : List V} (h : H p = some (.lst xs)) : Pen H (fun b => b = p) := fun b hb => ⟨xs, hb ▸ h⟩
theorem tups_dls {H : Hp} {S : Addr → Prop} (h : Pen H S) : Tups H (dls H S) := fun a ys e => by
  rw [dls_ne fun z => by
    obtain ⟨xs, e'⟩ := h a z
    rw [e] at e'; cases e']
  exact e
section
variable {K : PySem.W.Frag} {H : Hp} {S : Addr → Prop} {x y : V} {ts us : List T} {Q : VK}
theorem tup_apart {H' : Hp} {a : Addr} {vs : List V} (hp : Pen H' S) (e : H' a = some (.tup vs)) : dls H' S a = some (.tup vs) := tups_dls hp a vs e
theorem is_tupA {a : Addr} {vs : List V} (hp : Pen H S) (e : H a = some (.tup vs)) (r : IsL (dls H S) vs ts) (z : ts.length ≤ 100000) : Is (dls H S) (.ref a) (.tup ts) := .tup (tup_apart hp e) r z
def cutT (ts : List T) (lo hi : Option Int) : List T := (ts.drop (HT.sIx ts.length 0 lo)).take (HT.sIx ts.length ts.length hi - HT.sIx ts.length 0 lo)
theorem cutT_len (ts : List T) (lo hi : Option Int) : (cutT ts lo hi).length ≤ ts.length := by
  unfold cutT
  rw [List.length_take, List.length_drop]
  omega
theorem IsL.cut {D : Hp} {vs : List V} (r : IsL D vs ts) (lo hi : Option Int) : IsL D (cutV vs lo hi) (cutT ts lo hi) := by
  unfold cutV cutT
  rw [r.length]
  exact (r.drop _).take _
theorem rd_len (it : Is (dls H S) x (.tup ts)) (k : Q (.int ts.length) H) : rLen K [x] H Q := by
  obtain ⟨a, vs, rfl, ha, r⟩ := it.tup_inv
  refine ⟨a, vs, rfl, .inr (SqT.of (dls_get ha).2), ?_⟩
  rw [r.length]
  exact k
theorem rd_lenL (it : Is (dls H S) x (.lst ts)) (k : Q (.int ts.length) H) : rLen K [x] H Q := by
  obtain ⟨a, vs, rfl, ha, r⟩ := it.lst_inv
  refine ⟨a, vs, rfl, .inl (SqL.of (dls_get ha).2), ?_⟩
  rw [r.length]
  exact k
theorem rd_slice {lo hi : Option Int} (hp : Pen H S) (it : Is (dls H S) x (.tup ts)) (k : ∀ y H', Same H H' → Is (dls H' S) y (.tup (cutT ts lo hi)) → Q y H') : rSlU K x lo hi H Q := by
  obtain ⟨a, vs, rfl, ha, r⟩ := it.tup_inv
  refine .inr ⟨a, vs, rfl, (dls_get ha).2, fun q H' s' e' _ => k _ H' s' (is_tupA (hp.mono s') e' ((r.cut lo hi).mono (dls_same s')) ?_)⟩
  have := cutT_len ts lo hi
  have := it.tup_len
  omega
theorem rd_sliceL {lo hi : Option Int} (hp : Pen H S) (it : Is (dls H S) x (.lst ts)) (k : ∀ l H', Same H H' → H l = none → Is (dls H' S) (.ref l) (.lst (cutT ts lo hi)) → Q (.ref l) H') : rSlU K x lo hi H Q := by
  obtain ⟨a, vs, rfl, ha, r⟩ := it.lst_inv
  refine .inl ⟨a, vs, rfl, SqL.of (dls_get ha).2, fun q hq => k _ _ (Same.upd hq) hq (.lst ?_ ((r.cut lo hi).mono (dls_same (Same.upd hq))) ?_)⟩
  · rw [dls_ne (hp.new hq), upd_same]
  · have := cutT_len ts lo hi
    have := it.lst_len
    omega
theorem rd_cat (hp : Pen H S) (ix : Is (dls H S) x (.tup ts)) (iy : Is (dls H S) y (.tup us)) (hz : ts.length + us.length ≤ 100000) (k : ∀ z H', Same H H' → Is (dls H' S) z (.tup (ts ++ us)) → Q z H') : rAddU K x y H Q := by
  obtain ⟨a, vs, rfl, ha, r⟩ := ix.tup_inv
  obtain ⟨b, ws, rfl, hb, r2⟩ := iy.tup_inv
  refine .inr (.inr ⟨a, b, vs, ws, rfl, rfl, (dls_get ha).2, (dls_get hb).2, small_line (by rw [r.length, r2.length]; exact hz), fun q H' s' e' _ => k _ H' s' (is_tupA (hp.mono s') e' ((r.append r2).mono (dls_same s')) (by rw [List.length_append]; exact hz))⟩)
theorem rd_catL (hp : Pen H S) (ix : Is (dls H S) x (.lst ts)) (iy : Is (dls H S) y (.lst us)) (hz : ts.length + us.length ≤ 100000) (k : ∀ l H', Same H H' → H l = none → Is (dls H' S) (.ref l) (.lst (ts ++ us)) → Q (.ref l) H') : rAddU K x y H Q := by
  obtain ⟨a, vs, rfl, ha, r⟩ := ix.lst_inv
  obtain ⟨b, ws, rfl, hb, r2⟩ := iy.lst_inv
  refine .inr (.inl ⟨a, b, vs, ws, rfl, rfl, (dls_get ha).2, (dls_get hb).2, small_line (by rw [r.length, r2.length]; exact hz), fun q hq => k _ _ (Same.upd hq) hq (.lst ?_ ((r.append r2).mono (dls_same (Same.upd hq))) (by rw [List.length_append]; exact hz))⟩)
  rw [dls_ne (hp.new hq), upd_same]
theorem rd_tup {vs : List V} (hp : Pen H S) (r : IsL (dls H S) vs ts) (hz : ts.length ≤ 100000) (k : ∀ z H', Same H H' → Is (dls H' S) z (.tup ts) → Q z H') : MkT vs H Q :=
  ⟨small_line (by rw [r.length]; exact hz), fun q hq => k _ _ (Same.upd hq) (is_tupA (hp.mono (Same.upd hq)) upd_same (r.mono (dls_same (Same.upd hq))) hz)⟩
theorem rd_lst {vs : List V} (hp : Pen H S) (r : IsL (dls H S) vs ts) (hz : ts.length ≤ 100000) (k : ∀ l H', Same H H' → H l = none → H' l = some (.lst vs) → Is (dls H' S) (.ref l) (.lst ts) → Q (.ref l) H') : MkL vs H Q :=
  ⟨small_line (by rw [r.length]; exact hz), fun q hq => k _ _ (Same.upd hq) hq upd_same (.lst (by rw [dls_ne (hp.new hq), upd_same]) (r.mono (dls_same (Same.upd hq))) hz)⟩
theorem rd_list (hp : Pen H S) (it : Is (dls H S) x (.tup ts)) (k : ∀ l H', Same H H' → H l = none → Is (dls H' S) (.ref l) (.lst ts) → Q (.ref l) H') : rListOf K [x] H Q := by
  obtain ⟨a, vs, rfl, ha, r⟩ := it.tup_inv
  refine ⟨a, vs, rfl, .inr (SqT.of (dls_get ha).2), fun l hl => k l _ (Same.upd hl) hl (.lst ?_ (r.mono (dls_same (Same.upd hl))) it.tup_len)⟩
  rw [dls_ne (hp.new hl), upd_same]
theorem rd_tuple (hp : Pen H S) (it : Is (dls H S) x (.lst ts)) (k : ∀ z H', Same H H' → Is (dls H' S) z (.tup ts) → Q z H') : rTupOf K [x] H Q := by
  obtain ⟨a, vs, rfl, ha, r⟩ := it.lst_inv
  exact ⟨a, vs, rfl, .inl ⟨SqL.of (dls_get ha).2, fun l hl => k _ _ (Same.upd hl) (is_tupA (hp.mono (Same.upd hl)) upd_same (r.mono (dls_same (Same.upd hl))) it.lst_len)⟩⟩
theorem rd_ix {i : Int} (it : Is (dls H S) x (.tup ts)) (h0 : 0 ≤ i) (h1 : i < ts.length) (k : ∀ y t, ts[i.toNat]? = some t → Is (dls H S) y t → Q y H) : rIx K x (.int i) H Q := by
  obtain ⟨a, vs, rfl, ha, r⟩ := it.tup_inv
  obtain ⟨j, rfl⟩ := Int.eq_ofNat_of_zero_le h0
  have hj : j < vs.length := by rw [r.length]; omega
  obtain ⟨t, ht, iy⟩ := r.get (List.getElem?_eq_getElem hj)
  exact .inr (.inl ⟨a, vs, _, vs[j], rfl, rfl, SqT.of (dls_get ha).2, atI_nat (List.getElem?_eq_getElem hj), k _ t (by simpa using ht) iy⟩)
theorem rd_ixL {i : Int} (it : Is (dls H S) x (.lst ts)) (h0 : 0 ≤ i) (h1 : i < ts.length) (k : ∀ y t, ts[i.toNat]? = some t → Is (dls H S) y t → Q y H) : rIx K x (.int i) H Q := by
  obtain ⟨a, vs, rfl, ha, r⟩ := it.lst_inv
  obtain ⟨j, rfl⟩ := Int.eq_ofNat_of_zero_le h0
  have hj : j < vs.length := by rw [r.length]; omega
  obtain ⟨t, ht, iy⟩ := r.get (List.getElem?_eq_getElem hj)
  exact .inl ⟨a, vs, _, vs[j], rfl, rfl, SqL.of (dls_get ha).2, atI_nat (List.getElem?_eq_getElem hj), k _ t (by simpa using ht) iy⟩
theorem rd_rev (hp : Pen H S) (it : Is (dls H S) x (.tup ts)) (k : ∀ z H', Same H H' → Is (dls H' S) z (.tup ts.reverse) → Q z H') : RevT x H Q := by
  obtain ⟨a, vs, rfl, ha, r⟩ := it.tup_inv
  exact ⟨a, vs, rfl, (dls_get ha).2, fun q H' s' e' => k _ _ s' (is_tupA (hp.mono s') e' (r.reverse.mono (dls_same s')) (by rw [List.length_reverse]; exact it.tup_len))⟩
/-- a written thing, apart -/
theorem rd_lit {t : T} {v : V} {H' : Hp} (hp : Pen H S) (r : Is (frp H H') v t) : Is (dls H' S) v t := by
  refine r.mono fun b o e => ?_
  obtain ⟨a, c⟩ := frp_some e
  rw [dls_ne fun z => by
    obtain ⟨xs, e'⟩ := hp b z
    rw [a] at e'; cases e']
  exact c
theorem rd_cat0 (ix : Is H x (.lst ts)) (iy : Is H y (.lst us)) (hz : ts.length + us.length ≤ 100000) (k : ∀ l vs H', Same H H' → H l = none → H' l = some (.lst vs) → IsL H' vs (ts ++ us) → Is H' (.ref l) (.lst (ts ++ us)) → Q (.ref l) H') : rAddU K x y H Q := by
  obtain ⟨a, vs, rfl, ha, r⟩ := ix.lst_inv
  obtain ⟨b, ws, rfl, hb, r2⟩ := iy.lst_inv
  exact .inr (.inl ⟨a, b, vs, ws, rfl, rfl, ha, hb, small_line (by rw [r.length, r2.length]; exact hz), fun q hq => k _ _ _ (Same.upd hq) hq upd_same ((r.append r2).mono (Same.upd hq)) (.lst upd_same ((r.append r2).mono (Same.upd hq)) (by rw [List.length_append]; exact hz))⟩)
/-! #### .. where only the shape is wanted -/
def Sm (D : Hp) (x : V) : Prop := ∃ t, Is D x t
def Tp (D : Hp) (x : V) (n : Nat) : Prop := ∃ ts : List T, ts.length ≤ n ∧ Is D x (.tup ts)
def Ls (D : Hp) (x : V) (n : Nat) : Prop := ∃ ts : List T, ts.length ≤ n ∧ Is D x (.lst ts)
theorem Sm.mono {D D' : Hp} (h : Sm D x) (s : Same D D') : Sm D' x := by obtain ⟨t, a⟩ := h; exact ⟨t, a.mono s⟩
theorem Tp.mono {D D' : Hp} {n : Nat} (h : Tp D x n) (s : Same D D') : Tp D' x n := by obtain ⟨t, z, a⟩ := h; exact ⟨t, z, a.mono s⟩
theorem Tp.sm {D : Hp} {n : Nat} (h : Tp D x n) : Sm D x := by obtain ⟨t, z, a⟩ := h; exact ⟨_, a⟩
theorem Ls.sm {D : Hp} {n : Nat} (h : Ls D x n) : Sm D x := by obtain ⟨t, z, a⟩ := h; exact ⟨_, a⟩
def Sms (D : Hp) (vs : List V) : Prop := ∀ v ∈ vs, Sm D v
theorem Sms.mono {D D' : Hp} {vs : List V} (h : Sms D vs) (s : Same D D') : Sms D' vs := fun v hv => (h v hv).mono s
theorem Sms.nil {D : Hp} : Sms D [] := fun _ h => nomatch h
theorem Sms.cons {D : Hp} {v : V} {vs : List V} (a : Sm D v) (b : Sms D vs) : Sms D (v :: vs) := fun x hx => by
  rcases List.mem_cons.mp hx with rfl | hx
  · exact a
  · exact b x hx
theorem Sms.append {D : Hp} {vs ws : List V} (a : Sms D vs) (b : Sms D ws) : Sms D (vs ++ ws) := fun x hx => by
  rcases List.mem_append.mp hx with hx | hx
  · exact a x hx
  · exact b x hx
theorem Sms.isL {D : Hp} : ∀ {vs : List V}, Sms D vs → ∃ ts, IsL D vs ts
  | [], _ => ⟨[], .nil⟩
  | v :: vs, h => by
    obtain ⟨t, a⟩ := h v List.mem_cons_self
    obtain ⟨ts, b⟩ := Sms.isL (vs := vs) fun x hx => h x (List.mem_cons_of_mem _ hx)
    exact ⟨t :: ts, .cons a b⟩
theorem tp_slice {n : Nat} {lo hi : Option Int} (hp : Pen H S) (it : Tp (dls H S) x n) (k : ∀ y H', Same H H' → Tp (dls H' S) y n → Q y H') : rSlU K x lo hi H Q := by
  obtain ⟨ts, z, a⟩ := it
  refine rd_slice hp a fun y H' s' i' => k y H' s' ⟨_, ?_, i'⟩
  have := cutT_len ts lo hi
  omega
theorem tp_cat {n m : Nat} (hp : Pen H S) (ix : Tp (dls H S) x n) (iy : Tp (dls H S) y m) (hz : n + m ≤ 1000) (k : ∀ z H', Same H H' → Tp (dls H' S) z (n + m) → Q z H') : rAddU K x y H Q := by
  obtain ⟨ts, z, a⟩ := ix
  obtain ⟨us, z', b⟩ := iy
  exact rd_cat hp a b (by omega) fun y H' s' i' => k y H' s' ⟨_, by rw [List.length_append]; omega, i'⟩
theorem tp_list {n : Nat} (hp : Pen H S) (it : Tp (dls H S) x n) (k : ∀ y H', Same H H' → Ls (dls H' S) y n → Q y H') : rListOf K [x] H Q := by
  obtain ⟨ts, z, a⟩ := it
  exact rd_list hp a fun l H' s' _ i' => k _ H' s' ⟨_, z, i'⟩
theorem tp_rev {n : Nat} (hp : Pen H S) (it : Tp (dls H S) x n) (k : ∀ z H', Same H H' → Tp (dls H' S) z n → Q z H') : RevT x H Q := by
  obtain ⟨ts, z, a⟩ := it
  exact rd_rev hp a fun y H' s' i' => k _ H' s' ⟨_, by rw [List.length_reverse]; exact z, i'⟩
theorem sm_tup {vs : List V} (hp : Pen H S) (r : Sms (dls H S) vs) (hz : vs.length ≤ 1000) (k : ∀ z H', Same H H' → Tp (dls H' S) z vs.length → Q z H') : MkT vs H Q := by
  obtain ⟨ts, a⟩ := r.isL
  have := a.length
  exact rd_tup hp a (by omega) fun z H' s' i' => k z H' s' ⟨ts, by omega, i'⟩
/-- a list, each of whose items is some thing -/
theorem sm_lst {vs : List V} (hp : Pen H S) (r : Sms (dls H S) vs) (hz : vs.length ≤ 1000) (k : ∀ z H', Same H H' → Ls (dls H' S) z vs.length → (∃ ts, ts.length = vs.length ∧ Is (dls H' S) z (.lst ts)) → Q z H') : MkL vs H Q := by
  obtain ⟨ts, a⟩ := r.isL
  have := a.length
  exact rd_lst hp a (by omega) fun z H' s' _ _ i' => k _ H' s' ⟨ts, by omega, i'⟩ ⟨ts, by omega, i'⟩
end
end L2

set_option Elab.async false
set_option linter.all false
set_option maxRecDepth 100000
/-! Exceptions: what a raised one leaves, frame by frame. -/
namespace L2
open PySem PySem.Spec PyProof.Rows
/-- all is kept but what is neither of g nor tracked; of the frames at fs the slots may change -/
structure Raw (fs : List Addr) (g : Heap) (H : Hp) (h h' : Heap) : Prop where
  keep : ∀ b o, h.get? b = some o → ((∃ u, g.get? b = some u) ∨ H b ≠ none) → b ∉ fs → h'.get? b = some o
  slot : ∀ b o, h.get? b = some o → ((∃ u, g.get? b = some u) ∨ H b ≠ none) → ∃ sl, h'.get? b = some { o with slots := sl }
  size : h.objs.size ≤ h'.objs.size
theorem Raw.refl (fs : List Addr) (g : Heap) (H : Hp) (h : Heap) : Raw fs g H h h := ⟨fun _ _ e _ _ => e, fun _ o e _ => ⟨o.slots, e⟩, Nat.le_refl _⟩
theorem Raw.trans {fs : List Addr} {g : Heap} {H : Hp} {h h1 h2 : Heap} (a : Raw fs g H h h1) (b : Raw fs g H h1 h2) : Raw fs g H h h2 where
  keep := fun c o e p q => b.keep c o (a.keep c o e p q) p q
  slot := fun c o e p => by
    obtain ⟨sl, e1⟩ := a.slot c o e p
    obtain ⟨sl', e2⟩ := b.slot c _ e1 p
    exact ⟨sl', e2⟩
  size := Nat.le_trans a.size b.size
/-- an exception at e, none of g's objects; its traceback's head, if it has one -/
def XObj (H : Hp) (h : Heap) (g : Heap) (e : Addr) (cls : Value) (dx : Option Addr) : Prop :=
  g.get? e = none ∧ H e = none ∧ ∃ oe vs, h.get? e = some oe ∧ oe.cls = cls ∧ oe.dict = dx ∧ oe.data = .fields vs ∧ 1 < vs.size ∧
    (vs[1]? = some .none ∨ ∃ T oT ts, vs[1]? = some (.ref T) ∧ T ≠ e ∧ g.get? T = none ∧ H T = none ∧ h.get? T = some oT ∧ oT.data = .fields ts ∧ 3 < ts.size)
section
variable {M : Model} {A : Around} {E : Value → Shared → Prop} {s : Shared} {H : Hp} {g : Heap} {e L : Addr} {cls : Value} {dx : Option Addr} {env : Env} {outer : List Env} {base : Heap} {Q : Unit → Shared → Prop}
theorem upd_raw {fs : List Addr} {h : Heap} {a : Addr} {f : Obj → Obj} (ha : g.get? a = none) (hH : H a = none) : Raw fs g H h (h.update a f) := by
  have ne : ∀ b, ((∃ u, g.get? b = some u) ∨ H b ≠ none) → a ≠ b := fun b p z => by
    subst z
    rcases p with p | p
    · obtain ⟨u, q⟩ := p
      rw [ha] at q; cases q
    · exact p hH
  refine ⟨fun b o e p _ => ?_, fun b o e p => ⟨o.slots, ?_⟩, ?_⟩
  · rw [Heap.get?_update_other _ _ (ne b p)]; exact e
  · rw [Heap.get?_update_other _ _ (ne b p)]; exact e
  · exact Nat.le_of_eq (by rw [Heap.size_update])
theorem push_raw {fs : List Addr} {h : Heap} {o : Obj} : Raw fs g H h (h.push o) :=
  ⟨fun _ _ e _ _ => Heap.get?_push_of_some _ e, fun _ u e _ => ⟨u.slots, Heap.get?_push_of_some _ e⟩, by rw [Heap.size_push]; omega⟩
theorem slots_raw {fs : List Addr} {h h' : Heap} (x : Heap.SlotsOnly fs h h') : Raw fs g H h h' :=
  ⟨fun b o e _ q => (x.2.1 b q).trans e, fun b o e _ => x.2.2 b o e, Nat.le_of_eq x.1.symm⟩
/-- the entry of this frame is made -/
theorem entry_raw {hd0 : Value} {nx : Bool} (hfr : A.frames = some (env :: outer)) (hl : s.heap.FunFrames base (env :: outer)) (hf : env.frame = some L) (fresh : ∀ b, s.heap.objs.size ≤ b → H b = none) (hn : ∀ b o, g.get? b = some o → b < s.heap.objs.size)
    (X : XObj H s.heap g e cls dx) (h : ∀ h', XObj H h' g e cls dx → Raw (frs (env :: outer)) g H s.heap h' → Q () { s with heap := h' }) :
    wpAny M A (do let a ← frameOf env; let pl ← entryPlaceOf L nx; let b ← EntryCells.newEntry hd0 a .none (rawInt L) .none pl; setField (.ref e) 1 b) Q E s := by
  obtain ⟨hne, hHe, oe, vs, he, hc, hdx, hd, hsz, _⟩ := X
  have nofr : e ∉ frs (env :: outer) := fun hm => by
    obtain ⟨_, o, ho, hnf⟩ := hl.mem hm
    rw [he] at ho; cases ho; exact hnf vs hd
  refine wpAny_bind (wpAny_frameOf_fun hfr hl hf fun h1 hs1 => wpAny_bind (wpAny_entryPlaceOf fun pl hpl => ?_))
  unfold EntryCells.newEntry newFields
  refine wpAny_bind (wpAny_newObj_type ?_ (hpl.sizeOk5 _ _ _ _ _))
  have he1 : h1.get? e = some oe := (hs1.2.1 e nofr).trans he
  have sz1 : h1.objs.size = s.heap.objs.size := hs1.1
  generalize hob : ({ cls := .type "traceback", dict := none, data := .fields ([hd0, .ref L, .none, rawInt L, .none] ++ (if pl.isEmpty then List.replicate 6 Value.none else pl)).toArray } : Obj) = ob
  have he2 : (h1.push ob).get? e = some oe := Heap.get?_push_of_some _ he1
  have hTe : h1.objs.size ≠ e := Nat.ne_of_gt (Heap.lt_size he1)
  have dd := Obj.data_mapFields hd (·.setIfInBounds 1 (Value.ref h1.objs.size))
  refine wpAny_setField he2 hd hsz (h _ ?_ (((slots_raw hs1).trans push_raw).trans (upd_raw hne hHe)))
  refine ⟨hne, hHe, _, _, Heap.get?_update_self _ he2 (Obj.isFreed_of_fields dd), (Obj.cls_mapFields _ _).trans hc, ?_, dd, by simpa using hsz, .inr ⟨h1.objs.size, ob, _, by simp [hsz], hTe, ?_, fresh _ (by omega), ?_, by rw [← hob], ?_⟩⟩
  · rw [← hdx]
    cases oe
    subst hd
    rfl
  · cases z : g.get? h1.objs.size with
    | none => rfl
    | some o => exact absurd (hn _ _ z) (by rw [sz1]; exact Nat.lt_irrefl _)
  · rw [Heap.get?_update_other _ _ (Ne.symm hTe)]
    exact Heap.get?_push_size h1 (by rw [← hob]; rfl)
  · simp only [List.size_toArray, List.length_append, List.length_cons, List.length_nil]
    omega
/-- the frame is noted -/
theorem note_raw (hfr : A.frames = some (env :: outer)) (hl : s.heap.FunFrames base (env :: outer)) (hf : env.frame = some L) (fresh : ∀ b, s.heap.objs.size ≤ b → H b = none) (hn : ∀ b o, g.get? b = some o → b < s.heap.objs.size)
    (X : XObj H s.heap g e cls dx) (h : ∀ h', XObj H h' g e cls dx → Raw (frs (env :: outer)) g H s.heap h' → Q () { s with heap := h' }) :
    wpAny M A (noteFrame (.ref e) env) Q E s := by
  obtain ⟨hne, hHe, oe, vs, he, hc, hdx, hd, hsz, h1⟩ := id X
  unfold noteFrame
  simp only [hf]
  rcases h1 with h1 | ⟨T, oT, ts, h1, hTe, hnT, hHT, hT, hdT, h3⟩
  · refine wpAny_bind (wpAny_field he hd h1 ?_)
    rw [if_neg (by decide)]
    exact entry_raw hfr hl hf fresh hn X h
  · refine wpAny_bind (wpAny_field he hd h1 ?_)
    rw [if_pos (by simp)]
    refine wpAny_bind (wpAny_field hT hdT (Array.getElem?_eq_getElem h3) ?_)
    by_cases hz : (ts[3] == rawInt L) = true
    · rw [if_pos hz]
      exact wpAny_pure (h _ X (Raw.refl _ _ _ _))
    · rw [if_neg hz]
      refine wpAny_bind (wpAny_setField hT hdT h3 ?_)
      have rw1 : Raw (frs (env :: outer)) g H s.heap (s.heap.update T (Obj.mapFields (·.setIfInBounds 3 Value.none))) := upd_raw hnT hHT
      have oth : ∀ b, b ≠ T → (s.heap.update T (Obj.mapFields (·.setIfInBounds 3 Value.none))).get? b = s.heap.get? b := fun b hb => Heap.get?_update_other _ _ (Ne.symm hb)
      have dT := Obj.data_mapFields hdT (·.setIfInBounds 3 Value.none)
      refine entry_raw (s := { s with heap := s.heap.update T (Obj.mapFields (·.setIfInBounds 3 Value.none)) }) hfr (hl.of_keeps fun b o hb hnf => ⟨o, (oth b ?_).trans hb, rfl⟩) hf (fun b hb => fresh b (Nat.le_trans rw1.size hb)) (fun b o q => Nat.lt_of_lt_of_le (hn b o q) rw1.size)
        ⟨hne, hHe, oe, vs, (oth e (Ne.symm hTe)).trans he, hc, hdx, hd, hsz, .inr ⟨T, _, _, h1, hTe, hnT, hHT, Heap.get?_update_self _ hT (Obj.isFreed_of_fields dT), dT, by simpa using h3⟩⟩ fun h' x r => h h' x (rw1.trans r)
      intro z
      rw [z, hT] at hb
      cases hb
      exact hnf ts hdT
/-- it is no more in flight -/
theorem flight_raw {fs : List Addr} (X : XObj H s.heap g e cls dx) (h : ∀ h', XObj H h' g e cls dx → Raw fs g H s.heap h' → Q () { s with heap := h' }) : wpAny M A (setFlight (.ref e) none) Q E s := by
  obtain ⟨hne, hHe, oe, vs, he, hc, hdx, hd, hsz, h1⟩ := id X
  unfold setFlight
  rcases h1 with h1 | ⟨T, oT, ts, h1, hTe, hnT, hHT, hT, hdT, h3⟩
  · refine wpAny_bind (wpAny_field he hd h1 ?_)
    rw [if_neg (by decide)]
    exact wpAny_pure (h _ X (Raw.refl _ _ _ _))
  · refine wpAny_bind (wpAny_field he hd h1 ?_)
    rw [if_pos (by simp)]
    have dT := Obj.data_mapFields hdT (·.setIfInBounds 3 Value.none)
    refine wpAny_setField hT hdT h3 (h _ ⟨hne, hHe, oe, vs, ?_, hc, hdx, hd, hsz, .inr ⟨T, _, _, h1, hTe, hnT, hHT, Heap.get?_update_self _ hT (Obj.isFreed_of_fields dT), dT, by simpa using h3⟩⟩ (upd_raw hnT hHT))
    rw [Heap.get?_update_other _ _ hTe]
    exact he
theorem leave_raw (hfr : A.frames = some (env :: outer)) (hl : s.heap.FunFrames base (env :: outer)) (hf : env.frame = some L) (fresh : ∀ b, s.heap.objs.size ≤ b → H b = none) (hn : ∀ b o, g.get? b = some o → b < s.heap.objs.size)
    (X : XObj H s.heap g e cls dx) (h : ∀ h', XObj H h' g e cls dx → Raw (frs (env :: outer)) g H s.heap h' → Q () { s with heap := h' }) :
    wpAny M A (leaving env (.ref e)) Q E s := by
  unfold leaving
  exact wpAny_bind (note_raw hfr hl hf fresh hn X fun h1 x1 r1 => flight_raw x1 fun h2 x2 r2 => h h2 x2 (r1.trans r2))
end
end L2

set_option Elab.async false
set_option linter.all false
set_option maxRecDepth 100000
/-! Exceptions: how one lies behind a call; defs that raise; raise. -/
namespace L2
open PySem PySem.Spec PyProof.Rows
def CXE (P : Program) (w : World) : CXT := fun outer H s E e s' => ∃ a cls dx H', e = .ref a ∧ s'.os = s.os ∧ AllBare s'.gens ∧ Un (frs outer) [] H H' s.heap s'.heap ∧ HOk P w H' s'.heap ∧ XObj H' s'.heap s.heap a cls dx ∧ E cls dx H'
/-- the wish about an exception, with the names' values ahead of it -/
abbrev XR := Value → Option Addr → St → Hp → Prop
def PassX (X : Cx) (R : XR) : Prop := ∀ (pins : List (Addr × Obj)) (σ : St) (H : Hp) (s : Shared) (e : Value) (s' : Shared), Inv X pins σ H s → CXE X.prog X.w X.stack H s (fun cls dx H' => R cls dx σ H') e s' → X.xe e s'
section
variable {P : Program} {w : World} {H H0 : Hp} {h h' h0 g : Heap} {fs fs' : List Addr}
theorem Raw.hok (r : Raw fs g H h h') (ok : HOk P w H h) (hf : ∀ b ∈ fs, H b = none) : HOk P w H h' := fun a o e => by
  have ht : ∀ b u, H b = some u → ((∃ u, g.get? b = some u) ∨ H b ≠ none) ∧ b ∉ fs := fun b u q => ⟨.inr (by rw [q]; simp), fun z => by rw [hf b z] at q; cases q⟩
  refine (ok a o e).stay (fun b u hb q => ?_) (fun _ q => q) fun _ _ q => q
  rcases hb with rfl | hb
  · exact r.keep _ u q (ht _ _ e).1 (ht _ _ e).2
  · exact r.keep _ u q (ht _ _ hb).1 (ht _ _ hb).2
theorem Raw.un (r : Raw fs' g H h h') (u : Un fs [] H0 H h0 h) (hg : ∀ b o, h0.get? b = some o → ∃ v, g.get? b = some v) (hs : ∀ b ∈ fs', b ∈ fs ∨ h0.objs.size ≤ b) : Un fs [] H0 H h0 h' where
  keep := fun b o e n hb hx => r.keep b o (u.keep b o e n hb hx) (.inl (hg b o e)) fun z => by
    rcases hs b z with z | z
    · exact hb z
    · exact absurd (Nat.lt_of_lt_of_le (Heap.lt_size e) z) (Nat.lt_irrefl _)
  slot := fun b o e n hb hx => by
    obtain ⟨sl, q⟩ := u.slot b o e n hb hx
    obtain ⟨sl', q'⟩ := r.slot b _ q (.inl (hg b o e))
    exact ⟨sl', q'⟩
  free := u.free
  there := fun b o e hx => by
    obtain ⟨o', q⟩ := u.there b o e hx
    obtain ⟨sl', q'⟩ := r.slot b _ q (.inl (hg b o e))
    exact ⟨_, q'⟩
  tups := u.tups
  frzs := u.frzs
  tbls := u.tbls
theorem XObj.mono {e : Addr} {cls : Value} {dx : Option Addr} {g' : Heap} (x : XObj H h g e cls dx) (hg : ∀ b o, g'.get? b = some o → ∃ v, g.get? b = some v) : XObj H h g' e cls dx := by
  have nn : ∀ b, g.get? b = none → g'.get? b = none := fun b q => by
    cases z : g'.get? b with
    | none => rfl
    | some o =>
      obtain ⟨v, q'⟩ := hg b o z
      rw [q] at q'; cases q'
  obtain ⟨h1, h2, oe, vs, a1, a2, a3, a4, a5, a6⟩ := x
  refine ⟨nn _ h1, h2, oe, vs, a1, a2, a3, a4, a5, a6.imp (fun z => z) fun ⟨T, oT, ts, b1, b2, b3, b4⟩ => ⟨T, oT, ts, b1, b2, nn _ b3, b4⟩⟩
end
section
variable {X : Cx} {pins : List (Addr × Obj)} {σ : St} {H H' : Hp} {s s' : Shared} {e : Addr} {cls : Value} {dx : Option Addr}
/-- behind a callee's exception the frame is as behind a call -/
theorem Inv.thrown (I : Inv X pins σ H s) (os : s'.os = s.os) (bare : AllBare s'.gens) (un : Un (frs X.stack) [] H H' s.heap s'.heap) (hok : HOk X.prog X.w H' s'.heap) : Inv X pins σ H' s' :=
  I.call' (ch := []) os un hok bare fun b z => absurd z (by simp)
end
/-- an exception leaves a def's frame -/
theorem passE {P : Program} {w : World} {K : PySem.W.Frag} {mg : Str → Option Value} {base : Heap} {N : List Str} {qual : Str} {scope : Scope} {f : Addr} {cd : Value} {A : Around} {outer : List Env} {s0 : Shared} {H0 : Hp} {E : XK} :
    PassX (cxOf (CXE P w) P w K mg base N qual scope f cd A outer s0 H0 E) (fun cls dx _ H => E cls dx H) := by
  intro pins σ H s e s' I h
  obtain ⟨a, cls, dx, H', rfl, os, bare, un, hok, xo, hE⟩ := h
  have J := I.thrown os bare un hok
  show wpAny _ _ (leaving _ _) _ _ _
  refine leave_raw (base := base) (outer := outer) J.ok.frames J.stack rfl (fun b hb => J.hok.fresh hb) (fun b o q => ?_) xo fun h' x' r' => ?_
  · obtain ⟨o', q'⟩ := un.there b o q (by simp)
    exact Heap.lt_size q'
  · have hg : ∀ b o, s0.heap.get? b = some o → ∃ v, s.heap.get? b = some v := fun b o q => I.base.there b o q (by intro z; exact absurd (show b ∈ ([] : List Addr) from z) (by simp))
    refine ⟨a, cls, dx, H', rfl, J.os, J.bare, r'.un J.base hg (fun b hb => ?_), r'.hok hok J.stkFree, x'.mono hg, hE⟩
    rcases List.mem_cons.mp (J.stkSub b hb) with z | z
    · rw [z]; exact .inr J.ok.above
    · exact .inl z
/-! ### defs that raise -/
def HasE (P : Program) (w : World) (K : PySem.W.Frag) (mg : Str → Option Value) (base : Heap) (x : Str) (ps : List Str) (k : Nat) (sp : Sp) : Prop :=
  ∃ f fd, PySem.W.keepIn K (.ref f) = true ∧ mg x = some (.ref f) ∧ Binds K fd ps [] ∧ FnOk P w K mg base (CXE P w) k f fd ps sp
section
variable {P : Program} {w : World} {K : PySem.W.Frag} {mg : Str → Option Value} {base : Heap}
theorem hasE_q {x : Str} {st : Stmt} {N ps : List Str} {k : Nat} {sp : Sp} (d : Dfn K mg x st) (S : FnScope N ps (defScope st)) (bd : BindOk x st ps) (len : ∀ vs H Q E, sp vs H Q E → vs.length = ps.length)
    (hbody : ∀ (X : Cx) (f : Addr) (cdv : Value) (A : Around) (outer : List Env) (s : Shared) (H : Hp) (vs : List V) (Q : VK) (E : XK), X = cxOf (CXE P w) P w K mg base N x (defScope st) f cdv A outer s H E → PassX (cxOf (CXE P w) P w K mg base N x (defScope st) f cdv A outer s H E) (fun cls dx _ H => E cls dx H) →
      Room k (A.deeper (envOfC x (defScope st) s.heap.objs.size f cdv)) → sp vs H Q E →
      ∃ t, QB (cxOf (CXE P w) P w K mg base N x (defScope st) f cdv A outer s H E) (defBody st) t ∧ t { nx := fun _ H' => Q .non H', rt := Q } (start N vs) H) : HasE P w K mg base x ps (k + 1) sp := by
  obtain ⟨f, fd, F, m⟩ := d.ex
  refine ⟨f, fd, F.kp, m, F.binds bd, ?_⟩
  obtain ⟨oc, od, kV, doc, pm, an, cdv, ct, osl, rfl, lk, hcd⟩ := F.ex
  refine fn_of lk hcd S len fun A outer s H vs Q E hr hsp => ?_
  obtain ⟨t, h, q⟩ := hbody _ f cdv A outer s H vs Q E rfl passE hr hsp
  exact ⟨t, h.h, q⟩
end
abbrev tCallX (sp : Sp) (R : XR) (t : TA) : TE := fun σ H Q => t σ H fun vs H1 => sp vs H1 Q (fun cls dx H2 => R cls dx σ H2)
section
variable {X : Cx} {x : Str} {ps : List Str} {k : Nat} {sp : Sp} {e : Expr} {es : List Expr} {t : TA} {p pos cpos np : Pos} {R : XR}
theorem q_fnE (h : HasE X.prog X.w X.K X.mg X.base x ps k sp) (pz : PassX X R) (hr : Room k X.A) (ha : QA X (e :: es) t) (hg : Gl X x := by rfl)
    (hdb : (x == ("__debug__" : Str)) = false := by decide) (he : starEach (e :: es) X.env = (false, eval e X.env) :: starEach es X.env := by rfl) (hpl : (backTo pos (starEach es X.env)).any (·.1) = false := by rfl) :
    QE X (.Call (.Name x p) (e :: es) [] pos) (tCallX sp R t) := by
  obtain ⟨f, fd, kp, m, b, F⟩ := h
  refine ⟨fun pins s σ H Q I hq => ?_⟩
  refine wpAny_Call_Name_kw (ld_glob I hg m ?_ hdb)
  refine PySem.W.callWith_K (h₀ := X.base) I.ok.mod.kin kp (thn (ha.h pos pins s σ H _ I hq) fun us s1 ⟨vs, H1, I1, r, q⟩ => ⟨I1.kIn, ?_⟩) he hpl
  have hl : (us ++ []).length = ps.length := by rw [List.append_nil, ← r.length]; exact F.len _ _ _ _ q
  have r2 : Vals vs (us ++ []) := by rw [List.append_nil]; exact r
  refine wpAny_call (codeAny_mono (F.run X.A X.stack s1 H1 ⟨us, []⟩ (us ++ []) vs Q _ hr I1.env0 (b s1 us I1.kIn hl) r2 q) fun rr s' hq' => ?_)
  cases rr with
  | error ev => exact pz pins σ H1 s1 ev s' I1 hq'
  | ok fl =>
    cases fl with
    | ret u => exact I1.after hq'
    | next => exact False.elim hq'
    | brk => exact False.elim hq'
    | cont => exact False.elim hq'
theorem q_sx {st : Stmt} {t : TS} (h : QS X.nox st t) : QS X st t := ⟨fun pins s σ H D I hw => wpAny_mono (h.h pins s σ H D (I.wish _) hw) (fun _ _ q => q.unwish) fun _ _ z => False.elim z⟩
end
/-! ### classes of exceptions, raise -/
theorem exc_of {K : PySem.W.Frag} {h : Heap} {C : Addr} {bmB : List Value} {newId : String} (X : K.In h) (q : PySem.W.excIn K C bmB newId = true) :
    ∃ bm N nm qn bs hdct sn sub ab col dd k0 k1 k2 k3 k5 mN, h.get? C = some (excClassObj nm qn C N bs bm hdct sn sub ab col dd k0 k1 k2 k3 k5 newId) ∧ h.Ns N mN ∧ mN "__init__" = none ∧ OwnTail h bmB bm := by
  unfold PySem.W.excIn at q
  split at q
  · rename_i d0 c0 sl0 look
    split at q
    · rename_i C' bm a0 a1 a2 a3 nid a5 eqm eqs
      simp only [Bool.and_eq_true, beq_iff_eq, Bool.not_eq_true'] at q
      obtain ⟨⟨⟨⟨⟨rfl, rfl⟩, q1⟩, q2⟩, q3⟩, q4⟩ := q
      obtain ⟨nm, bs, mro, ns, qn, hd, sn, sub, ab, col, del⟩ := c0
      dsimp only at eqm q1 q3 q4
      subst eqm q1
      obtain ⟨sll⟩ := sl0
      simp only at eqs
      subst eqs
      exact ⟨bm, ns, nm, qn, bs, hd, sn, sub, ab, col, d0, a0, a1, a2, a3, a5, _, X _ _ look, .of_isNs (PySem.W.isNs_of_in X q3), PySem.W.nsMap_none_of_in X q3 q4, PySem.W.tail_of_in X q2⟩
    · cases q
  · cases q
section
variable {X : Cx} {x : Str} {e : Expr} {es : List Expr} {t : TA} {pos cpos np : Pos} {R : XR} {C : Addr} {B newId initId : String} {bmB : List Value}
theorem q_raise (pz : PassX X R) (hc : X.calm = true) (F : ExcBaseFacts B newId initId bmB) (hC : PySem.W.excIn X.K C bmB newId = true) (hm : X.mg x = some (.ref C)) (ha : QA X (e :: es) t) (hg : Gl X x := by rfl)
    (hdb : (x == ("__debug__" : Str)) = false := by decide) (he : starEach (e :: es) X.env = (false, eval e X.env) :: starEach es X.env := by rfl) (hpl : (backTo cpos (starEach es X.env)).any (·.1) = false := by rfl) :
    QS X (.Raise (some (.Call (.Name x np) (e :: es) [] cpos)) none pos) (fun _ σ H => t σ H fun vs H1 => vs.length ≤ sizeLine ∧ R (.ref C) none σ H1) := by
  refine ⟨fun pins s σ H D I hw => ?_⟩
  obtain ⟨bm, N, nm, qn, bs, hdct, sn, sub, ab, col, dd, k0, k1, k2, k3, k5, mN, oC, oN, ni, TL⟩ := exc_of I.ok.mod.kin hC
  refine wpAny_Raise_call_subT (C := C) (nm := nm) (q := qn) (N := N) (bs := bs) (bm := bm) (hdct := hdct) (sn := sn) (sub := sub) (ab := ab) (col := col) (dd := dd) (k0 := k0) (k1 := k1) (k2 := k2) (k3 := k3) (k5 := k5) F (mN := mN) (TL.hasType F.hasBase) (I.ok.hd hc) ?_ ni (ld_glob I hg hm ⟨rfl, ?_⟩ hdb)
  · rw [he]
    show (false || (backTo cpos (starEach es X.env)).any (·.1)) = false
    rw [hpl]; rfl
  · have h2 := ha.h cpos pins s σ H _ I hw
    rw [he] at h2 ⊢
    refine Calls.evalArgs_plain (wpAny_mono h2 (fun us s2 ⟨vs, H1, I1, r, z, q⟩ => ⟨rfl, by rw [← r.length]; exact z, I1.bk _ _ oC, oN.keeps I1.bk, TL.keeps I1.bk, fun h' ea hm2 => ?_⟩) fun _ _ y => y)
    have hHe : H1 ea = none := by
      cases z2 : H1 ea with
      | none => rfl
      | some o =>
        have := I1.hok.lt z2
        have hk : ∃ o', s2.heap.get? ea = some o' := by
          have ok := I1.hok ea o z2
          cases o with
          | lst xs => obtain ⟨_, _, _, _, e1⟩ := ok; exact ⟨_, e1⟩
          | tup xs => obtain ⟨_, _, _, o, e1, _⟩ := ok; exact ⟨_, e1⟩
          | dK kvs => obtain ⟨_, _, _, _, o, _, _, e1, _⟩ := ok; exact ⟨_, e1⟩
          | dT kvs => obtain ⟨_, _, _, _, o, _, _, e1, _⟩ := ok; exact ⟨_, e1⟩
          | set S n => obtain ⟨o, _, _, _, e1, _⟩ := ok; exact ⟨_, e1⟩
          | ins C dx fs => obtain ⟨_, _, _, e1, _⟩ := ok; exact ⟨_, e1⟩
          | own y => exact ok
          | xd fs => obtain ⟨_, ⟨_, _, _, e1, _⟩, _⟩ := ok; exact ⟨_, e1⟩
          | rng lo hi => obtain ⟨_, _, _, e1⟩ := ok; exact ⟨_, e1⟩
          | frz ob u => exact ⟨_, ok.1⟩
          | tbl ps => exact ⟨_, ok⟩
          | met f y => exact ⟨_, ok⟩
          | ext φ => exact ok.2.1
        obtain ⟨o', e1⟩ := hk
        rw [hm2.new] at e1; cases e1
    obtain ⟨tt, ht, _, _⟩ := hm2.there
    exact pz pins σ H1 s2 (.ref ea) { s2 with heap := h' } I1 ⟨ea, .ref C, none, H1, rfl, rfl, I1.bare, Un.kept hm2.keeps, I1.hok.kept hm2.keeps, ⟨hm2.new, hHe, _, _, ht, rfl, rfl, rfl, by simp, .inl rfl⟩, q⟩
end
end L2

set_option Elab.async false
set_option linter.all false
set_option maxRecDepth 100000
namespace L2
open PySem PySem.Spec PyProof.Rows
structure RoomH (k : Nat) (A : Around) : Prop where
  dp : A.depth + 3 * k + 5 < recursionLimit
  un : A.units + 16 * k + 200 < cLine
theorem RoomH.deeper {k : Nat} {A : Around} (r : RoomH (k + 1) A) (env : Env) : RoomH k (A.deeper env) :=
  ⟨by have := r.dp; show A.depth + 1 + 3 * k + 5 < _; omega, by have := r.un; show A.units + 3 + 16 * k + 200 < _; omega⟩
theorem RoomH.depth {k : Nat} {A : Around} (r : RoomH k A) : A.depth < recursionLimit := by have := r.dp; omega
theorem Room.mark {k : Nat} {A : Around} (r : Room k A) (h : Option Value) : RoomH k (A.mark h) := ⟨r.dp, r.un⟩
structure FnOkH (P : Program) (w : World) (K : PySem.W.Frag) (mg : Str → Option Value) (base : Heap) (CX : CXT) (k : Nat) (f : Addr) (fd : FuncData) (ps : List Str) (sp : Sp) : Prop where
  len : ∀ vs H Q E, sp vs H Q E → vs.length = ps.length
  run : ∀ (A : Around) (outer : List Env) (s : Shared) (H : Hp) (args : Args) (us : List Value) (vs : List V) (Q : VK) (E : XK), RoomH k A → Env0 P w K mg base A outer s H → BindsTo s fd args (ps.zip us) → Vals vs us → sp vs H Q E →
    codeAny (model P w) A (.call (.ref f) args) (CR CX outer P w H s Q E) s
def cxOfH (CX : CXT) (P : Program) (w : World) (K : PySem.W.Frag) (mg : Str → Option Value) (base : Heap) (N : List Str) (qual : Str) (scope : Scope) (f : Addr) (cd : Value) (A : Around) (outer : List Env) (s : Shared) (H : Hp) (E : XK) : Cx where
  prog := P
  w := w
  K := K
  mg := mg
  base := base
  A := A.deeper (envOfC qual scope s.heap.objs.size f cd)
  N := N
  s₀ := s
  H₀ := H
  env := envOfC qual scope s.heap.objs.size f cd
  outer := outer
  stack := envOfC qual scope s.heap.objs.size f cd :: outer
  ex := []
  calm := false
  fn := fun _ => true
  pn := []
  xe := fun e s' => wpAny (model P w) (A.deeper (envOfC qual scope s.heap.objs.size f cd)) (leaving (envOfC qual scope s.heap.objs.size f cd) e) (fun _ s'' => CX outer H s E e s'') (fun e' s'' => CX outer H s E e' s'') s'

theorem inv_startH {CX : CXT} {P : Program} {w : World} {K : PySem.W.Frag} {mg : Str → Option Value} {base : Heap} {N ps : List Str} {qual : Str} {scope : Scope} {f : Addr} {cd : Value} {A : Around} {outer : List Env} {s s1 : Shared} {H : Hp} {E : XK} {us : List Value} {vs : List V}
    (S : FnScope N ps scope) (e0 : Env0 P w K mg base A outer s H) (hl : vs.length = ps.length) (r : Vals vs us)
    (x : InCallC s s.heap.objs.size (bindL (envOfC qual scope s.heap.objs.size f cd).kindOf (ps.zip us) fun _ => none) (cellsFrom (s.heap.objs.size + 1) scope.names []) (bindC (envOfC qual scope s.heap.objs.size f cd).kindOf (ps.zip us) fun _ => none) s1) :
    Inv (cxOfH CX P w K mg base N qual scope f cd A outer s H E) [] (start N vs) H s1 := by
  have hpl : ps.length ≤ N.length := by have := congrArg List.length S.pre; rw [List.length_take] at this; omega
  obtain ⟨h1, tk, rfl, hk⟩ := x.done
  have noA : ∀ b : Addr, b ∉ (cxOfH CX P w K mg base N qual scope f cd A outer s H E).ex := fun b z => absurd (show b ∈ ([] : List Addr) from z) (by simp)
  refine ⟨⟨e0.mod, S.kind, rfl, rfl, Nat.le_refl _, fun y z c h1 h2 => ?_, fun y hy => ?_, fun y c _ h => ?_, fun z => (Bool.false_ne_true z).elim, Around.frames_deeper e0.frames, .inr ⟨rfl, rfl⟩, fun b z => absurd z (noA b), e0.bs, e0.bsz, fun b _ _ => noA b, fun b z => absurd z (noA b), e0.funs, e0.frf⟩,
    rfl, e0.bare, Un.kept hk, ⟨_, x.toInCall.ns, fun i y v h1 h2 h3 => ?_⟩, fun y c h => ⟨_, x.cell y c h⟩, e0.hok.fresh (Nat.le_refl _), fun y c h => ?_, fun p hp => absurd (show p ∈ ([] : List (Addr × Obj)) from hp) (by simp), e0.hok.kept hk, ?_⟩
  · exact name_of_addr x.apart (PySem.mem_of_lookup h1) (PySem.mem_of_lookup h2)
  · have hy : scope.names.lookup y = some .cell ∨ scope.names.lookup y = some .free := hy
    rcases hy with hy | hy
    · exact cell_has hy
    · exact absurd rfl (S.nofree _ (PySem.mem_of_lookup hy))
  · exact Nat.le_of_lt (x.above y c (PySem.mem_of_lookup h))
  · have hi : i < vs.length := by
      unfold start at h2
      by_cases hi : i < vs.length
      · exact hi
      · rw [List.getElem?_append_right (by simpa using hi)] at h2
        rw [List.getElem?_replicate] at h2
        split at h2 <;> cases h2
    have ha : vs[i]? = some v := by
      unfold start at h2
      rw [List.getElem?_append_left (by simpa using hi), List.getElem?_map] at h2
      cases e : vs[i]? with
      | none => rw [e] at h2; cases h2
      | some a => rw [e] at h2; cases h2; rfl
    obtain ⟨u, hu, rv⟩ := r.get ha
    have hp : ps[i]? = some y := by
      rw [← S.pre, List.getElem?_take_of_lt (by omega)]; exact h1
    have ndP : ps.Nodup := by rw [← S.pre]; exact S.nd.sublist (List.take_sublist _ _)
    refine ⟨u, rv, ?_⟩
    rcases S.par y (List.mem_of_getElem? hp) with k | k
    · exact .inl ⟨k, bindL_get ndP hp hu k⟩
    · obtain ⟨c, e⟩ := cell_has (n := s.heap.objs.size + 1) k
      refine .inr ⟨.inl k, c, e, ?_⟩
      have q := x.cell y c e
      rw [bindC_get ndP hp hu (by show scope.names.lookup y ≠ _; rw [k]; decide)] at q
      exact q
  · exact e0.hok.fresh (Nat.le_of_lt (x.above y c (PySem.mem_of_lookup h)))
  · unfold start
    show _ = N.length
    rw [List.length_append, List.length_map, List.length_replicate]
    omega

theorem fn_ofH {CX : CXT} {P : Program} {w : World} {K : PySem.W.Frag} {mg : Str → Option Value} {base : Heap} {k : Nat} {f : Addr} {name qual : Str} {params : Arguments} {body : List Stmt} {scope : Scope} {dV kV doc pm cdv ct oc : Value} {an od : Option Addr}
    {osl : Array (Option Value)} {N ps : List Str} {sp : Sp} (lk : K.lookup f = some ⟨oc, od, .func (PySem.W.fnOf name qual params body scope dV kV doc pm an cdv ct), osl⟩) (hcd : PySem.W.codeIn K cdv qual = true) (S : FnScope N ps scope)
    (len : ∀ vs H Q E, sp vs H Q E → vs.length = ps.length)
    (hbody : ∀ (A : Around) (outer : List Env) (s : Shared) (H : Hp) (vs : List V) (Q : VK) (E : XK), RoomH k (A.deeper (envOfC qual scope s.heap.objs.size f cdv)) → sp vs H Q E →
      ∃ t, PSs (cxOfH CX P w K mg base N qual scope f cdv A outer s H E) body t ∧ t { nx := fun _ H' => Q .non H', rt := Q } (start N vs) H) :
    FnOkH P w K mg base CX (k + 1) f (PySem.W.fnOf name qual params body scope dV kV doc pm an cdv ct) ps sp := by
  refine ⟨len, fun A outer s H args us vs Q E hr e0 hb r hsp => ?_⟩
  have hl := len _ _ _ _ hsp
  have KX : K.In s.heap := e0.mod.kin.keeps fun b o e => (e0.bs b o e).1
  have lim : s.heap.NoLimit := e0.mod.nolimit.keeps fun b o e => (e0.bs b o e).1
  have hkind : ∀ y ∈ ps.zip us, scope.names.lookup y.1 = some .local ∨ (scope.names.lookup y.1 = some .cell ∧ ((cellsFrom (s.heap.objs.size + 1) scope.names []).lookup y.1).isSome = true) := fun ⟨n, v⟩ hy => by
    rcases S.par n (List.of_mem_zip hy).1 with q | q
    · exact .inl q
    · exact .inr ⟨q, PySem.W.cellsFrom_some _ _ _ (.inl q)⟩
  refine codeAny_call_function hr.depth (KX _ _ lk) rfl S.co S.gen rfl (PySem.W.codeRec_of KX hcd) (hb _ _ _ _ ?_)
  refine wpAny_newFunctionEnv_cells S.kind hkind fun env he s1 x => ?_
  subst he
  refine ⟨lim.keeps x.toInCall.keep, codeAny_func ?_⟩
  obtain ⟨t, ht, hq⟩ := hbody A outer s H vs Q E (hr.deeper _) hsp
  have I : Inv (cxOfH CX P w K mg base N qual scope f cdv A outer s H E) [] (start N vs) H s1 := inv_startH S e0 hl r x
  refine wpAny_mono (ht [] s1 (start N vs) H _ I hq) (fun fl s' hs => ?_) fun e s' hs => hs
  have fin : ∀ {σ' : St} {H' : Hp} {v : V} {u : Value}, Inv (cxOfH CX P w K mg base N qual scope f cdv A outer s H E) [] σ' H' s' → RelV v u → Q v H' → CE outer P w H s Q u s' :=
    fun {σ' H' v u} J rv q => ⟨v, H', J.os, J.bare, J.base, J.hok, rv, q⟩
  cases fl with
  | ret u =>
    obtain ⟨v, σ', H', J, rv, q⟩ := hs
    exact fin J rv q
  | next =>
    obtain ⟨σ', H', J, q⟩ := hs
    exact fin (v := V.non) (u := Value.none) J rfl q
  | brk =>
    obtain ⟨_, _, _, q⟩ := hs
    exact False.elim q
  | cont =>
    obtain ⟨_, _, _, q⟩ := hs
    exact False.elim q
end L2

set_option Elab.async false
set_option linter.all false
set_option maxRecDepth 100000
/-! Exceptions: try and except. -/
namespace L2
open PySem PySem.Spec PyProof.Rows
section
variable {X : Cx} {pins p2 : List (Addr × Obj)} {σ σ0 : St} {H H0 : Hp} {s s0 : Shared} {h' : Heap} {R : XR}
theorem Inv.ns_in (I : Inv X pins σ H s) : ∃ o, s.heap.get? X.env.locals = some o := by
  obtain ⟨m, ⟨o, _, _, ho, _⟩, _⟩ := I.loc
  exact ⟨o, ho⟩
theorem Inv.cell_in (I : Inv X pins σ H s) {x : Str} {c : Addr} (e : X.env.cells.lookup x = some c) : ∃ o, s.heap.get? c = some o := by
  obtain ⟨v, o, ho, _⟩ := I.cell x c e
  exact ⟨o, ho⟩
theorem Inv.old_in (I : Inv X pins σ H s) {b : Addr} {o : Obj} (e : X.s₀.heap.get? b = some o) (hx : b ∉ X.ex) : ∃ v, s.heap.get? b = some v := I.base.there b o e hx
/-- what stood at I0 is kept (frames up to slots), and what is tracked -/
theorem Inv.raw (I : Inv X pins σ H s) (I0 : Inv X pins σ0 H0 s0) (r : Raw (frs X.stack) s0.heap H s.heap h') : Inv X pins σ H { s with heap := h' } := by
  have sub : ∀ b, b ∉ X.fs → b ≠ X.env.locals → b ∉ frs X.stack := fun b h1 h2 z => (List.mem_cons.mp (I.stkSub b z)).elim h2 h1
  have cellK : ∀ x c v, X.env.cells.lookup x = some c → s.heap.IsCell c v → h'.IsCell c v := fun x c v e ⟨o, ho, hd⟩ => by
    obtain ⟨sl, q⟩ := r.slot c o ho (.inl (I0.cell_in e))
    exact ⟨_, q, hd⟩
  refine ⟨I.ok, I.os, I.bare, ⟨fun b o e n hb hx => ?_, fun b o e n hb hx => ?_, I.base.free, fun b o e hx => ?_, I.base.tups, I.base.frzs, I.base.tbls⟩, ?_, fun x c e => ?_, I.free, I.freeC, fun p hp => ?_, r.hok I.hok I.stkFree, I.len⟩
  · refine r.keep b o (I.base.keep b o e n hb hx) (.inl (I0.old_in e hx)) (sub b hb ?_)
    exact Nat.ne_of_lt (Nat.lt_of_lt_of_le (Heap.lt_size e) I.ok.above)
  · obtain ⟨sl, q⟩ := I.base.slot b o e n hb hx
    obtain ⟨sl', q'⟩ := r.slot b _ q (.inl (I0.old_in e hx))
    exact ⟨sl', q'⟩
  · obtain ⟨o', q⟩ := I.base.there b o e hx
    obtain ⟨sl', q'⟩ := r.slot b _ q (.inl (I0.old_in e hx))
    exact ⟨_, q'⟩
  · obtain ⟨m, ⟨o, es, ep, ho, rest⟩, hl⟩ := I.loc
    obtain ⟨sl, q⟩ := r.slot _ o ho (.inl I0.ns_in)
    refine ⟨m, ⟨_, es, ep, q, rest⟩, fun i x v e1 e2 e3 => ?_⟩
    obtain ⟨u, rv, l⟩ := hl i x v e1 e2 e3
    refine ⟨u, rv, ?_⟩
    rcases l with l | ⟨k, c, e, z⟩
    · exact .inl l
    · exact .inr ⟨k, c, e, cellK x c _ e z⟩
  · obtain ⟨v, z⟩ := I.cell x c e
    exact ⟨v, cellK x c v e z⟩
  · obtain ⟨e, n, ne, nf, d⟩ := I.pin p hp
    exact ⟨r.keep p.1 p.2 e (.inl ⟨_, (I0.pin p hp).1⟩) (sub _ nf ne), n, ne, nf, d⟩
/-- the exception's object is tracked -/
def ExcO (a : Addr) (cls : Value) (dx : Option Addr) : HO := .ext fun h => ∃ o vs, h.get? a = some o ∧ o.cls = cls ∧ o.dict = dx ∧ o.data = .fields vs
theorem Inv.track {a : Addr} {cls : Value} {dx : Option Addr} (I : Inv X pins σ H s) (I0 : Inv X pins σ0 H0 s0) (x : XObj H s.heap s0.heap a cls dx) : Inv X pins σ (upd H a (ExcO a cls dx)) s := by
  obtain ⟨hn, hH, oe, vs, he, hc, hdx, hd, _⟩ := x
  have ne : ∀ b o, s0.heap.get? b = some o → b ≠ a := fun b o e z => by rw [z, hn] at e; cases e
  have neH : ∀ b u, H b = some u → b ≠ a := fun b u e z => by rw [z, hH] at e; cases e
  obtain ⟨oL, hL⟩ := I0.ns_in
  refine ⟨I.ok, I.os, I.bare, ⟨I.base.keep, I.base.slot, fun b o e n hx => ?_, I.base.there, fun b xs e => ?_, fun b o u e => ?_, fun b ps e => ?_⟩, I.loc, I.cell, ?_, fun x c e => ?_, fun p hp => ?_, fun b u e => ?_, I.len⟩
  · obtain ⟨v, q⟩ := I0.old_in e hx
    rw [upd_ne (ne _ _ q)]
    exact I.base.free b o e n hx
  · have q := I.base.tups b xs e
    rw [upd_ne (neH _ _ q)]; exact q
  · have q := I.base.frzs b o u e
    rw [upd_ne (neH _ _ q)]; exact q
  · obtain ⟨more, q⟩ := I.base.tbls b ps e
    exact ⟨more, by rw [upd_ne (neH _ _ q)]; exact q⟩
  · rw [upd_ne (ne _ _ hL)]; exact I.free
  · obtain ⟨o, q⟩ := I0.cell_in e
    rw [upd_ne (ne _ _ q)]; exact I.freeC x c e
  · obtain ⟨e, n, r⟩ := I.pin p hp
    exact ⟨e, by rw [upd_ne (ne _ _ (I0.pin p hp).1)]; exact n, r⟩
  · by_cases hb : b = a
    · subst hb
      rw [upd_same] at e
      cases e
      refine ⟨⟨oe, vs, he, hc, hdx, hd⟩, ⟨oe, he⟩, fun h1 h2 ⟨o, vs', q, r1, r2, r3⟩ k => ⟨o, vs', k o q, r1, r2, r3⟩⟩
    · rw [upd_ne hb] at e
      exact (I.hok b u e).stay (fun _ _ _ q => q) (fun c q => by rw [upd_ne (neH _ _ q)]; exact q) fun c xs q => by rw [upd_ne (neH _ _ q)]; exact q
/-! ### the contexts of a try's suites -/
def tryCx (X : Cx) (pins : List (Addr × Obj)) (R : XR) : Cx := { X with
  pn := X.pn ++ pins
  xe := fun e s' => ∃ a cls dx σ' H' H1 s1, e = .ref a ∧ Inv X pins σ' H1 s1 ∧ Inv X pins σ' H' s' ∧ XObj H' s'.heap s1.heap a cls dx ∧ (∀ b o, s1.heap.get? b = some o → b < s'.heap.objs.size) ∧ R cls dx σ' H' }
theorem Inv.toTry (I : Inv X pins σ H s) : Inv (tryCx X pins R) [] σ H s :=
  ⟨⟨I.ok.mod, I.ok.kind, I.ok.glob, I.ok.blt, I.ok.above, I.ok.inj, I.ok.has, I.ok.cab, I.ok.hd, I.ok.frames, I.ok.stk, I.ok.exf, I.ok.bs, I.ok.bsz, I.ok.noex, I.ok.exfs, I.ok.funs, I.ok.frf⟩,
    I.os, I.bare, I.base, I.loc, I.cell, I.free, I.freeC, fun p hp => I.pin p (by rw [List.append_nil] at hp; exact hp), I.hok, I.len⟩
theorem Inv.ofTry (I : Inv (tryCx X pins R) p2 σ H s) : Inv X pins σ H s :=
  ⟨⟨I.ok.mod, I.ok.kind, I.ok.glob, I.ok.blt, I.ok.above, I.ok.inj, I.ok.has, I.ok.cab, I.ok.hd, I.ok.frames, I.ok.stk, I.ok.exf, I.ok.bs, I.ok.bsz, I.ok.noex, I.ok.exfs, I.ok.funs, I.ok.frf⟩,
    I.os, I.bare, I.base, I.loc, I.cell, I.free, I.freeC, fun p hp => I.pin p (List.mem_append_left _ hp), I.hok, I.len⟩
theorem passTry : PassX (tryCx X pins R) R := by
  intro p2 σ H s e s' I h
  obtain ⟨a, cls, dx, H', rfl, os, bare, un, hok, xo, hR⟩ := h
  have J := I.thrown os bare un hok
  refine ⟨a, cls, dx, σ, H', H, s, rfl, I.ofTry, J.ofTry, xo, fun b o q => ?_, hR⟩
  obtain ⟨o', q'⟩ := un.there b o q (by simp)
  exact Heap.lt_size q'
def hanCx (X : Cx) (pins : List (Addr × Obj)) (e : Addr) : Cx := { X with A := X.A.mark (some (.ref e)), calm := false, pn := X.pn ++ pins, xe := fun _ _ => False }
theorem Inv.toHan {e : Addr} (I : Inv X pins σ H s) : Inv (hanCx X pins e) [] σ H s :=
  ⟨⟨I.ok.mod, I.ok.kind, I.ok.glob, I.ok.blt, I.ok.above, I.ok.inj, I.ok.has, I.ok.cab, fun z => (Bool.false_ne_true z).elim, I.ok.frames, I.ok.stk, I.ok.exf, I.ok.bs, I.ok.bsz, I.ok.noex, I.ok.exfs, I.ok.funs, I.ok.frf⟩,
    I.os, I.bare, I.base, I.loc, I.cell, I.free, I.freeC, fun p hp => I.pin p (by rw [List.append_nil] at hp; exact hp), I.hok, I.len⟩
theorem Inv.ofHan {e : Addr} (I : Inv (hanCx X pins e) p2 σ H s) (ok : X.Ok) : Inv X pins σ H s :=
  ⟨ok, I.os, I.bare, I.base, I.loc, I.cell, I.free, I.freeC, fun p hp => I.pin p (List.mem_append_left _ hp), I.hok, I.len⟩
end
section
variable {X : Cx} {pins : List (Addr × Obj)} {σ : St} {H : Hp} {s : Shared} {M : Model} {A : Around} {E : Value → Shared → Prop} {Q : Unit → Shared → Prop} {i : Nat} {x : Str} {v : V}
/-- a local name goes -/
theorem unbind_ok (I : Inv X pins σ H s) (hN : X.N.Nodup) (hi : X.N[i]? = some x) (hl : X.env.scope.names.lookup x = some .local) (hv : σ[i]? = some (some v)) (h : ∀ s', Inv X pins (σ.set i none) H s' → Q () s') : wpAny M A (unbindName X.env x) Q E s := by
  obtain ⟨m, hn, hm⟩ := id I.loc
  have hcls : (X.env.scope.kind == .class || (X.env.scope.kind == .module && X.env.locals != X.env.globals)) = false := by rw [I.ok.kind]; rfl
  obtain ⟨u, _, lk⟩ := hm i x v hi hv (.inl hl)
  have mv : m x = some u := by
    rcases lk with ⟨_, e⟩ | ⟨k, _⟩
    · exact e
    · rcases k with k | k
      · have k : X.env.scope.names.lookup x = some .cell := k
        rw [hl] at k; cases k
      · have k : X.env.scope.names.lookup x = some .free := k
        rw [hl] at k; cases k
  obtain ⟨oL, _, _, hoL, _⟩ := id hn
  refine wpAny_unbindName_local hl hn mv hcls fun h' u' hn' hs => h _ ?_
  have oth : ∀ b o, X.s₀.heap.get? b = some o → h'.get? b = s.heap.get? b := fun b o e => hs.2 b (Nat.ne_of_lt (Nat.lt_of_lt_of_le (Heap.lt_size e) I.ok.above))
  have tracked : HOk X.prog X.w H h' := fun b ob e => by
    refine (I.hok b ob e).stay (fun c w' hc q => (hs.2 c ?_).trans q) (fun _ q => q) fun _ _ q => q
    rintro rfl
    rcases hc with rfl | hc
    · rw [I.free] at e; cases e
    · rw [I.free] at hc; cases hc
  refine ⟨I.ok, I.os, I.bare, ⟨fun b o e n hb hx => (oth b o e).trans (I.base.keep b o e n hb hx), fun b o e n hb hx => ?_, I.base.free, fun b o e hx => ?_, I.base.tups, I.base.frzs, I.base.tbls⟩, ⟨_, hn', fun j y v' e1 e2 e3 => ?_⟩, fun y c e => ?_, I.free, I.freeC, fun p hp => ?_, tracked, by simpa using I.len⟩
  · obtain ⟨sl, e1⟩ := I.base.slot b o e n hb hx
    exact ⟨sl, (oth b o e).trans e1⟩
  · obtain ⟨o', e1⟩ := I.base.there b o e hx
    exact ⟨o', (oth b o e).trans e1⟩
  · have hj : j ≠ i := fun z => by
      have hlt : i < σ.length := (List.getElem?_eq_some_iff.mp hv).1
      rw [z, List.getElem?_set_self hlt] at e2
      cases e2
    rw [List.getElem?_set_ne (Ne.symm hj)] at e2
    obtain ⟨u2, r2, q⟩ := hm j y v' e1 e2 e3
    refine ⟨u2, r2, ?_⟩
    rcases q with ⟨k, e⟩ | ⟨k, c, e, z⟩
    · refine .inl ⟨k, ?_⟩
      have : y ≠ x := fun e => hj (nodup_ix hN e1 (e ▸ hi))
      simp [this, e]
    · exact .inr ⟨k, c, e, z.sameBut hs (I.cne y c e)⟩
  · obtain ⟨w', z⟩ := I.cell y c e
    exact ⟨w', z.sameBut hs (I.cne y c e)⟩
  · obtain ⟨e, n, ne, nf, d⟩ := I.pin p hp
    exact ⟨(hs.2 p.1 ne).trans e, n, ne, nf, d⟩
end
/-! ### except C as n -/
theorem matches_ok {K : PySem.W.Frag} {M : Model} {A : Around} {E : Value → Shared → Prop} {h : Heap} {g : Array GenState} {d : Drawn} {t : Nat} {os : OsState} {e C0 C1 : Addr} {oe : Obj} {bmB : List Value} {newId : String} {Q : Bool → Shared → Prop} (X : K.In h)
    (q0 : PySem.W.excIn K C0 bmB newId = true) (hb : bmB.contains (.type "BaseException") = true) (q1 : PySem.W.mroIn K C1 (.ref C0) = some true) (he : h.get? e = some oe) (hcls : oe.cls = .ref C1) (hq : Q true ⟨h, g, d, t, os⟩) :
    wpAny M A (excMatches (.ref e) (.ref C0)) Q E ⟨h, g, d, t, os⟩ := by
  obtain ⟨bm, N, nm, qn, bs, hdct, sn, sub, ab, col, dd, k0, k1, k2, k3, k5, mN, oC, oN, ni, TL⟩ := exc_of X q0
  have cB : (Value.ref C0 :: bm).contains (.type "BaseException") = true := by rw [List.contains_cons, TL.hasType hb, Bool.or_true]
  have L1 := PySem.W.looks_mroIn (M := M) X q1
  have f := tc_notTuple
  unfold excMatches
  repeat (first | (with_reducible refine wpAny_loadPart_at he ?_; rw [hcls]) | with_reducible refine wpAny_loadPart_at oC ?_ | with_reducible refine L1.at ?_ | (with_reducible refine wpAny_isSubtype_exc oC ?_; rw [cB]) | wp_step)
  exact hq
/-- the suite of a try may raise R; what is caught runs the suite of the except, its name in slot i -/
def tTry (i : Nat) (K : PySem.W.Frag) (C0 : Addr) (tb : XR → TS) (th : TS) : TS := fun D σ H => ∃ R : XR, tb R D σ H ∧ ∀ cls dx σ' H' a, R cls dx σ' H' → H' a = none → σ'.length = σ.length →
  (∃ C1, cls = .ref C1 ∧ PySem.W.mroIn K C1 (.ref C0) = some true) ∧ th { nx := fun σ2 H2 => D.nx (σ2.set i none) H2, rt := D.rt, bk := fun σ2 H2 => D.bk (σ2.set i none) H2, ct := fun σ2 H2 => D.ct (σ2.set i none) H2 } (σ'.set i (some (.ref a))) (upd H' a (ExcO a cls dx))
section
variable {X : Cx} {body suite : List Stmt} {b0 : Stmt} {x n : Str} {np hpos pos : Pos} {tb : XR → TS} {th : TS} {i : Nat} {C0 : Addr} {bmB : List Value} {newId : String}
theorem q_try (hb : ∀ (pins : List (Addr × Obj)) (R : XR), PassX (tryCx X pins R) R → QB (tryCx X pins R) body (tb R)) (hs : ∀ (pins : List (Addr × Obj)) (e : Addr), QB (hanCx X pins e) (b0 :: suite) th)
    (hN : X.N.Nodup) (hC : PySem.W.excIn X.K C0 bmB newId = true) (hB : bmB.contains (.type "BaseException") = true) (hm : X.mg x = some (.ref C0)) (hi : X.N[i]? = some n := by rfl) (hl : X.env.scope.names.lookup n = some .local := by rfl) (hg : Gl X x := by rfl)
    (hst : ∃ env outer L, X.stack = env :: outer ∧ X.env = env ∧ env.frame = some L := by exact ⟨_, _, _, rfl, rfl, rfl⟩)
    (hdb : (x == ("__debug__" : Str)) = false := by decide) : QS X (.Try body [.ExceptHandler (some (.Name x np)) (some n) (b0 :: suite) hpos] [] [] pos) (tTry i X.K C0 tb th) := by
  refine ⟨fun pins s σ H D I hw => ?_⟩
  obtain ⟨R, hwb, hwh⟩ := hw
  obtain ⟨env0, outer, L, est, eenv, efr⟩ := hst
  have body_ok := (hb pins R passTry).h [] s σ H D I.toTry hwb
  refine wpAny_Try_except (wpAny_mono body_ok (fun f s1 q => ?_) fun ev s1 q => ?_)
  · have q' : SP X pins D f s1 := by
      cases f with
      | next => obtain ⟨σ', H', J, z⟩ := q; exact ⟨σ', H', J.ofTry, z⟩
      | brk => obtain ⟨σ', H', J, z⟩ := q; exact ⟨σ', H', J.ofTry, z⟩
      | cont => obtain ⟨σ', H', J, z⟩ := q; exact ⟨σ', H', J.ofTry, z⟩
      | ret u => obtain ⟨v, σ', H', J, r, z⟩ := q; exact ⟨v, σ', H', J.ofTry, r, z⟩
    cases f with
    | next => exact wpAny_execs_nil q'
    | brk => exact q'
    | cont => exact q'
    | ret u => exact q'
  · obtain ⟨a, cls, dx, σ', H', H1, s2, rfl, I0, J, xo, hlt, hR⟩ := q
    have frJ : X.A.frames = some (env0 :: outer) := by rw [J.ok.frames, est]
    have stJ : s1.heap.FunFrames X.base (env0 :: outer) := by rw [← est]; exact J.stack
    rw [← est] at stJ
    rw [eenv]
    refine note_raw (base := X.base) (outer := outer) frJ (by rw [← est]; exact stJ) efr (fun b hb => J.hok.fresh hb) hlt xo fun h3 x3 r3 => ?_
    rw [← est] at r3
    have J3 := J.raw I0 r3
    refine flight_raw (s := { s1 with heap := h3 }) (fs := frs X.stack) x3 fun h4 x4 r4 => ?_
    have J4 := J3.raw I0 r4
    obtain ⟨⟨C1, rfl, hmro⟩, hsuite⟩ := hwh cls dx σ' H' a hR x4.2.1 (J.len.trans I.len.symm)
    obtain ⟨hn, hH, oe, vs, he, hc, hdx, hd, _⟩ := id x4
    rw [← eenv]
    have ld : ∀ (E' : Value → Shared → Prop) (Q' : Value → Shared → Prop), Q' (.ref C0) { s1 with heap := h4 } → wpAny (model X.prog X.w) (X.A.mark (some (.ref a))) (eval (.Name x np) X.env) Q' E' { s1 with heap := h4 } := fun E' Q' hq => ld_glob (X := hanCx X pins a) (J4.toHan) hg hm hq hdb
    refine wpAny_handleBy_cons (codeAny_handlers_test (ld _ _ (matches_ok (h := h4) J4.kIn hC hB hmro he hc ?_))) (by intro z; cases z)
    refine codeAny_handlers_suite_as ?_
    refine flight_raw (s := { s1 with heap := h4 }) (fs := frs X.stack) x4 fun h5 x5 r5 => ?_
    have J5 := J4.raw I0 r5
    have J6 := J5.track I0 x5
    refine store_ok (X := hanCx X pins a) J6.toHan hN hi (.inl hl) (v := .ref a) rfl (fun s6 I6 => ?_) (.inr hl)
    refine wpAny_mono ((hs pins a).h [] s6 _ _ _ I6 hsuite) (fun f s7 q7 => ?_) fun _ _ z => False.elim z
    have fin : ∀ {σ7 : St} {H7 : Hp} {P : Prop}, Inv (hanCx X pins a) [] σ7 H7 s7 → (∀ s9, Inv X pins (σ7.set i none) H7 s9 → SP X pins D f s9) →
        wpAny (model X.prog X.w) X.A (do bindName X.env n .none; unbindBehindTheSuite X.env n hpos) (fun _ s9 => SP X pins D f s9) X.xe s7 := fun {σ7 H7 P} I7 k => by
      have K7 := I7.ofHan I.ok
      have hlen : i < σ7.length := by
        rw [K7.len]
        exact (List.getElem?_eq_some_iff.mp hi).1
      refine wpAny_bind (wpAny_bindName (store_ok K7 hN hi (.inl hl) (v := .non) rfl (fun s8 I8 => ?_) (.inr hl)))
      unfold unbindBehindTheSuite
      refine wpAny_onRaise (unbind_ok I8 hN hi hl (v := .non) (List.getElem?_set_self hlen) fun s9 I9 => k s9 ?_)
      rw [List.set_set] at I9
      exact I9
    cases f with
    | next =>
      obtain ⟨σ7, H7, I7, z⟩ := q7
      exact fin (P := True) I7 fun s9 I9 => ⟨_, _, I9, z⟩
    | brk =>
      obtain ⟨σ7, H7, I7, z⟩ := q7
      exact fin (P := True) I7 fun s9 I9 => ⟨_, _, I9, z⟩
    | cont =>
      obtain ⟨σ7, H7, I7, z⟩ := q7
      exact fin (P := True) I7 fun s9 I9 => ⟨_, _, I9, z⟩
    | ret u =>
      obtain ⟨v, σ7, H7, I7, r, z⟩ := q7
      exact fin (P := True) I7 fun s9 I9 => ⟨v, _, _, I9, r, z⟩
end
end L2

set_option Elab.async false
set_option linter.all false
set_option maxRecDepth 100000
/-! Things compared. -/
namespace L2
open PySem PySem.Spec PyProof.Rows
mutual
def eqT : T → T → Bool
  | .non, .non => true
  | .bl a, .bl b => a == b
  | .int a, .int b => a == b
  | .bl a, .int b => (if a then 1 else 0) == b
  | .int a, .bl b => a == (if b then 1 else 0)
  | .str a, .str b => a == b
  | .tup a, .tup b => eqL a b
  | .lst a, .lst b => eqL a b
  | _, _ => false
def eqL : List T → List T → Bool
  | [], [] => true
  | x :: xs, y :: ys => eqT x y && eqL xs ys
  | _, _ => false
end
def eqOk : Nat → T → Bool
  | _, .non => true
  | _, .bl _ => true
  | _, .int _ => true
  | _, .str _ => true
  | n + 1, .tup ts => ts.all (eqOk n)
  | n + 1, .lst ts => ts.all (eqOk n)
  | _, _ => false
theorem eqL_nil : eqL [] [] = true := by unfold eqL; rfl
theorem eqL_cons (x y : T) (xs ys : List T) : eqL (x :: xs) (y :: ys) = (eqT x y && eqL xs ys) := by rw [eqL]
theorem eqL_len : ∀ {xs ys : List T}, xs.length ≠ ys.length → eqL xs ys = false
  | [], [], h => absurd rfl h
  | [], _ :: _, _ => by unfold eqL; rfl
  | _ :: _, [], _ => by unfold eqL; rfl
  | x :: xs, y :: ys, h => by rw [eqL_cons, eqL_len (xs := xs) (ys := ys) (by simpa using h), Bool.and_false]
/-- item by item -/
theorem eqL_range : ∀ {xs ys : List T} {e : Nat → Bool}, (∀ (j : Nat) a b, xs[j]? = some a → ys[j]? = some b → e j = eqT a b) → ((List.range (min xs.length ys.length)).all e && (xs.length == ys.length)) = eqL xs ys
  | [], [], e, _ => by rw [eqL_nil]; rfl
  | [], y :: ys, e, _ => by rw [eqL_len (by simp)]; simp
  | x :: xs, [], e, _ => by rw [eqL_len (by simp)]; simp
  | x :: xs, y :: ys, e, h => by
    rw [eqL_cons, ← eqL_range (xs := xs) (ys := ys) (e := fun j => e (j + 1)) fun j a b p q => h (j + 1) a b p q, List.length_cons, List.length_cons, Nat.succ_min_succ, List.range_succ_eq_map, List.all_cons, List.all_map, ← h 0 x y rfl rfl, Bool.and_assoc]
    congr 2
    simp
theorem eqT_refl : ∀ (n : Nat) (t : T), eqOk n t = true → eqT t t = true
  | _, .non, _ => by rw [eqT]
  | _, .bl b, _ => by rw [eqT]; simp
  | _, .int i, _ => by rw [eqT]; simp
  | _, .str x, _ => by rw [eqT]; simp
  | n + 1, .tup ts, h => by
    have h : ts.all (eqOk n) = true := by rw [eqOk] at h; exact h
    have go : ∀ ts : List T, ts.all (eqOk n) = true → eqL ts ts = true := fun ts => by
      induction ts with
      | nil => intro _; exact eqL_nil
      | cons x xs ih =>
        intro h
        rw [List.all_cons, Bool.and_eq_true] at h
        rw [eqL_cons, eqT_refl n x h.1, ih h.2]
        rfl
    rw [eqT]; exact go ts h
  | n + 1, .lst ts, h => by
    have h : ts.all (eqOk n) = true := by rw [eqOk] at h; exact h
    have go : ∀ ts : List T, ts.all (eqOk n) = true → eqL ts ts = true := fun ts => by
      induction ts with
      | nil => intro _; exact eqL_nil
      | cons x xs ih =>
        intro h
        rw [List.all_cons, Bool.and_eq_true] at h
        rw [eqL_cons, eqT_refl n x h.1, ih h.2]
        rfl
    rw [eqT]; exact go ts h
  | 0, .tup _, h => by simp [eqOk] at h
  | 0, .lst _, h => by simp [eqOk] at h
  | 0, .dct _ _, h => by simp [eqOk] at h
  | _ + 1, .dct _ _, h => by simp [eqOk] at h
/-- one value is one thing -/
theorem is_eq {H : Hp} : ∀ (n : Nat) {v : V} {t t' : T}, Is H v t → Is H v t' → eqOk n t = true → eqOk n t' = true → eqT t t' = true := by
  intro n
  induction n with
  | zero =>
    intro v t t' i j h h'
    cases t <;> first | (simp [eqOk] at h; done) | skip
    all_goals (cases t' <;> first | (simp [eqOk] at h'; done) | skip)
    all_goals (unfold Is at i j; rw [i] at j; first | (cases j; simp [eqT]; done) | cases j)
  | succ n ih =>
    intro v t t' i j h h'
    have go : ∀ (ts us : List T) (vs : List V), IsL H vs ts → IsL H vs us → ts.all (eqOk n) = true → us.all (eqOk n) = true → eqL ts us = true := by
      intro ts
      induction ts with
      | nil =>
        intro us vs q1 q2 _ _
        rw [q1.nil_inv] at q2
        cases us with
        | nil => exact eqL_nil
        | cons y ys => obtain ⟨_, _, z, _⟩ := q2.cons_inv; cases z
      | cons x xs ihx =>
        intro us vs q1 q2 a1 a2
        obtain ⟨v, r, rfl, c1, c2⟩ := q1.cons_inv
        cases us with
        | nil => have := q2.nil_inv; cases this
        | cons y ys =>
          obtain ⟨v', r', z, d1, d2⟩ := q2.cons_inv
          cases z
          rw [List.all_cons, Bool.and_eq_true] at a1 a2
          rw [eqL_cons, ihx ys r c2 d2 a1.2 a2.2, Bool.and_true]
          exact ih c1 d1 a1.1 a2.1
    cases t with
    | dct _ _ => simp [eqOk] at h
    | tup ts =>
      obtain ⟨a, vs, rfl, ha, q⟩ := i.tup_inv
      cases t' with
      | tup us =>
        obtain ⟨a', vs', e, ha', q'⟩ := j.tup_inv
        cases e
        rw [ha] at ha'
        cases ha'
        rw [eqT]
        exact go ts us vs q q' (by simpa only [eqOk] using h) (by simpa only [eqOk] using h')
      | lst us =>
        obtain ⟨a', vs', e, ha', q'⟩ := j.lst_inv
        cases e
        rw [ha] at ha'
        cases ha'
      | dct _ _ => simp [eqOk] at h'
      | _ => unfold Is at j; cases j
    | lst ts =>
      obtain ⟨a, vs, rfl, ha, q⟩ := i.lst_inv
      cases t' with
      | lst us =>
        obtain ⟨a', vs', e, ha', q'⟩ := j.lst_inv
        cases e
        rw [ha] at ha'
        cases ha'
        rw [eqT]
        exact go ts us vs q q' (by simpa only [eqOk] using h) (by simpa only [eqOk] using h')
      | tup us =>
        obtain ⟨a', vs', e, ha', q'⟩ := j.tup_inv
        cases e
        rw [ha] at ha'
        cases ha'
      | dct _ _ => simp [eqOk] at h'
      | _ => unfold Is at j; cases j
    | _ =>
      cases t' with
      | dct _ _ => simp [eqOk] at h'
      | tup us =>
        obtain ⟨a', vs', e, ha', q'⟩ := j.tup_inv
        unfold Is at i
        rw [i] at e; cases e
      | lst us =>
        obtain ⟨a', vs', e, ha', q'⟩ := j.lst_inv
        unfold Is at i
        rw [i] at e; cases e
      | _ => unfold Is at i j; rw [i] at j; first | (cases j; simp [eqT]; done) | cases j
/-- what a thing's value is, in the machine's heap -/
inductive Shp (P : Program) (w : World) (H : Hp) (h : Heap) : T → Value → Prop
  | non : Shp P w H h .non .none
  | bl (b) : Shp P w H h (.bl b) (.bool b)
  | int (i t) : Shp P w H h (.int i) (.int i t)
  | str (x t) : Shp P w H h (.str x) (.str x t)
  | tup {a vs ts its} : Is H (.ref a) (.tup ts) → IsL H vs ts → Vals vs its → h.IsTuple a its.toArray → Shp P w H h (.tup ts) (.ref a)
  | lst {a vs ts its} : Is H (.ref a) (.lst ts) → IsL H vs ts → Vals vs its → h.IsList a its.toArray → Shp P w H h (.lst ts) (.ref a)
  | dct {ks ts u} : Shp P w H h (.dct ks ts) u
theorem Is.shp {P : Program} {w : World} {H : Hp} {h : Heap} {v : V} {u : Value} : ∀ {t : T}, Is H v t → RelV v u → HOk P w H h → Shp P w H h t u
  | .non, i, r, _ => by unfold Is at i; subst i; cases r; exact .non
  | .bl b, i, r, _ => by unfold Is at i; subst i; cases r; exact .bl b
  | .int n, i, r, _ => by unfold Is at i; subst i; obtain ⟨t, rfl⟩ := r; exact .int n t
  | .str x, i, r, _ => by unfold Is at i; subst i; obtain ⟨t, rfl⟩ := r; exact .str x t
  | .tup ts, i, r, ok => by
    obtain ⟨a, vs, rfl, ha, q⟩ := i.tup_inv
    cases r
    obtain ⟨_, its, rv, p⟩ := ok a _ ha
    exact .tup i q rv p.tup
  | .lst ts, i, r, ok => by
    obtain ⟨a, vs, rfl, ha, q⟩ := i.lst_inv
    cases r
    obtain ⟨_, its, n, rv, p⟩ := ok a _ ha
    exact .lst i q rv ⟨_, p, rfl, n, rfl⟩
  | .dct ks ts, _, _, _ => .dct
section
variable {P : Program} {w : World} {H : Hp}
/-- the answers item by item -/
noncomputable def eAt (ts us : List T) (j : Nat) : Bool := eqT (ts.getD j .non) (us.getD j .non)
theorem eAt_range (ts us : List T) : ((List.range (min ts.length us.length)).all (eAt ts us) && (ts.length == us.length)) = eqL ts us :=
  eqL_range fun j a b p q => by unfold eAt; rw [List.getD_eq_getElem?_getD, List.getD_eq_getElem?_getD, p, q]; rfl
theorem items_at {s : Shared} {A : Around} {n : Nat} {ts us : List T} {vs ws : List V} {its its2 : List Value} (i1 : IsL H vs ts) (i2 : IsL H ws us) (r1 : Vals vs its) (r2 : Vals ws its2) (ok : HOk P w H s.heap) (h1 : ts.all (eqOk n) = true) (h2 : us.all (eqOk n) = true)
    (ih : ∀ (t t' : T) (u u' : Value), eqOk n t = true → eqOk n t' = true → Shp P w H s.heap t u → Shp P w H s.heap t' u' → SeqAt.EqAt A s u u' (eqT t t')) :
    ∀ (j : Nat) (g1 : j < its.toArray.size) (g2 : j < its2.toArray.size), SeqAt.EqAt A s its.toArray[j] its2.toArray[j] (eAt ts us j) := by
  intro j g1 g2
  have g1' : j < its.length := by simpa using g1
  have g2' : j < its2.length := by simpa using g2
  have l1 : j < vs.length := by rw [r1.length]; exact g1'
  have l2 : j < ws.length := by rw [r2.length]; exact g2'
  obtain ⟨u, hu, ru⟩ := r1.get (List.getElem?_eq_getElem l1)
  obtain ⟨u', hu', ru'⟩ := r2.get (List.getElem?_eq_getElem l2)
  obtain ⟨t, ht, it⟩ := i1.get (List.getElem?_eq_getElem l1)
  obtain ⟨t', ht', it'⟩ := i2.get (List.getElem?_eq_getElem l2)
  have e1 : its.toArray[j] = u := by
    rw [List.getElem?_eq_getElem g1'] at hu
    simpa using hu
  have e2 : its2.toArray[j] = u' := by
    rw [List.getElem?_eq_getElem g2'] at hu'
    simpa using hu'
  have e3 : eAt ts us j = eqT t t' := by unfold eAt; rw [List.getD_eq_getElem?_getD, List.getD_eq_getElem?_getD, ht, ht']; rfl
  rw [e1, e2, e3]
  exact ih t t' u u' (List.all_eq_true.mp h1 t (List.mem_of_getElem? ht)) (List.all_eq_true.mp h2 t' (List.mem_of_getElem? ht')) (it.shp ru ok) (it'.shp ru' ok)
theorem len_vals {ts : List T} {vs : List V} {its : List Value} (i : IsL H vs ts) (r : Vals vs its) : its.toArray.size = ts.length := by
  rw [List.size_toArray, ← r.length, i.length]
open SeqAt in
theorem rc_tup {s : Shared} {A : Around} {n : Nat} {ts us : List T} {a b : Addr} {vs ws : List V} {its its2 : List Value} (i1 : IsL H vs ts) (i2 : IsL H ws us) (r1 : Vals vs its) (r2 : Vals ws its2) (ok : HOk P w H s.heap) (h1 : ts.all (eqOk n) = true) (h2 : us.all (eqOk n) = true)
    (hl : s.heap.IsTuple a its.toArray) (hb : s.heap.IsTuple b its2.toArray) (hu : A.units < cLine) (ih : ∀ (t t' : T) (u u' : Value), eqOk n t = true → eqOk n t' = true → Shp P w H s.heap t u → Shp P w H s.heap t' u' → EqAt A.in1 s u u' (eqT t t')) :
    RcAt A s (.ref a) (.ref b) (eqL ts us) ∧ RcNeAt A s (.ref a) (.ref b) (!eqL ts us) := by
  have key := items_at i1 i2 r1 r2 ok h1 h2 ih
  have l1 := len_vals i1 r1
  have l2 := len_vals i2 r2
  have k1 := RcAt.tuples hl hb hu key
  have k2 := RcNeAt.tuples hl hb hu key
  rw [l1, l2, eAt_range] at k1 k2
  exact ⟨k1, k2⟩
open SeqAt in
theorem rc_lst {s : Shared} {A : Around} {n : Nat} {ts us : List T} {a b : Addr} {vs ws : List V} {its its2 : List Value} (i1 : IsL H vs ts) (i2 : IsL H ws us) (r1 : Vals vs its) (r2 : Vals ws its2) (ok : HOk P w H s.heap) (h1 : ts.all (eqOk n) = true) (h2 : us.all (eqOk n) = true)
    (hl : s.heap.IsList a its.toArray) (hb : s.heap.IsList b its2.toArray) (hu : A.units < cLine) (ih : ∀ (t t' : T) (u u' : Value), eqOk n t = true → eqOk n t' = true → Shp P w H s.heap t u → Shp P w H s.heap t' u' → EqAt A.in1 s u u' (eqT t t')) :
    RcAt A s (.ref a) (.ref b) (eqL ts us) ∧ RcNeAt A s (.ref a) (.ref b) (!eqL ts us) := by
  have key := items_at i1 i2 r1 r2 ok h1 h2 ih
  have l1 := len_vals i1 r1
  have l2 := len_vals i2 r2
  by_cases hz : ts.length = us.length
  · have k1 := RcAt.lists hl hb (by rw [l1, l2, hz]) hu key
    have k2 := RcNeAt.lists hl hb (by rw [l1, l2, hz]) hu key
    have e := eAt_range ts us
    rw [hz, Nat.min_self, beq_self_eq_true, Bool.and_true] at e
    rw [l1, hz, e] at k1 k2
    exact ⟨k1, k2⟩
  · rw [eqL_len hz]
    have hb' : (its.toArray.size != its2.toArray.size) = true := by rw [l1, l2]; simpa using hz
    exact ⟨RcAt.lists_lengths hl hb hb' hu, RcNeAt.lists_lengths hl hb hb' hu⟩
open SeqAt in
theorem eq_shp : ∀ (n : Nat) {s : Shared} {A : Around}, HOk P w H s.heap → A.units + n < cLine → ∀ (t t' : T) (u u' : Value), eqOk n t = true → eqOk n t' = true → Shp P w H s.heap t u → Shp P w H s.heap t' u' → EqAt A s u u' (eqT t t') := by
  intro n
  induction n with
  | zero =>
    intro s A ok hu t t' u u' h1 h2 s1 s2
    cases s1 with
    | dct => simp [eqOk] at h1
    | tup j1 i1 r1 p1 => simp [eqOk] at h1
    | lst j1 i1 r1 p1 => simp [eqOk] at h1
    | non =>
      cases s2 with
      | dct => simp [eqOk] at h2
      | tup j2 i2 r2 p2 => simp [eqOk] at h2
      | lst j2 i2 r2 p2 => simp [eqOk] at h2
      | non => simp only [eqT]; exact EqAt.same _
      | bl b => simp only [eqT]; exact EqAt.none_bool  b
      | int i t => simp only [eqT]; exact EqAt.none_int  i t
      | str x t => simp only [eqT]; exact EqAt.none_str  x t
    | bl c =>
      cases s2 with
      | dct => simp [eqOk] at h2
      | tup j2 i2 r2 p2 => simp [eqOk] at h2
      | lst j2 i2 r2 p2 => simp [eqOk] at h2
      | non => simp only [eqT]; exact EqAt.bool_none c
      | bl b => simp only [eqT]; exact EqAt.bool_bool c b
      | int i t => simp only [eqT]; exact EqAt.bool_int c i t
      | str x t => simp only [eqT]; exact EqAt.bool_str c x t
    | int c ct =>
      cases s2 with
      | dct => simp [eqOk] at h2
      | tup j2 i2 r2 p2 => simp [eqOk] at h2
      | lst j2 i2 r2 p2 => simp [eqOk] at h2
      | non => simp only [eqT]; exact EqAt.int_none c ct
      | bl b => simp only [eqT]; exact EqAt.int_bool c ct b
      | int i t => simp only [eqT]; exact EqAt.int_int c ct i t
      | str x t => simp only [eqT]; exact EqAt.int_str c ct x t
    | str c ct =>
      cases s2 with
      | dct => simp [eqOk] at h2
      | tup j2 i2 r2 p2 => simp [eqOk] at h2
      | lst j2 i2 r2 p2 => simp [eqOk] at h2
      | non => simp only [eqT]; exact EqAt.str_none c ct
      | bl b => simp only [eqT]; exact EqAt.str_bool c ct b
      | int i t => simp only [eqT]; exact EqAt.str_int c ct i t
      | str x t => simp only [eqT]; exact EqAt.str_str c ct x t
  | succ n ih =>
    intro s A ok hu t t' u u' h1 h2 s1 s2
    have hu0 : A.units < cLine := by omega
    have ih' := ih (s := s) (A := A.in1) ok (by show A.units + 1 + n < cLine; omega)
    cases s1 with
    | dct => simp [eqOk] at h1
    | tup j1 i1 r1 p1 =>
      have g1 := h1
      rw [eqOk] at g1
      cases s2 with
      | dct => simp [eqOk] at h2
      | tup j2 i2 r2 p2 =>
        have g2 := h2
        rw [eqOk] at g2
        rename_i a vs ts its b ws us its2
        by_cases hab : a = b
        · subst hab
          rw [is_eq (n + 1) j1 j2 h1 h2]
          exact EqAt.same _
        · rw [eqT]
          exact EqAt.of_refs hab (rc_tup i1 i2 r1 r2 ok g1 g2 p1 p2 hu0 ih').1
      | lst j2 i2 r2 p2 => simp only [eqT]; exact EqAt.tuple_list p1 p2 hu0
      | non => simp only [eqT]; exact EqAt.tuple_none p1 hu0
      | bl b => simp only [eqT]; exact EqAt.tuple_bool b p1 hu0
      | int i t => simp only [eqT]; exact EqAt.tuple_int i t p1 hu0
      | str x t => simp only [eqT]; exact EqAt.tuple_str x t p1 hu0
    | lst j1 i1 r1 p1 =>
      have g1 := h1
      rw [eqOk] at g1
      cases s2 with
      | dct => simp [eqOk] at h2
      | lst j2 i2 r2 p2 =>
        have g2 := h2
        rw [eqOk] at g2
        rename_i a vs ts its b ws us its2
        by_cases hab : a = b
        · subst hab
          rw [is_eq (n + 1) j1 j2 h1 h2]
          exact EqAt.same _
        · rw [eqT]
          exact EqAt.of_refs hab (rc_lst i1 i2 r1 r2 ok g1 g2 p1 p2 hu0 ih').1
      | tup j2 i2 r2 p2 => simp only [eqT]; exact EqAt.list_tuple p1 p2 hu0
      | non => simp only [eqT]; exact EqAt.list_none p1 hu0
      | bl b => simp only [eqT]; exact EqAt.list_bool b p1 hu0
      | int i t => simp only [eqT]; exact EqAt.list_int i t p1 hu0
      | str x t => simp only [eqT]; exact EqAt.list_str x t p1 hu0
    | non =>
      cases s2 with
      | dct => simp [eqOk] at h2
      | tup j2 i2 r2 p2 => simp only [eqT]; exact EqAt.none_tuple p2 hu0
      | lst j2 i2 r2 p2 => simp only [eqT]; exact EqAt.none_list p2 hu0
      | non => simp only [eqT]; exact EqAt.same _
      | bl b => simp only [eqT]; exact EqAt.none_bool b
      | int i t => simp only [eqT]; exact EqAt.none_int i t
      | str x t => simp only [eqT]; exact EqAt.none_str x t
    | bl c =>
      cases s2 with
      | dct => simp [eqOk] at h2
      | tup j2 i2 r2 p2 => simp only [eqT]; exact EqAt.bool_tuple c p2 hu0
      | lst j2 i2 r2 p2 => simp only [eqT]; exact EqAt.bool_list c p2 hu0
      | non => simp only [eqT]; exact EqAt.bool_none c
      | bl b => simp only [eqT]; exact EqAt.bool_bool c b
      | int i t => simp only [eqT]; exact EqAt.bool_int c i t
      | str x t => simp only [eqT]; exact EqAt.bool_str c x t
    | int c ct =>
      cases s2 with
      | dct => simp [eqOk] at h2
      | tup j2 i2 r2 p2 => simp only [eqT]; exact EqAt.int_tuple c ct p2 hu0
      | lst j2 i2 r2 p2 => simp only [eqT]; exact EqAt.int_list c ct p2 hu0
      | non => simp only [eqT]; exact EqAt.int_none c ct
      | bl b => simp only [eqT]; exact EqAt.int_bool c ct b
      | int i t => simp only [eqT]; exact EqAt.int_int c ct i t
      | str x t => simp only [eqT]; exact EqAt.int_str c ct x t
    | str c ct =>
      cases s2 with
      | dct => simp [eqOk] at h2
      | tup j2 i2 r2 p2 => simp only [eqT]; exact EqAt.str_tuple c ct p2 hu0
      | lst j2 i2 r2 p2 => simp only [eqT]; exact EqAt.str_list c ct p2 hu0
      | non => simp only [eqT]; exact EqAt.str_none c ct
      | bl b => simp only [eqT]; exact EqAt.str_bool c ct b
      | int i t => simp only [eqT]; exact EqAt.str_int c ct i t
      | str x t => simp only [eqT]; exact EqAt.str_str c ct x t
end
section
variable {X : Cx}
/-- x == y, x != y of things, each a tuple or each a list -/
def rEqT (neg : Bool) : R2 := fun x y H Q => ∃ t t', Is H x t ∧ Is H y t' ∧ eqOk 50 t = true ∧ eqOk 50 t' = true ∧ ((∃ ts us, t = .tup ts ∧ t' = .tup us) ∨ ∃ ts us, t = .lst ts ∧ t' = .lst us) ∧ Q (.bl (if neg then !eqT t t' else eqT t t')) H
theorem rc_things (hu : X.A.units + 64 < cLine) {pins : List (Addr × Obj)} {σ : St} {H : Hp} {s : Shared} (I : Inv X pins σ H s) {x y : V} {v u : Value} {t t' : T} (rx : RelV x v) (ry : RelV y u) (i : Is H x t) (j : Is H y t') (h1 : eqOk 50 t = true) (h2 : eqOk 50 t' = true)
    (hk : (∃ ts us, t = .tup ts ∧ t' = .tup us) ∨ ∃ ts us, t = .lst ts ∧ t' = .lst us) : SeqAt.RcAt X.A s v u (eqT t t') ∧ SeqAt.RcNeAt X.A s v u (!eqT t t') := by
  have ih := eq_shp 49 (A := X.A.in1) (P := X.prog) (w := X.w) I.hok (by show X.A.units + 1 + 49 < cLine; omega)
  have s1 := i.shp rx I.hok
  have s2 := j.shp ry I.hok
  rcases hk with ⟨ts, us, rfl, rfl⟩ | ⟨ts, us, rfl, rfl⟩
  · rw [eqOk] at h1 h2
    rw [eqT]
    cases s1 with
    | tup j1 i1 r1 p1 =>
      cases s2 with
      | tup j2 i2 r2 p2 => exact rc_tup i1 i2 r1 r2 I.hok h1 h2 p1 p2 (by omega) ih
  · rw [eqOk] at h1 h2
    rw [eqT]
    cases s1 with
    | lst j1 i1 r1 p1 =>
      cases s2 with
      | lst j2 i2 r2 p2 => exact rc_lst i1 i2 r1 r2 I.hok h1 h2 p1 p2 (by omega) ih
theorem o_eqT (hu : X.A.units + 64 < cLine) : QOp X (compareOp .Eq) (rEqT false) := ⟨by
  intro pins s σ H x y v u Q I rx ry q
  obtain ⟨t, t', i, j, h1, h2, hk, q⟩ := q
  exact (rc_things hu I rx ry i j h1 h2 hk).1 _ _ _ _ ⟨.bl _, H, I, rfl, q⟩⟩
theorem o_neT (hu : X.A.units + 64 < cLine) : QOp X (compareOp .NotEq) (rEqT true) := ⟨by
  intro pins s σ H x y v u Q I rx ry q
  obtain ⟨t, t', i, j, h1, h2, hk, q⟩ := q
  exact (rc_things hu I rx ry i j h1 h2 hk).2 _ _ _ _ ⟨.bl _, H, I, rfl, q⟩⟩
end
end L2

set_option Elab.async false
set_option linter.all false
set_option maxRecDepth 100000
/-! What an except's suite asks: isinstance of an exception; count and index of a list; defs called there. -/
namespace L2
open PySem PySem.Spec PyProof.Rows
/-! ### isinstance of an exception of a class of one's own -/
section
open PySem.W
theorem exc_find {prog : Program} {w : World} {A : Around} {E : Value → Shared → Prop} {s : Shared} {K : Frag} {x D : Addr} {ox : Obj} {od : Option Obj} {name : Str} {fill xp : Bool} {Q : Value → Shared → Prop} {tk : Tok} {r : Value}
    (X : K.In s.heap) (I : InstAt s.heap x ox D od) (hga : findIn K (.ref D) "__getattribute__" = some (some (.builtin "BaseException.__getattribute__"))) (hgt : findIn K (.ref D) "__getattr__" = some none) (hbe : mroIn K D (.type "BaseException") = some true)
    (h : ∀ (A : Around) (E : Value → Shared → Prop) (R : Value → Shared → Prop), R r s → wpAny (model prog w) A (Builtin.«object.__getattribute__» ⟨[.ref x, .str name tk], []⟩) (fun fin s' => ∃ v, fin = .done (.ret v) ∧ R v s') E s) (hh : handedIn r = true) (hq : Q r s) :
    wpAny (model prog w) A (getAttrBy (.ref x) (.str name tk) fill xp) Q E s := by
  obtain ⟨hp, g, d, t, os⟩ := s
  have L0 := I.type (M := model prog w)
  have L1 := looks_findIn (M := model prog w) X hga
  have L2 := looks_findIn (M := model prog w) X hgt
  have L3 := looks_mroIn (M := model prog w) X hbe
  have ne : (onTheHeap (Value.ref D) && Value.builtin "BaseException.__getattribute__" == Value.builtin "object.__getattribute__") = false := by
    rw [show (Value.builtin "BaseException.__getattribute__" == Value.builtin "object.__getattribute__") = false from by decide +kernel, Bool.and_false]
  have bnd := F.excAttr_ValueError.ga.bind (.ref x)
  unfold getAttrBy
  refine wpAny_holding (wpAny_bind (L0.at (wpAny_bind (L1.at ?_))))
  show wpAny _ _ (if (onTheHeap (Value.ref D) && Value.builtin "BaseException.__getattribute__" == Value.builtin "object.__getattribute__") = true then _ else _) _ _ _
  rw [ne, if_neg Bool.false_ne_true]
  unfold getAttrByItsOwn hookBefore
  rw [show onTheHeap (Value.ref D) = true from rfl, if_pos rfl]
  refine wpAny_bind (L2.at (wpAny_bind (wpAny_attempt (wpAny_holding ?_))))
  unfold callGetattribute
  rw [if_neg (by cases xp <;> decide)]
  unfold boundAndCalled
  refine wpAny_bind (wpAny_of_eq bnd ?_)
  have chk : ∀ (A : Around) (E : Value → Shared → Prop) (Q : Unit → Shared → Prop), Q () ⟨hp, g, d, t, os⟩ → wpAny (model prog w) A (checkBuiltinCall "BaseException.__getattribute__" ⟨[.ref x, .str name tk], []⟩) Q E ⟨hp, g, d, t, os⟩ := fun A E Q hq => by
    have k1 : builtinKind "BaseException.__getattribute__" = some .slot := by decide +kernel
    have k2 : splitId "BaseException.__getattribute__" = some ("BaseException", "__getattribute__") := by decide +kernel
    have k3 := F.args_bexc_ga (.ref x) (.str name tk)
    simp only [checkBuiltinCall, k1, k2]
    refine wpAny_bind ?_
    unfold isInstance
    refine wpAny_bind (L0.at (L3.at ?_))
    repeat wp_step
    exact hq
  refine wpAny_call (codeAny_call_builtin F.excAttr_ValueError.ga.plain F.entry_bexc_ga (chk _ _ _ ?_))
  refine wpAny_mono (h _ _ (fun v s' => v = r ∧ s' = ⟨hp, g, d, t, os⟩) ⟨rfl, rfl⟩) (fun fin s' z => ?_) fun _ _ z => z
  obtain ⟨v, rfl, rfl, rfl⟩ := z
  exact handed_on hh hq
theorem exc_class {prog : Program} {w : World} {A : Around} {E : Value → Shared → Prop} {s : Shared} {K : Frag} {x D : Addr} {ox : Obj} {od : Option Obj} {Q : Fin → Shared → Prop} {tk : Tok}
    (X : K.In s.heap) (I : InstAt s.heap x ox D od) (hf : findObj K D od "__class__" = some (.bind (.builtin "getset_descriptor.__get__") (.builtin "object.__class__"))) (hm : mroIn K D (.type "object") = some true) (hq : Q (.done (.ret (.ref D))) s) :
    wpAny (model prog w) A (Builtin.«object.__getattribute__» ⟨[.ref x, .str "__class__" tk], []⟩) Q E s := by
  obtain ⟨hp, g, d, t, os⟩ := s
  have L0 := I.type (M := model prog w)
  have L1 := looks_find (M := model prog w) X I hf
  unfold Builtin.«object.__getattribute__»
  repeat (first | with_reducible refine L0.at ?_ | with_reducible refine L1.at ?_ | wp_step)
  exact class_get (ox := ox) (od := od) X I hm (wpAny_pure hq)
end
def xcOk (K : PySem.W.Frag) (D : Addr) : Bool := PySem.W.findIn K (.ref D) "__getattribute__" == some (some (.builtin "BaseException.__getattribute__")) && PySem.W.findIn K (.ref D) "__getattr__" == some none && PySem.W.mroIn K D (.type "BaseException") == some true && (PySem.W.clsIn K D).isSome && PySem.W.findIn K (.ref D) "__class__" == some (some (.builtin "object.__class__")) &&
  PySem.W.specialIn K (.builtin "object.__class__") "__get__" == some (some (.builtin "getset_descriptor.__get__")) && PySem.W.takesIn K (.builtin "object.__class__") == some true && PySem.W.mroIn K D (.type "object") == some true
theorem cls_load {K : PySem.W.Frag} {h : Heap} {D : Addr} (X : K.In h) (hc : (PySem.W.clsIn K D).isSome = true) : ∃ c d cd sl, h.get? D = some ⟨c, d, .cls cd, sl⟩ := by
  unfold PySem.W.clsIn at hc
  split at hc
  · rename_i c d cd sl look
    exact ⟨c, d, cd, sl, X _ _ look⟩
  · cases hc
theorem kitx_exc {K : PySem.W.Frag} {x D : Addr} (hk : xcOk K D = true) : PySem.W.KitX K (.ref x) (.ref D) (fun h => ∃ ox od, PySem.W.InstAt h x ox D od) := by
  unfold xcOk at hk
  simp only [Bool.and_eq_true, beq_iff_eq] at hk
  obtain ⟨⟨⟨⟨⟨⟨⟨k1, k7⟩, k8⟩, k2⟩, k3⟩, k4⟩, k5⟩, k6⟩ := hk
  refine ⟨fun _ _ _ ⟨ox, od, I⟩ => I.type, fun M h X _ => ?_, fun h tp dd its n sl X htp => ?_, fun {prog w A E Q s} X ⟨ox, od, I⟩ k => ?_⟩
  · obtain ⟨c, d, cd, sl, ho⟩ := cls_load X k2
    intro A' Q' E' s' kp q
    unfold isType loadHead
    exact wpAny_bind (wpAny_loadPart (kp _ _ ho) (wpAny_pure q))
  · obtain ⟨c, d, cd, sl', ho⟩ := cls_load X k2
    refine Bool.eq_false_iff.mpr fun q => ?_
    have e : D = tp := Value.ref.inj (beq_iff_eq.mp q)
    subst e
    rw [ho] at htp
    cases htp
  · have hf : PySem.W.findObj K D od "__class__" = some (.bind (.builtin "getset_descriptor.__get__") (.builtin "object.__class__")) := by
      obtain ⟨cd, hc⟩ := Option.isSome_iff_exists.mp k2
      unfold PySem.W.findObj
      rw [hc, Option.bind_some, k3, Option.bind_some]
      simp [k4, k5]
    unfold getAttr? getAttrBy?
    refine wpAny_bind (wpAny_mkText (wpAny_bind (wpAny_attempt (exc_find (s := { s with toks := s.toks + 1 }) X I k1 k7 k8 (fun A E R hr => ?_) rfl (wpAny_pure k)))))
    exact exc_class (s := { s with toks := s.toks + 1 }) X I hf k6 ⟨_, rfl, hr⟩
/-- a class as a value -/
def valC : V → Value
  | .ref a => .ref a
  | .ty n => .type n
  | _ => .none
def rInstX (K : PySem.W.Frag) : List V → Hp → VK → Prop := fun xs H Q => ∃ a C1 dx c b, xs = [.ref a, c] ∧ H a = some (ExcO a (.ref C1) dx) ∧ (∀ d, dx = some d → ∃ fs, H d = some (.xd fs)) ∧ xcOk K C1 = true ∧ ((∃ C, c = .ref C) ∨ ∃ n, c = .ty n) ∧ PySem.W.kitOne K (.ref C1) (valC c) = some b ∧ Q (.bl b) H
section
variable {X : Cx}
theorem call_instX : CallR X (.builtin "isinstance") (rInstX X.K) := by
  intro pins s σ H xs us Q I r h
  obtain ⟨a, C1, dx, c, b, rfl, ha, hdx, hk, hc, e, q⟩ := h
  obtain ⟨u, w', rfl, rx, ry⟩ := vals2 r
  cases rx
  have ew : w' = valC c := by
    rcases hc with ⟨C, rfl⟩ | ⟨n, rfl⟩
    · exact ry
    · exact ry
  subst ew
  obtain ⟨⟨o, vs, ho, h1, h2, h3⟩, _⟩ := (show ObjOk X.prog X.w H s.heap a (ExcO a (.ref C1) dx) from I.hok a _ ha)
  have hod : ∃ od : Option Obj, (dx = none ∧ od = none) ∨ ∃ d u, dx = some d ∧ od = some u ∧ s.heap.get? d = some u := by
    cases e0 : dx with
    | none => exact ⟨none, .inl ⟨rfl, rfl⟩⟩
    | some d =>
      obtain ⟨fs, hf⟩ := hdx d e0
      obtain ⟨mA, ⟨od, _, _, e1, _⟩, _⟩ := (show ObjOk X.prog X.w H s.heap d (.xd fs) from I.hok d _ hf)
      exact ⟨some od, .inr ⟨d, od, rfl, rfl, e1⟩⟩
  obtain ⟨od, hod⟩ := hod
  refine PySem.W.kia_one (kitx_exc hk) I.kIn ⟨o, od, ho, h1, ?_, ?_⟩ e (fun z => nomatch z) fun tk => ⟨.bl b, H, I.tok _, rfl, q⟩
  · unfold PySem.W.notCls; rw [h3]
  · rw [h2]
    rcases hod with ⟨rfl, rfl⟩ | ⟨d, u, rfl, rfl, e1⟩
    · trivial
    · exact e1
theorem c_instX (K : PySem.W.Frag) (hK : X.K = K) : QCl X (.builtin "isinstance") (rInstX K) := ⟨by subst hK; exact call_instX⟩
/-! ### count, index of a list of truths -/
def rCountB (K : PySem.W.Frag) : V → List V → Hp → VK → Prop := fun x vs H Q => ∃ (l : Addr) (bs : List Bool) (b : Bool), x = .ref l ∧ vs = [.bl b] ∧ H l = some (.lst (bs.map V.bl)) ∧ Q (.int (bs.count b : Nat)) H
theorem vals_bl : ∀ {bs : List Bool} {us : List Value}, Vals (bs.map V.bl) us → us = bs.map Value.bool
  | [], _, .nil => rfl
  | b :: bs, _, .cons r t => by cases r; rw [vals_bl t]; rfl
noncomputable def isB (b : Bool) (v : Value) : Bool := match v with
  | .bool c => c == b
  | _ => false
theorem count_bl (b : Bool) : ∀ bs : List Bool, (bs.map Value.bool).countP (isB b) = bs.count b
  | [] => rfl
  | c :: bs => by
    rw [List.map_cons, List.countP_cons, count_bl b bs, List.count_cons]
    rfl
theorem mt_countB : MtM X "list.count" (rCountB X.K) := by
  intro pins s σ H x vs v us Q I rx rv h
  obtain ⟨l, bs, b, rfl, rfl, hH, q⟩ := h
  cases rx
  obtain ⟨u, rfl, ru⟩ := rv.one
  cases ru
  obtain ⟨z, its, n, r, hl, e⟩ := I.lstM hH
  have ei := vals_bl r
  subst ei
  refine call_meets F.slot_list_count ⟨_, e, rfl⟩ F.entry_list_count (F.args_list_count_2 _ _) (SeqAt.list_countAt l _ n none #[] (.bool b) (isB b)) ⟨e, fun y hy => ?_, ?_⟩
  · have hy : y ∈ bs.map Value.bool := by simpa using hy
    obtain ⟨c, _, rfl⟩ := List.mem_map.mp hy
    exact SeqAt.EqAt.bool_bool c b
  · have ec : List.countP (isB b) (bs.map Value.bool).toArray.toList = bs.count b := by rw [List.toList_toArray]; exact count_bl b bs
    rw [ec]
    exact ⟨.int _, H, I.tok _, ⟨_, rfl⟩, q⟩
def rIndexB (K : PySem.W.Frag) : V → List V → Hp → VK → Prop := fun x vs H Q => ∃ (l : Addr) (bs : List Bool) (b : Bool) (j : Nat), x = .ref l ∧ vs = [.bl b] ∧ H l = some (.lst (bs.map V.bl)) ∧ bs.length ≤ 1000 ∧ bs[j]? = some b ∧ (∀ m, m < j → bs[m]? ≠ some b) ∧ Q (.int (j : Nat)) H
theorem mt_indexB : MtM X "list.index" (rIndexB X.K) := by
  intro pins s σ H x vs v us Q I rx rv h
  obtain ⟨l, bs, b, j, rfl, rfl, hH, hz, hj, hno, q⟩ := h
  cases rx
  obtain ⟨u, rfl, ru⟩ := rv.one
  cases ru
  obtain ⟨z, its, n, r, hl, e⟩ := I.lstM hH
  have ei := vals_bl r
  subst ei
  have hjl : j < bs.length := (List.getElem?_eq_some_iff.mp hj).1
  refine call_meets F.slot_list_index ⟨_, e, rfl⟩ F.entry_list_index (F.args_list_index_2 _ _) (SeqAt.list_indexAt l _ n none #[] (.bool b) (isB b) j (by simpa using hjl) (by omega) ?_ ?_) ⟨e, fun y hy => ?_, ⟨.int _, H, I.tok _, ⟨_, rfl⟩, q⟩⟩
  · have e1 : bs[j] = b := by rw [List.getElem?_eq_getElem hjl] at hj; exact Option.some.inj hj
    simp [isB, e1]
  · intro m hm hmj
    have hml : m < bs.length := by simpa using hm
    have e1 : bs[m] ≠ b := fun z => hno m hmj (by rw [List.getElem?_eq_getElem hml, z])
    simp [isB, e1]
  · have hy : y ∈ bs.map Value.bool := by simpa using hy
    obtain ⟨c, _, rfl⟩ := List.mem_map.mp hy
    exact SeqAt.EqAt.bool_bool c b
theorem m_countB (K : PySem.W.Frag) (hK : X.K = K) : QMt X "list.count" (rCountB K) := ⟨by subst hK; exact mt_countB⟩
theorem m_indexB (K : PySem.W.Frag) (hK : X.K = K) : QMt X "list.index" (rIndexB K) := ⟨by subst hK; exact mt_indexB⟩
end
/-! ### defs called within an except's suite -/
def HasH (P : Program) (w : World) (K : PySem.W.Frag) (mg : Str → Option Value) (base : Heap) (x : Str) (ps : List Str) (k : Nat) (sp : Sp) : Prop :=
  ∃ f fd, PySem.W.keepIn K (.ref f) = true ∧ mg x = some (.ref f) ∧ Binds K fd ps [] ∧ FnOkH P w K mg base CX0 k f fd ps sp
section
variable {P : Program} {w : World} {K : PySem.W.Frag} {mg : Str → Option Value} {base : Heap}
theorem hasH_q {x : Str} {st : Stmt} {N ps : List Str} {k : Nat} {sp : Sp} (d : Dfn K mg x st) (S : FnScope N ps (defScope st)) (bd : BindOk x st ps) (len : ∀ vs H Q E, sp vs H Q E → vs.length = ps.length)
    (hbody : ∀ (f : Addr) (cdv : Value) (A : Around) (outer : List Env) (s : Shared) (H : Hp) (vs : List V) (Q : VK) (E : XK), RoomH k (A.deeper (envOfC x (defScope st) s.heap.objs.size f cdv)) → sp vs H Q E →
      ∃ t, QB (cxOfH CX0 P w K mg base N x (defScope st) f cdv A outer s H E).nox (defBody st) t ∧ t { nx := fun _ H' => Q .non H', rt := Q } (start N vs) H) : HasH P w K mg base x ps (k + 1) sp := by
  obtain ⟨f, fd, F, m⟩ := d.ex
  refine ⟨f, fd, F.kp, m, F.binds bd, ?_⟩
  obtain ⟨oc, od, kV, doc, pm, an, cdv, ct, osl, rfl, lk, hcd⟩ := F.ex
  refine fn_ofH lk hcd S len fun A outer s H vs Q E hr hsp => ?_
  obtain ⟨t, h, q⟩ := hbody f cdv A outer s H vs Q E hr hsp
  exact ⟨t, h.h.nox, q⟩
end
section
variable {X : Cx} {x : Str} {ps : List Str} {k : Nat} {sp : Sp} {e : Expr} {es : List Expr} {t : TA} {p pos : Pos}
theorem q_fnH (h : HasH X.prog X.w X.K X.mg X.base x ps k sp) (hr : RoomH k X.A) (ha : QA X (e :: es) t) (hg : Gl X x := by rfl)
    (hdb : (x == ("__debug__" : Str)) = false := by decide) (he : starEach (e :: es) X.env = (false, eval e X.env) :: starEach es X.env := by rfl) (hpl : (backTo pos (starEach es X.env)).any (·.1) = false := by rfl) :
    QE X (.Call (.Name x p) (e :: es) [] pos) (tCall sp [] E0 t) := by
  obtain ⟨f, fd, kp, m, b, F⟩ := h
  refine ⟨fun pins s σ H Q I hq => ?_⟩
  refine wpAny_Call_Name_kw (ld_glob I hg m ?_ hdb)
  refine PySem.W.callWith_K (h₀ := X.base) I.ok.mod.kin kp (thn (ha.h pos pins s σ H _ I hq) fun us s1 ⟨vs, H1, I1, r, q⟩ => ⟨I1.kIn, ?_⟩) he hpl
  have q2 : sp vs H1 Q E0 := by
    have q : sp (vs ++ []) H1 Q E0 := q
    rw [List.append_nil] at q
    exact q
  have hl : (us ++ []).length = ps.length := by rw [List.append_nil, ← r.length]; exact F.len _ _ _ _ q2
  have r2 : Vals vs (us ++ []) := by rw [List.append_nil]; exact r
  refine wpAny_call (codeAny_mono (F.run X.A X.stack s1 H1 ⟨us, []⟩ (us ++ []) vs Q _ hr I1.env0 (b s1 us I1.kIn hl) r2 q2) fun rr s' hq' => ?_)
  cases rr with
  | error ev => exact False.elim hq'
  | ok fl =>
    cases fl with
    | ret u => exact I1.after hq'
    | next => exact False.elim hq'
    | brk => exact False.elim hq'
    | cont => exact False.elim hq'
end
/-! ### the classes of the refusals -/
def cad (mg : Str → Option Value) (x : Str) : Addr := match mg x with
  | some (.ref a) => a
  | _ => 0
def bmV : List Value := [.type "ValueError", .type "Exception", .type "BaseException", .type "object"]
def xNames : List Str := ["NoTable", "NoWay", "NoSet", "NoRest", "NoLine", "NoRow", "NoTables", "Below", "NoText", "TooGreat"]
def exsOk (K : PySem.W.Frag) (c0 : Addr) (cs : List Addr) : Bool :=
  PySem.W.excIn K c0 bmV "ValueError.__new__" && (cs.take 6).all (fun c => PySem.W.excIn K c bmV "ValueError.__new__") && cs.all (fun c => xcOk K c && PySem.W.mroIn K c (.ref c0) == some true && PySem.W.kitOne K (.ref c) (.type "ValueError") == some true) &&
    cs.zipIdx.all (fun p => cs.zipIdx.all fun q => PySem.W.kitOne K (.ref p.1) (.ref q.1) == some (p.2 == q.2))
structure Exs (K : PySem.W.Frag) (mg : Str → Option Value) : Prop where
  m0 : mg "NoughtError" = some (.ref (cad mg "NoughtError"))
  m : ∀ (i : Nat) (x : Str), xNames[i]? = some x → mg x = some (.ref (cad mg x))
  ok : exsOk K (cad mg "NoughtError") (xNames.map (cad mg)) = true
theorem cad_of {mg : Str → Option Value} {x : Str} {a : Addr} (h : mg x = some (.ref a)) : cad mg x = a := by unfold cad; rw [h]
theorem exs_mk {K : PySem.W.Frag} {mg : Str → Option Value} {h : Heap} {c0 c1 c2 c3 c4 c5 c6 c7 c8 c9 c10 : Addr} (X : K.In h) (G : h.Ns mainGlobals mg) (e0 : PySem.W.nsIn K mainGlobals "NoughtError" = some (some (.ref c0)))
    (e1 : PySem.W.nsIn K mainGlobals "NoTable" = some (some (.ref c1))) (e2 : PySem.W.nsIn K mainGlobals "NoWay" = some (some (.ref c2))) (e3 : PySem.W.nsIn K mainGlobals "NoSet" = some (some (.ref c3))) (e4 : PySem.W.nsIn K mainGlobals "NoRest" = some (some (.ref c4)))
    (e5 : PySem.W.nsIn K mainGlobals "NoLine" = some (some (.ref c5))) (e6 : PySem.W.nsIn K mainGlobals "NoRow" = some (some (.ref c6))) (e7 : PySem.W.nsIn K mainGlobals "NoTables" = some (some (.ref c7))) (e8 : PySem.W.nsIn K mainGlobals "Below" = some (some (.ref c8)))
    (e9 : PySem.W.nsIn K mainGlobals "NoText" = some (some (.ref c9))) (e10 : PySem.W.nsIn K mainGlobals "TooGreat" = some (some (.ref c10))) (ok : exsOk K c0 [c1, c2, c3, c4, c5, c6, c7, c8, c9, c10] = true) : Exs K mg := by
  have g0 := PySem.W.mg_of X G e0
  have g1 := PySem.W.mg_of X G e1
  have g2 := PySem.W.mg_of X G e2
  have g3 := PySem.W.mg_of X G e3
  have g4 := PySem.W.mg_of X G e4
  have g5 := PySem.W.mg_of X G e5
  have g6 := PySem.W.mg_of X G e6
  have g7 := PySem.W.mg_of X G e7
  have g8 := PySem.W.mg_of X G e8
  have g9 := PySem.W.mg_of X G e9
  have g10 := PySem.W.mg_of X G e10
  have em : xNames.map (cad mg) = [c1, c2, c3, c4, c5, c6, c7, c8, c9, c10] := by
    unfold xNames
    simp only [List.map_cons, List.map_nil]
    rw [cad_of g1, cad_of g2, cad_of g3, cad_of g4, cad_of g5, cad_of g6, cad_of g7, cad_of g8, cad_of g9, cad_of g10]
  refine ⟨by rw [cad_of g0]; exact g0, fun i x hx => ?_, by rw [em, cad_of g0]; exact ok⟩
  have ms := List.mem_of_getElem? hx
  unfold xNames at ms
  simp only [List.mem_cons, List.not_mem_nil, or_false] at ms
  rcases ms with rfl | rfl | rfl | rfl | rfl | rfl | rfl | rfl | rfl | rfl
  · rw [cad_of g1]; exact g1
  · rw [cad_of g2]; exact g2
  · rw [cad_of g3]; exact g3
  · rw [cad_of g4]; exact g4
  · rw [cad_of g5]; exact g5
  · rw [cad_of g6]; exact g6
  · rw [cad_of g7]; exact g7
  · rw [cad_of g8]; exact g8
  · rw [cad_of g9]; exact g9
  · rw [cad_of g10]; exact g10
section
variable {K : PySem.W.Frag} {mg : Str → Option Value}
theorem Exs.parts (ex : Exs K mg) : PySem.W.excIn K (cad mg "NoughtError") bmV "ValueError.__new__" = true ∧ (∀ c ∈ (xNames.map (cad mg)).take 6, PySem.W.excIn K c bmV "ValueError.__new__" = true) ∧
    (∀ c ∈ xNames.map (cad mg), xcOk K c = true ∧ PySem.W.mroIn K c (.ref (cad mg "NoughtError")) = some true ∧ PySem.W.kitOne K (.ref c) (.type "ValueError") = some true) ∧
    ∀ (i j : Nat) (c d : Addr), (xNames.map (cad mg))[i]? = some c → (xNames.map (cad mg))[j]? = some d → PySem.W.kitOne K (.ref c) (.ref d) = some (i == j) := by
  have h := ex.ok
  unfold exsOk at h
  simp only [Bool.and_eq_true, List.all_eq_true, beq_iff_eq] at h
  obtain ⟨⟨⟨h1, h2⟩, h3⟩, h4⟩ := h
  refine ⟨h1, h2, fun c hc => ⟨(h3 c hc).1.1, (h3 c hc).1.2, (h3 c hc).2⟩, fun i j c d hi hj => ?_⟩
  exact h4 (c, i) (List.mk_mem_zipIdx_iff_getElem?.mpr hi) (d, j) (List.mk_mem_zipIdx_iff_getElem?.mpr hj)
theorem Exs.nou (ex : Exs K mg) : PySem.W.excIn K (cad mg "NoughtError") bmV "ValueError.__new__" = true := ex.parts.1
theorem Exs.rz (ex : Exs K mg) (i : Nat) {x : Str} (hi : i < 6) (hx : xNames[i]? = some x) : PySem.W.excIn K (cad mg x) bmV "ValueError.__new__" = true := by
  refine ex.parts.2.1 _ (List.mem_of_getElem? (i := i) ?_)
  rw [List.getElem?_take_of_lt hi, List.getElem?_map, hx]
  rfl
theorem Exs.at (i : Nat) {x : Str} (hx : xNames[i]? = some x) : (xNames.map (cad mg))[i]? = some (cad mg x) := by rw [List.getElem?_map, hx]; rfl
theorem Exs.xc (ex : Exs K mg) (i : Nat) {x : Str} (hx : xNames[i]? = some x) : xcOk K (cad mg x) = true := (ex.parts.2.2.1 _ (List.mem_of_getElem? (Exs.at i hx))).1
theorem Exs.sub (ex : Exs K mg) (i : Nat) {x : Str} (hx : xNames[i]? = some x) : PySem.W.mroIn K (cad mg x) (.ref (cad mg "NoughtError")) = some true := (ex.parts.2.2.1 _ (List.mem_of_getElem? (Exs.at i hx))).2.1
theorem Exs.val (ex : Exs K mg) (i : Nat) {x : Str} (hx : xNames[i]? = some x) : PySem.W.kitOne K (.ref (cad mg x)) (.type "ValueError") = some true := (ex.parts.2.2.1 _ (List.mem_of_getElem? (Exs.at i hx))).2.2
theorem Exs.kit (ex : Exs K mg) (i j : Nat) {x y : Str} (hx : xNames[i]? = some x) (hy : xNames[j]? = some y) : PySem.W.kitOne K (.ref (cad mg x)) (.ref (cad mg y)) = some (i == j) := ex.parts.2.2.2 i j _ _ (Exs.at i hx) (Exs.at j hy)
end
/-- a class, a def as a value -/
theorem q_cls {X : Cx} {x : Str} {a : Addr} {pos : Pos} (m : X.mg x = some (.ref a)) (hg : Gl X x := by rfl) (hd : (x == ("__debug__" : Str)) = false := by decide) : QE X (.Name x pos) (tC (.ref a)) := ⟨pe_glob (v := .ref a) hg m rfl hd⟩
end L2

set_option Elab.async false
set_option linter.all false
set_option maxRecDepth 100000
/-! for i, x in enumerate(a list). -/
namespace L2
open PySem PySem.Spec PyProof.Rows
section
variable {X : Cx} {pins : List (Addr × Obj)} {σ : St} {H : Hp} {s : Shared} {h' : Heap}
theorem Inv.turnedL {t' : Nat} {fp : List Addr} (I : Inv X pins σ H s) (k : ∀ b o, b ∉ fp → s.heap.get? b = some o → h'.get? b = some o) (hf : ∀ b ∈ fp, FpOk X pins H b) : Inv X pins σ H { s with heap := h', toks := t' } := by
  have nit : ∀ b u, H b = some u → b ∉ fp := fun b u e z => by rw [(hf b z).1] at e; cases e
  refine I.step (g' := s.gens) (d' := s.drawn) (ch := fp) (fun b hb => ?_) (fun b o _ _ hc e _ => k b o hc e) (fun b o _ _ hc e _ => ⟨o.slots, k b o hc e⟩) (fun _ _ _ _ n => n)
    (fun b o hc e => ⟨o, k b o hc e⟩) (fun _ _ e => e) (fun _ _ _ e => e) (fun b ps e => ⟨#[], by rw [e]; simp⟩) (fun m hm => ?_) (fun b u e => ?_) I.bare
  · obtain ⟨_, f1, _, f3, f4, f5⟩ := hf b hb
    exact ⟨f3, f1, f4, f5⟩
  · obtain ⟨o, es, ep, ho, r⟩ := hm
    exact ⟨o, es, ep, k _ o (fun z => (hf _ z).2.1 rfl) ho, r⟩
  · refine (I.hok b u e).stay (fun c v hc q => k c v ?_ q) (fun _ q => q) fun _ _ q => q
    rcases hc with z | z
    · rw [z]; exact nit b u e
    · exact nit c _ z
end
/-- the list at a, with its places -/
def Ite (K : PySem.W.Frag) (a : Addr) : It :=
  ⟨fun i H => ∃ xs x, SqL K H a xs ∧ xs[i]? = some x, fun i H v H' => ∃ p x, v = .ref p ∧ H p = none ∧ (∀ xs, SqL K H a xs → xs[i]? = some x) ∧ H' = upd H p (.tup [.int (i : Nat), x]), fun i H => ∃ xs, SqL K H a xs ∧ xs.length ≤ i⟩
theorem turn_enum {P : Program} {w : World} {K : PySem.W.Frag} {es : List Expr} {x1} {tp : Pos} (a e it : Addr) (hne : e ≠ it) : Turn P w K (.Tuple es x1 tp) (Ite K a) [e, it] e (fun i h => (∃ old, IsEnum h e it ((i : Nat) : Int) old) ∧ h.IsListIter it a i) where
  mem := by simp
  obj := fun i h st b hb => by
    obtain ⟨⟨old, he⟩, o, ho, c, d⟩ := st
    have hb : b = e ∨ b = it := by simpa using hb
    rcases hb with rfl | rfl
    · exact ⟨_, he, fun v z => by
        have z' : Data.fields _ = Data.cell v := z
        cases z'⟩
    · exact ⟨o, ho, fun v z => by rw [d] at z; cases z⟩
  keep := fun i h h' st k => ⟨let ⟨old, he⟩ := st.1; ⟨old, k e (by simp) _ he⟩, st.2.at fun o q => k it (by simp) o q⟩
  item := by
    intro X hP hw hK hc i pins s σ H E I hf st hg
    subst hP hw hK
    obtain ⟨xs, x, hq, hx⟩ := hg
    obtain ⟨its, rv, p, hz⟩ := I.list hq
    obtain ⟨u, hu, ru⟩ := rv.get hx
    obtain ⟨⟨old, he⟩, hit⟩ := st
    have hel : e < s.heap.objs.size := Heap.lt_size he
    refine wpAny_pyNext_enum_item he hit p.isList (x := u) (by simpa using hu) hne fun h1 ho hit1 hT hsz hk => ⟨_, rfl, ?_⟩
    refine wpAny_letOwnedTupleGo_enum (s := { s with heap := h1, toks := s.toks + 1 }) ho fun h2 he2 hs2 => ?_
    have hs2 : Heap.SameBut e h1 h2 := hs2
    have hf0 : H s.heap.objs.size = none := I.hok.fresh (Nat.le_refl _)
    have I1 : Inv X pins σ (upd H s.heap.objs.size (.tup [.int (i : Nat), x])) { s with heap := s.heap.push { cls := .type "tuple", data := .seq #[.int (i : Nat) s.toks, u] }, toks := s.toks } :=
      I.laid (fun b o q => Heap.get?_push_of_some _ q) (Nat.le_refl _) ⟨by show 2 ≤ sizeLine; decide, [.int (i : Nat) s.toks, u], .cons ⟨_, rfl⟩ (.cons ru .nil), ⟨_, Heap.get?_push_size _ rfl, rfl, _, rfl, rfl⟩⟩
    have ne : ∀ b ∈ [e, it], b ≠ s.heap.objs.size := fun b hb => by
      have hb : b = e ∨ b = it := by simpa using hb
      obtain ⟨_, ho', _⟩ := hit
      rcases hb with rfl | rfl
      · exact Nat.ne_of_lt hel
      · exact Nat.ne_of_lt (Heap.lt_size ho')
    have hf1 : ∀ b ∈ [e, it], FpOk X pins (upd H s.heap.objs.size (.tup [.int (i : Nat), x])) b := fun b hb => ⟨by rw [upd_ne (ne b hb)]; exact (hf b hb).1, (hf b hb).2⟩
    have I2 := I1.turnedL (h' := h2) (t' := s.toks + 1) (fp := [e, it]) (fun b o hb q => by
      have hbe : b ≠ e := fun z => hb (by simp [z])
      have hbi : b ≠ it := fun z => hb (by simp [z])
      rw [hs2.2 b hbe]
      rcases Heap.get?_push_cases q with ⟨rfl, rfl⟩ | q
      · exact hT
      · exact hk b o hbe hbi q) hf1
    refine ⟨.ref s.heap.objs.size, _, I2, rfl, ⟨_, x, rfl, hf0, fun ys hy => by rw [I.list_inj hy hq]; exact hx, rfl⟩, ⟨⟨u, ?_⟩, hit1.at fun o q => (hs2.2 it hne.symm).trans q⟩, fun b hb => (hf1 b hb).1⟩
    have : ((i + 1 : Nat) : Int) = (i : Int) + 1 := by push_cast; rfl
    rw [this]
    exact he2
  done := by
    intro X hP hw hK hc i pins s σ H E I hf st hg
    subst hP hw hK
    obtain ⟨xs, hq, hx⟩ := hg
    obtain ⟨its, rv, p, hz⟩ := I.list hq
    obtain ⟨⟨old, he⟩, hit⟩ := st
    have hl := rv.length
    refine wpAny_pyNext_enum_end (I.ok.hd hc) he hit p.isList (by simp; omega) fun h1 eb => ⟨rfl, I.turnedL (t' := s.toks) (fp := [e, it]) (fun b o hb q => eb b o (fun z => hb (by simp [z])) q) hf⟩
  self := fun _ _ _ _ _ st h => let ⟨_, he⟩ := st.1; wpAny_pyIter_enum he h
section
variable {X : Cx}
def iEnum (K : PySem.W.Frag) (ta : TA) : TI := fun σ H R => ta σ H fun vs H1 => ∃ a xs, vs = [.ref a] ∧ SqL K H1 a xs ∧ R (Ite K a) H1
theorem pi_enum {a : Expr} {ta : TA} {es : List Expr} {x1} {tp p pos : Pos} (K : PySem.W.Frag) (hK : X.K = K) (hg : Gl X "enumerate") (hm : X.mg "enumerate" = none) (hb : PySem.bootBuiltins "enumerate" = some (.type "enumerate")) (ha : PA X [a] ta) (hs : starEach [a] X.env = [(false, eval a X.env)] := by rfl) :
    PI X (.Tuple es x1 tp) (.Call (.Name "enumerate" p) [a] [] pos) (iEnum K ta) := by
  subst hK
  intro pins s σ H R I h
  refine Call_ (ld_blt I hg hm hb (PyProof.Rows.callWith_type1 (thn (ha pos pins s σ H _ I h) fun us s1 ⟨vs, H1, I1, r1, q1⟩ => ?_) hs rfl))
  obtain ⟨b, xs, e, hq, q⟩ := q1
  subst e
  cases r1 with
  | cons r rr =>
    cases rr
    cases r
    obtain ⟨its, rv, pl, hz⟩ := I1.list hq
    refine call_enumerate_list pl.isList fun h1 he hit hsz hk => wpAny_pyIter_enum he ?_
    refine ⟨s1.heap.objs.size + 1, [s1.heap.objs.size + 1, s1.heap.objs.size], _, _, H1, rfl, I1.kept (t' := s1.toks) hk, turn_enum b _ _ (Nat.succ_ne_self _), ⟨⟨_, he⟩, hit⟩, fun c hc => ?_, q⟩
    have hc : c = s1.heap.objs.size + 1 ∨ c = s1.heap.objs.size := by simpa using hc
    rcases hc with rfl | rfl
    · exact I1.fpOk (Nat.le_succ _) (I1.hok.fresh (Nat.le_succ _))
    · exact I1.fpOk (Nat.le_refl _) (I1.hok.fresh (Nat.le_refl _))
theorem q_enum {a : Expr} {ta : TA} {es : List Expr} {x1} {tp p pos : Pos} (K : PySem.W.Frag) (hK : X.K = K) (hm : X.mg "enumerate" = none) (hb : PySem.bootBuiltins "enumerate" = some (.type "enumerate")) (ha : QA X [a] ta) (hg : Gl X "enumerate" := by rfl) (hs : notStar a = true := by rfl) :
    QI X (.Tuple es x1 tp) (.Call (.Name "enumerate" p) [a] [] pos) (iEnum K ta) := ⟨pi_enum K hK hg hm hb ha.h (star_cons hs)⟩
end
theorem for_enum {K : PySem.W.Frag} {a : Addr} {xs : List V} {g : TG} {tb : TS} {D : Ends} {σ : St} {H : Hp} (Pv : Nat → St → Hp → Prop) (h0 : Pv 0 σ H) (hl : ∀ i σ H, i ≤ xs.length → Pv i σ H → SqL K H a xs)
    (hs : ∀ i x p σ H, xs[i]? = some x → Pv i σ H → H p = none → g (.ref p) σ (upd H p (.tup [.int (i : Nat), x])) fun σ2 H2 => tb { D with nx := Pv (i + 1), ct := Pv (i + 1), bk := D.nx } σ2 H2) (hd : ∀ σ H, Pv xs.length σ H → D.nx σ H) :
    ∃ W : Nat → Nat → St → Hp → Prop, (∃ m, W 0 m σ H) ∧ ∀ i m σ H, W i m σ H →
      ((Ite K a).stop i H ∧ D.nx σ H) ∨ ((Ite K a).go i H ∧ ∃ N : St → Hp → Prop, (∀ σ' H', N σ' H' → ∃ m', m' < m ∧ W (i + 1) m' σ' H') ∧ ∀ x H', (Ite K a).yld i H x H' → g x σ H' fun σ2 H2 => tb { D with nx := N, ct := N, bk := D.nx } σ2 H2) := by
  refine ⟨fun i m σ H => m = xs.length - i ∧ i ≤ xs.length ∧ Pv i σ H, ⟨xs.length, by simp, Nat.zero_le _, h0⟩, ?_⟩
  rintro i m σ H ⟨rfl, hi, p⟩
  have q := hl i σ H hi p
  by_cases hlt : i < xs.length
  · refine .inr ⟨⟨xs, xs[i], q, by simp [hlt]⟩, Pv (i + 1), fun σ' H' p' => ⟨xs.length - (i + 1), by omega, rfl, hlt, p'⟩, fun v H' y => ?_⟩
    obtain ⟨b, x, rfl, hb, hx, rfl⟩ := y
    exact hs i x b σ H (hx xs q) p hb
  · have e : i = xs.length := by omega
    subst e
    exact .inl ⟨⟨xs, q, Nat.le_refl _⟩, hd σ H p⟩
end L2

set_option Elab.async false
set_option linter.all false
set_option maxRecDepth 100000
/-! Exceptions of a class with an __init__ of its own that lays one field. -/
namespace L2
open PySem PySem.Spec PyProof.Rows
/-- a class of exceptions under c0, its __init__ at f -/
def excF (K : PySem.W.Frag) (c0 C : Addr) (bmB : List Value) (newId : String) (f : Addr) : Bool := match K.lookup C with
  | some ⟨.type "type", _, .cls cl, ks⟩ => (match cl.mro, ks.toList with
    | .ref C1 :: .ref b0 :: tl, [_, _, _, _, some (.builtin n1), _] => C1 == C && n1 == newId && b0 == c0 && tl == bmB && !cl.hasDel && cl.hasDict && PySem.W.tailIn K bmB (.ref b0 :: tl)
    | _, _ => false)
  | _ => false
def excFin (K : PySem.W.Frag) (c0 C f : Addr) : Bool := excF K c0 C bmV "ValueError.__new__" f && PySem.W.findIn K (.ref C) "__init__" == some (some (.ref f)) && PySem.W.findIn K (.ref C) "__setattr__" == some (some (.builtin "object.__setattr__")) && PySem.W.findIn K (.ref C) "at" == some none && PySem.W.mroIn K C (.type "object") == some true
theorem excF_of {K : PySem.W.Frag} {h : Heap} {c0 C f : Addr} {bmB : List Value} {newId : String} (X : K.In h) (q : excF K c0 C bmB newId f = true) :
    ∃ N nm qn bs sn sub ab col dd k0 k1 k2 k3 k5, h.get? C = some (excClassObj nm qn C N bs (.ref c0 :: bmB) true sn sub ab col dd k0 k1 k2 k3 k5 newId) ∧ OwnTail h bmB (.ref c0 :: bmB) := by
  unfold excF at q
  split at q
  · rename_i d0 cl ks look
    split at q
    · rename_i C1 b0 tl a0 a1 a2 a3 n1 a5 eqm eqs
      simp only [Bool.and_eq_true, beq_iff_eq, Bool.not_eq_true'] at q
      obtain ⟨⟨⟨⟨⟨⟨rfl, rfl⟩, rfl⟩, rfl⟩, q1⟩, q2⟩, q3⟩ := q
      obtain ⟨nm, bs, mro, ns, qn, hd, sn, sub, ab, col, del⟩ := cl
      dsimp only at eqm q1 q2
      subst eqm q1 q2
      obtain ⟨kl⟩ := ks
      simp only at eqs
      subst eqs
      exact ⟨ns, nm, qn, bs, sn, sub, ab, col, d0, a0, a1, a2, a3, a5, X _ _ look, PySem.W.tail_of_in X q3⟩
    · cases q
  · cases q
section
variable {prog : Program} {w : World} {A : Around} {E : Value → Shared → Prop} {h : Heap} {g : Array GenState} {d : Drawn} {t : Nat} {os : OsState}
variable {nm q : Str} {C N c0 : Addr} {bs bm bmB : List Value} {hd : Bool} {sn : List Str} {sub : List Value} {ab : Bool} {col : Option Bool} {dd : Option Addr} {k0 k1 k2 k3 k5 : Option Value} {B nid iid : String}
/-- the heap with an exception just made -/
abbrev exH (h : Heap) (C : Addr) (us : List Value) : Heap := (h.push { cls := .type "tuple", data := .seq us.toArray }).push { cls := .ref C, data := .fields #[.ref h.objs.size, .none, .none, .none, .bool false, .none] }
theorem exH_keep (h : Heap) (C : Addr) (us : List Value) (b : Addr) (o : Obj) (e : h.get? b = some o) : (exH h C us).get? b = some o := Heap.get?_push_of_some _ (Heap.get?_push_of_some _ e)
theorem exH_get (h : Heap) (C : Addr) (us : List Value) : (exH h C us).get? (h.objs.size + 1) = some { cls := .ref C, data := .fields #[.ref h.objs.size, .none, .none, .none, .bool false, .none] } := by heap_get
theorem made_init (F : ExcBaseFacts B nid iid bmB) (T : OwnTail h bmB bm) {K : PySem.W.Frag} (X : K.In h) {us : List Value} {f : Addr} {of : Obj} {Q : Fin → Shared → Prop}
    (cC : h.get? C = some (excClassObj nm q C N bs bm hd sn sub ab col dd k0 k1 k2 k3 k5 nid)) (ini : PySem.W.findIn K (.ref C) "__init__" = some (some (.ref f))) (cf : h.get? f = some of) (tf : of.cls = .type "function")
    (run : wpAny (model prog w) A (call (.ref f) (.ref (h.objs.size + 1) :: us)) (fun r s' => r = .none ∧ Q (.done (.ret (.ref (h.objs.size + 1)))) s') E ⟨exH h C us, g, d, t, os⟩) (hz : us.length ≤ sizeLine) :
    wpAny (model prog w) A (Builtin.«type.__call__» ⟨.ref C :: us, []⟩) Q E ⟨h, g, d, t, os⟩ := by
  repeat (first | with_reducible refine wpAny_loadPart_at cC ?_ | with_reducible refine wpAny_madeBy_exc cC ?_ | wp_step)
  refine codeAny_call_builtin_code (Code.quiet_builtin _ F.quiet) (wpAny_check_new_subT F T cC ?_)
  refine codeAny_exc_new_subT F T cC ?_ hz
  show wpAny _ _ _ _ _ _
  have kp := exH_keep h C us
  have c1 := kp _ _ cC
  have X1 : K.In (exH h C us) := X.keeps kp
  have f1 := kp _ _ cf
  have e1 := exH_get h C us
  have hcC : (Value.ref C :: bm).contains (.ref C) = true := by simp
  unfold isInstance
  repeat (first | with_reducible refine wpAny_loadPart_at e1 ?_ | (with_reducible refine wpAny_isSubtype_exc c1 ?_; rw [hcC]) | wp_step)
  show wpAny _ _ (typeLookup (.ref C) _) _ _ _
  refine PySem.W.looks_findIn X1 ini _ _ _ _ (fun _ _ z => z) ?_
  refine wpAny_holding (wpAny_bind ?_)
  unfold bindSpecial
  refine wpAny_bind (wpAny_typeOf (T := "function") ⟨_, f1, tf⟩ ?_)
  rw [if_pos (by decide)]
  refine wpAny_pure (wpAny_bind (wpAny_mono run (fun r s' hr => ?_) fun _ _ x => x))
  obtain ⟨rfl, hQ⟩ := hr
  wp_walk
  exact hQ
theorem call_init (F : ExcBaseFacts B nid iid bmB) (T : OwnTail h bmB bm) {K : PySem.W.Frag} (X : K.In h) {us : List Value} {f : Addr} {of : Obj} {Q : Value → Shared → Prop}
    (cC : h.get? C = some (excClassObj nm q C N bs bm hd sn sub ab col dd k0 k1 k2 k3 k5 nid)) (ini : PySem.W.findIn K (.ref C) "__init__" = some (some (.ref f))) (cf : h.get? f = some of) (tf : of.cls = .type "function")
    (run : wpAny (model prog w) (A.under (.builtin "type.__call__" ⟨.ref C :: us, []⟩)) (call (.ref f) (.ref (h.objs.size + 1) :: us)) (fun r s' => r = .none ∧ Q (.ref (h.objs.size + 1)) s') E ⟨exH h C us, g, d, t, os⟩) (hz : us.length ≤ sizeLine) :
    wpAny (model prog w) A (call (.ref C) us) Q E ⟨h, g, d, t, os⟩ := by
  have f1 := tc_lookup
  have f2 := tc_bind (.ref C)
  have hT : (⟨h, g, d, t, os⟩ : Shared).TypeIs (.ref C) "type" := ⟨_, cC, rfl⟩
  refine wpAny_call (codeAny_of_tree ?_)
  show wpAny _ _ (callAny (.ref C) _) _ _ _
  repeat (any_goals (first | assumption | with_reducible refine wpAny_loadPart_at cC ?_ | wp_step))
  refine ⟨rfl, ?_⟩
  exact codeAny_call_builtin_at (Code.quiet_builtin _ (by decide +kernel)) entry_typeCall (wpAny_check_type_call_sub cC (made_init F T X cC ini cf tf run hz))
/-- an exception with no dict, a field laid -/
def putD (h : Heap) (x : Addr) : Heap := (h.push { cls := .type "dict", data := .dict #[] }).update x fun o => { cls := o.cls, dict := some h.objs.size, data := o.data, slots := o.slots }
theorem store_first {K : PySem.W.Frag} (X : K.In h) {x : Addr} {ox : Obj} {name : Str} {v : Value} {tk : Tok} {vs : Array Value} {Q : Fin → Shared → Prop}
    (cC : h.get? C = some (excClassObj nm q C N bs (.ref c0 :: bmV) true sn sub ab col dd k0 k1 k2 k3 k5 nid)) (hx : h.get? x = some ox) (hc : ox.cls = .ref C) (hdn : ox.dict = none) (hdt : ox.data = .fields vs) (fnd : PySem.W.findIn K (.ref C) name = some none)
    (hq : ∀ h' tk', h'.get? x = some { cls := ox.cls, dict := some h.objs.size, data := ox.data, slots := ox.slots } → h'.Ns1 h.objs.size (fun y => if y = name then some v else none) → (∀ b o, b ≠ x → h.get? b = some o → h'.get? b = some o) → Q (.done (.ret .none)) ⟨h', g, d, tk', os⟩) :
    wpAny (model prog w) A (Builtin.«object.__setattr__» ⟨[.ref x, .str name tk, v], []⟩) Q E ⟨h, g, d, t, os⟩ := by
  have ok : refuseLoop (.ref x) "__setattr__" bmV = pure () := F.store_ValueError.passes (.ref x)
  have L := PySem.W.looks_findIn (M := model prog w) X fnd
  unfold Builtin.«object.__setattr__»
  repeat (first | rw [refuse_eq] | (rw [refuseLoop_ref, refuseLoop_ref, ok]) | (with_reducible refine wpAny_loadPart_at hx ?_; rw [hc]) | with_reducible refine wpAny_mroOf_exc cC ?_ | with_reducible refine L.at ?_ | wp_step)
  rw [hdn, if_neg (by simp [typeHasDict])]
  split
  · rename_i z
    cases z
  split
  · rename_i c z
    rw [hdt] at z
    cases z
  have xs : x ≠ h.objs.size := Nat.ne_of_lt (Heap.lt_size hx)
  have x1 : (h.push { cls := .type "dict", data := .dict #[] }).get? x = some ox := Heap.get?_push_of_some _ hx
  refine wpAny_bind (wpAny_alloc' (wpAny_bind (wpAny_update' x1 (wpAny_pure ?_))))
  have gd : (putD h x).get? h.objs.size = some { cls := .type "dict", data := .dict #[] } := (Heap.get?_update_ne _ _ _ _ xs.symm).trans (Heap.get?_push_at rfl rfl)
  have gx : (putD h x).get? x = some { cls := ox.cls, dict := some h.objs.size, data := ox.data, slots := ox.slots } := Heap.get?_update_self _ x1 (by
    obtain ⟨oc, od, odt, osl⟩ := ox
    dsimp only at hdt
    subst hdt
    rfl)
  show wpAny _ _ (Builtin.ObjectAttr.storeInDict h.objs.size (.str name tk) name v) _ _ ⟨putD h x, g, d, _, os⟩
  unfold Builtin.ObjectAttr.storeInDict Builtin.ObjectAttr.newKeyGuard
  refine wpAny_bind (wpAny_pure (wpAny_bind (wpAny_nsSet1 (Heap.Ns1.of_empty ⟨_, #[], _, gd, rfl, fun e he => absurd he (by simp), fun _ => rfl⟩) fun h' hn' hs => ?_)))
  obtain ⟨oD, esD, epD, hoD, hdD, hcD⟩ := hn'.count (Within.cons name v Within.nil)
  refine wpAny_bind (wpAny_lookBehind hoD (by rw [hdD]; exact pastItsLine_dict (Nat.le_trans hcD (by rw [List.length_cons, List.length_nil, sizeLine_eq]; omega))) ?_)
  wp_walk
  exact hq h' _ ((hs.2 x xs).trans gx) hn' fun b o hb e => (hs.2 b (Nat.ne_of_lt (Heap.lt_size e))).trans ((Heap.get?_update_ne _ _ _ _ hb).trans (Heap.get?_push_of_some _ e))
theorem set_first {K : PySem.W.Frag} (X : K.In h) {x : Addr} {ox : Obj} {name : Str} {v : Value} {vs : Array Value} {Q : Unit → Shared → Prop}
    (cC : h.get? C = some (excClassObj nm q C N bs (.ref c0 :: bmV) true sn sub ab col dd k0 k1 k2 k3 k5 nid)) (hx : h.get? x = some ox) (hc : ox.cls = .ref C) (hdn : ox.dict = none) (hdt : ox.data = .fields vs) (fnd : PySem.W.findIn K (.ref C) name = some none)
    (fsa : PySem.W.findIn K (.ref C) "__setattr__" = some (some (.builtin "object.__setattr__"))) (fmo : PySem.W.mroIn K C (.type "object") = some true)
    (hq : ∀ h' tk', h'.get? x = some { cls := ox.cls, dict := some h.objs.size, data := ox.data, slots := ox.slots } → h'.Ns1 h.objs.size (fun y => if y = name then some v else none) → (∀ b o, b ≠ x → h.get? b = some o → h'.get? b = some o) → Q () ⟨h', g, d, tk', os⟩) :
    wpAny (model prog w) A (setAttr (.ref x) name v) Q E ⟨h, g, d, t, os⟩ := by
  have f3 := F.store_ValueError.slot.bind (.ref x)
  have L1 := PySem.W.looks_findIn (M := model prog w) X fsa
  have L2 := PySem.W.looks_mroIn (M := model prog w) X fmo
  unfold setAttr callSpecial? specialOf
  repeat (any_goals (first | assumption | (with_reducible refine wpAny_loadPart_at hx ?_; rw [hc]) | with_reducible refine L1.at ?_ | wp_step))
  refine codeAny_call_builtin F.store_ValueError.slot.plain F.store_ValueError.entry ?_
  have chk : ∀ (A : Around) (E : Value → Shared → Prop) (nv : Value) (t' : Nat) (Q : Unit → Shared → Prop), Q () ⟨h, g, d, t', os⟩ → wpAny (model prog w) A (checkBuiltinCall "object.__setattr__" ⟨[.ref x, nv, v], []⟩) Q E ⟨h, g, d, t', os⟩ := fun A E nv t' Q hq => by
    have ha := F.store_ValueError.args (.ref x) nv v
    have k1 : builtinKind "object.__setattr__" = some .slot := F.store_ValueError.kind
    have k2 : splitId "object.__setattr__" = some ("object", "__setattr__") := F.store_ValueError.split
    simp only [checkBuiltinCall, k1, k2]
    refine wpAny_bind ?_
    unfold isInstance
    repeat (first | (with_reducible refine wpAny_loadPart_at hx ?_; rw [hc]) | with_reducible refine L2.at ?_ | wp_step)
    exact hq
  refine chk _ _ _ _ _ (store_first X cC hx hc hdn hdt fnd fun h' tk' a b c => ?_)
  repeat (any_goals (first | assumption | wp_step))
  exact hq h' tk' a b c
/-- a class of exceptions with: def __init__(self, at): self.at = at -/
structure Ini (K : PySem.W.Frag) (c0 C : Addr) : Prop where
  ex : ∃ (f : Addr) (fd : FuncData) (qn : Str) (st : Stmt) (p1 p2 p3 p4 : Pos), excFin K c0 C f = true ∧ Fun K "__init__" qn st f fd ∧ (∃ od osl, K.lookup f = some ⟨.type "function", od, .func fd, osl⟩) ∧ FnScope ["self", "at"] ["self", "at"] (defScope st) ∧
    (defScope st).names.lookup ("self" : Str) = some .local ∧ (defScope st).names.lookup ("at" : Str) = some .local ∧ Binds K fd ["self", "at"] [] ∧ defBody st = [.Assign [.Attribute (.Name "self" p1) "at" p2] (.Name "at" p3) p4]
end
end L2

set_option Elab.async false
set_option linter.all false
set_option maxRecDepth 100000
/-! raise C(at) where C's __init__ lays the field; the field read. -/
namespace L2
open PySem PySem.Spec PyProof.Rows
section
variable {X : Cx} {pins : List (Addr × Obj)} {σ : St} {H : Hp} {s : Shared}
theorem ini_call {c0 C : Addr} (I : Inv X pins σ H s) (D : Ini X.K c0 C) {u : Value} {A : Around} {E : Value → Shared → Prop} {Q : Value → Shared → Prop} (hd : A.depth + 5 < recursionLimit)
    (hq : ∀ (h' : Heap) (tk : Nat) (e d : Addr), (∀ b o, s.heap.get? b = some o → h'.get? b = some o) → s.heap.objs.size ≤ e → s.heap.objs.size ≤ d → e ≠ d →
      h'.get? e = some { cls := .ref C, dict := some d, data := .fields #[.ref s.heap.objs.size, .none, .none, .none, .bool false, .none] } → h'.Ns1 d (fun y => if y = "at" then some u else none) → Q (.ref e) { s with heap := h', toks := tk }) :
    wpAny (model X.prog X.w) A (call (.ref C) [u]) Q E s := by
  have KX := I.kIn
  have lim0 := I.nolimit
  obtain ⟨hp, g, d, t, os⟩ := s
  obtain ⟨f, fd, qn, st, p1, p2, p3, p4, ok, Fu, ⟨od', osl', lk'⟩, S, n1, n2, B, hb⟩ := D.ex
  unfold excFin at ok
  simp only [Bool.and_eq_true, beq_iff_eq] at ok
  obtain ⟨⟨⟨⟨k1, k2⟩, k3⟩, k4⟩, k5⟩ := ok
  obtain ⟨N, nm, qn', bs, sn, sub, ab, col, dd, a0, a1, a2, a3, a5, cC, T⟩ := excF_of KX k1
  obtain ⟨oc, od, kV, doc, pm, an, cdv, ct, osl, rfl, lk, hcd⟩ := Fu.ex
  refine call_init F.excBase_ValueError T KX cC k2 (KX _ _ lk') rfl ?_ (by show 1 ≤ sizeLine; decide)
  have kp := exH_keep hp C [u]
  have e1 := exH_get hp C [u]
  have K1 : X.K.In (exH hp C [u]) := KX.keeps kp
  have sz : (exH hp C [u]).objs.size = hp.objs.size + 2 := by show ((hp.push _).push _).objs.size = _; rw [Heap.size_push, Heap.size_push]
  refine wpAny_call (codeAny_call_function ?_ (K1 _ _ lk') rfl S.co S.gen rfl (PySem.W.codeRec_of K1 hcd) (B ⟨exH hp C [u], g, d, t, os⟩ [.ref (hp.objs.size + 1), u] K1 rfl _ _ _ _ ?_))
  · show A.depth + 1 < _
    omega
  refine wpAny_newFunctionEnv_cells S.kind (fun y hy => ?_) fun env he s1 x => ?_
  · rcases List.mem_cons.mp hy with rfl | hy
    · exact .inl n1
    · rcases List.mem_cons.mp hy with rfl | hy
      · exact .inl n2
      · cases hy
  subst he
  refine ⟨(lim0.keeps kp).keeps x.toInCall.keep, codeAny_func ?_⟩
  rw [show (PySem.W.fnOf "__init__" qn (defArgs st) (defBody st) (defScope st) .none kV doc pm an cdv ct).scope = defScope st from rfl] at x ⊢
  obtain ⟨h1, tk1, rfl⟩ := x.toInCall.same
  have ns := x.toInCall.ns
  have kp1 := x.toInCall.keep
  have ga : bindL (newEnv (defScope st) (exH hp C [u]).objs.size (PySem.W.fnOf "__init__" qn (defArgs st) (defBody st) (defScope st) .none kV doc pm an cdv ct).globals (cellsFrom ((exH hp C [u]).objs.size + 1) (defScope st).names []) ((PySem.W.fnOf "__init__" qn (defArgs st) (defBody st) (defScope st) .none kV doc pm an cdv ct).qualname ++ ".<locals>.") (some f) (PySem.W.fnOf "__init__" qn (defArgs st) (defBody st) (defScope st) .none kV doc pm an cdv ct).code none (PySem.W.fnOf "__init__" qn (defArgs st) (defBody st) (defScope st) .none kV doc pm an cdv ct).builtins).kindOf ((["self", "at"] : List Str).zip [.ref (hp.objs.size + 1), u]) (fun _ => none) "at" = some u := bindL_get (i := 1) S.nd rfl rfl n2
  have gs : bindL (newEnv (defScope st) (exH hp C [u]).objs.size (PySem.W.fnOf "__init__" qn (defArgs st) (defBody st) (defScope st) .none kV doc pm an cdv ct).globals (cellsFrom ((exH hp C [u]).objs.size + 1) (defScope st).names []) ((PySem.W.fnOf "__init__" qn (defArgs st) (defBody st) (defScope st) .none kV doc pm an cdv ct).qualname ++ ".<locals>.") (some f) (PySem.W.fnOf "__init__" qn (defArgs st) (defBody st) (defScope st) .none kV doc pm an cdv ct).code none (PySem.W.fnOf "__init__" qn (defArgs st) (defBody st) (defScope st) .none kV doc pm an cdv ct).builtins).kindOf ((["self", "at"] : List Str).zip [.ref (hp.objs.size + 1), u]) (fun _ => none) "self" = some (.ref (hp.objs.size + 1)) := bindL_get (i := 0) S.nd rfl rfl n1
  have sz1 : hp.objs.size + 2 ≤ h1.objs.size := by
    have z := ns.lt
    have y : (exH hp C [u]).objs.size < h1.objs.size := z
    omega
  rw [hb]
  refine wpAny_execs_cons (plainObj_wpAny_Assign_Attribute (wpAny_Name (wpAny_loadName_local (v := u) S.kind n2 ns ga (wpAny_Name (wpAny_loadName_local (v := .ref (hp.objs.size + 1)) S.kind n1 ns gs ?_) rfl)) rfl))
  refine set_first (K1.keeps kp1) (kp1 _ _ (kp _ _ cC)) (kp1 _ _ e1) rfl rfl rfl k4 k3 k5 fun h2 tk2 gx nd kk => wpAny_execs_nil ⟨rfl, ?_⟩
  refine hq h2 tk2 (hp.objs.size + 1) h1.objs.size (fun b o q => kk b o (Nat.ne_of_lt (Nat.lt_succ_of_lt (Heap.lt_size q))) (kp1 _ _ (kp _ _ q))) (Nat.le_succ _) (by show hp.objs.size ≤ h1.objs.size; omega) (Nat.ne_of_lt (show hp.objs.size + 1 < h1.objs.size by omega)) gx nd
end
section
variable {M : Model} {A : Around} {E : Value → Shared → Prop} {env : Env} {nm q : Str} {C N : Addr} {bs bm : List Value} {hd : Bool} {sn : List Str} {sub : List Value} {ab : Bool} {col : Option Bool} {dd : Option Addr} {k0 k1 k2 k3 k5 : Option Value} {nid : String}
theorem raise_made {s : Shared} {x : Sem Value} {Q : Flow → Shared → Prop} (hb : bm.contains (.type "BaseException") = true) (hh : A.handled = none)
    (h : wpAny M A x (fun v s1 => ∃ e od ta, v = .ref e ∧ s1.heap.get? C = some (excClassObj nm q C N bs bm hd sn sub ab col dd k0 k1 k2 k3 k5 nid) ∧ s1.heap.get? e = some { cls := .ref C, dict := od, data := .fields #[.ref ta, .none, .none, .none, .bool false, .none] } ∧ E (.ref e) s1) E s) :
    wpAny M A (raiseStmt env (some x) none) Q E s := by
  have hcB : (Value.ref C :: bm).contains (.type "BaseException") = true := by rw [List.contains_cons, hb, Bool.or_true]
  unfold raiseStmt
  refine wpAny_bind (wpAny_mono h (fun v s1 h1 => ?_) fun _ _ x => x)
  obtain ⟨e, od, ta, rfl, cC, he, hE⟩ := h1
  obtain ⟨hp, g, d, tk, os⟩ := s1
  repeat (first | with_reducible refine wpAny_loadPart_at he ?_ | with_reducible refine wpAny_loadPart_at cC ?_ | (with_reducible refine wpAny_isSubtype_exc cC ?_; rw [hcB]) | wp_step)
  exact wpAny_raiseNew_none hh hE
end
section
variable {X : Cx} {x : Str} {e : Expr} {t : TA} {pos cpos np : Pos} {R : XR} {c0 C : Addr} {k : Nat}
theorem q_raiseI (pz : PassX X R) (hc : X.calm = true) (D : Ini X.K c0 C) (hr : Room k X.A) (hm : X.mg x = some (.ref C)) (ha : QA X [e] t) (hg : Gl X x := by rfl)
    (hdb : (x == ("__debug__" : Str)) = false := by decide) (he : starEach [e] X.env = [(false, eval e X.env)] := by rfl) :
    QS X (.Raise (some (.Call (.Name x np) [e] [] cpos)) none pos) (fun _ σ H => t σ H fun vs H1 => ∃ v, vs = [v] ∧ ∀ d, H1 d = none → R (.ref C) (some d) σ (upd H1 d (.xd [("at", v)]))) := by
  refine ⟨fun pins s σ H D' I hw => ?_⟩
  have D0 := D
  obtain ⟨f, fd, qn, st, p1, p2, p3, p4, ok, Fu, _, S, n1, n2, B, hb⟩ := D.ex
  unfold excFin at ok
  simp only [Bool.and_eq_true, beq_iff_eq] at ok
  obtain ⟨N, nm, qn', bs, sn, sub, ab, col, dd, a0, a1, a2, a3, a5, cC, T⟩ := excF_of I.ok.mod.kin ok.1.1.1.1
  rw [arm_exec_Raise]
  refine wpAny_bind (wpAny_standAt (raise_made (C := C) (nm := nm) (q := qn') (N := N) (bs := bs) (bm := .ref c0 :: bmV) (hd := true) (sn := sn) (sub := sub) (ab := ab) (col := col) (dd := dd) (k0 := a0) (k1 := a1) (k2 := a2) (k3 := a3) (k5 := a5) (nid := "ValueError.__new__") (T.hasType F.excBase_ValueError.hasBase) (I.ok.hd hc) ?_))
  refine wpAny_bind (wpAny_mono (wpAny_Call_ofName (ld_glob I hg hm ?_ hdb)) (fun v s3 h3 => wpAny_bind (wpAny_standAt (wpAny_pure h3))) fun _ _ x => x)
  unfold callWith
  have h2 := ha.h cpos pins s σ H _ I hw
  rw [he] at h2 ⊢
  refine wpAny_bind (wpAny_holding (Calls.evalArgs_plain (wpAny_mono h2 (fun us s2 h => wpAny_bind (wpAny_standAt ?_)) fun _ _ y => y)))
  obtain ⟨vs, H1, I1, r, v, rfl, q⟩ := h
  obtain ⟨u, rfl, ru⟩ := r.one
  have c2 := I1.bk _ _ cC
  have hpl : (backTo cpos [(false, eval e X.env)]).any (·.1) = false := rfl
  simp only [hpl]
  have dp := hr.dp
  have s2k : ∀ b, s2.heap.objs.size ≤ b → H1 b = none := fun b hb => I1.hok.fresh hb
  have fin : ∀ (h' : Heap) (tk : Nat) (ea d : Addr), (∀ b o, s2.heap.get? b = some o → h'.get? b = some o) → s2.heap.objs.size ≤ ea → s2.heap.objs.size ≤ d → ea ≠ d →
      h'.get? ea = some { cls := .ref C, dict := some d, data := .fields #[.ref s2.heap.objs.size, .none, .none, .none, .bool false, .none] } → h'.Ns1 d (fun y => if y = "at" then some u else none) → X.xe (.ref ea) { s2 with heap := h', toks := tk } := fun h' tk ea d kp le ld ne ge nd => by
    have new : ObjOk X.prog X.w (upd H1 d (.xd [("at", v)])) h' d (.xd [("at", v)]) := ⟨_, nd, fun y => ?_⟩
    refine pz pins σ H1 s2 (.ref ea) { s2 with heap := h', toks := tk } I1 ⟨ea, .ref C, some d, upd H1 d (.xd [("at", v)]), rfl, rfl, I1.bare, Un.laid kp ld (s2k d ld), I1.hok.laid kp ld new, ⟨Heap.get?_none_of_le le, by rw [upd_ne ne]; exact s2k ea le, _, _, ge, rfl, rfl, rfl, by simp, .inl rfl⟩, q d (s2k d ld)⟩
    by_cases hy : y = "at"
    · subst hy
      simp only [List.lookup, if_pos]
      exact ru
    · have : (y == ("at" : Str)) = false := by simpa using hy
      simp only [List.lookup, this, if_neg hy]
      trivial
  obtain ⟨hp, g, d, tk, os⟩ := s2
  refine wpAny_bind (wpAny_keeperOf_exc c2 ?_)
  refine wpAny_bind (ini_call I1 D0 (by omega) fun h' tk' ea d' kp le ld ne ge nd => wpAny_bind (wpAny_holding (wpAny_point (wpAny_pure ?_))))
  exact ⟨ea, some d', _, rfl, kp _ _ c2, ge, fin h' tk' ea d' kp le ld ne ge nd⟩
end
/-! ### the field of an exception -/
theorem look_ns1 {h : Heap} {d : Addr} {mA : Str → Option Value} {name : Str} {v : Value} (n : h.Ns1 d mA) (e : mA name = some v) : ∃ od, h.get? d = some od ∧ PySem.W.lookIn name od = some (some v) := by
  obtain ⟨o, es, ep, ho, hd, hk, hu, hf⟩ := n
  refine ⟨o, ho, ?_⟩
  unfold PySem.W.lookIn
  rw [hd]
  have hf := hf name
  unfold nsFind findBy at hf
  rw [e, ← Array.find?_toList] at hf
  cases z : es.toList.find? (fun x => x.key.isStr name) with
  | none => rw [z] at hf; cases hf
  | some x =>
    rw [z] at hf
    have : x.val = v := Option.some.inj hf
    rw [← this]
    show (match es.toList.find? (fun x => x.key.isStr name) with
      | some e => some (some e.val)
      | none => if es.toList.any (·.refKey) then none else some none) = _
    rw [z]
theorem excF_cls {K : PySem.W.Frag} {c0 C f : Addr} {bmB : List Value} {newId : String} (q : excF K c0 C bmB newId f = true) : ∃ cd, PySem.W.clsIn K C = some cd ∧ cd.hasDict = true := by
  unfold excF at q
  split at q
  · rename_i d0 cl ks look
    split at q
    · simp only [Bool.and_eq_true, beq_iff_eq, Bool.not_eq_true'] at q
      exact ⟨cl, by unfold PySem.W.clsIn; rw [look], q.1.2⟩
    · cases q
  · cases q
def rFldX (K : PySem.W.Frag) (f : Str) : V → Hp → VK → Prop := fun x H Q => ∃ a C d fs v, x = .ref a ∧ H a = some (ExcO a (.ref C) (some d)) ∧ H d = some (.xd fs) ∧ fs.lookup f = some v ∧ (∃ i, v = .int i) ∧ (∃ c0, Ini K c0 C) ∧ xcOk K C = true ∧ Q v H
section
variable {X : Cx} {e : Expr} {te : TE} {pos : Pos}
abbrev tFldX (K : PySem.W.Frag) (f : Str) (te : TE) : TE := fun σ H Q => te σ H fun x H1 => rFldX K f x H1 Q
theorem q_fldx (K : PySem.W.Frag) (hK : X.K = K) (he : QE X e te) (hb : attributeBase e "at" X.env (eval e X.env) = eval e X.env := by rfl) : QE X (.Attribute e "at" pos) (tFldX K "at" te) := by
  subst hK
  refine ⟨fun pins s σ H Q I hq => ?_⟩
  refine attr_of hb (thn (he.h pins s σ H _ I hq) fun u s1 ⟨x, H1, I1, r1, q1⟩ => ?_)
  obtain ⟨a, C, d, fs, v, rfl, ha, hd, hl, ⟨iv, rfl⟩, ⟨c0, D⟩, hx, q⟩ := q1
  cases r1
  obtain ⟨f, fd, qn, st, p1, p2, p3, p4, ok, _⟩ := D.ex
  unfold excFin at ok
  simp only [Bool.and_eq_true, beq_iff_eq] at ok
  obtain ⟨⟨⟨⟨k1, _⟩, _⟩, k4⟩, k5⟩ := ok
  obtain ⟨⟨o, vs, ho, h1, h2, h3⟩, _⟩ := (show ObjOk X.prog X.w H1 s1.heap a (ExcO a (.ref C) (some d)) from I1.hok a _ ha)
  obtain ⟨mA, nA, rel⟩ := (show ObjOk X.prog X.w H1 s1.heap d (.xd fs) from I1.hok d _ hd)
  have rl := rel "at"
  rw [hl] at rl
  cases em : mA "at" with
  | none => rw [em] at rl; cases rl
  | some u =>
    rw [em] at rl
    obtain ⟨tu, rfl⟩ := (show RelV (.int iv) u from rl)
    obtain ⟨od, hod, look⟩ := look_ns1 nA em
    have IA : PySem.W.InstAt s1.heap a o C (some od) := ⟨ho, h1, by unfold PySem.W.notCls; rw [h3], by rw [h2]; exact hod⟩
    unfold xcOk at hx
    simp only [Bool.and_eq_true, beq_iff_eq] at hx
    obtain ⟨⟨⟨⟨⟨⟨⟨x1, x7⟩, x8⟩, x2⟩, x3⟩, x4⟩, x5⟩, x6⟩ := hx
    obtain ⟨cd, hcd, hdi⟩ := excF_cls k1
    have hf : PySem.W.findObj X.K C (some od) "at" = some (.value (.int iv tu)) := by
      unfold PySem.W.findObj
      rw [hcd, Option.bind_some, k4, Option.bind_some]
      simp only [Option.bind_some]
      unfold PySem.W.ownOf
      rw [if_pos hdi]
      simp only [look, Option.bind_some]
    unfold getAttr
    refine wpAny_bind (wpAny_mkText (exc_find (s := { s1 with toks := s1.toks + 1 }) I1.kIn IA x1 x7 x8 (r := .int iv tu) (fun A E R hr => ?_) rfl ⟨.int iv, H1, I1.tok _, ⟨tu, rfl⟩, q⟩))
    have L0 := IA.type (M := model X.prog X.w)
    have L1 := PySem.W.looks_find (M := model X.prog X.w) I1.kIn IA hf
    obtain ⟨hp, g, d', t', os⟩ := s1
    unfold Builtin.«object.__getattribute__»
    repeat (first | with_reducible refine L0.at ?_ | with_reducible refine L1.at ?_ | wp_step)
    exact ⟨_, rfl, hr⟩
end
theorem ini_mk {K : PySem.W.Frag} {mg : Str → Option Value} {h : Heap} {x qn : Str} {c0 c1 f : Addr} {oc : Value} {od fod an : Option Addr} {cd : ClassData} {sl osl : Array (Option Value)} {kV doc pm cdv ct : Value} {st : Stmt} {p1 p2 p3 p4 : Pos}
    (X : K.In h) (G : h.Ns mainGlobals mg) (e0 : PySem.W.nsIn K mainGlobals "NoughtError" = some (some (.ref c0))) (e1 : PySem.W.nsIn K mainGlobals x = some (some (.ref c1))) (lc : K.lookup c1 = some ⟨oc, od, .cls cd, sl⟩) (fi : PySem.W.nsIn K cd.ns "__init__" = some (some (.ref f)))
    (l : K.lookup f = some ⟨.type "function", fod, .func (PySem.W.fnOf "__init__" qn (defArgs st) (defBody st) (defScope st) .none kV doc pm an cdv ct), osl⟩) (c : PySem.W.codeIn K cdv qn = true) (k : PySem.W.keepIn K (.ref f) = true)
    (S : FnScope ["self", "at"] ["self", "at"] (defScope st)) (n1 : (defScope st).names.lookup ("self" : Str) = some .local) (n2 : (defScope st).names.lookup ("at" : Str) = some .local)
    (b : ∀ (kV doc pm : Value) (an : Option Addr) (cdv ct : Value) (us : List Value), us.length = 2 → bindArgs (PySem.W.fnOf "__init__" qn (defArgs st) (defBody st) (defScope st) .none kV doc pm an cdv ct) ⟨us, []⟩ = pure ((["self", "at"] : List Str).zip us))
    (hb : defBody st = [.Assign [.Attribute (.Name "self" p1) "at" p2] (.Name "at" p3) p4]) (ok : excFin K c0 c1 f = true) : Ini K (cad mg "NoughtError") (cad mg x) := by
  rw [cad_of (PySem.W.mg_of X G e0), cad_of (PySem.W.mg_of X G e1)]
  have Fu := fun_mk l c k
  exact ⟨⟨f, _, qn, st, p1, p2, p3, p4, ok, Fu, ⟨fod, osl, l⟩, S, n1, n2, Fu.binds b, hb⟩⟩
end L2

set_option Elab.async false
set_option linter.all false
set_option maxRecDepth 100000
/-! [x for x in .. if ..]; count of a tuple of ints. -/
namespace L2
open PySem PySem.Spec PyProof.Rows
theorem filter_snoc {p : V → Bool} {xs : List V} {i : Nat} {x : V} (h : xs[i]? = some x) : (xs.take (i + 1)).filter p = if p x = true then (xs.take i).filter p ++ [x] else (xs.take i).filter p := by
  rw [List.take_add_one, h, List.filter_append]
  by_cases hp : p x = true
  · rw [if_pos hp]
    simp [List.filter, hp]
  · rw [if_neg hp]
    simp [List.filter, hp]
theorem comp_filter {J : It} {xs : List V} {P : Hp → Prop} (wk : Wk J xs P) {l : Addr} {tc : TT} {te : TE} {σ σr : St} {H : Hp} {Q : VK} (p : V → Bool)
    (hσ : σ = none :: σr) (hl : H l = none) (hz : xs.length ≤ sizeLine) (hP : P H)
    (ht : ∀ (i : Nat) (x : V) (H1 : Hp) (k : Bool → Hp → Prop), xs[i]? = some x → Same H H1 → (∃ ys, H1 l = some (.lst ys)) → (∀ H2, Same H1 H2 → k (p x) H2) → tc (some x :: σr) H1 k)
    (he : ∀ (i : Nat) (x : V) (H1 : Hp) (Q1 : VK), xs[i]? = some x → Same H H1 → (∀ H2, Same H1 H2 → Q1 x H2) → te (some x :: σr) H1 Q1)
    (hQ : ∀ H', Same H H' → H' l = some (.lst (xs.filter p)) → Q (.ref l) H') :
    CompW J l σ H (gName 0) tc te Q := by
  refine ⟨fun i m ys σ2 H2 => m = xs.length - i ∧ i ≤ xs.length ∧ (∃ o, σ2 = o :: σr) ∧ But l H H2 ∧ H2 l = some (.lst ys) ∧ ys = (xs.take i).filter p, ⟨xs.length, by simp, Nat.zero_le _, ⟨none, hσ⟩, But.upd, upd_same, by simp⟩, ?_⟩
  rintro i m ys σ2 H2 ⟨rfl, hi, ⟨o, rfl⟩, hb, hl2, hys⟩
  have hP2 : P H2 := wk.mono _ _ (hb.same hl) hP
  by_cases hlt : i < xs.length
  · refine .inr ⟨wk.go i H2 hlt hP2, fun x H3 y => ?_⟩
    obtain ⟨e, hx⟩ := wk.yld i H2 x H3 hlt hP2 y
    subst e
    unfold gName
    refine ht i x H3 _ hx (hb.same hl) ⟨ys, hl2⟩ fun H5 s5 => ?_
    have hb5 := hb.trans (But.of_same s5)
    have lys : ys.length ≤ i := by
      rw [hys]
      have := List.length_filter_le p (xs.take i)
      rw [List.length_take] at this
      omega
    cases hp : p x with
    | true =>
      refine iteT (he i x H5 _ hx (hb5.same hl) fun H6 s6 => ?_)
      refine ⟨s6 _ _ (s5 _ _ hl2), by omega, xs.length - (i + 1), by omega, rfl, hlt, ⟨some x, rfl⟩, (hb5.trans (But.of_same s6)).trans But.upd, upd_same, ?_⟩
      rw [filter_snoc hx, if_pos hp, hys]
    | false =>
      refine iteF ⟨xs.length - (i + 1), by omega, rfl, hlt, ⟨some x, rfl⟩, hb5, s5 _ _ hl2, ?_⟩
      rw [filter_snoc hx, if_neg (by rw [hp]; exact Bool.false_ne_true), hys]
  · have e : i = xs.length := by omega
    subst e
    rw [List.take_length] at hys
    subst hys
    exact .inl ⟨wk.stop _ H2 (Nat.le_refl _) hP2, hQ H2 (hb.same hl) hl2⟩
section
variable {X : Cx}
/-! ### count of a tuple of ints -/
def rCountT (K : PySem.W.Frag) : V → List V → Hp → VK → Prop := fun x vs H Q => ∃ (l : Addr) (ns : List Int) (n : Int), x = .ref l ∧ vs = [.int n] ∧ H l = some (.tup (ns.map V.int)) ∧ Q (.int (ns.count n : Nat)) H
noncomputable def isI (n : Int) (v : Value) : Bool := match v with
  | .int m _ => m == n
  | _ => false
theorem count_ints (n : Int) : ∀ {ns : List Int} {us : List Value}, Vals (ns.map V.int) us → us.countP (isI n) = ns.count n
  | [], _, .nil => rfl
  | m :: ns, _, .cons r t => by
    obtain ⟨tk, rfl⟩ := r
    rw [List.countP_cons, count_ints n t, List.count_cons]
    rfl
theorem vals_intsV : ∀ {ns : List Int} {us : List Value}, Vals (ns.map V.int) us → ∀ y ∈ us, ∃ m t, y = .int m t
  | [], _, .nil, y, h => nomatch h
  | m :: ns, _, .cons r t, y, h => by
    obtain ⟨tk, rfl⟩ := r
    rcases List.mem_cons.mp h with rfl | h
    · exact ⟨m, tk, rfl⟩
    · exact vals_intsV t y h
theorem mt_countT : MtM X "tuple.count" (rCountT X.K) := by
  intro pins s σ H x vs v us Q I rx rv h
  obtain ⟨l, ns, n, rfl, rfl, hH, q⟩ := h
  cases rx
  obtain ⟨u, rfl, ru⟩ := rv.one
  obtain ⟨tk, rfl⟩ := ru
  obtain ⟨hz, its, r, ⟨c, dd, dt, sl⟩, e, hc, m, hd, _⟩ := (show ObjOk X.prog X.w H s.heap l (.tup (ns.map V.int)) from I.hok l _ hH)
  dsimp only at hc hd
  subst hc hd
  refine call_meets F.slot_tuple_count ⟨_, e, rfl⟩ F.entry_tuple_count (F.args_tuple_count_2 _ _) (SeqAt.tuple_countAt l _ m dd sl (.int n tk) (isI n)) ⟨e, fun y hy => ?_, ?_⟩
  · have hy : y ∈ its := by simpa using hy
    obtain ⟨k, t', rfl⟩ := vals_intsV r y hy
    exact SeqAt.EqAt.int_int k t' n tk
  · have ec : List.countP (isI n) its.toArray.toList = ns.count n := by rw [List.toList_toArray]; exact count_ints n r
    rw [ec]
    exact ⟨.int _, H, I.tok _, ⟨_, rfl⟩, q⟩
theorem m_countT (K : PySem.W.Frag) (hK : X.K = K) : QMt X "tuple.count" (rCountT K) := ⟨by subst hK; exact mt_countT⟩
/-- a method of a tuple at hand -/
abbrev tBMT (r : V → List V → Hp → VK → Prop) (to : TE) (t : TA) : TE := fun σ H Q => to σ H fun x H1 => (∃ b xs, x = .ref b ∧ H1 b = some (.tup xs)) ∧ t σ H1 fun xs H2 => r x xs H2 Q
theorem q_bmT {o e : Expr} {es : List Expr} {to : TE} {t : TA} {name : Str} {apos cpos : Pos} {id : String} {r : V → List V → Hp → VK → Prop} (pa : PlainAttrs "tuple") (slot : Slot "tuple" name id) (hty : typeOf (.builtin id) = pure (.type "method_descriptor")) (hm : QMt X id r) (ho : QE X o to) (ha : QA X (e :: es) t)
    (hbase : attributeBase o name X.env (eval o X.env) = eval o X.env := by rfl)
    (hfew : ((backTo cpos (starEach (e :: es) X.env)).all (fun x => !x.1) && (backToKw cpos (keywordEach [] X.env)).all (fun x => x.1.isSome)
      && decide ((e :: es).length + ([] : List Keyword).length + (if ([] : List Keyword).isEmpty then 0 else 1) < 30)) = true := by rfl)
    (hline : (apos.endLine == cpos.line) = true := by rfl) (hs : notStar e = true := by rfl) (hplain : (backTo cpos (starEach es X.env)).any (·.1) = false := by rfl) :
    QE X (.Call (.Attribute o name apos) (e :: es) [] cpos) (tBMT r to t) := by
  refine ⟨fun pins s σ H Q I h => ?_⟩
  refine wpAny_Call_method_late hbase hfew hline rfl (thn (ho.h pins s σ H _ I h) fun v s1 ⟨x, H1, I1, r1, ty, q1⟩ => ?_)
  obtain ⟨b, xs, rfl, hb⟩ := ty
  cases r1
  obtain ⟨_, its, _, ob, e1, c1, n1, _, d1⟩ := (show ObjOk X.prog X.w H1 s1.heap b (.tup xs) from I1.hok b _ hb)
  refine ⟨"tuple", id, pa, slot, hty, ⟨ob, e1, c1⟩, fun a z => by cases z; exact ⟨ob, e1, d1⟩, ?_⟩
  have hA := ha.h cpos pins s1 σ H1 _ I1 q1
  rw [star_cons hs] at hA ⊢
  refine Calls.callWith_builtin (by show (false || (backTo cpos (starEach es X.env)).any (·.1)) = false; rw [hplain] <;> rfl) (Calls.evalArgs_plain ?_)
  exact thn hA fun us s2 ⟨vs, H2, I2, r2, q2⟩ => hm.h pins s2 σ H2 (.ref b) vs (.ref b) us Q I2 rfl r2 q2
end
end L2

set_option Elab.async false
set_option linter.all false
set_option maxRecDepth 100000
set_option maxHeartbeats 4000000
namespace My
open PySem L2
def top (i : Nat) : Stmt := PySem.Challenge.pw_noughtways_k07_tables_refused.main.body.getD i (.Pass ⟨0, 0, 0, 0⟩)
abbrev s_is_whole : Stmt := top 16
theorem sc_is_whole : FnScope ["thing"] ["thing"] (defScope s_is_whole) := ⟨rfl, rfl, rfl, by decide +kernel, rfl, by decide +kernel, by decide +kernel⟩
theorem bd_is_whole : BindOk "is_whole" s_is_whole ["thing"] := fun _ _ _ _ _ _ us hl => match us, hl with | [_], _ => rfl
abbrev s_is_row : Stmt := top 17
theorem sc_is_row : FnScope ["thing", "size"] ["thing", "size"] (defScope s_is_row) := ⟨rfl, rfl, rfl, by decide +kernel, rfl, by decide +kernel, by decide +kernel⟩
theorem bd_is_row : BindOk "is_row" s_is_row ["thing", "size"] := fun _ _ _ _ _ _ us hl => match us, hl with | [_, _], _ => rfl
abbrev s_is_grid : Stmt := top 18
theorem sc_is_grid : FnScope ["thing"] ["thing"] (defScope s_is_grid) := ⟨rfl, rfl, rfl, by decide +kernel, rfl, by decide +kernel, by decide +kernel⟩
theorem bd_is_grid : BindOk "is_grid" s_is_grid ["thing"] := fun _ _ _ _ _ _ us hl => match us, hl with | [_], _ => rfl
abbrev s_numbers_of : Stmt := top 19
theorem sc_numbers_of : FnScope ["grid", "numbers", "row"] ["grid"] (defScope s_numbers_of) := ⟨rfl, rfl, rfl, by decide +kernel, rfl, by decide +kernel, by decide +kernel⟩
theorem bd_numbers_of : BindOk "numbers_of" s_numbers_of ["grid"] := fun _ _ _ _ _ _ us hl => match us, hl with | [_], _ => rfl
abbrev s_is_bounded : Stmt := top 20
theorem sc_is_bounded : FnScope ["grid"] ["grid"] (defScope s_is_bounded) := ⟨rfl, rfl, rfl, by decide +kernel, rfl, by decide +kernel, by decide +kernel⟩
theorem bd_is_bounded : BindOk "is_bounded" s_is_bounded ["grid"] := fun _ _ _ _ _ _ us hl => match us, hl with | [_], _ => rfl
abbrev s_wrong_at : Stmt := top 21
theorem sc_wrong_at : FnScope ["thing", "bounded", "at"] ["thing", "bounded"] (defScope s_wrong_at) := ⟨rfl, rfl, rfl, by decide +kernel, rfl, by decide +kernel, by decide +kernel⟩
theorem bd_wrong_at : BindOk "wrong_at" s_wrong_at ["thing", "bounded"] := fun _ _ _ _ _ _ us hl => match us, hl with | [_, _], _ => rfl
abbrev s_is_place : Stmt := top 22
theorem sc_is_place : FnScope ["thing", "many"] ["thing", "many"] (defScope s_is_place) := ⟨rfl, rfl, rfl, by decide +kernel, rfl, by decide +kernel, by decide +kernel⟩
theorem bd_is_place : BindOk "is_place" s_is_place ["thing", "many"] := fun _ _ _ _ _ _ us hl => match us, hl with | [_, _], _ => rfl
abbrev s_are_places : Stmt := top 23
theorem sc_are_places : FnScope ["thing", "many"] ["thing", "many"] (defScope s_are_places) := ⟨rfl, rfl, rfl, by decide +kernel, rfl, by decide +kernel, by decide +kernel⟩
theorem bd_are_places : BindOk "are_places" s_are_places ["thing", "many"] := fun _ _ _ _ _ _ us hl => match us, hl with | [_, _], _ => rfl
abbrev s_is_way : Stmt := top 24
theorem sc_is_way : FnScope ["thing", "many"] ["thing", "many"] (defScope s_is_way) := ⟨rfl, rfl, rfl, by decide +kernel, rfl, by decide +kernel, by decide +kernel⟩
theorem bd_is_way : BindOk "is_way" s_is_way ["thing", "many"] := fun _ _ _ _ _ _ us hl => match us, hl with | [_, _], _ => rfl
abbrev s_need_table : Stmt := top 25
theorem sc_need_table : FnScope ["thing"] ["thing"] (defScope s_need_table) := ⟨rfl, rfl, rfl, by decide +kernel, rfl, by decide +kernel, by decide +kernel⟩
theorem bd_need_table : BindOk "need_table" s_need_table ["thing"] := fun _ _ _ _ _ _ us hl => match us, hl with | [_], _ => rfl
abbrev s_need_tables : Stmt := top 26
theorem sc_need_tables : FnScope ["thing", "at"] ["thing"] (defScope s_need_tables) := ⟨rfl, rfl, rfl, by decide +kernel, rfl, by decide +kernel, by decide +kernel⟩
theorem bd_need_tables : BindOk "need_tables" s_need_tables ["thing"] := fun _ _ _ _ _ _ us hl => match us, hl with | [_], _ => rfl
abbrev s_need_way : Stmt := top 27
theorem sc_need_way : FnScope ["thing", "many"] ["thing", "many"] (defScope s_need_way) := ⟨rfl, rfl, rfl, by decide +kernel, rfl, by decide +kernel, by decide +kernel⟩
theorem bd_need_way : BindOk "need_way" s_need_way ["thing", "many"] := fun _ _ _ _ _ _ us hl => match us, hl with | [_, _], _ => rfl
abbrev s_column_at : Stmt := top 29
theorem sc_column_at : FnScope ["table", "at"] ["table", "at"] (defScope s_column_at) := ⟨rfl, rfl, rfl, by decide +kernel, rfl, by decide +kernel, by decide +kernel⟩
theorem bd_column_at : BindOk "column_at" s_column_at ["table", "at"] := fun _ _ _ _ _ _ us hl => match us, hl with | [_, _], _ => rfl
abbrev s_columns_of : Stmt := top 30
theorem sc_columns_of : FnScope ["table"] ["table"] (defScope s_columns_of) := ⟨rfl, rfl, rfl, by decide +kernel, rfl, by decide +kernel, by decide +kernel⟩
theorem bd_columns_of : BindOk "columns_of" s_columns_of ["table"] := fun _ _ _ _ _ _ us hl => match us, hl with | [_], _ => rfl
abbrev s_row_times_column : Stmt := top 31
theorem sc_row_times_column : FnScope ["row", "column"] ["row", "column"] (defScope s_row_times_column) := ⟨rfl, rfl, rfl, by decide +kernel, rfl, by decide +kernel, by decide +kernel⟩
theorem bd_row_times_column : BindOk "row_times_column" s_row_times_column ["row", "column"] := fun _ _ _ _ _ _ us hl => match us, hl with | [_, _], _ => rfl
abbrev s_row_times_columns : Stmt := top 32
theorem sc_row_times_columns : FnScope ["row", "columns"] ["row", "columns"] (defScope s_row_times_columns) := ⟨rfl, rfl, rfl, by decide +kernel, rfl, by decide +kernel, by decide +kernel⟩
theorem bd_row_times_columns : BindOk "row_times_columns" s_row_times_columns ["row", "columns"] := fun _ _ _ _ _ _ us hl => match us, hl with | [_, _], _ => rfl
abbrev s_times : Stmt := top 33
theorem sc_times : FnScope ["one", "other", "columns"] ["one", "other"] (defScope s_times) := ⟨rfl, rfl, rfl, by decide +kernel, rfl, by decide +kernel, by decide +kernel⟩
theorem bd_times : BindOk "times" s_times ["one", "other"] := fun _ _ _ _ _ _ us hl => match us, hl with | [_, _], _ => rfl
abbrev s_along : Stmt := top 34
theorem sc_along : FnScope ["tables", "way", "told", "place"] ["tables", "way"] (defScope s_along) := ⟨rfl, rfl, rfl, by decide +kernel, rfl, by decide +kernel, by decide +kernel⟩
theorem bd_along : BindOk "along" s_along ["tables", "way"] := fun _ _ _ _ _ _ us hl => match us, hl with | [_, _], _ => rfl
abbrev s_is_nought : Stmt := top 35
theorem sc_is_nought : FnScope ["table"] ["table"] (defScope s_is_nought) := ⟨rfl, rfl, rfl, by decide +kernel, rfl, by decide +kernel, by decide +kernel⟩
theorem bd_is_nought : BindOk "is_nought" s_is_nought ["table"] := fun _ _ _ _ _ _ us hl => match us, hl with | [_], _ => rfl
abbrev s_turned : Stmt := top 36
theorem sc_turned : FnScope ["table"] ["table"] (defScope s_turned) := ⟨rfl, rfl, rfl, by decide +kernel, rfl, by decide +kernel, by decide +kernel⟩
theorem bd_turned : BindOk "turned" s_turned ["table"] := fun _ _ _ _ _ _ us hl => match us, hl with | [_], _ => rfl
abbrev s_law_cell : Stmt := top 38
theorem sc_law_cell : FnScope ["_law_script", "_law_k"] ["_law_script", "_law_k"] (defScope s_law_cell) := ⟨rfl, rfl, rfl, by decide +kernel, rfl, by decide +kernel, by decide +kernel⟩
theorem bd_law_cell : BindOk "_law_cell" s_law_cell ["_law_script", "_law_k"] := fun _ _ _ _ _ _ us hl => match us, hl with | [_, _], _ => rfl
abbrev s_law_pen : Stmt := top 39
theorem sc_law_pen : FnScope ["_law_cell_here", "_law_left"] ["_law_cell_here"] (defScope s_law_pen) := ⟨rfl, rfl, rfl, by decide +kernel, rfl, by decide +kernel, by decide +kernel⟩
theorem bd_law_pen : BindOk "_law_pen" s_law_pen ["_law_cell_here"] := fun _ _ _ _ _ _ us hl => match us, hl with | [_], _ => rfl
abbrev s_law_draw : Stmt := top 40
theorem sc_law_draw : FnScope ["_law_pen_here", "_law_many", "_law_left", "_law_found", "_law_stir"] ["_law_pen_here", "_law_many"] (defScope s_law_draw) := ⟨rfl, rfl, rfl, by decide +kernel, rfl, by decide +kernel, by decide +kernel⟩
theorem bd_law_draw : BindOk "_law_draw" s_law_draw ["_law_pen_here", "_law_many"] := fun _ _ _ _ _ _ us hl => match us, hl with | [_, _], _ => rfl
abbrev s_law_whole : Stmt := top 41
theorem sc_law_whole : FnScope ["_law_thing"] ["_law_thing"] (defScope s_law_whole) := ⟨rfl, rfl, rfl, by decide +kernel, rfl, by decide +kernel, by decide +kernel⟩
theorem bd_law_whole : BindOk "_law_whole" s_law_whole ["_law_thing"] := fun _ _ _ _ _ _ us hl => match us, hl with | [_], _ => rfl
abbrev s_law_odd : Stmt := top 42
theorem sc_law_odd : FnScope ["_law_pen_here", "_law_some"] ["_law_pen_here"] (defScope s_law_odd) := ⟨rfl, rfl, rfl, by decide +kernel, rfl, by decide +kernel, by decide +kernel⟩
theorem bd_law_odd : BindOk "_law_odd" s_law_odd ["_law_pen_here"] := fun _ _ _ _ _ _ us hl => match us, hl with | [_], _ => rfl
abbrev s_law_kind : Stmt := top 43
theorem sc_law_kind : FnScope ["_law_e", "_law_marks", "_law_words"] ["_law_e"] (defScope s_law_kind) := ⟨rfl, rfl, rfl, by decide +kernel, rfl, by decide +kernel, by decide +kernel⟩
theorem bd_law_kind : BindOk "_law_kind" s_law_kind ["_law_e"] := fun _ _ _ _ _ _ us hl => match us, hl with | [_], _ => rfl
abbrev s_law_table : Stmt := top 44
theorem sc_law_table : FnScope ["_law_pen_here", "_law_size", "_law_way", "_law_rows", "_law_row", "_law_numbers", "_law_column", "_law_number"] ["_law_pen_here", "_law_size", "_law_way"] (defScope s_law_table) := ⟨rfl, rfl, rfl, by decide +kernel, rfl, by decide +kernel, by decide +kernel⟩
theorem bd_law_table : BindOk "_law_table" s_law_table ["_law_pen_here", "_law_size", "_law_way"] := fun _ _ _ _ _ _ us hl => match us, hl with | [_, _, _], _ => rfl
abbrev s_law_tables : Stmt := top 45
theorem sc_law_tables : FnScope ["_law_pen_here", "_law_most", "_law_way", "_law_size"] ["_law_pen_here", "_law_most", "_law_way"] (defScope s_law_tables) := ⟨rfl, rfl, rfl, by decide +kernel, rfl, by decide +kernel, by decide +kernel⟩
theorem bd_law_tables : BindOk "_law_tables" s_law_tables ["_law_pen_here", "_law_most", "_law_way"] := fun _ _ _ _ _ _ us hl => match us, hl with | [_, _, _], _ => rfl
abbrev s_law_bent : Stmt := top 46
theorem sc_law_bent : FnScope ["_law_pen_here", "_law_table_here", "_law_size", "_law_at", "_law_to", "_law_row", "_law_odd_here", "_law_rows", "_law_here", "_law_some"] ["_law_pen_here", "_law_table_here"] (defScope s_law_bent) := ⟨rfl, rfl, rfl, by decide +kernel, rfl, by decide +kernel, by decide +kernel⟩
theorem bd_law_bent : BindOk "_law_bent" s_law_bent ["_law_pen_here", "_law_table_here"] := fun _ _ _ _ _ _ us hl => match us, hl with | [_, _], _ => rfl
abbrev s_law_bent_list : Stmt := top 47
theorem sc_law_bent_list : FnScope ["_law_pen_here", "_law_tables_here", "_law_at", "_law_odd_here", "_law_rows"] ["_law_pen_here", "_law_tables_here"] (defScope s_law_bent_list) := ⟨rfl, rfl, rfl, by decide +kernel, rfl, by decide +kernel, by decide +kernel⟩
theorem bd_law_bent_list : BindOk "_law_bent_list" s_law_bent_list ["_law_pen_here", "_law_tables_here"] := fun _ _ _ _ _ _ us hl => match us, hl with | [_, _], _ => rfl
abbrev s_law_is_square : Stmt := top 48
theorem sc_law_is_square : FnScope ["_law_thing", "_law_row"] ["_law_thing"] (defScope s_law_is_square) := ⟨rfl, rfl, rfl, by decide +kernel, rfl, by decide +kernel, by decide +kernel⟩
theorem bd_law_is_square : BindOk "_law_is_square" s_law_is_square ["_law_thing"] := fun _ _ _ _ _ _ us hl => match us, hl with | [_], _ => rfl
abbrev s_law_wrong_list : Stmt := top 49
theorem sc_law_wrong_list : FnScope ["_law_thing", "_law_at", "_law_table_here"] ["_law_thing"] (defScope s_law_wrong_list) := ⟨rfl, rfl, rfl, by decide +kernel, rfl, by decide +kernel, by decide +kernel⟩
theorem bd_law_wrong_list : BindOk "_law_wrong_list" s_law_wrong_list ["_law_thing"] := fun _ _ _ _ _ _ us hl => match us, hl with | [_], _ => rfl
abbrev s_law_said : Stmt := top 50
theorem sc_law_said : FnScope ["_law_thing", "_law_way", "_law_e"] ["_law_thing", "_law_way"] (defScope s_law_said) := ⟨rfl, rfl, rfl, by decide +kernel, rfl, by decide +kernel, by decide +kernel⟩
theorem bd_law_said : BindOk "_law_said" s_law_said ["_law_thing", "_law_way"] := fun _ _ _ _ _ _ us hl => match us, hl with | [_, _], _ => rfl
abbrev s_law_one : Stmt := top 51
theorem sc_law_one : FnScope ["_law_way", "_law_table_here", "_law_e"] ["_law_way", "_law_table_here"] (defScope s_law_one) := ⟨rfl, rfl, rfl, by decide +kernel, rfl, by decide +kernel, by decide +kernel⟩
theorem bd_law_one : BindOk "_law_one" s_law_one ["_law_way", "_law_table_here"] := fun _ _ _ _ _ _ us hl => match us, hl with | [_, _], _ => rfl
abbrev s_law_table_right : Stmt := top 52
theorem sc_law_table_right : FnScope ["_law_thing", "_law_nought", "_law_word", "_law_found", "_law_due"] ["_law_thing"] (defScope s_law_table_right) := ⟨rfl, rfl, rfl, by decide +kernel, rfl, by decide +kernel, by decide +kernel⟩
theorem bd_law_table_right : BindOk "_law_table_right" s_law_table_right ["_law_thing"] := fun _ _ _ _ _ _ us hl => match us, hl with | [_], _ => rfl
abbrev s_law : Stmt := top 53
theorem sc_law : FnScope ["_law_script", "_law_thing", "_law_cell_here", "_law_pen_here", "_law_tables_here", "_law_due"] ["_law_script"] (defScope s_law) := ⟨rfl, rfl, rfl, by decide +kernel, rfl, by decide +kernel, by decide +kernel⟩
theorem bd_law : BindOk "law" s_law ["_law_script"] := fun _ _ _ _ _ _ us hl => match us, hl with | [_], _ => rfl
abbrev s_NoTables_init : Stmt := inClass (top 8) 0
theorem sc_NoTables_init : FnScope ["self", "at"] ["self", "at"] (defScope s_NoTables_init) := ⟨rfl, rfl, rfl, by decide +kernel, rfl, by decide +kernel, by decide +kernel⟩
theorem bd_NoTables_init : ∀ (kV doc pm : Value) (an : Option Addr) (cdv ct : Value) (us : List Value), us.length = 2 → bindArgs (PySem.W.fnOf "__init__" "NoTables.__init__" (defArgs s_NoTables_init) (defBody s_NoTables_init) (defScope s_NoTables_init) .none kV doc pm an cdv ct) ⟨us, []⟩ = pure ((["self", "at"] : List Str).zip us) := fun _ _ _ _ _ _ us hl => match us, hl with | [_, _], _ => rfl
theorem bt_isinstance : PySem.bootBuiltins "isinstance" = some (.builtin "isinstance") := by decide +kernel
theorem bt_len : PySem.bootBuiltins "len" = some (.builtin "len") := by decide +kernel
theorem bt_all : PySem.bootBuiltins "all" = some (.builtin "all") := by decide +kernel
theorem bt_abs : PySem.bootBuiltins "abs" = some (.builtin "abs") := by decide +kernel
theorem bt_max : PySem.bootBuiltins "max" = some (.builtin "max") := by decide +kernel
theorem bt_divmod : PySem.bootBuiltins "divmod" = some (.builtin "divmod") := by decide +kernel
theorem bt_int : PySem.bootBuiltins "int" = some (.type "int") := by decide +kernel
theorem bt_bool : PySem.bootBuiltins "bool" = some (.type "bool") := by decide +kernel
theorem bt_tuple : PySem.bootBuiltins "tuple" = some (.type "tuple") := by decide +kernel
theorem bt_list : PySem.bootBuiltins "list" = some (.type "list") := by decide +kernel
theorem bt_range : PySem.bootBuiltins "range" = some (.type "range") := by decide +kernel
theorem bt_sum : PySem.bootBuiltins "sum" = some (.builtin "sum") := by decide +kernel
theorem bt_any : PySem.bootBuiltins "any" = some (.builtin "any") := by decide +kernel
theorem bt_enumerate : PySem.bootBuiltins "enumerate" = some (.type "enumerate") := by decide +kernel
theorem bt_ValueError : PySem.bootBuiltins "ValueError" = some (.type "ValueError") := by decide +kernel
structure Txt (K : PySem.W.Frag) (mg : Str → Option Value) : Prop where
  n_isinstance : mg "isinstance" = none
  n_len : mg "len" = none
  n_all : mg "all" = none
  n_any : mg "any" = none
  n_enumerate : mg "enumerate" = none
  n_abs : mg "abs" = none
  n_sum : mg "sum" = none
  n_max : mg "max" = none
  n_divmod : mg "divmod" = none
  n_int : mg "int" = none
  n_bool : mg "bool" = none
  n_tuple : mg "tuple" = none
  n_list : mg "list" = none
  n_range : mg "range" = none
  n_ValueError : mg "ValueError" = none
  m_MOST_ROWS : ∃ u, mg "MOST_ROWS" = some u ∧ RelV (.int 4) u
  m_MOST_TABLES : ∃ u, mg "MOST_TABLES" = some u ∧ RelV (.int 4) u
  m_MOST_PLACES : ∃ u, mg "MOST_PLACES" = some u ∧ RelV (.int 200) u
  ex : Exs K mg
  i_NoTables : Ini K (cad mg "NoughtError") (cad mg "NoTables")
section
variable {P : Program} {w : World} {K : PySem.W.Frag} {mg : Str → Option Value} {base : Heap}
/-! ### the program: kinds -/
def whole : T → Bool
  | .int _ => true
  | _ => false
def sp_whole : Sp := fun vs H Q _ => ∃ v t, vs = [v] ∧ Is H v t ∧ Q (.bl (whole t)) H
theorem whole_and (t : T) (A : Bool → Prop) (h : A (whole t)) : if instN (tyT t) "int" = true then A (!instN (tyT t) "bool") else A false := by
  cases t <;> exact h
theorem has_is_whole (d : Dfn K mg "is_whole" s_is_whole) (tx : Txt K mg) : Has P w K mg base "is_whole" ["thing"] 1 sp_whole := by
  refine has_q (k := 0) d sc_is_whole bd_is_whole (fun vs H Q E h => ?_) (fun f cdv A outer s H vs Q E hr h => ?_)
  · obtain ⟨v, t, rfl, _⟩ := h
    rfl
  · obtain ⟨v, t, rfl, it, q⟩ := h
    refine ⟨_, (q_bone (q_ret (q_and (q_bi c_inst tx.n_isinstance bt_isinstance (q_cons (q_pv 0) (q_cons (q_ty "int" tx.n_int bt_int) q_nil))) (q_one (q_not (q_bi c_inst tx.n_isinstance bt_isinstance (q_cons (q_pv 0) (q_cons (q_ty "bool" tx.n_bool bt_bool) q_nil)))))))), ?_⟩
    refine ⟨_, rfl, _, _, t, rfl, it, by simp, _, rfl, ?_⟩
    refine ite2 (fun c => ?_) (fun c => ?_)
    · refine ⟨_, rfl, _, _, t, rfl, it, by simp, _, rfl, ?_⟩
      have z := whole_and t (fun b => Q (.bl b) H) q
      rw [if_pos c] at z
      exact z
    · have z := whole_and t (fun b => Q (.bl b) H) q
      rw [if_neg c] at z
      exact z
/-- a list of truths, item by item -/
theorem all_bl {α : Type} {f : α → Bool} : ∀ {xs : List α} {ys : List V}, (∀ (j : Nat) (y : V), ys[j]? = some y → ∃ t, xs[j]? = some t ∧ y = V.bl (f t)) → ys.length = xs.length → ys.all truOk = true ∧ ys.all truV = xs.all f
  | [], [], _, _ => ⟨rfl, rfl⟩
  | x :: xs, y :: ys, h, hl => by
    obtain ⟨t, ht, rfl⟩ := h 0 y rfl
    cases ht
    obtain ⟨a, b⟩ := all_bl (f := f) (xs := xs) (ys := ys) (fun j z e => h (j + 1) z e) (by simpa using hl)
    rw [List.all_cons, List.all_cons, List.all_cons, a, b]
    exact ⟨rfl, rfl⟩
  | [], _ :: _, _, hl => by simp at hl
  | _ :: _, [], _, hl => by simp at hl
def isRow (t : T) (n : Int) : Bool := match t with
  | .tup ts => decide ((ts.length : Int) = n) && ts.all whole
  | _ => false
theorem isRow_tup (ts : List T) (n : Int) : isRow (.tup ts) n = (decide ((ts.length : Int) = n) && ts.all whole) := rfl
def sp_row : Sp := fun vs H Q _ => ∃ v t n, vs = [v, .int n] ∧ Is H v t ∧ ∀ H', Same H H' → Q (.bl (isRow t n)) H'
theorem has_is_row (d : Dfn K mg "is_row" s_is_row) (tx : Txt K mg) (h_is_whole : Has P w K mg base "is_whole" ["thing"] 1 sp_whole) : Has P w K mg base "is_row" ["thing", "size"] 2 sp_row := by
  refine has_q (k := 1) d sc_is_row bd_is_row (fun vs H Q E h => ?_) (fun f cdv A outer s H vs Q E hr h => ?_)
  · obtain ⟨v, t, n, rfl, _⟩ := h
    rfl
  · obtain ⟨v, t, n, rfl, it, q⟩ := h
    refine ⟨_, (q_bcons (q_sif (q_wt (q_wor (q_tnot (q_tval (q_bi c_inst tx.n_isinstance bt_isinstance (q_cons (q_pv 0) (q_cons (q_ty "tuple" tx.n_tuple bt_tuple) q_nil))))) (q_wor1 (q_tcmp o_ne (q_bi (c_len K rfl) tx.n_len bt_len (q_cons (q_pv 0) q_nil)) (q_pv 1) (nomark _))))) (q_bone (q_ret q_bl)) q_bnil)
      (q_bone (q_ret (q_bi (c_all K rfl) tx.n_all bt_all (q_cons (q_comp ["number"] [none] rfl (q_seq K rfl (q_pv 0)) (fun _ _ _ => (q_name (i := 0) (show List.Nodup (["number"] : List PySem.Str) by decide +kernel))) (fun _ _ _ => q_c0) (fun _ _ _ => (q_fn h_is_whole (hr.mono (by decide)) (q_cons (q_pv 0) q_nil)))) q_nil))))), ?_⟩
    refine ⟨_, rfl, _, _, t, rfl, it, by simp, _, rfl, ?_⟩
    cases t with
    | tup ts =>
      obtain ⟨a, us, rfl, ha, r⟩ := it.tup_inv
      have hl := r.length
      refine iteF ?_
      refine ⟨_, rfl, a, us, rfl, .inr (SqT.of ha), _, rfl, rfl, _, rfl, ?_⟩
      refine ite2 (fun c => ?_) (fun c => ?_)
      · have e : isRow (.tup ts) n = false := by
          have c : us.length ≠ n := by simpa using c
          simp only [isRow, Bool.and_eq_false_iff]
          exact .inl (decide_eq_false (by omega))
        have z := q H (Same.refl H)
        rw [e] at z
        exact z
      · have c : (us.length : Int) = n := by simpa using c
        refine ⟨_, rfl, a, rfl, .inr ⟨⟨us, SqT.of ha⟩, fun l hl0 => ?_⟩⟩
        refine comp_map wk_tup (fun _ i y => ∃ t, ts[i]? = some t ∧ y = .bl (whole t)) (fun _ _ _ _ _ h => h) rfl hl0 ?_ (SqT.of ha) ?_ ?_
        · have := it.tup_len
          exact small_line (by omega)
        · intro i x H1 Q1 hx s1 _ k
          obtain ⟨t, ht, itx⟩ := r.get hx
          exact ⟨_, rfl, x, t, rfl, itx.mono s1, k _ _ (Same.refl _) ⟨t, ht, rfl⟩⟩
        · intro ys H' s' hl' hlen hys
          have key := all_bl hys (by omega)
          refine ⟨l, ys, rfl, SqL.of hl', key.1, ?_⟩
          rw [key.2]
          have z := q H' s'
          rw [show isRow (.tup ts) n = ts.all whole by rw [isRow_tup, decide_eq_true (by omega), Bool.true_and]] at z
          exact z
    | _ =>
      refine iteT ?_
      exact q H (Same.refl H)
def isGrid (t : T) : Bool := match t with
  | .tup ts => decide (1 ≤ ts.length ∧ ts.length ≤ 4) && ts.all fun r => isRow r ts.length
  | _ => false
theorem isGrid_tup (ts : List T) : isGrid (.tup ts) = (decide (1 ≤ ts.length ∧ ts.length ≤ 4) && ts.all fun r => isRow r ts.length) := rfl
def sp_grid : Sp := fun vs H Q _ => ∃ v t, vs = [v] ∧ Is H v t ∧ ∀ H', Same H H' → Q (.bl (isGrid t)) H'
theorem has_is_grid (d : Dfn K mg "is_grid" s_is_grid) (tx : Txt K mg) (h_is_row : Has P w K mg base "is_row" ["thing", "size"] 2 sp_row) : Has P w K mg base "is_grid" ["thing"] 3 sp_grid := by
  refine has_q (k := 2) d sc_is_grid bd_is_grid (fun vs H Q E h => ?_) (fun f cdv A outer s H vs Q E hr h => ?_)
  · obtain ⟨v, t, rfl, _⟩ := h
    rfl
  · obtain ⟨v, t, rfl, it, q⟩ := h
    refine ⟨_, (q_bcons (q_sif (q_wt (q_wor (q_tnot (q_tval (q_bi c_inst tx.n_isinstance bt_isinstance (q_cons (q_pv 0) (q_cons (q_ty "tuple" tx.n_tuple bt_tuple) q_nil))))) (q_wor (q_tcmp o_lt (q_bi (c_len K rfl) tx.n_len bt_len (q_cons (q_pv 0) q_nil)) q_int (nomark _)) (q_wor1 (q_tcmp o_gt (q_bi (c_len K rfl) tx.n_len bt_len (q_cons (q_pv 0) q_nil)) (q_glob tx.m_MOST_ROWS) (nomark _)))))) (q_bone (q_ret q_bl)) q_bnil)
      (q_bone (q_ret (q_bi (c_all K rfl) tx.n_all bt_all (q_cons (q_comp ["row", "thing"] [none, some 0] rfl (q_seq K rfl (q_pv 0)) (fun _ _ _ => (q_name (i := 0) (show List.Nodup (["row", "thing"] : List PySem.Str) by decide +kernel))) (fun _ _ _ => q_c0) (fun _ _ _ => (q_fn h_is_row (hr.mono (by decide)) (q_cons (q_pv 0) (q_cons (q_bi (c_len K rfl) tx.n_len bt_len (q_cons (q_pv 1) q_nil)) q_nil))))) q_nil))))), ?_⟩
    refine ⟨_, rfl, _, _, t, rfl, it, by simp, _, rfl, ?_⟩
    cases t with
    | tup ts =>
      obtain ⟨a, us, rfl, ha, r⟩ := it.tup_inv
      have hl := r.length
      have no : ¬ (1 ≤ ts.length ∧ ts.length ≤ 4) → Q (.bl false) H := fun c => by
        have z := q H (Same.refl H)
        rw [show isGrid (.tup ts) = false by rw [isGrid_tup, decide_eq_false c, Bool.false_and]] at z
        exact z
      refine iteF ?_
      refine ⟨_, rfl, a, us, rfl, .inr (SqT.of ha), _, _, rfl, rfl, _, rfl, ?_⟩
      refine ite2 (fun c => ?_) (fun c => ?_)
      · refine iteT (no ?_)
        have c : (us.length : Int) < 1 := by simpa using c
        omega
      · refine ⟨_, rfl, a, us, rfl, .inr (SqT.of ha), _, _, rfl, rfl, _, rfl, ?_⟩
        have c : ¬ (us.length : Int) < 1 := by simpa using c
        refine ite2 (fun c2 => ?_) (fun c2 => ?_)
        · have c2 : (4 : Int) < us.length := by simpa using c2
          exact no (by omega)
        · have c2 : ¬ (4 : Int) < us.length := by simpa using c2
          refine ⟨_, rfl, a, rfl, .inr ⟨⟨us, SqT.of ha⟩, fun l hl0 => ?_⟩⟩
          refine comp_map wk_tup (fun _ i y => ∃ t, ts[i]? = some t ∧ y = .bl (isRow t us.length)) (fun _ _ _ _ _ h => h) rfl hl0 (small_line (by omega)) (SqT.of ha) ?_ ?_
          · intro i x H1 Q1 hx s1 _ k
            obtain ⟨t, ht, itx⟩ := r.get hx
            exact ⟨_, rfl, _, rfl, a, us, rfl, .inr (SqT.of (s1 _ _ ha)), x, t, _, rfl, itx.mono s1, fun H2 s2 => k _ _ s2 ⟨t, ht, rfl⟩⟩
          · intro ys H' s' hl' hlen hys
            have key := all_bl (f := fun t => isRow t us.length) hys (by omega)
            refine ⟨l, ys, rfl, SqL.of hl', key.1, ?_⟩
            rw [key.2]
            have z := q H' s'
            rw [show isGrid (.tup ts) = ts.all (fun t => isRow t us.length) by rw [isGrid_tup, decide_eq_true (by omega), Bool.true_and, hl]] at z
            exact z
    | _ =>
      refine iteT ?_
      exact q H (Same.refl H)
/-! ### tables of ints -/
def tabT (M : List (List Int)) : T := .tup (M.map fun r => .tup (r.map T.int))
def smallI (i : Int) : Bool := decide (-1000000000000 < i ∧ i < 1000000000000)
def Square (M : List (List Int)) : Prop := 1 ≤ M.length ∧ M.length ≤ 4 ∧ ∀ r ∈ M, r.length = M.length
theorem ints_of : ∀ {ts : List T}, ts.all whole = true → ∃ ns : List Int, ts = ns.map T.int
  | [], _ => ⟨[], rfl⟩
  | t :: ts, h => by
    rw [List.all_cons, Bool.and_eq_true] at h
    obtain ⟨ns, rfl⟩ := ints_of h.2
    cases t with
    | int i => exact ⟨i :: ns, rfl⟩
    | _ => exact absurd (show false = true from h.1) Bool.false_ne_true
theorem whole_ints (ns : List Int) : (ns.map T.int).all whole = true := by
  rw [List.all_map, List.all_eq_true]
  intro n _
  rfl
theorem isRow_inv {t : T} {n : Nat} (h : isRow t n = true) : ∃ ns : List Int, t = .tup (ns.map T.int) ∧ ns.length = n := by
  cases t with
  | tup ts =>
    have h : (decide ((ts.length : Int) = n) && ts.all whole) = true := h
    rw [Bool.and_eq_true] at h
    obtain ⟨ns, rfl⟩ := ints_of h.2
    have h1 := of_decide_eq_true h.1
    rw [List.length_map] at h1
    exact ⟨ns, rfl, by omega⟩
  | _ => exact absurd (show false = true from h) Bool.false_ne_true
theorem isRow_ints (ns : List Int) : isRow (.tup (ns.map T.int)) ns.length = true := by
  show (decide (((ns.map T.int).length : Int) = ns.length) && (ns.map T.int).all whole) = true
  rw [whole_ints, List.length_map, Bool.and_true]
  exact decide_eq_true rfl
theorem rows_inv {n : Nat} : ∀ {ts : List T}, (ts.all fun r => isRow r n) = true → ∃ M : List (List Int), ts = M.map (fun r => T.tup (r.map T.int)) ∧ ∀ r ∈ M, r.length = n
  | [], _ => ⟨[], rfl, fun r hr => by cases hr⟩
  | t :: ts, h => by
    rw [List.all_cons, Bool.and_eq_true] at h
    obtain ⟨M, rfl, hM⟩ := rows_inv h.2
    obtain ⟨ns, rfl, hn⟩ := isRow_inv h.1
    refine ⟨ns :: M, rfl, fun r hr => ?_⟩
    rcases List.mem_cons.mp hr with rfl | hr
    · exact hn
    · exact hM r hr
theorem isGrid_inv {t : T} (h : isGrid t = true) : ∃ M, t = tabT M ∧ Square M := by
  cases t with
  | tup ts =>
    have h : (decide (1 ≤ ts.length ∧ ts.length ≤ 4) && ts.all fun r => isRow r ts.length) = true := h
    rw [Bool.and_eq_true] at h
    obtain ⟨M, e, hM⟩ := rows_inv h.2
    have h1 := of_decide_eq_true h.1
    subst e
    rw [List.length_map] at h1 hM
    exact ⟨M, rfl, h1.1, h1.2, hM⟩
  | _ => exact absurd (show false = true from h) Bool.false_ne_true
theorem isGrid_tab {M : List (List Int)} (h : Square M) : isGrid (tabT M) = true := by
  unfold tabT isGrid
  dsimp only
  rw [List.length_map, decide_eq_true ⟨h.1, h.2.1⟩, Bool.true_and, List.all_map, List.all_eq_true]
  intro r hr
  have := isRow_ints r
  rw [h.2.2 r hr] at this
  exact this
def bndT : T → Bool
  | .tup rs => rs.all fun r => match r with
    | .tup xs => xs.all fun x => match x with
      | .int i => smallI i
      | _ => false
    | _ => false
  | _ => false
theorem bndT_tab (M : List (List Int)) : bndT (tabT M) = M.flatten.all smallI := by
  unfold tabT bndT
  dsimp only
  induction M with
  | nil => rfl
  | cons r M ih =>
    rw [List.map_cons, List.all_cons, List.flatten_cons, List.all_append, ih]
    congr 1
    dsimp only
    rw [List.all_map]
    rfl
theorem flat_len {M : List (List Int)} {n : Nat} (h : ∀ r ∈ M, r.length = n) : M.flatten.length = M.length * n := by
  induction M with
  | nil => simp
  | cons r M ih =>
    rw [List.flatten_cons, List.length_append, ih fun z hz => h z (List.mem_cons_of_mem _ hz), h r List.mem_cons_self, List.length_cons, Nat.succ_mul, Nat.add_comm]
theorem Square.flat {M : List (List Int)} (h : Square M) : M.flatten.length ≤ 16 := by
  rw [flat_len h.2.2]
  have := Nat.mul_le_mul h.2.1 h.2.1
  omega
theorem tab_inj {M N : List (List Int)} (h : tabT M = tabT N) : M = N := by
  unfold tabT at h
  injection h with h
  have inj1 : ∀ a b : List Int, a.map T.int = b.map T.int → a = b := by
    intro a
    induction a with
    | nil => intro b h; cases b with
      | nil => rfl
      | cons _ _ => cases h
    | cons x xs ih => intro b h; cases b with
      | nil => cases h
      | cons y ys =>
        rw [List.map_cons, List.map_cons] at h
        injection h with h1 h2
        injection h1 with h1
        rw [h1, ih ys h2]
  revert N
  induction M with
  | nil => intro N h; cases N with
    | nil => rfl
    | cons _ _ => cases h
  | cons r M ih => intro N h; cases N with
    | nil => cases h
    | cons q N =>
      rw [List.map_cons, List.map_cons] at h
      injection h with h1 h2
      injection h1 with h1
      rw [inj1 _ _ h1, ih h2]
/-! ### the program: what is no table is refused -/
def sp_need_table (mg : Str → Option Value) : Sp := fun vs H Q E => ∃ v t, vs = [v] ∧ Is H v t ∧ (isGrid t = true → ∀ H', Same H H' → Q .non H') ∧ (isGrid t = false → ∀ H', Same H H' → E (.ref (cad mg "NoTable")) none H')
theorem has_need_table (d : Dfn K mg "need_table" s_need_table) (tx : Txt K mg) (h_is_grid : Has P w K mg base "is_grid" ["thing"] 3 sp_grid) : HasE P w K mg base "need_table" ["thing"] 4 (sp_need_table mg) := by
  refine hasE_q (k := 3) d sc_need_table bd_need_table (fun vs H Q E h => ?_) (fun _ f cdv A outer s H vs Q E _ pz hr h => ?_)
  · obtain ⟨v, t, rfl, _⟩ := h
    rfl
  · obtain ⟨v, t, rfl, it, q1, q2⟩ := h
    refine ⟨_, (q_bone (q_sif (q_tnot (q_tval (q_fn h_is_grid (hr.mono (by decide)) (q_cons (q_pv 0) q_nil)))) (q_bone (q_raise pz rfl PySem.F.excBase_ValueError (tx.ex.rz 0 (by decide) rfl) (tx.ex.m 0 _ rfl) (q_cons q_str q_nil))) q_bnil)), ?_⟩
    refine ⟨_, rfl, v, t, rfl, it, fun H1 s1 => ⟨_, rfl, ?_⟩⟩
    cases hg : isGrid t with
    | true => exact iteF (q1 hg H1 s1)
    | false => exact iteT ⟨by show 1 ≤ sizeLine; decide, q2 hg H1 s1⟩
def sp_numbers : Sp := fun vs H Q _ => ∃ v M, vs = [v] ∧ Is H v (tabT M) ∧ M.flatten.length ≤ 1000 ∧ ∀ l H', Same H H' → H l = none → H' l = some (.lst (M.flatten.map V.int)) → Q (.ref l) H'
theorem take_flat {M : List (List Int)} {i : Nat} {r : List Int} (h : M[i]? = some r) : (M.take (i + 1)).flatten = (M.take i).flatten ++ r := by
  rw [List.take_add_one, h, List.flatten_append]
  simp
theorem has_numbers_of (d : Dfn K mg "numbers_of" s_numbers_of) (tx : Txt K mg) : Has P w K mg base "numbers_of" ["grid"] 1 sp_numbers := by
  refine has_q (k := 0) d sc_numbers_of bd_numbers_of (fun vs H Q E h => ?_) (fun f cdv A outer s H vs Q E hr h => ?_)
  · obtain ⟨v, M, rfl, _⟩ := h
    rfl
  · obtain ⟨v, M, rfl, it, hz, q⟩ := h
    obtain ⟨a, us, rfl, ha, r⟩ := it.tup_inv
    have hl := r.length
    refine ⟨_, (q_bcons (q_set (i := 1) sc_numbers_of.nd (w_lst w_nil))
      (q_bcons (q_for PassesOwn.never rfl (q_seq K rfl (q_pv 0)) (q_name (i := 2) sc_numbers_of.nd) (q_bone (q_expr (q_bm K rfl PySem.F.plainAttrs_list PySem.F.slot_list_extend PySem.F.type_list_extend (m_extendT K rfl) (q_pv 1) (q_cons (q_pv 2) q_nil)))))
      (q_bone (q_ret (q_pv 1))))), ?_⟩
    refine fun v0 H0 s0 r0 => ?_
    obtain ⟨l, ws, rfl, hl0, rn⟩ := r0.lst_inv
    rw [rn.nil_inv] at hl0
    obtain ⟨hn, hl0⟩ := frp_some hl0
    refine ⟨_, rfl, a, rfl, .inr ⟨⟨us, SqT.of (s0 _ _ ha)⟩, for_tup (K := K) (a := a) (xs := us) (fun i σ H2 => (∃ o, σ = [some (.ref a), some (.ref l), o]) ∧ Same H H2 ∧ H2 l = some (.lst ((M.take i).flatten.map V.int)))
      ⟨⟨none, rfl⟩, s0, hl0⟩ (fun i σ H2 _ h => SqT.of (h.2.1 _ _ ha)) ?_ ?_⟩⟩
    · rintro i x σ H2 hx ⟨⟨o, rfl⟩, s2, hl2⟩
      obtain ⟨t, ht, itx⟩ := r.get hx
      obtain ⟨row, hrow, rfl⟩ : ∃ row, M[i]? = some row ∧ t = .tup (row.map T.int) := by
        rw [List.getElem?_map] at ht
        cases e : M[i]? with
        | none => rw [e] at ht; cases ht
        | some row => rw [e] at ht; exact ⟨row, rfl, (Option.some.inj ht).symm⟩
      obtain ⟨b, ws, rfl, hb, rb⟩ := itx.tup_inv
      have hws := rb.ints_inv
      subst hws
      have hle : (M.take (i + 1)).flatten.length ≤ M.flatten.length := by
        have e : M.flatten = (M.take (i + 1)).flatten ++ (M.drop (i + 1)).flatten := by rw [← List.flatten_append, List.take_append_drop]
        rw [e, List.length_append]
        omega
      have ht1 := take_flat hrow
      refine ⟨_, rfl, .inl ⟨rfl, _, SqL.of hl2⟩, _, rfl, l, b, _, _, rfl, rfl, hl2, SqT.of (s2 _ _ hb), ?_, ?_⟩
      · rw [List.length_map, List.length_map, ← List.length_append, ← ht1, sizeLine_eq]
        omega
      · refine ⟨⟨_, rfl⟩, fun c o e => ?_, ?_⟩
        · rw [upd_ne (ne_of_none e hn)]
          exact s2 c o e
        · rw [upd_same, ht1, List.map_append]
    · rintro σ H2 ⟨⟨o, rfl⟩, s2, hl2⟩
      rw [show us.length = M.length by rw [hl, List.length_map], List.take_length] at hl2
      exact ⟨_, rfl, q l H2 s2 hn hl2⟩
def sp_bounded : Sp := fun vs H Q _ => ∃ v M, vs = [v] ∧ Is H v (tabT M) ∧ M.flatten.length ≤ 1000 ∧ ∀ H', Same H H' → Q (.bl (M.flatten.all smallI)) H'
theorem abs_small (i : Int) : decide ((if i < 0 then -i else i) < 1000000000000) = smallI i := by
  unfold smallI
  by_cases h : i < 0
  · rw [if_pos h]
    exact decide_eq_decide.mpr (by omega)
  · rw [if_neg h]
    exact decide_eq_decide.mpr (by omega)
theorem has_is_bounded (d : Dfn K mg "is_bounded" s_is_bounded) (tx : Txt K mg) (h_numbers_of : Has P w K mg base "numbers_of" ["grid"] 1 sp_numbers) : Has P w K mg base "is_bounded" ["grid"] 2 sp_bounded := by
  refine has_q (k := 1) d sc_is_bounded bd_is_bounded (fun vs H Q E h => ?_) (fun f cdv A outer s H vs Q E hr h => ?_)
  · obtain ⟨v, M, rfl, _⟩ := h
    rfl
  · obtain ⟨v, M, rfl, it, hz, q⟩ := h
    refine ⟨_, (q_bone (q_ret (q_bi (c_all K rfl) tx.n_all bt_all (q_cons (q_comp ["number"] [none] rfl (q_seq K rfl (q_fn h_numbers_of (hr.mono (by decide)) (q_cons (q_pv 0) q_nil))) (fun _ _ _ => (q_name (i := 0) (show List.Nodup (["number"] : List PySem.Str) by decide +kernel))) (fun _ _ _ => q_c0) (fun _ _ _ => (q_cmp o_lt (q_bi c_abs tx.n_abs bt_abs (q_cons (q_pv 0) q_nil)) (q_op o_pow q_int q_int) (nomark _)))) q_nil)))), ?_⟩
    refine ⟨_, rfl, v, M, rfl, it, hz, fun l0 H0 s0 hn0 hl0 => ⟨l0, rfl, .inl ⟨⟨_, SqL.of hl0⟩, fun l hn => ?_⟩⟩⟩
    refine comp_map wk_list (fun _ i y => ∃ n, M.flatten[i]? = some n ∧ y = .bl (smallI n)) (fun _ _ _ _ _ h => h) rfl hn (small_line (by rw [List.length_map]; omega)) (SqL.of hl0) ?_ ?_
    · intro i x H1 Q1 hx s1 _ k
      rw [List.getElem?_map] at hx
      cases e : M.flatten[i]? with
      | none => rw [e] at hx; cases hx
      | some n =>
        rw [e] at hx
        cases hx
        refine ⟨_, rfl, n, rfl, _, _, rfl, rfl, ⟨by decide, by decide, by decide⟩, _, _, rfl, rfl, ?_⟩
        refine k _ _ (Same.refl _) ⟨n, e, ?_⟩
        rw [← abs_small n]
        rfl
    · intro ys H' s' hl' hlen hys
      have key := all_bl (f := smallI) hys (by rw [hlen, List.length_map])
      refine ⟨l, ys, rfl, SqL.of hl', key.1, ?_⟩
      rw [key.2]
      exact q H' (s0.trans s')
/-! ### the program: what is wrong with tables -/
def lenT : T → Nat
  | .tup ts => ts.length
  | _ => 0
def goodAt (b : Bool) (t0 t : T) : Bool := isGrid t && decide (lenT t = lenT t0) && (!b || bndT t)
def firstBad (b : Bool) (ts : List T) : Option Nat := (List.range ts.length).find? fun i => !goodAt b (ts.getD 0 .non) (ts.getD i .non)
def wrongV (b : Bool) (t : T) : V := match t with
  | .lst ts => if 1 ≤ ts.length ∧ ts.length ≤ 4 then (match firstBad b ts with
    | some i => .int (i : Nat)
    | none => .non) else .int (-1)
  | _ => .int (-1)
theorem wrongV_lst {b : Bool} {ts : List T} (h : 1 ≤ ts.length ∧ ts.length ≤ 4) : wrongV b (.lst ts) = (match firstBad b ts with
    | some i => .int (i : Nat)
    | none => .non) := by unfold wrongV; exact if_pos h
theorem wrongV_long {b : Bool} {ts : List T} (h : ¬ (1 ≤ ts.length ∧ ts.length ≤ 4)) : wrongV b (.lst ts) = .int (-1) := by unfold wrongV; exact if_neg h
theorem firstBad_some {b : Bool} {ts : List T} {i : Nat} (hi : i < ts.length) (h : goodAt b (ts.getD 0 .non) (ts.getD i .non) = false) (hj : ∀ j, j < i → goodAt b (ts.getD 0 .non) (ts.getD j .non) = true) : firstBad b ts = some i := by
  unfold firstBad
  rw [List.find?_range_eq_some]
  exact ⟨by rw [h]; rfl, List.mem_range.mpr hi, fun j hji => by rw [hj j hji]; rfl⟩
theorem firstBad_none {b : Bool} {ts : List T} (hj : ∀ j, j < ts.length → goodAt b (ts.getD 0 .non) (ts.getD j .non) = true) : firstBad b ts = none := by
  unfold firstBad
  rw [List.find?_range_eq_none]
  exact fun j hji => by rw [hj j hji]; rfl
theorem getT {ts : List T} {i : Nat} {t : T} (h : ts[i]? = some t) : ts.getD i .non = t := by rw [List.getD_eq_getElem?_getD, h]; rfl
def sp_wrong : Sp := fun vs H Q _ => ∃ v t b, vs = [v, .bl b] ∧ Is H v t ∧ ∀ H', Same H H' → Q (wrongV b t) H'
theorem has_wrong_at (d : Dfn K mg "wrong_at" s_wrong_at) (tx : Txt K mg) (h_is_grid : Has P w K mg base "is_grid" ["thing"] 3 sp_grid) (h_is_bounded : Has P w K mg base "is_bounded" ["grid"] 2 sp_bounded) : Has P w K mg base "wrong_at" ["thing", "bounded"] 4 sp_wrong := by
  refine has_q (k := 3) d sc_wrong_at bd_wrong_at (fun vs H Q E h => ?_) (fun f cdv A outer s H vs Q E hr h => ?_)
  · obtain ⟨v, t, b, rfl, _⟩ := h
    rfl
  · obtain ⟨v, t, b, rfl, it, q⟩ := h
    refine ⟨_, (q_bcons (q_sif (q_wt (q_wor (q_tnot (q_tval (q_bi c_inst tx.n_isinstance bt_isinstance (q_cons (q_pv 0) (q_cons (q_ty "list" tx.n_list bt_list) q_nil))))) (q_wor (q_tcmp o_lt (q_bi (c_len K rfl) tx.n_len bt_len (q_cons (q_pv 0) q_nil)) q_int (nomark _)) (q_wor1 (q_tcmp o_gt (q_bi (c_len K rfl) tx.n_len bt_len (q_cons (q_pv 0) q_nil)) (q_glob tx.m_MOST_TABLES) (nomark _)))))) (q_bone (q_ret (q_un o_neg q_int))) q_bnil)
      (q_bcons (q_for PassesOwn.never rfl (q_rng1 tx.n_range (q_cons (q_bi (c_len K rfl) tx.n_len bt_len (q_cons (q_pv 0) q_nil)) q_nil)) (q_name (i := 2) sc_wrong_at.nd) (q_bcons (q_sif (q_wt (q_wor (q_tnot (q_tval (q_fn h_is_grid (hr.mono (by decide)) (q_cons (q_ix (o_ix K rfl) (q_pv 0) (q_pv 2)) q_nil)))) (q_wor1 (q_tcmp o_ne (q_bi (c_len K rfl) tx.n_len bt_len (q_cons (q_ix (o_ix K rfl) (q_pv 0) (q_pv 2)) q_nil)) (q_bi (c_len K rfl) tx.n_len bt_len (q_cons (q_ix (o_ix K rfl) (q_pv 0) q_int) q_nil)) (nomark _))))) (q_bone (q_ret (q_pv 2))) q_bnil)
      (q_bone (q_sif (q_wt (q_wand (q_tval (q_pv 1)) (q_wand1 (q_tnot (q_tval (q_fn h_is_bounded (hr.mono (by decide)) (q_cons (q_ix (o_ix K rfl) (q_pv 0) (q_pv 2)) q_nil))))))) (q_bone (q_ret (q_pv 2))) q_bnil))))
      (q_bone (q_ret q_non)))), ?_⟩
    refine ⟨_, rfl, _, _, t, rfl, it, by simp, _, rfl, ?_⟩
    cases t with
    | lst ts =>
      obtain ⟨a, us, rfl, ha, r⟩ := it.lst_inv
      have hl := r.length
      have no : ¬ (1 ≤ ts.length ∧ ts.length ≤ 4) → Q (.int (-1)) H := fun c => by
        have z := q H (Same.refl H)
        rw [wrongV_long c] at z
        exact z
      refine iteF ?_
      refine ⟨_, rfl, a, us, rfl, .inl (SqL.of ha), _, _, rfl, rfl, _, rfl, ?_⟩
      refine ite2 (fun c => ?_) (fun c => ?_)
      · refine iteT ⟨_, rfl, no ?_⟩
        have c : (us.length : Int) < 1 := by simpa using c
        omega
      · refine ⟨_, rfl, a, us, rfl, .inl (SqL.of ha), _, _, rfl, rfl, _, rfl, ?_⟩
        have c : ¬ (us.length : Int) < 1 := by simpa using c
        refine ite2 (fun c2 => ?_) (fun c2 => ?_)
        · have c2 : (4 : Int) < us.length := by simpa using c2
          exact ⟨_, rfl, no (by omega)⟩
        · have c2 : ¬ (4 : Int) < us.length := by simpa using c2
          have hz : 1 ≤ ts.length ∧ ts.length ≤ 4 := by omega
          have h0 : 0 < us.length := by omega
          obtain ⟨t0, ht0, i0⟩ := r.get (List.getElem?_eq_getElem h0)
          have g0 : ts.getD 0 .non = t0 := getT ht0
          have bad : ∀ (i : Nat) H', i < ts.length → goodAt b t0 (ts.getD i .non) = false → (∀ j, j < i → goodAt b t0 (ts.getD j .non) = true) → Same H H' → Q (.int i) H' := fun i H' hi hb hj s' => by
            have z := q H' s'
            rw [wrongV_lst hz, firstBad_some hi (by rw [g0]; exact hb) (by rw [g0]; exact hj)] at z
            exact z
          refine ⟨_, rfl, a, us, rfl, .inl (SqL.of ha), _, rfl, by omega, by omega, for_range (lo := 0) (n := (us.length : Int).toNat) (fun i σ H2 => (∃ o, σ = [some (.ref a), some (.bl b), o]) ∧ Same H H2 ∧ ∀ j, j < i → goodAt b t0 (ts.getD j .non) = true)
            ⟨⟨none, rfl⟩, Same.refl H, fun j hj => absurd hj (Nat.not_lt_zero _)⟩ ?_ ?_⟩
          · rintro i σ H2 hi ⟨⟨o, rfl⟩, s2, good⟩
            have hi : i < us.length := by omega
            obtain ⟨t, ht, ix⟩ := r.get (List.getElem?_eq_getElem hi)
            have gt : ts.getD i .non = t := getT ht
            have hit : i < ts.length := by omega
            refine ⟨_, rfl, _, rfl, .inl ⟨a, us, _, us[i], rfl, rfl, SqL.of (s2 _ _ ha), by rw [Int.zero_add]; exact atI_nat (List.getElem?_eq_getElem hi), ?_⟩⟩
            refine ⟨us[i], t, rfl, ix.mono s2, fun H3 s3 => ⟨_, rfl, ?_⟩⟩
            have S3 := s2.trans s3
            have fail : goodAt b t0 t = false → Q (.int (0 + (i : Int))) H3 := fun e => by
              rw [Int.zero_add]
              exact bad i H3 hit (by rw [gt]; exact e) good S3
            cases hg : isGrid t with
            | false => exact iteT (iteT ⟨_, rfl, fail (by unfold goodAt; rw [hg]; rfl)⟩)
            | true =>
              obtain ⟨M, rfl, sq⟩ := isGrid_inv hg
              refine iteF ?_
              have tab0 : ∃ M0, t0 = tabT M0 := by
                by_cases hi0 : i = 0
                · subst hi0
                  rw [ht0] at ht
                  cases ht
                  exact ⟨M, rfl⟩
                · have g := good 0 (by omega)
                  rw [g0] at g
                  unfold goodAt at g
                  simp only [Bool.and_eq_true] at g
                  obtain ⟨M0, e, _⟩ := isGrid_inv g.1.1
                  exact ⟨M0, e⟩
              obtain ⟨M0, rfl⟩ := tab0
              obtain ⟨ax, ux, ex, hax, hlx⟩ : ∃ ax ux, us[i] = .ref ax ∧ H3 ax = some (.tup ux) ∧ ux.length = M.length := by
                obtain ⟨ax, ux, e, hx, rx⟩ := (ix.mono S3).tup_inv
                exact ⟨ax, ux, e, hx, by rw [rx.length, List.length_map]⟩
              obtain ⟨a0, u0, e0, ha0, hl0⟩ : ∃ a0 u0, us[0] = .ref a0 ∧ H3 a0 = some (.tup u0) ∧ u0.length = M0.length := by
                obtain ⟨ax, ux, e, hx, rx⟩ := (i0.mono S3).tup_inv
                exact ⟨ax, ux, e, hx, by rw [rx.length, List.length_map]⟩
              refine ⟨_, rfl, _, rfl, .inl ⟨a, us, _, us[i], rfl, rfl, SqL.of (S3 _ _ ha), by rw [Int.zero_add]; exact atI_nat (List.getElem?_eq_getElem hi), ?_⟩⟩
              rw [ex]
              refine ⟨ax, ux, rfl, .inr (SqT.of hax), _, rfl, .inl ⟨a, us, _, us[0], rfl, rfl, SqL.of (S3 _ _ ha), atI_nat (List.getElem?_eq_getElem h0), ?_⟩⟩
              rw [e0]
              refine ⟨a0, u0, rfl, .inr (SqT.of ha0), rfl, _, rfl, ?_⟩
              have lt : lenT (tabT M) = M.length := by unfold tabT lenT; exact List.length_map _
              have lt0 : lenT (tabT M0) = M0.length := by unfold tabT lenT; exact List.length_map _
              refine ite2 (fun c3 => ?_) (fun c3 => ?_)
              · have c3 : ¬ (ux.length : Int) = u0.length := by simpa using c3
                refine ⟨_, rfl, fail ?_⟩
                unfold goodAt
                rw [lt, lt0, decide_eq_false (by omega), Bool.and_false, Bool.false_and]
              · have c3 : (ux.length : Int) = u0.length := by simpa using c3
                have eqg : goodAt b (tabT M0) (tabT M) = (!b || bndT (tabT M)) := by
                  unfold goodAt
                  rw [hg, lt, lt0, decide_eq_true (by omega)]
                  rfl
                have nxt : ∀ (σ' : St) H4, (∃ o, σ' = [some (.ref a), some (.bl b), o]) → Same H3 H4 → goodAt b (tabT M0) (tabT M) = true → ((∃ o, σ' = [some (.ref a), some (.bl b), o]) ∧ Same H H4 ∧ ∀ j, j < i + 1 → goodAt b (tabT M0) (ts.getD j .non) = true) := fun σ' H4 e s4 ok => ⟨e, S3.trans s4, fun j hj => by
                  by_cases hji : j = i
                  · subst hji
                    rw [gt]
                    exact ok
                  · exact good j (by omega)⟩
                refine ⟨_, rfl, _, rfl, ?_⟩
                cases b with
                | false =>
                  refine iteF (iteF ?_)
                  exact nxt _ H3 ⟨_, rfl⟩ (Same.refl _) (by rw [eqg]; rfl)
                | true =>
                  refine iteT ?_
                  refine ⟨_, rfl, _, rfl, .inl ⟨a, us, _, us[i], rfl, rfl, SqL.of (S3 _ _ ha), by rw [Int.zero_add]; exact atI_nat (List.getElem?_eq_getElem hi), ?_⟩⟩
                  refine ⟨us[i], M, rfl, ix.mono S3, by have := sq.flat; omega, fun H4 s4 => ⟨_, rfl, ?_⟩⟩
                  have eqb : goodAt true (tabT M0) (tabT M) = M.flatten.all smallI := by rw [eqg, bndT_tab]; rfl
                  cases hs : M.flatten.all smallI with
                  | true => exact iteF (nxt _ H4 ⟨_, rfl⟩ s4 (eqb.trans hs))
                  | false =>
                    refine iteT ⟨_, rfl, ?_⟩
                    rw [Int.zero_add]
                    exact bad i H4 hit (by rw [gt]; exact eqb.trans hs) good (S3.trans s4)
          · rintro σ H2 ⟨⟨o, rfl⟩, s2, good⟩
            have z := q H2 s2
            rw [wrongV_lst hz, firstBad_none fun j hj => by rw [g0]; exact good j (by omega)] at z
            exact z
    | _ =>
      refine iteT ⟨_, rfl, ?_⟩
      exact q H (Same.refl H)
/-! ### the program: products of tables -/
theorem vints : ∀ {ns : List Int} {ys : List V}, (∀ (j : Nat) (y : V), ys[j]? = some y → ∃ n, ns[j]? = some n ∧ y = V.int n) → ys.length = ns.length → ys = ns.map V.int
  | [], [], _, _ => rfl
  | n :: ns, y :: ys, h, hl => by
    obtain ⟨m, hm, rfl⟩ := h 0 y rfl
    cases hm
    rw [vints (ns := ns) (ys := ys) (fun j z e => h (j + 1) z e) (by simpa using hl)]
    rfl
  | [], _ :: _, _, hl => by simp at hl
  | _ :: _, [], _, hl => by simp at hl
theorem is_rowAt {H : Hp} {v : V} {r : List Int} (h : Is H v (.tup (r.map T.int))) : RowAt H v r := by
  obtain ⟨a, vs, rfl, ha, q⟩ := h.tup_inv
  rw [q.ints_inv] at ha
  exact ⟨a, rfl, ha⟩
theorem is_tabAt {H : Hp} {v : V} {M : List (List Int)} (h : Is H v (tabT M)) : TabAt H v M := by
  obtain ⟨a, vs, rfl, ha, q⟩ := h.tup_inv
  have hl := q.length
  rw [List.length_map] at hl
  refine ⟨a, vs, rfl, ha, hl, fun j v r e1 e2 => ?_⟩
  obtain ⟨t, ht, it⟩ := q.get e1
  rw [List.getElem?_map, e2] at ht
  cases ht
  exact is_rowAt it
theorem tabAt_is {H : Hp} {v : V} {M : List (List Int)} (h : TabAt H v M) (z : M.length ≤ 1000) (zr : ∀ r ∈ M, r.length ≤ 1000) : Is H v (tabT M) := by
  obtain ⟨a, vs, rfl, ha, q⟩ := h
  exact .tup ha (q.is fun r hr => by have := zr r hr; omega) (by rw [List.length_map]; omega)
theorem tabAt_sq {H : Hp} {v : V} {M : List (List Int)} (h : TabAt H v M) (sq : Square M) : Is H v (tabT M) := tabAt_is h (by have := sq.2.1; omega) fun r hr => by rw [sq.2.2 r hr]; have := sq.2.1; omega
/-- a tuple of ints from a list of them -/
theorem rd_ints {H : Hp} {l : Addr} {ns : List Int} {Q : VK} (hl : H l = some (.lst (ns.map V.int))) (k : ∀ u H', Same H H' → RowAt H' u ns → Q u H') : rTupOf K [.ref l] H Q :=
  ⟨l, _, rfl, .inl ⟨SqL.of hl, fun q hq => k _ _ (Same.upd hq) ⟨q, rfl, upd_same⟩⟩⟩
theorem rd_rows {H : Hp} {l : Addr} {vs : List V} {M : List (List Int)} {Q : VK} (hl : H l = some (.lst vs)) (r : RowsAt H vs M) (k : ∀ u H', Same H H' → TabAt H' u M → Q u H') : rTupOf K [.ref l] H Q :=
  ⟨l, _, rfl, .inl ⟨SqL.of hl, fun q hq => k _ _ (Same.upd hq) ⟨q, vs, rfl, upd_same, r.mono (tups_new hq)⟩⟩⟩
theorem rd_at {H : Hp} {v : V} {r : List Int} {j : Nat} {Q : VK} (h : RowAt H v r) (hj : j < r.length) (k : Q (.int (r.getD j 0)) H) : rIx K v (.int j) H Q := by
  obtain ⟨a, rfl, ha⟩ := h
  refine .inr (.inl ⟨a, _, _, _, rfl, rfl, SqT.of ha, atI_nat (v := V.int (r.getD j 0)) ?_, k⟩)
  rw [List.getElem?_map, List.getD_eq_getElem?_getD, List.getElem?_eq_getElem hj]
  rfl
def colAt (M : List (List Int)) (j : Nat) : List Int := M.map fun r => r.getD j 0
def cols (M : List (List Int)) : List (List Int) := (List.range M.length).map (colAt M)
def dot (r c : List Int) : Int := ((List.range r.length).map fun k => r.getD k 0 * c.getD k 0).sum
def mulT (M N : List (List Int)) : List (List Int) := M.map fun r => (cols N).map (dot r)
def Bd (x : Int) : Prop := -(2 ^ 64) < x ∧ x < 2 ^ 64
def BdT (M : List (List Int)) : Prop := ∀ r ∈ M, ∀ x ∈ r, Bd x
theorem cols_len (M : List (List Int)) : (cols M).length = M.length := by unfold cols; rw [List.length_map, List.length_range]
theorem cols_get {M : List (List Int)} {j : Nat} {c : List Int} (h : (cols M)[j]? = some c) : j < M.length ∧ c = colAt M j := by
  unfold cols at h
  rw [List.getElem?_map] at h
  have hj : j < M.length := by
    cases z : (List.range M.length)[j]? with
    | none => rw [z] at h; cases h
    | some i => have := (List.getElem?_eq_some_iff.mp z).1; rwa [List.length_range] at this
  rw [List.getElem?_range hj] at h
  exact ⟨hj, (Option.some.inj h).symm⟩
theorem cols_mem {M : List (List Int)} {c : List Int} (h : c ∈ cols M) : ∃ j, j < M.length ∧ c = colAt M j := by
  obtain ⟨j, hj, e⟩ := List.getElem_of_mem h
  exact ⟨j, cols_get (by rw [List.getElem?_eq_getElem hj, e])⟩
theorem colAt_len (M : List (List Int)) (j : Nat) : (colAt M j).length = M.length := by unfold colAt; rw [List.length_map]
theorem cols_sq {M : List (List Int)} (h : Square M) : Square (cols M) := ⟨by rw [cols_len]; exact h.1, by rw [cols_len]; exact h.2.1, fun r hr => by
  obtain ⟨j, _, rfl⟩ := cols_mem hr
  rw [colAt_len, cols_len]⟩
theorem cols_bd {M : List (List Int)} (sq : Square M) (h : BdT M) : BdT (cols M) := fun r hr x hx => by
  obtain ⟨j, hj, rfl⟩ := cols_mem hr
  unfold colAt at hx
  obtain ⟨row, hrow, rfl⟩ := List.mem_map.mp hx
  have hl : j < row.length := by rw [sq.2.2 row hrow]; exact hj
  rw [List.getD_eq_getElem?_getD, List.getElem?_eq_getElem hl]
  exact h row hrow _ (List.getElem_mem hl)
theorem mulT_len (M N : List (List Int)) : (mulT M N).length = M.length := by unfold mulT; rw [List.length_map]
theorem mulT_sq {M N : List (List Int)} (h : Square M) (hN : N.length = M.length) : Square (mulT M N) := ⟨by rw [mulT_len]; exact h.1, by rw [mulT_len]; exact h.2.1, fun r hr => by
  unfold mulT at hr
  obtain ⟨row, _, rfl⟩ := List.mem_map.mp hr
  rw [List.length_map, cols_len, mulT_len, hN]⟩
theorem rows_of {H : Hp} {l : Addr} {ys : List V} {M : List (List Int)} (h : ∀ (j : Nat) (y : V), ys[j]? = some y → ∃ r, M[j]? = some r ∧ RowAt (del H l) y r) (hl : ys.length = M.length) : RowsAt H ys M :=
  ⟨hl, fun j v r e1 e2 => by
    obtain ⟨r', e, h⟩ := h j v e1
    rw [e2] at e
    cases e
    exact h.mono (del_same H l).tups⟩
def sp_column_at : Sp := fun vs H Q _ => ∃ (v : V) (M : List (List Int)) (j : Nat), vs = [v, .int j] ∧ TabAt H v M ∧ M.length ≤ 1000 ∧ (∀ r ∈ M, j < r.length) ∧ ∀ u H', Same H H' → RowAt H' u (colAt M j) → Q u H'
theorem has_column_at (d : Dfn K mg "column_at" s_column_at) (tx : Txt K mg) : Has P w K mg base "column_at" ["table", "at"] 1 sp_column_at := by
  refine has_q (k := 0) d sc_column_at bd_column_at (fun vs H Q E h => ?_) (fun f cdv A outer s H vs Q E hr h => ?_)
  · obtain ⟨v, M, j, rfl, _⟩ := h
    rfl
  · obtain ⟨v, M, j, rfl, tab, hz, hj, q⟩ := h
    refine ⟨_, (q_bone (q_ret (q_cty (c_tuple K rfl) tx.n_tuple bt_tuple (q_cons (q_comp ["row", "at"] [none, some 1] rfl (q_seq K rfl (q_pv 0)) (fun _ _ _ => (q_name (i := 0) (show List.Nodup (["row", "at"] : List PySem.Str) by decide +kernel))) (fun _ _ _ => q_c0) (fun _ _ _ => (q_ix (o_ix K rfl) (q_pv 0) (q_pv 1)))) q_nil)))), ?_⟩
    obtain ⟨a, us, rfl, ha, hl, rows⟩ := tab
    refine ⟨_, rfl, a, rfl, .inr ⟨⟨us, SqT.of ha⟩, fun l hl0 => ?_⟩⟩
    refine comp_map wk_tup (fun _ i y => ∃ n, (colAt M j)[i]? = some n ∧ y = .int n) (fun _ _ _ _ _ h => h) rfl hl0 (small_line (by omega)) (SqT.of ha) ?_ ?_
    · intro i x H1 Q1 hx s1 _ k
      have hi : i < M.length := by rw [← hl]; exact (List.getElem?_eq_some_iff.mp hx).1
      have ra := (rows i x M[i] hx (List.getElem?_eq_getElem hi)).mono s1.tups
      refine ⟨_, rfl, _, rfl, rd_at ra (hj _ (List.getElem_mem hi)) (k _ _ (Same.refl _) ⟨_, ?_, rfl⟩)⟩
      unfold colAt
      rw [List.getElem?_map, List.getElem?_eq_getElem hi]
      rfl
    · intro ys H' s' hl' hlen hys
      rw [vints hys (by rw [hlen, hl, colAt_len])] at hl'
      exact rd_ints hl' fun u H2 s2 r2 => q u H2 (s'.trans s2) r2
def sp_columns_of : Sp := fun vs H Q _ => ∃ v M, vs = [v] ∧ TabAt H v M ∧ Square M ∧ ∀ u H', Same H H' → TabAt H' u (cols M) → Q u H'
theorem has_columns_of (d : Dfn K mg "columns_of" s_columns_of) (tx : Txt K mg) (h_column_at : Has P w K mg base "column_at" ["table", "at"] 1 sp_column_at) : Has P w K mg base "columns_of" ["table"] 2 sp_columns_of := by
  refine has_q (k := 1) d sc_columns_of bd_columns_of (fun vs H Q E h => ?_) (fun f cdv A outer s H vs Q E hr h => ?_)
  · obtain ⟨v, M, rfl, _⟩ := h
    rfl
  · obtain ⟨v, M, rfl, tab, sq, q⟩ := h
    refine ⟨_, (q_bone (q_ret (q_cty (c_tuple K rfl) tx.n_tuple bt_tuple (q_cons (q_comp ["at", "table"] [none, some 0] rfl (q_rng1 tx.n_range (q_cons (q_bi (c_len K rfl) tx.n_len bt_len (q_cons (q_pv 0) q_nil)) q_nil)) (fun _ _ _ => (q_name (i := 0) (show List.Nodup (["at", "table"] : List PySem.Str) by decide +kernel))) (fun _ _ _ => q_c0) (fun _ _ _ => (q_fn h_column_at (hr.mono (by decide)) (q_cons (q_pv 1) (q_cons (q_pv 0) q_nil))))) q_nil)))), ?_⟩
    have hM := sq.2.1
    obtain ⟨a, us, rfl, ha, hl, rows⟩ := id tab
    refine ⟨_, rfl, a, us, rfl, .inr (SqT.of ha), _, rfl, by omega, by omega, fun l hl0 => ?_⟩
    refine comp_map wk_range (fun E i y => ∃ r, (cols M)[i]? = some r ∧ RowAt E y r) (fun H1 H2 i y s ⟨r, e, h⟩ => ⟨r, e, h.mono s.tups⟩) rfl hl0 (small_line (by rw [upTo_len]; omega)) trivial ?_ ?_
    · intro i x H1 Q1 hx s1 hl1 k
      obtain ⟨ys, hl1⟩ := hl1
      obtain ⟨hi, rfl⟩ := upTo_get hx
      have hi : i < M.length := by omega
      refine ⟨_, rfl, _, rfl, _, M, i, by simp, tab.mono s1.tups, by omega, fun r hr => by rw [sq.2.2 r hr]; exact hi, fun u H2 s2 r2 => k _ _ s2 ⟨colAt M i, ?_, r2.mono (tups_del (s2 _ _ hl1))⟩⟩
      unfold cols
      rw [List.getElem?_map, List.getElem?_range hi]
      rfl
    · intro ys H' s' hl' hlen hys
      exact rd_rows hl' (rows_of hys (by rw [hlen, upTo_len, cols_len]; omega)) fun u H2 s2 r2 => q u H2 (s'.trans s2) r2
def sp_rtc : Sp := fun vs H Q _ => ∃ a b r c, vs = [a, b] ∧ RowAt H a r ∧ RowAt H b c ∧ r.length ≤ c.length ∧ r.length ≤ 1000 ∧ (∀ x ∈ c, Bd x) ∧ ∀ H', Same H H' → Q (.int (dot r c)) H'
theorem has_row_times_column (d : Dfn K mg "row_times_column" s_row_times_column) (tx : Txt K mg) : Has P w K mg base "row_times_column" ["row", "column"] 1 sp_rtc := by
  refine has_q (k := 0) d sc_row_times_column bd_row_times_column (fun vs H Q E h => ?_) (fun f cdv A outer s H vs Q E hr h => ?_)
  · obtain ⟨a, b, r, c, rfl, _⟩ := h
    rfl
  · obtain ⟨a, b, r, c, rfl, ra, rc, hrc, hz, hb, q⟩ := h
    refine ⟨_, (q_bone (q_ret (q_bi (c_sum K rfl) tx.n_sum bt_sum (q_cons (q_comp ["k", "row", "column"] [none, some 0, some 1] rfl (q_rng1 tx.n_range (q_cons (q_bi (c_len K rfl) tx.n_len bt_len (q_cons (q_pv 0) q_nil)) q_nil)) (fun _ _ _ => (q_name (i := 0) (show List.Nodup (["k", "row", "column"] : List PySem.Str) by decide +kernel))) (fun _ _ _ => q_c0) (fun _ _ _ => (q_op o_mul (q_ix (o_ix K rfl) (q_pv 1) (q_pv 0)) (q_ix (o_ix K rfl) (q_pv 2) (q_pv 0))))) q_nil)))), ?_⟩
    obtain ⟨aa, rfl, haa⟩ := id ra
    refine ⟨_, rfl, aa, _, rfl, .inr (SqT.of haa), _, rfl, by rw [List.length_map]; omega, by rw [List.length_map]; omega, fun l hl0 => ?_⟩
    rw [List.length_map]
    refine comp_map wk_range (fun _ i y => ∃ n, ((List.range r.length).map fun k => r.getD k 0 * c.getD k 0)[i]? = some n ∧ y = .int n) (fun _ _ _ _ _ h => h) rfl hl0 (small_line (by rw [upTo_len]; omega)) trivial ?_ ?_
    · intro i x H1 Q1 hx s1 _ k
      obtain ⟨hi, rfl⟩ := upTo_get hx
      have hi : i < r.length := by omega
      have hic : i < c.length := by omega
      refine ⟨_, rfl, _, rfl, ?_⟩
      rw [Int.zero_add]
      refine rd_at (ra.mono s1.tups) hi ⟨_, rfl, _, rfl, ?_⟩
      refine rd_at (rc.mono s1.tups) hic (.inl ⟨_, _, rfl, rfl, .inr ?_, k _ _ (Same.refl _) ⟨_, ?_, rfl⟩⟩)
      · have e : c.getD i 0 = c[i] := by rw [List.getD_eq_getElem?_getD, List.getElem?_eq_getElem hic]; rfl
        rw [e]
        exact hb _ (List.getElem_mem hic)
      · rw [List.getElem?_map, List.getElem?_range hi]
        rfl
    · intro ys H' s' hl' hlen hys
      rw [vints hys (by rw [hlen, upTo_len, List.length_map, List.length_range]; omega)] at hl'
      exact ⟨l, _, rfl, SqL.of hl', q H' s'⟩
def sp_rtcs : Sp := fun vs H Q _ => ∃ a b r N, vs = [a, b] ∧ RowAt H a r ∧ TabAt H b N ∧ (∀ c ∈ N, r.length ≤ c.length) ∧ r.length ≤ 1000 ∧ N.length ≤ 1000 ∧ BdT N ∧ ∀ u H', Same H H' → RowAt H' u (N.map (dot r)) → Q u H'
theorem has_row_times_columns (d : Dfn K mg "row_times_columns" s_row_times_columns) (tx : Txt K mg) (h_row_times_column : Has P w K mg base "row_times_column" ["row", "column"] 1 sp_rtc) : Has P w K mg base "row_times_columns" ["row", "columns"] 2 sp_rtcs := by
  refine has_q (k := 1) d sc_row_times_columns bd_row_times_columns (fun vs H Q E h => ?_) (fun f cdv A outer s H vs Q E hr h => ?_)
  · obtain ⟨a, b, r, N, rfl, _⟩ := h
    rfl
  · obtain ⟨a, b, r, N, rfl, ra, tab, hrc, hz, hzN, hb, q⟩ := h
    refine ⟨_, (q_bone (q_ret (q_cty (c_tuple K rfl) tx.n_tuple bt_tuple (q_cons (q_comp ["column", "row"] [none, some 0] rfl (q_seq K rfl (q_pv 1)) (fun _ _ _ => (q_name (i := 0) (show List.Nodup (["column", "row"] : List PySem.Str) by decide +kernel))) (fun _ _ _ => q_c0) (fun _ _ _ => (q_fn h_row_times_column (hr.mono (by decide)) (q_cons (q_pv 1) (q_cons (q_pv 0) q_nil))))) q_nil)))), ?_⟩
    obtain ⟨bb, us, rfl, hbb, hl, rows⟩ := id tab
    refine ⟨_, rfl, bb, rfl, .inr ⟨⟨us, SqT.of hbb⟩, fun l hl0 => ?_⟩⟩
    refine comp_map wk_tup (fun _ i y => ∃ n, (N.map (dot r))[i]? = some n ∧ y = .int n) (fun _ _ _ _ _ h => h) rfl hl0 (small_line (by omega)) (SqT.of hbb) ?_ ?_
    · intro i x H1 Q1 hx s1 _ k
      have hi : i < N.length := by rw [← hl]; exact (List.getElem?_eq_some_iff.mp hx).1
      have rc := (rows i x N[i] hx (List.getElem?_eq_getElem hi)).mono s1.tups
      refine ⟨_, rfl, _, rfl, a, x, r, N[i], rfl, ra.mono s1.tups, rc, hrc _ (List.getElem_mem hi), hz, hb _ (List.getElem_mem hi), fun H2 s2 => k _ _ s2 ⟨_, ?_, rfl⟩⟩
      rw [List.getElem?_map, List.getElem?_eq_getElem hi]
      rfl
    · intro ys H' s' hl' hlen hys
      rw [vints hys (by rw [hlen, hl, List.length_map])] at hl'
      exact rd_ints hl' fun u H2 s2 r2 => q u H2 (s'.trans s2) r2
def sp_times : Sp := fun vs H Q _ => ∃ a b M N, vs = [a, b] ∧ TabAt H a M ∧ TabAt H b N ∧ Square M ∧ Square N ∧ M.length = N.length ∧ BdT N ∧ ∀ u H', Same H H' → TabAt H' u (mulT M N) → Q u H'
theorem has_times (d : Dfn K mg "times" s_times) (tx : Txt K mg) (h_columns_of : Has P w K mg base "columns_of" ["table"] 2 sp_columns_of) (h_row_times_columns : Has P w K mg base "row_times_columns" ["row", "columns"] 2 sp_rtcs) : Has P w K mg base "times" ["one", "other"] 3 sp_times := by
  refine has_q (k := 2) d sc_times bd_times (fun vs H Q E h => ?_) (fun f cdv A outer s H vs Q E hr h => ?_)
  · obtain ⟨a, b, M, N, rfl, _⟩ := h
    rfl
  · obtain ⟨a, b, M, N, rfl, tm, tn, sm, sn, hmn, hb, q⟩ := h
    refine ⟨_, (q_bcons (q_set (i := 2) sc_times.nd (q_fn h_columns_of (hr.mono (by decide)) (q_cons (q_pv 1) q_nil)))
      (q_bone (q_ret (q_cty (c_tuple K rfl) tx.n_tuple bt_tuple (q_cons (q_comp ["row", "columns"] [none, some 2] rfl (q_seq K rfl (q_pv 0)) (fun _ _ _ => (q_name (i := 0) (show List.Nodup (["row", "columns"] : List PySem.Str) by decide +kernel))) (fun _ _ _ => q_c0) (fun _ _ _ => (q_fn h_row_times_columns (hr.mono (by decide)) (q_cons (q_pv 0) (q_cons (q_pv 1) q_nil))))) q_nil))))), ?_⟩
    have h1 := sm.2.1
    have h2 := sn.2.1
    refine ⟨_, rfl, b, N, rfl, tn, sn, fun cv H1 s1 tc => ?_⟩
    obtain ⟨aa, us, rfl, haa, hl, rows⟩ := tm.mono s1.tups
    refine ⟨_, rfl, aa, rfl, .inr ⟨⟨us, SqT.of haa⟩, fun l hl0 => ?_⟩⟩
    refine comp_map wk_tup (fun E i y => ∃ r, (mulT M N)[i]? = some r ∧ RowAt E y r) (fun H1 H2 i y s ⟨r, e, h⟩ => ⟨r, e, h.mono s.tups⟩) rfl hl0 (small_line (by omega)) (SqT.of haa) ?_ ?_
    · intro i x H2 Q1 hx s2 hl2 k
      obtain ⟨ys, hl2⟩ := hl2
      have hi : i < M.length := by rw [← hl]; exact (List.getElem?_eq_some_iff.mp hx).1
      have ra := (rows i x M[i] hx (List.getElem?_eq_getElem hi)).mono s2.tups
      have hri := sm.2.2 _ (List.getElem_mem hi)
      refine ⟨_, rfl, _, rfl, x, cv, M[i], cols N, rfl, ra, tc.mono s2.tups, fun c hc => ?_, by omega, by rw [cols_len]; omega, cols_bd sn hb, fun u H3 s3 r3 => k _ _ s3 ⟨_, ?_, r3.mono (tups_del (s3 _ _ hl2))⟩⟩
      · obtain ⟨j, _, rfl⟩ := cols_mem hc
        rw [colAt_len]
        omega
      · unfold mulT
        rw [List.getElem?_map, List.getElem?_eq_getElem hi]
        rfl
    · intro ys H' s' hl' hlen hys
      exact rd_rows hl' (rows_of hys (by rw [hlen, hl, mulT_len])) fun u H2 s2 r2 => q u H2 ((s1.trans s').trans s2) r2
/-! ### the program: places and ways -/
def isPlace (n : Int) (t : T) : Bool := match t with
  | .int i => decide (0 ≤ i) && decide (i < n)
  | _ => false
theorem isPlace_int (n i : Int) : isPlace n (.int i) = (decide (0 ≤ i) && decide (i < n)) := rfl
def sp_place : Sp := fun vs H Q _ => ∃ v t n, vs = [v, .int n] ∧ Is H v t ∧ Q (.bl (isPlace n t)) H
theorem has_is_place (d : Dfn K mg "is_place" s_is_place) (tx : Txt K mg) (h_is_whole : Has P w K mg base "is_whole" ["thing"] 1 sp_whole) : Has P w K mg base "is_place" ["thing", "many"] 2 sp_place := by
  refine has_q (k := 1) d sc_is_place bd_is_place (fun vs H Q E h => ?_) (fun f cdv A outer s H vs Q E hr h => ?_)
  · obtain ⟨v, t, n, rfl, _⟩ := h
    rfl
  · obtain ⟨v, t, n, rfl, it, q⟩ := h
    refine ⟨_, (q_bone (q_ret (q_and (q_fn h_is_whole (hr.mono (by decide)) (q_cons (q_pv 0) q_nil)) (q_and (q_cmp o_ge (q_pv 0) q_int (nomark _)) (q_one (q_cmp o_lt (q_pv 0) (q_pv 1) (nomark _))))))), ?_⟩
    refine ⟨_, rfl, v, t, rfl, it, _, rfl, ?_⟩
    cases t with
    | int i =>
      have : v = .int i := by unfold Is at it; exact it
      subst this
      refine iteT ⟨_, rfl, _, _, rfl, rfl, _, rfl, ?_⟩
      refine ite2 (fun c => ?_) (fun c => ?_)
      · have c : (0 : Int) ≤ i := by simpa using c
        refine ⟨_, rfl, _, rfl, _, _, rfl, rfl, ?_⟩
        rw [isPlace_int, decide_eq_true c, Bool.true_and] at q
        exact q
      · have c : ¬ (0 : Int) ≤ i := by simpa using c
        rw [isPlace_int, decide_eq_false c, Bool.false_and] at q
        exact q
    | _ => exact iteF q
def isWay (n : Int) (t : T) : Bool := match t with
  | .tup ts => decide (1 ≤ ts.length ∧ ts.length ≤ 200) && ts.all (isPlace n)
  | _ => false
theorem isWay_tup (n : Int) (ts : List T) : isWay n (.tup ts) = (decide (1 ≤ ts.length ∧ ts.length ≤ 200) && ts.all (isPlace n)) := rfl
def arePl (n : Int) (t : T) : Bool := match t with
  | .tup ts => ts.all (isPlace n)
  | _ => false
theorem arePl_tup (n : Int) (ts : List T) : arePl n (.tup ts) = ts.all (isPlace n) := rfl
def sp_are_places : Sp := fun vs H Q _ => ∃ v t n, vs = [v, .int n] ∧ Is H v t ∧ ∀ H', Same H H' → Q (.bl (arePl n t)) H'
theorem has_are_places (d : Dfn K mg "are_places" s_are_places) (tx : Txt K mg) (h_is_place : Has P w K mg base "is_place" ["thing", "many"] 2 sp_place) : Has P w K mg base "are_places" ["thing", "many"] 3 sp_are_places := by
  refine has_q (k := 2) d sc_are_places bd_are_places (fun vs H Q E h => ?_) (fun f cdv A outer s H vs Q E hr h => ?_)
  · obtain ⟨v, t, n, rfl, _⟩ := h
    rfl
  · obtain ⟨v, t, n, rfl, it, q⟩ := h
    refine ⟨_, (q_bone (q_ret (q_and (q_bi c_inst tx.n_isinstance bt_isinstance (q_cons (q_pv 0) (q_cons (q_ty "tuple" tx.n_tuple bt_tuple) q_nil))) (q_one (q_bi (c_all K rfl) tx.n_all bt_all (q_cons (q_comp ["place", "many"] [none, some 1] rfl (q_seq K rfl (q_pv 0)) (fun _ _ _ => (q_name (i := 0) (show List.Nodup (["place", "many"] : List PySem.Str) by decide +kernel))) (fun _ _ _ => q_c0) (fun _ _ _ => (q_fn h_is_place (hr.mono (by decide)) (q_cons (q_pv 0) (q_cons (q_pv 1) q_nil))))) q_nil)))))), ?_⟩
    refine ⟨_, rfl, _, _, t, rfl, it, by simp, _, rfl, ?_⟩
    cases t with
    | tup ts =>
      have hz := it.tup_len
      obtain ⟨a, us, rfl, ha, r⟩ := it.tup_inv
      have hl := r.length
      refine iteT ?_
      refine ⟨_, rfl, a, rfl, .inr ⟨⟨us, SqT.of ha⟩, fun l hl0 => ?_⟩⟩
      refine comp_map wk_tup (fun _ i y => ∃ t, ts[i]? = some t ∧ y = .bl (isPlace n t)) (fun _ _ _ _ _ h => h) rfl hl0 (small_line (by omega)) (SqT.of ha) ?_ ?_
      · intro i x H1 Q1 hx s1 _ k
        obtain ⟨t, ht, itx⟩ := r.get hx
        exact ⟨_, rfl, _, rfl, x, t, n, rfl, itx.mono s1, k _ _ (Same.refl _) ⟨t, ht, rfl⟩⟩
      · intro ys H' s' hl' hlen hys
        have key := all_bl (f := isPlace n) hys (by omega)
        refine ⟨l, ys, rfl, SqL.of hl', key.1, ?_⟩
        rw [key.2]
        have z := q H' s'
        rw [arePl_tup] at z
        exact z
    | _ =>
      refine iteF ?_
      exact q H (Same.refl H)
def sp_is_way : Sp := fun vs H Q _ => ∃ v t n, vs = [v, .int n] ∧ Is H v t ∧ ∀ H', Same H H' → Q (.bl (isWay n t)) H'
theorem isWay_are {n : Int} {t : T} (h : arePl n t = false) : isWay n t = false := by
  cases t with
  | tup ts =>
    rw [arePl_tup] at h
    rw [isWay_tup, h, Bool.and_false]
  | _ => rfl
theorem has_is_way (d : Dfn K mg "is_way" s_is_way) (tx : Txt K mg) (h_are_places : Has P w K mg base "are_places" ["thing", "many"] 3 sp_are_places) : Has P w K mg base "is_way" ["thing", "many"] 4 sp_is_way := by
  refine has_q (k := 3) d sc_is_way bd_is_way (fun vs H Q E h => ?_) (fun f cdv A outer s H vs Q E hr h => ?_)
  · obtain ⟨v, t, n, rfl, _⟩ := h
    rfl
  · obtain ⟨v, t, n, rfl, it, q⟩ := h
    refine ⟨_, (q_bone (q_ret (q_and (q_fn h_are_places (hr.mono (by decide)) (q_cons (q_pv 0) (q_cons (q_pv 1) q_nil))) (q_and (q_cmp o_ge (q_bi (c_len K rfl) tx.n_len bt_len (q_cons (q_pv 0) q_nil)) q_int (nomark _)) (q_one (q_cmp o_le (q_bi (c_len K rfl) tx.n_len bt_len (q_cons (q_pv 0) q_nil)) (q_glob tx.m_MOST_PLACES) (nomark _))))))), ?_⟩
    refine ⟨_, rfl, _, rfl, v, t, n, rfl, it, fun H1 s1 => ⟨_, rfl, ?_⟩⟩
    have z := q H1 s1
    cases hg : arePl n t with
    | false =>
      rw [isWay_are hg] at z
      exact iteF z
    | true =>
      cases t with
      | tup ts =>
        obtain ⟨a, us, rfl, ha, r⟩ := it.tup_inv
        have hl := r.length
        rw [arePl_tup] at hg
        rw [isWay_tup, hg, Bool.and_true] at z
        have h1 := SqT.of (K := K) (s1 _ _ ha)
        refine iteT ⟨_, rfl, a, us, rfl, .inr h1, _, _, rfl, rfl, _, rfl, ?_⟩
        refine ite2 (fun c => ?_) (fun c => ?_)
        · have c : (1 : Int) ≤ us.length := by simpa using c
          refine ⟨_, rfl, a, us, rfl, .inr h1, _, _, rfl, rfl, ?_⟩
          have e : decide (1 ≤ ts.length ∧ ts.length ≤ 200) = decide ((us.length : Int) ≤ 200) := by
            rw [decide_eq_decide]
            omega
          rw [e] at z
          exact z
        · have c : ¬ (1 : Int) ≤ us.length := by simpa using c
          rw [decide_eq_false (by omega)] at z
          exact z
      | _ => cases hg
/-- a way's places -/
def wayI (ps : List Nat) : List Int := ps.map fun n : Nat => (n : Int)
def wayT (ps : List Nat) : T := .tup ((wayI ps).map T.int)
def OkWay (n : Nat) (ps : List Nat) : Prop := 1 ≤ ps.length ∧ ps.length ≤ 200 ∧ ∀ p ∈ ps, p < n
theorem wayI_len (ps : List Nat) : (wayI ps).length = ps.length := by unfold wayI; rw [List.length_map]
theorem places_inv {n : Nat} : ∀ {ts : List T}, ts.all (isPlace n) = true → ∃ ps : List Nat, ts = (wayI ps).map T.int ∧ ∀ p ∈ ps, p < n
  | [], _ => ⟨[], rfl, fun _ h => nomatch h⟩
  | t :: ts, h => by
    rw [List.all_cons, Bool.and_eq_true] at h
    obtain ⟨ps, rfl, hp⟩ := places_inv h.2
    cases t with
    | int i =>
      have h1 := h.1
      rw [isPlace_int] at h1
      simp only [Bool.and_eq_true, decide_eq_true_eq] at h1
      obtain ⟨j, rfl⟩ := Int.eq_ofNat_of_zero_le h1.1
      refine ⟨j :: ps, rfl, fun p hm => ?_⟩
      rcases List.mem_cons.mp hm with rfl | hm
      · have := h1.2
        omega
      · exact hp p hm
    | _ => cases h.1
theorem isWay_inv {n : Nat} {t : T} (h : isWay n t = true) : ∃ ps, t = wayT ps ∧ OkWay n ps := by
  cases t with
  | tup ts =>
    rw [isWay_tup, Bool.and_eq_true] at h
    obtain ⟨ps, rfl, hp⟩ := places_inv h.2
    have := of_decide_eq_true h.1
    rw [List.length_map, wayI_len] at this
    exact ⟨ps, rfl, this.1, this.2, hp⟩
  | _ => cases h
theorem isWay_way {n : Nat} {ps : List Nat} (h : OkWay n ps) : isWay n (wayT ps) = true := by
  unfold wayT
  rw [isWay_tup, Bool.and_eq_true]
  refine ⟨decide_eq_true ?_, ?_⟩
  · rw [List.length_map, wayI_len]
    exact ⟨h.1, h.2.1⟩
  · rw [List.all_eq_true]
    intro t ht
    obtain ⟨i, hi, rfl⟩ := List.mem_map.mp ht
    unfold wayI at hi
    obtain ⟨p, hp, rfl⟩ := List.mem_map.mp hi
    have := h.2.2 p hp
    rw [isPlace_int, Bool.and_eq_true]
    exact ⟨decide_eq_true (by omega), decide_eq_true (by omega)⟩
theorem wayT_inj {ps qs : List Nat} (h : wayT ps = wayT qs) : ps = qs := by
  unfold wayT wayI at h
  injection h with h
  rw [List.map_map, List.map_map] at h
  refine List.map_inj_right (f := T.int ∘ fun n : Nat => (n : Int)) (fun a b e => ?_) |>.mp h
  have e : T.int (a : Int) = T.int (b : Int) := e
  injection e with e
  omega
def sp_need_way (mg : Str → Option Value) : Sp := fun vs H Q E => ∃ v t n, vs = [v, .int n] ∧ Is H v t ∧ (isWay n t = true → ∀ H', Same H H' → Q .non H') ∧ (isWay n t = false → ∀ H', Same H H' → E (.ref (cad mg "NoWay")) none H')
theorem has_need_way (d : Dfn K mg "need_way" s_need_way) (tx : Txt K mg) (h_is_way : Has P w K mg base "is_way" ["thing", "many"] 4 sp_is_way) : HasE P w K mg base "need_way" ["thing", "many"] 5 (sp_need_way mg) := by
  refine hasE_q (k := 4) d sc_need_way bd_need_way (fun vs H Q E h => ?_) (fun _ f cdv A outer s H vs Q E _ pz hr h => ?_)
  · obtain ⟨v, t, n, rfl, _⟩ := h
    rfl
  · obtain ⟨v, t, n, rfl, it, q1, q2⟩ := h
    refine ⟨_, (q_bone (q_sif (q_tnot (q_tval (q_fn h_is_way (hr.mono (by decide)) (q_cons (q_pv 0) (q_cons (q_pv 1) q_nil))))) (q_bone (q_raise pz rfl PySem.F.excBase_ValueError (tx.ex.rz 1 (by decide) rfl) (tx.ex.m 1 _ rfl) (q_cons q_str q_nil))) q_bnil)), ?_⟩
    refine ⟨_, rfl, _, rfl, v, t, n, rfl, it, fun H1 s1 => ⟨_, rfl, ?_⟩⟩
    cases hg : isWay n t with
    | true => exact iteF (q1 hg H1 s1)
    | false => exact iteT ⟨by show 1 ≤ sizeLine; decide, q2 hg H1 s1⟩
/-! ### the program: good tables -/
/-- one to four tables of one size, their numbers small -/
def Tabs (Ms : List (List (List Int))) : Prop := 1 ≤ Ms.length ∧ Ms.length ≤ 4 ∧ ∃ n, ∀ M ∈ Ms, Square M ∧ M.length = n ∧ BdT M
def tabsT (Ms : List (List (List Int))) : T := .lst (Ms.map tabT)
theorem lenT_tab (M : List (List Int)) : lenT (tabT M) = M.length := by unfold tabT lenT; exact List.length_map _
/-! ### the product of a way -/
def tabN (Ms : List (List (List Int))) (p : Nat) : List (List Int) := Ms.getD p []
def walkT (Ms : List (List (List Int))) : List Nat → List (List Int)
  | [] => []
  | p :: ps => ps.foldl (fun M q => mulT M (tabN Ms q)) (tabN Ms p)
theorem tabN_get {Ms : List (List (List Int))} {p : Nat} (h : p < Ms.length) : Ms[p]? = some (tabN Ms p) ∧ tabN Ms p ∈ Ms := by
  have e : tabN Ms p = Ms[p] := by unfold tabN; rw [List.getD_eq_getElem?_getD, List.getElem?_eq_getElem h]; rfl
  rw [e]
  exact ⟨List.getElem?_eq_getElem h, List.getElem_mem h⟩
theorem fold_sq {Ms : List (List (List Int))} {n : Nat} : ∀ {ps : List Nat} {M : List (List Int)}, (∀ p ∈ ps, (tabN Ms p).length = n) → Square M → M.length = n → Square (ps.foldl (fun M q => mulT M (tabN Ms q)) M) ∧ (ps.foldl (fun M q => mulT M (tabN Ms q)) M).length = n
  | [], M, _, sq, hn => ⟨sq, hn⟩
  | p :: ps, M, h, sq, hn => by
    have e := h p (List.mem_cons_self ..)
    exact fold_sq (ps := ps) (fun q hq => h q (List.mem_cons_of_mem _ hq)) (mulT_sq sq (by omega)) (by rw [mulT_len]; exact hn)
theorem Tabs.sized {Ms : List (List (List Int))} (h : Tabs Ms) : ∃ n, ∀ p, p < Ms.length → Square (tabN Ms p) ∧ (tabN Ms p).length = n ∧ BdT (tabN Ms p) := by
  obtain ⟨_, _, n, hn⟩ := h
  exact ⟨n, fun p hp => hn _ (tabN_get hp).2⟩
theorem cut1V (vs : List V) : cutV vs (some 1) none = vs.drop 1 := by
  unfold cutV
  have e : HT.sIx vs.length 0 (some 1) = min 1 vs.length := HT.sIx_nat vs.length 0 1
  have e2 : HT.sIx vs.length vs.length none = vs.length := rfl
  rw [e, e2]
  cases vs with
  | nil => rfl
  | cons v vs =>
    have : min 1 (v :: vs).length = 1 := by simp
    rw [this]
    refine List.take_of_length_le ?_
    simp
/-- a list of tables: each one stands there -/
theorem tabs_at {H : Hp} {v : V} {Ms : List (List (List Int))} (h : Is H v (tabsT Ms)) : ∃ a us, v = .ref a ∧ H a = some (.lst us) ∧ us.length = Ms.length ∧ ∀ p, p < Ms.length → ∃ u, us[p]? = some u ∧ TabAt H u (tabN Ms p) := by
  obtain ⟨a, us, rfl, ha, r⟩ := h.lst_inv
  have hl := r.length
  rw [List.length_map] at hl
  refine ⟨a, us, rfl, ha, hl, fun p hp => ?_⟩
  have hu : p < us.length := by omega
  obtain ⟨t, ht, it⟩ := r.get (List.getElem?_eq_getElem hu)
  rw [List.getElem?_map, (tabN_get hp).1] at ht
  cases ht
  exact ⟨_, List.getElem?_eq_getElem hu, is_tabAt it⟩
/-! ### the program: tables refused -/
/-- one to four tables of one size -/
def Tabs0 (Ms : List (List (List Int))) : Prop := 1 ≤ Ms.length ∧ Ms.length ≤ 4 ∧ ∃ n, ∀ M ∈ Ms, Square M ∧ M.length = n
theorem grids_inv : ∀ {ts : List T}, (∀ t ∈ ts, isGrid t = true) → ∃ Ms : List (List (List Int)), ts = Ms.map tabT ∧ ∀ M ∈ Ms, Square M
  | [], _ => ⟨[], rfl, fun _ h => nomatch h⟩
  | t :: ts, h => by
    obtain ⟨M, rfl, sq⟩ := isGrid_inv (h t (List.mem_cons_self ..))
    obtain ⟨Ms, rfl, g⟩ := grids_inv (ts := ts) (fun u hu => h u (List.mem_cons_of_mem _ hu))
    refine ⟨M :: Ms, rfl, fun N hN => ?_⟩
    rcases List.mem_cons.mp hN with rfl | hN
    · exact sq
    · exact g N hN
theorem wrong_none {t : T} (h : wrongV false t = .non) : ∃ Ms, t = tabsT Ms ∧ Tabs0 Ms := by
  cases t with
  | lst ts =>
    by_cases hz : 1 ≤ ts.length ∧ ts.length ≤ 4
    · rw [wrongV_lst hz] at h
      cases hb : firstBad false ts with
      | some i => rw [hb] at h; cases h
      | none =>
        unfold firstBad at hb
        rw [List.find?_range_eq_none] at hb
        have good : ∀ j, j < ts.length → goodAt false (ts.getD 0 .non) (ts.getD j .non) = true := fun j hj => by
          have := hb j hj
          simpa using this
        have parts : ∀ j, j < ts.length → isGrid (ts.getD j .non) = true ∧ lenT (ts.getD j .non) = lenT (ts.getD 0 .non) := fun j hj => by
          have := good j hj
          unfold goodAt at this
          simp only [Bool.and_eq_true, decide_eq_true_eq] at this
          exact this.1
        obtain ⟨Ms, e, sq⟩ := grids_inv (ts := ts) fun t ht => by
          obtain ⟨j, hj, e⟩ := List.getElem_of_mem ht
          have := (parts j hj).1
          rw [getT (List.getElem?_eq_getElem hj), e] at this
          exact this
        subst e
        rw [List.length_map] at hz parts
        refine ⟨Ms, rfl, hz.1, hz.2, lenT ((Ms.map tabT).getD 0 .non), fun M hM => ⟨sq M hM, ?_⟩⟩
        obtain ⟨j, hj, e⟩ := List.getElem_of_mem hM
        have := (parts j hj).2
        rw [getT (t := tabT Ms[j]) (by rw [List.getElem?_map, List.getElem?_eq_getElem hj]; rfl), lenT_tab, e] at this
        exact this
    · rw [wrongV_long hz] at h
      cases h
  | _ => cases h
theorem wrong_tabs {Ms : List (List (List Int))} (h : Tabs0 Ms) : wrongV false (tabsT Ms) = .non := by
  obtain ⟨h1, h4, n, hn⟩ := h
  unfold tabsT
  rw [wrongV_lst (by rw [List.length_map]; exact ⟨h1, h4⟩), firstBad_none fun j hj => ?_]
  rw [List.length_map] at hj
  have g : ∀ i, i < Ms.length → ∃ M, (Ms.map tabT).getD i .non = tabT M ∧ Square M ∧ M.length = n := fun i hi => by
    refine ⟨Ms[i], getT (by rw [List.getElem?_map, List.getElem?_eq_getElem hi]; rfl), ?_⟩
    exact hn _ (List.getElem_mem hi)
  obtain ⟨M0, e0, _, l0⟩ := g 0 (by omega)
  obtain ⟨M1, e1, s1, l1⟩ := g j hj
  rw [e0, e1]
  unfold goodAt
  rw [isGrid_tab s1, lenT_tab, lenT_tab, l0, l1, decide_eq_true rfl]
  rfl
theorem wrong_cases (b : Bool) (t : T) : wrongV b t = .non ∨ ∃ i, wrongV b t = .int i := by
  unfold wrongV
  cases t with
  | lst ts =>
    dsimp only
    split
    · split
      · exact .inr ⟨_, rfl⟩
      · exact .inl rfl
    · exact .inr ⟨_, rfl⟩
  | _ => exact .inr ⟨_, rfl⟩
def sp_need_tables (mg : Str → Option Value) : Sp := fun vs H Q E => ∃ v t, vs = [v] ∧ Is H v t ∧ (wrongV false t = .non → ∀ H', Same H H' → Q .non H') ∧
  (∀ i, wrongV false t = .int i → ∀ d H', Same H H' → H' d = some (.xd [("at", .int i)]) → E (.ref (cad mg "NoTables")) (some d) H')
theorem has_need_tables (d : Dfn K mg "need_tables" s_need_tables) (tx : Txt K mg) (h_wrong_at : Has P w K mg base "wrong_at" ["thing", "bounded"] 4 sp_wrong) : HasE P w K mg base "need_tables" ["thing"] 5 (sp_need_tables mg) := by
  refine hasE_q (k := 4) d sc_need_tables bd_need_tables (fun vs H Q E h => ?_) (fun _ f cdv A outer s H vs Q E _ pz hr h => ?_)
  · obtain ⟨v, t, rfl, _⟩ := h
    rfl
  · obtain ⟨v, t, rfl, it, q1, q2⟩ := h
    refine ⟨_, (q_bcons (q_set (i := 1) sc_need_tables.nd (q_fn h_wrong_at (hr.mono (by decide)) (q_cons (q_pv 0) (q_cons q_bl q_nil))))
      (q_bone (q_sif (q_tcmp o_notN (q_pv 1) q_non (nomark _)) (q_bone (q_raiseI pz rfl tx.i_NoTables hr (tx.ex.m 6 _ rfl) (q_cons (q_pv 1) q_nil))) q_bnil))), ?_⟩
    refine ⟨_, rfl, v, _, false, rfl, it, fun H1 s1 => ?_⟩
    rcases wrong_cases false t with e | ⟨i, e⟩
    · rw [e]
      exact ⟨_, rfl, rfl, _, rfl, iteF (q1 e H1 s1)⟩
    · rw [e]
      refine ⟨_, rfl, rfl, _, rfl, iteT ⟨_, rfl, _, rfl, fun d hd => q2 i e d _ (s1.trans (Same.upd hd)) upd_same⟩⟩
def sp_along (mg : Str → Option Value) : Sp := fun vs H Q E => ∃ v wv t tw, vs = [v, wv] ∧ Is H v t ∧ Is H wv tw ∧
  (∀ i, wrongV false t = .int i → ∀ d H', Same H H' → H' d = some (.xd [("at", .int i)]) → E (.ref (cad mg "NoTables")) (some d) H') ∧
  ∀ Ms, t = tabsT Ms → Tabs0 Ms → (isWay Ms.length tw = false → ∀ H', Same H H' → E (.ref (cad mg "NoWay")) none H') ∧
    ∀ ps, tw = wayT ps → OkWay Ms.length ps → (∀ q ∈ ps.tail, BdT (tabN Ms q)) ∧ ∀ u H', Same H H' → TabAt H' u (walkT Ms ps) → Q u H'
theorem has_along (d : Dfn K mg "along" s_along) (tx : Txt K mg) (h_need_tables : HasE P w K mg base "need_tables" ["thing"] 5 (sp_need_tables mg)) (h_need_way : HasE P w K mg base "need_way" ["thing", "many"] 5 (sp_need_way mg)) (h_times : Has P w K mg base "times" ["one", "other"] 3 sp_times) : HasE P w K mg base "along" ["tables", "way"] 6 (sp_along mg) := by
  refine hasE_q (k := 5) d sc_along bd_along (fun vs H Q E h => ?_) (fun _ f cdv A outer s H vs Q E _ pz hr h => ?_)
  · obtain ⟨v, wv, t, tw, rfl, _⟩ := h
    rfl
  · obtain ⟨v, wv, t, tw, rfl, it, iw, q0, q1⟩ := h
    refine ⟨_, (q_bcons (q_expr (q_fnE h_need_tables pz (hr.mono (by decide)) (q_cons (q_pv 0) q_nil)))
      (q_bcons (q_expr (q_fnE h_need_way pz (hr.mono (by decide)) (q_cons (q_pv 1) (q_cons (q_bi (c_len K rfl) tx.n_len bt_len (q_cons (q_pv 0) q_nil)) q_nil))))
      (q_bcons (q_set (i := 2) sc_along.nd (q_ix (o_ix K rfl) (q_pv 0) (q_ix (o_ix K rfl) (q_pv 1) q_int)))
      (q_bcons (q_sx (q_for PassesOwn.never rfl (q_seq K rfl (q_sl (o_sl K rfl) (q_pv 1) (q_some q_int) q_no)) (q_name (i := 3) sc_along.nd) (q_bone (q_set (i := 2) sc_along.nd (q_fn h_times (hr.mono (by decide)) (q_cons (q_pv 2) (q_cons (q_ix (o_ix K rfl) (q_pv 0) (q_pv 3)) q_nil)))))))
      (q_bone (q_ret (q_pv 2))))))), ?_⟩
    refine ⟨_, rfl, v, t, rfl, it, fun e0 H1 s1 => ?_, fun i e d H' s' hd => q0 i e d H' s' hd⟩
    obtain ⟨Ms, rfl, hM⟩ := wrong_none e0
    obtain ⟨q2, q3⟩ := q1 Ms rfl hM
    obtain ⟨a, us, rfl, ha, hl, tabs⟩ := tabs_at it
    refine ⟨_, rfl, _, rfl, a, us, rfl, .inl (SqL.of (s1 _ _ ha)), ?_⟩
    rw [hl]
    refine ⟨wv, tw, _, rfl, iw.mono s1, fun g H2 s2 => ?_, fun g H2 s2 => q2 g H2 (s1.trans s2)⟩
    obtain ⟨ps, rfl, ok⟩ := isWay_inv g
    obtain ⟨hbd, q⟩ := q3 ps rfl ok
    obtain ⟨_, _, n, hn'⟩ := hM
    have hn : ∀ p, p < Ms.length → Square (tabN Ms p) ∧ (tabN Ms p).length = n := fun p hp => hn' _ (tabN_get hp).2
    obtain ⟨h1, h200, hp⟩ := id ok
    cases ps with
    | nil => simp at h1
    | cons p0 ps =>
      have S2 := s1.trans s2
      have rw0 : RowAt H2 wv (wayI (p0 :: ps)) := is_rowAt (iw.mono S2)
      have hp0 := hp p0 (List.mem_cons_self ..)
      obtain ⟨u0, hu0, tu0⟩ := tabs p0 hp0
      refine ⟨_, rfl, _, rfl, rd_at (j := 0) rw0 (by rw [wayI_len]; simp) ?_⟩
      refine .inl ⟨a, us, _, u0, rfl, rfl, SqL.of (S2 _ _ ha), atI_nat hu0, ?_⟩
      obtain ⟨wa, rfl, hwa⟩ := rw0
      refine ⟨_, rfl, _, rfl, .inr ⟨wa, _, rfl, hwa, fun q' H3 s3 e3 _ => ?_⟩⟩
      have e3 : H3 q' = some (.tup ((wayI ps).map V.int)) := by
        rw [e3, cut1V]
        rfl
      refine ⟨q', rfl, .inr ⟨⟨_, SqT.of e3⟩, for_tup (K := K) (a := q') (xs := (wayI ps).map V.int) (fun i σ H4 => Same H3 H4 ∧ ∃ u o, σ = [some (.ref a), some (.ref wa), some u, o] ∧ TabAt H4 u ((ps.take i).foldl (fun M q => mulT M (tabN Ms q)) (tabN Ms p0)))
        ⟨Same.refl _, u0, none, rfl, tu0.mono (S2.trans s3).tups⟩ (fun i σ H4 _ h => SqT.of (h.1 _ _ e3)) ?_ ?_⟩⟩
      · rintro i x σ H4 hx ⟨s4, u, o, rfl, tu⟩
        have hi : i < ps.length := by
          have := (List.getElem?_eq_some_iff.mp hx).1
          rwa [List.length_map, wayI_len] at this
        have ex : x = .int (ps[i] : Nat) := by
          unfold wayI at hx
          rw [List.map_map, List.getElem?_map, List.getElem?_eq_getElem hi] at hx
          exact (Option.some.inj hx).symm
        subst ex
        have hpi := hp ps[i] (List.mem_cons_of_mem _ (List.getElem_mem hi))
        obtain ⟨ui, hui, tui⟩ := tabs _ hpi
        have S4 := (S2.trans s3).trans s4
        have z := hn _ hpi
        have z0 := hn p0 hp0
        have sq := fold_sq (Ms := Ms) (n := n) (ps := ps.take i) (M := tabN Ms p0) (fun q hq => (hn q (hp q (List.mem_cons_of_mem _ (List.mem_of_mem_take hq)))).2) z0.1 z0.2
        refine ⟨_, rfl, _, rfl, _, rfl, .inl ⟨a, us, _, ui, rfl, rfl, SqL.of (S4 _ _ ha), atI_nat hui, ?_⟩⟩
        refine ⟨u, ui, _, tabN Ms ps[i], rfl, tu, tui.mono S4.tups, sq.1, z.1, by rw [sq.2, z.2], hbd _ (List.getElem_mem hi), fun u5 H5 s5 t5 => ?_⟩
        refine ⟨s4.trans s5, u5, _, rfl, ?_⟩
        rw [List.take_add_one, List.getElem?_eq_getElem hi, List.foldl_append]
        exact t5
      · rintro σ H4 ⟨s4, u, o, rfl, tu⟩
        rw [List.length_map, wayI_len, List.take_length] at tu
        exact ⟨_, rfl, q u H4 ((S2.trans s3).trans s4) tu⟩
/-! ### the program: is_nought, turned -/
def noughtM (M : List (List Int)) : Bool := M.flatten.all fun x => x == 0
def sp_is_nought (mg : Str → Option Value) : Sp := fun vs H Q E => ∃ v t, vs = [v] ∧ Is H v t ∧ (∀ M, t = tabT M → Square M → ∀ H', Same H H' → Q (.bl (noughtM M)) H') ∧ (isGrid t = false → ∀ H', Same H H' → E (.ref (cad mg "NoTable")) none H')
theorem any_ints : ∀ ns : List Int, (ns.map V.int).all truOk = true ∧ (!(ns.map V.int).any truV) = ns.all fun x => x == 0
  | [] => ⟨rfl, rfl⟩
  | n :: ns => by
    obtain ⟨a, b⟩ := any_ints ns
    rw [List.map_cons, List.all_cons, List.any_cons, List.all_cons, a, ← b]
    refine ⟨rfl, ?_⟩
    have : truV (.int n) = !(n == 0) := rfl
    rw [this]
    cases (n == 0) <;> cases ((ns.map V.int).any truV) <;> rfl
theorem has_is_nought (d : Dfn K mg "is_nought" s_is_nought) (tx : Txt K mg) (h_need_table : HasE P w K mg base "need_table" ["thing"] 4 (sp_need_table mg)) (h_numbers_of : Has P w K mg base "numbers_of" ["grid"] 1 sp_numbers) : HasE P w K mg base "is_nought" ["table"] 5 (sp_is_nought mg) := by
  refine hasE_q (k := 4) d sc_is_nought bd_is_nought (fun vs H Q E h => ?_) (fun _ f cdv A outer s H vs Q E _ pz hr h => ?_)
  · obtain ⟨v, t, rfl, _⟩ := h
    rfl
  · obtain ⟨v, t, rfl, it, q1, q2⟩ := h
    refine ⟨_, (q_bcons (q_expr (q_fnE h_need_table pz (hr.mono (by decide)) (q_cons (q_pv 0) q_nil)))
      (q_bone (q_ret (q_not (q_bi (c_any K rfl) tx.n_any bt_any (q_cons (q_fn h_numbers_of (hr.mono (by decide)) (q_cons (q_pv 0) q_nil)) q_nil)))))), ?_⟩
    refine ⟨_, rfl, v, t, rfl, it, fun g H1 s1 => ?_, fun g H1 s1 => q2 g H1 s1⟩
    obtain ⟨M, rfl, sq⟩ := isGrid_inv g
    refine ⟨_, rfl, v, M, rfl, it.mono s1, by have := sq.flat; omega, fun l H2 s2 n2 e2 => ?_⟩
    obtain ⟨a, b⟩ := any_ints M.flatten
    refine ⟨l, _, rfl, SqL.of e2, a, _, rfl, ?_⟩
    rw [b]
    exact q1 M rfl sq H2 (s1.trans s2)
def sp_turned (mg : Str → Option Value) : Sp := fun vs H Q E => ∃ v t, vs = [v] ∧ Is H v t ∧ (∀ M, t = tabT M → Square M → ∀ u H', Same H H' → TabAt H' u (cols M) → Q u H') ∧ (isGrid t = false → ∀ H', Same H H' → E (.ref (cad mg "NoTable")) none H')
theorem has_turned (d : Dfn K mg "turned" s_turned) (tx : Txt K mg) (h_need_table : HasE P w K mg base "need_table" ["thing"] 4 (sp_need_table mg)) (h_columns_of : Has P w K mg base "columns_of" ["table"] 2 sp_columns_of) : HasE P w K mg base "turned" ["table"] 5 (sp_turned mg) := by
  refine hasE_q (k := 4) d sc_turned bd_turned (fun vs H Q E h => ?_) (fun _ f cdv A outer s H vs Q E _ pz hr h => ?_)
  · obtain ⟨v, t, rfl, _⟩ := h
    rfl
  · obtain ⟨v, t, rfl, it, q1, q2⟩ := h
    refine ⟨_, (q_bcons (q_expr (q_fnE h_need_table pz (hr.mono (by decide)) (q_cons (q_pv 0) q_nil)))
      (q_bone (q_ret (q_fn h_columns_of (hr.mono (by decide)) (q_cons (q_pv 0) q_nil))))), ?_⟩
    refine ⟨_, rfl, v, t, rfl, it, fun g H1 s1 => ?_, fun g H1 s1 => q2 g H1 s1⟩
    obtain ⟨M, rfl, sq⟩ := isGrid_inv g
    exact ⟨_, rfl, v, M, rfl, (is_tabAt it).mono s1.tups, sq, fun u H2 s2 t2 => q1 M rfl sq u H2 (s1.trans s2) t2⟩
/-! ### what a refusal is -/
def kindW : List Str := ["table", "way", "set", "rest", "line", "row", "tables", "below", "text", "great"]
/-- an exception of the i-th class lies at a -/
def XcAt (mg : Str → Option Value) (H : Hp) (a : Addr) (i : Nat) : Prop := ∃ x dx, xNames[i]? = some x ∧ H a = some (ExcO a (.ref (cad mg x)) dx) ∧ ∀ d, dx = some d → ∃ fs, H d = some (.xd fs)
def sp_kind (mg : Str → Option Value) : Sp := fun vs H Q _ => ∃ a i x, vs = [.ref a] ∧ XcAt mg H a i ∧ kindW[i]? = some x ∧ ∀ H', Same H H' → Q (.str x) H'
theorem rd_isi {H : Hp} {a : Addr} {i : Nat} {y : Str} {Q : VK} (ex : Exs K mg) (j : Nat) (h : XcAt mg H a i) (hy : xNames[j]? = some y) (k : Q (.bl (i == j)) H) : rInstX K [.ref a, .ref (cad mg y)] H Q := by
  obtain ⟨x, dx, hx, ha, hd⟩ := h
  exact ⟨a, _, dx, _, _, rfl, ha, hd, ex.xc i hx, .inl ⟨_, rfl⟩, ex.kit i j hx hy, k⟩
theorem rd_isv {H : Hp} {a : Addr} {i : Nat} {Q : VK} (ex : Exs K mg) (h : XcAt mg H a i) (k : Q (.bl true) H) : rInstX K [.ref a, .ty "ValueError"] H Q := by
  obtain ⟨x, dx, hx, ha, hd⟩ := h
  exact ⟨a, _, dx, _, _, rfl, ha, hd, ex.xc i hx, .inr ⟨_, rfl⟩, ex.val i hx, k⟩
theorem XcAt.mono {H H' : Hp} {a : Addr} {i : Nat} (h : XcAt mg H a i) (s : Same H H') : XcAt mg H' a i := by
  obtain ⟨x, dx, hx, ha, hd⟩ := h
  exact ⟨x, dx, hx, s _ _ ha, fun d e => let ⟨fs, q⟩ := hd d e; ⟨fs, s _ _ q⟩⟩
def marksOf (i : Nat) : List Bool := [i == 0, i == 1, i == 2, i == 3] ++ [i == 4, i == 5, i == 6, i == 7] ++ [i == 8, i == 9]
theorem marks_ok : ∀ i, i < 10 → (marksOf i).count true = 1 ∧ (marksOf i)[i]? = some true ∧ ∀ m, m < i → (marksOf i)[m]? ≠ some true := by decide
theorem has_law_kind (d : Dfn K mg "_law_kind" s_law_kind) (tx : Txt K mg) : HasH P w K mg base "_law_kind" ["_law_e"] 1 (sp_kind mg) := by
  refine hasH_q (k := 0) d sc_law_kind bd_law_kind (fun vs H Q E h => ?_) (fun f cdv A outer s H vs Q E hr h => ?_)
  · obtain ⟨a, i, x, rfl, _⟩ := h
    rfl
  · obtain ⟨a, i, x, rfl, xa, hi, q⟩ := h
    refine ⟨_, (q_bcons (q_set (i := 1) sc_law_kind.nd (q_lst (q_cons (q_bi (c_instX K rfl) tx.n_isinstance bt_isinstance (q_cons (q_pv 0) (q_cons (q_cls (tx.ex.m 0 _ rfl)) q_nil))) (q_cons (q_bi (c_instX K rfl) tx.n_isinstance bt_isinstance (q_cons (q_pv 0) (q_cons (q_cls (tx.ex.m 1 _ rfl)) q_nil))) (q_cons (q_bi (c_instX K rfl) tx.n_isinstance bt_isinstance (q_cons (q_pv 0) (q_cons (q_cls (tx.ex.m 2 _ rfl)) q_nil))) (q_cons (q_bi (c_instX K rfl) tx.n_isinstance bt_isinstance (q_cons (q_pv 0) (q_cons (q_cls (tx.ex.m 3 _ rfl)) q_nil))) q_nil))))))
      (q_bcons (q_set (i := 1) sc_law_kind.nd (q_op (o_add K rfl) (q_pv 1) (q_lst (q_cons (q_bi (c_instX K rfl) tx.n_isinstance bt_isinstance (q_cons (q_pv 0) (q_cons (q_cls (tx.ex.m 4 _ rfl)) q_nil))) (q_cons (q_bi (c_instX K rfl) tx.n_isinstance bt_isinstance (q_cons (q_pv 0) (q_cons (q_cls (tx.ex.m 5 _ rfl)) q_nil))) (q_cons (q_bi (c_instX K rfl) tx.n_isinstance bt_isinstance (q_cons (q_pv 0) (q_cons (q_cls (tx.ex.m 6 _ rfl)) q_nil))) (q_cons (q_bi (c_instX K rfl) tx.n_isinstance bt_isinstance (q_cons (q_pv 0) (q_cons (q_cls (tx.ex.m 7 _ rfl)) q_nil))) q_nil)))))))
      (q_bcons (q_set (i := 1) sc_law_kind.nd (q_op (o_add K rfl) (q_pv 1) (q_lst (q_cons (q_bi (c_instX K rfl) tx.n_isinstance bt_isinstance (q_cons (q_pv 0) (q_cons (q_cls (tx.ex.m 8 _ rfl)) q_nil))) (q_cons (q_bi (c_instX K rfl) tx.n_isinstance bt_isinstance (q_cons (q_pv 0) (q_cons (q_cls (tx.ex.m 9 _ rfl)) q_nil))) q_nil)))))
      (q_bcons (q_sif (q_wt (q_wor (q_tnot (q_tval (q_bi (c_instX K rfl) tx.n_isinstance bt_isinstance (q_cons (q_pv 0) (q_cons (q_ty "ValueError" tx.n_ValueError bt_ValueError) q_nil))))) (q_wor1 (q_tcmp o_ne (q_bm K rfl PySem.F.plainAttrs_list PySem.F.slot_list_count PySem.F.type_list_count (m_countB K rfl) (q_pv 1) (q_cons q_bl q_nil)) q_int (nomark _))))) (q_bone (q_ret q_str)) q_bnil)
      (q_bcons (q_set (i := 2) sc_law_kind.nd (w_lst (w_cons w_str (w_cons w_str (w_cons w_str (w_cons w_str (w_cons w_str (w_cons w_str (w_cons w_str (w_cons w_str (w_cons w_str (w_cons w_str w_nil))))))))))))
      (q_bone (q_ret (q_ix (o_ix K rfl) (q_pv 2) (q_bm K rfl PySem.F.plainAttrs_list PySem.F.slot_list_index PySem.F.type_list_index (m_indexB K rfl) (q_pv 1) (q_cons q_bl q_nil)))))))))), ?_⟩
    have hi10 : i < 10 := (List.getElem?_eq_some_iff.mp hi).1
    obtain ⟨mc, mi, mn⟩ := marks_ok i hi10
    refine ⟨_, rfl, rd_isi tx.ex 0 xa rfl ⟨_, rfl, rd_isi tx.ex 1 xa rfl ⟨_, rfl, rd_isi tx.ex 2 xa rfl ⟨_, rfl, rd_isi tx.ex 3 xa rfl ⟨by show 4 ≤ sizeLine; decide, fun l1 n1 => ?_⟩⟩⟩⟩⟩
    have xa1 := xa.mono (Same.upd (o := .lst [.bl (i == 0), .bl (i == 1), .bl (i == 2), .bl (i == 3)]) n1)
    refine ⟨_, rfl, _, rfl, rd_isi tx.ex 4 xa1 rfl ⟨_, rfl, rd_isi tx.ex 5 xa1 rfl ⟨_, rfl, rd_isi tx.ex 6 xa1 rfl ⟨_, rfl, rd_isi tx.ex 7 xa1 rfl ⟨by show 4 ≤ sizeLine; decide, fun l2 n2 => ?_⟩⟩⟩⟩⟩
    have n12 : l1 ≠ l2 := ne_of_none upd_same n2
    have S2 := Same.upd (o := .lst [.bl (i == 4), .bl (i == 5), .bl (i == 6), .bl (i == 7)]) n2
    refine .inr (.inl ⟨l1, l2, _, _, rfl, rfl, by rw [upd_ne n12, upd_same], upd_same, by show 4 + 4 ≤ sizeLine; decide, fun l3 n3 => ?_⟩)
    have S3 := S2.trans (Same.upd (o := .lst ([.bl (i == 0), .bl (i == 1), .bl (i == 2), .bl (i == 3)] ++ [.bl (i == 4), .bl (i == 5), .bl (i == 6), .bl (i == 7)])) n3)
    have xa3 := xa1.mono S3
    refine ⟨_, rfl, _, rfl, rd_isi tx.ex 8 xa3 rfl ⟨_, rfl, rd_isi tx.ex 9 xa3 rfl ⟨by show 2 ≤ sizeLine; decide, fun l4 n4 => ?_⟩⟩⟩
    have n34 : l3 ≠ l4 := ne_of_none upd_same n4
    have S4 := S3.trans (Same.upd (o := .lst [.bl (i == 8), .bl (i == 9)]) n4)
    refine .inr (.inl ⟨l3, l4, _, _, rfl, rfl, by rw [upd_ne n34, upd_same], upd_same, by show 8 + 2 ≤ sizeLine; decide, fun l5 n5 => ?_⟩)
    have S5 := S4.trans (Same.upd (o := .lst ([.bl (i == 0), .bl (i == 1), .bl (i == 2), .bl (i == 3)] ++ [.bl (i == 4), .bl (i == 5), .bl (i == 6), .bl (i == 7)] ++ [.bl (i == 8), .bl (i == 9)])) n5)
    have xa5 := xa1.mono S5
    generalize hH5 : upd _ l5 _ = H5 at xa5 S5 ⊢
    have e5 : H5 l5 = some (.lst ((marksOf i).map V.bl)) := by rw [← hH5, upd_same]; rfl
    have S50 := (Same.upd (o := .lst [.bl (i == 0), .bl (i == 1), .bl (i == 2), .bl (i == 3)]) n1).trans S5
    refine ⟨_, rfl, rd_isv tx.ex xa5 ⟨_, rfl, iteF ?_⟩⟩
    refine ⟨_, rfl, .inl ⟨rfl, _, SqL.of e5⟩, l5, marksOf i, true, rfl, rfl, e5, rfl, _, rfl, ?_⟩
    rw [mc]
    refine iteF ?_
    intro v6 H6 s6 r6
    obtain ⟨l6, ws, rfl, e6, i6⟩ := r6.lst_inv
    obtain ⟨n6, e6⟩ := frp_some e6
    refine ⟨_, rfl, _, rfl, .inl ⟨rfl, _, SqL.of (s6 _ _ e5)⟩, l5, marksOf i, true, i, rfl, rfl, s6 _ _ e5, by show 10 ≤ 1000; decide, mi, mn, ?_⟩
    have ht : (kindW.map T.str)[i]? = some (.str x) := by rw [List.getElem?_map, hi]; rfl
    obtain ⟨v, hv, iv⟩ := IsL.getT (ts := kindW.map T.str) i6 ht
    have : v = .str x := by unfold Is at iv; exact iv
    subst this
    exact .inl ⟨l6, _, _, _, rfl, rfl, SqL.of e6, atI_nat hv, q H6 (S50.trans s6)⟩
/-! ### the law's pen -/
def sp_cellK (K : PySem.W.Frag) : Sp := fun vs H Q _ => ∃ (a : Addr) (ns : List Int) (k : Nat), vs = [.ref a, .int k] ∧ SqL K H a (ns.map V.int) ∧ ∀ i : Int, Q (.int i) H
theorem has_law_cell (d : Dfn K mg "_law_cell" s_law_cell) (tx : Txt K mg) : Has P w K mg base "_law_cell" ["_law_script", "_law_k"] 1 (sp_cellK K) := by
  refine has_q (k := 0) d sc_law_cell bd_law_cell (fun vs H Q E h => ?_) (fun f cdv A outer s H vs Q E hr h => ?_)
  · obtain ⟨a, ns, k, rfl, _⟩ := h
    rfl
  · obtain ⟨a, ns, k, rfl, hs, q⟩ := h
    refine ⟨_, (q_bcons (q_sif (q_tcmp o_lt (q_pv 1) (q_bi (c_len K rfl) tx.n_len bt_len (q_cons (q_pv 0) q_nil)) (nomark _)) (q_bone (q_ret (q_ix (o_ix K rfl) (q_pv 0) (q_pv 1)))) q_bnil)
      (q_bone (q_ret q_int))), ?_⟩
    refine ⟨_, rfl, _, rfl, a, _, rfl, .inl hs, _, _, rfl, rfl, _, rfl, ?_⟩
    refine ite2 (fun c => ?_) (fun c => ?_)
    · have c : (k : Int) < (ns.map V.int).length := by simpa using c
      have hk : k < ns.length := by rw [List.length_map] at c; omega
      refine ⟨_, rfl, _, rfl, .inl ⟨a, _, _, _, rfl, rfl, hs, atI_nat (v := V.int ns[k]) ?_, q _⟩⟩
      rw [List.getElem?_map, List.getElem?_eq_getElem hk]
      rfl
    · exact q _
def PenAt (H : Hp) (p : Addr) : Prop := ∃ n f : Int, 0 ≤ n ∧ H p = some (.lst [.int n, .int f])
def sp_pen : Sp := fun vs H Q _ => ∃ c, vs = [.int c] ∧ ∀ p H', Same H H' → H p = none → PenAt H' p → Q (.ref p) H'
theorem has_law_pen (d : Dfn K mg "_law_pen" s_law_pen) (tx : Txt K mg) : Has P w K mg base "_law_pen" ["_law_cell_here"] 1 sp_pen := by
  refine has_q (k := 0) d sc_law_pen bd_law_pen (fun vs H Q E h => ?_) (fun f cdv A outer s H vs Q E hr h => ?_)
  · obtain ⟨c, rfl, _⟩ := h
    rfl
  · obtain ⟨c, rfl, q⟩ := h
    refine ⟨_, (q_bcons (q_set (i := 1) sc_law_pen.nd (q_bi c_max2 tx.n_max bt_max (q_cons (q_pv 0) (q_cons (q_op o_sub q_int (q_pv 0)) q_nil))))
      (q_bone (q_ret (q_lst (q_cons (q_pv 1) (q_cons (q_cty c_int1 tx.n_int bt_int (q_cons (q_cmp o_ge (q_pv 1) (q_op o_pow q_int q_int) (nomark _)) q_nil)) q_nil)))))), ?_⟩
    refine ⟨_, rfl, _, rfl, _, _, rfl, rfl, _, _, rfl, ?_⟩
    refine ⟨_, rfl, _, rfl, _, _, rfl, rfl, ⟨by decide, by decide, by decide⟩, _, _, rfl, rfl, .inr ⟨_, rfl, ?_⟩⟩
    refine ⟨by show 2 ≤ sizeLine; decide, fun p hp => q p _ (Same.upd hp) hp ⟨_, _, ?_, upd_same⟩⟩
    split <;> omega
def sp_draw : Sp := fun vs H Q _ => ∃ p m, vs = [.ref p, .int m] ∧ PenAt H p ∧ 0 < m ∧ m < 2 ^ 64 ∧ ∀ r H', 0 ≤ r → r < m → But p H H' → PenAt H' p → Q (.int r) H'
theorem has_law_draw (d : Dfn K mg "_law_draw" s_law_draw) (tx : Txt K mg) : Has P w K mg base "_law_draw" ["_law_pen_here", "_law_many"] 1 sp_draw := by
  refine has_q (k := 0) d sc_law_draw bd_law_draw (fun vs H Q E h => ?_) (fun f cdv A outer s H vs Q E hr h => ?_)
  · obtain ⟨p, m, rfl, _⟩ := h
    rfl
  · obtain ⟨p, m, rfl, ⟨n, fl, hn, hp⟩, hm, hm2, q⟩ := h
    refine ⟨_, (q_bcons (q_sif (q_tcmp o_eq (q_ix (o_ix K rfl) (q_pv 0) q_int) q_int (nomark _)) (q_bcons (q_asg (q_bi c_dvm tx.n_divmod bt_divmod (q_cons (q_ix (o_ix K rfl) (q_pv 0) q_int) (q_cons (q_pv 1) q_nil))) (q_gtup K rfl rfl (q_gcons (q_name (i := 2) sc_law_draw.nd) (q_gcons (q_name (i := 3) sc_law_draw.nd) q_gnil))))
      (q_bcons (q_asg (q_pv 2) (q_gsub (q_pv 0) q_int))
      (q_bone (q_ret (q_pv 3))))) q_bnil)
      (q_bcons (q_set (i := 4) sc_law_draw.nd (q_op o_mod (q_op o_mul (q_op (o_add K rfl) (q_op o_mod (q_ix (o_ix K rfl) (q_pv 0) q_int) q_int) q_int) q_int) q_int))
      (q_bcons (q_set (i := 4) sc_law_draw.nd (q_op o_mod (q_op (o_add K rfl) (q_op o_mul (q_pv 4) (q_pv 4)) q_int) q_int))
      (q_bcons (q_asg (q_op o_mod (q_op (o_add K rfl) (q_op o_mul (q_pv 4) q_int) q_int) q_int) (q_gsub (q_pv 0) q_int))
      (q_bone (q_ret (q_op o_mod (q_op o_fdv (q_ix (o_ix K rfl) (q_pv 0) q_int) q_int) (q_pv 1)))))))), ?_⟩
    refine ⟨_, rfl, .inl ⟨p, _, _, _, rfl, rfl, SqL.of hp, rfl, ?_⟩⟩
    refine ⟨rfl, _, rfl, ?_⟩
    refine ite2 (fun c => ?_) (fun c => ?_)
    · refine ⟨_, rfl, .inl ⟨p, _, _, _, rfl, rfl, SqL.of hp, rfl, _, rfl, _, _, rfl, ⟨hm, hm2⟩, fun t ht => ?_⟩⟩
      have npt : p ≠ t := ne_of_none hp ht
      refine ⟨t, _, rfl, SqT.of upd_same, rfl, _, _, rfl, _, _, rfl, rfl, ?_⟩
      refine ⟨_, rfl, _, rfl, p, _, _, _, rfl, rfl, by rw [upd_ne npt]; exact hp, rfl, ?_⟩
      refine ⟨_, rfl, ?_⟩
      refine q _ _ (Int.emod_nonneg _ (by omega)) (Int.emod_lt_of_pos _ hm) ?_ ⟨_, _, Int.ediv_nonneg hn (by omega), upd_same⟩
      exact (But.of_same (Same.upd ht)).trans But.upd
    · have b1 : 0 ≤ n % 2147483647 ∧ n % 2147483647 < 2147483647 := ⟨Int.emod_nonneg _ (by decide), Int.emod_lt_of_pos _ (by decide)⟩
      refine ⟨_, rfl, .inl ⟨p, _, _, _, rfl, rfl, SqL.of hp, rfl, _, _, rfl, rfl, by show (0 : Int) < 2147483647; decide, .inl ⟨_, _, rfl, rfl, .inl ⟨_, _, rfl, rfl, .inl ⟨by omega, by omega⟩, _, _, rfl, rfl, by show (0 : Int) < 2147483629; decide, ?_⟩⟩⟩⟩
      generalize hx : (n % 2147483647 + 40503) * 69621 % 2147483629 = x
      have b2 : 0 ≤ x ∧ x < 2147483629 := by rw [← hx]; exact ⟨Int.emod_nonneg _ (by decide), Int.emod_lt_of_pos _ (by decide)⟩
      refine ⟨_, rfl, _, rfl, .inl ⟨_, _, rfl, rfl, .inl ⟨by omega, by omega⟩, .inl ⟨_, _, rfl, rfl, _, _, rfl, rfl, by show (0 : Int) < 2147483587; decide, ?_⟩⟩⟩
      generalize hy : (x * x + 7817) % 2147483587 = y
      have b3 : 0 ≤ y ∧ y < 2147483587 := by rw [← hy]; exact ⟨Int.emod_nonneg _ (by decide), Int.emod_lt_of_pos _ (by decide)⟩
      refine ⟨_, rfl, .inl ⟨_, _, rfl, rfl, .inl ⟨by omega, by omega⟩, .inl ⟨_, _, rfl, rfl, _, _, rfl, rfl, by show (0 : Int) < 2147483629; decide, ?_⟩⟩⟩
      generalize hz : (y * 48271 + 11) % 2147483629 = z
      have b4 : 0 ≤ z ∧ z < 2147483629 := by rw [← hz]; exact ⟨Int.emod_nonneg _ (by decide), Int.emod_lt_of_pos _ (by decide)⟩
      refine ⟨_, rfl, p, _, _, _, rfl, rfl, hp, rfl, ?_⟩
      refine ⟨_, rfl, .inl ⟨p, _, _, _, rfl, rfl, SqL.of upd_same, rfl, _, _, rfl, rfl, ⟨by decide, by decide⟩, _, rfl, _, _, rfl, rfl, hm, ?_⟩⟩
      exact q _ _ (Int.emod_nonneg _ (by omega)) (Int.emod_lt_of_pos _ hm) But.upd ⟨_, fl, Int.emod_nonneg _ (by decide), upd_same⟩
/-! ### the law's things -/
theorem has_law_whole (d : Dfn K mg "_law_whole" s_law_whole) (tx : Txt K mg) : Has P w K mg base "_law_whole" ["_law_thing"] 1 sp_whole := by
  refine has_q (k := 0) d sc_law_whole bd_law_whole (fun vs H Q E h => ?_) (fun f cdv A outer s H vs Q E hr h => ?_)
  · obtain ⟨v, t, rfl, _⟩ := h
    rfl
  · obtain ⟨v, t, rfl, it, q⟩ := h
    refine ⟨_, (q_bone (q_ret (q_and (q_bi c_inst tx.n_isinstance bt_isinstance (q_cons (q_pv 0) (q_cons (q_ty "int" tx.n_int bt_int) q_nil))) (q_one (q_not (q_bi c_inst tx.n_isinstance bt_isinstance (q_cons (q_pv 0) (q_cons (q_ty "bool" tx.n_bool bt_bool) q_nil)))))))), ?_⟩
    refine ⟨_, rfl, _, _, t, rfl, it, by simp, _, rfl, ?_⟩
    refine ite2 (fun c => ?_) (fun c => ?_)
    · refine ⟨_, rfl, _, _, t, rfl, it, by simp, _, rfl, ?_⟩
      have z := whole_and t (fun b => Q (.bl b) H) q
      rw [if_pos c] at z
      exact z
    · have z := whole_and t (fun b => Q (.bl b) H) q
      rw [if_neg c] at z
      exact z
theorem PenAt.lst {H : Hp} {p : Addr} (h : PenAt H p) : ∃ xs, H p = some (.lst xs) := by
  obtain ⟨n, f, _, e⟩ := h
  exact ⟨_, e⟩
theorem PenAt.mono {H H' : Hp} {p : Addr} (h : PenAt H p) (s : Same H H') : PenAt H' p := by
  obtain ⟨n, f, z, e⟩ := h
  exact ⟨n, f, z, s _ _ e⟩
theorem atI_ofInt {α : Type} {xs : List α} {i : Int} (h0 : 0 ≤ i) (h1 : i < xs.length) : ∃ v, xs[i.toNat]? = some v ∧ atI xs i = some v := by
  obtain ⟨j, rfl⟩ := Int.eq_ofNat_of_zero_le h0
  have hj : j < xs.length := by omega
  exact ⟨xs[j], by simp [hj], atI_nat (List.getElem?_eq_getElem hj)⟩
def oddTs : List T := [.non, .bl true, .bl false, .int (-1), .str "1", .str "", .tup [], .lst [], .tup [.int 0], .lst [.int 0], .dct [Sum.inr "a"] [.int 1], .tup [.tup [.int 0]], .int 1000000000000000000000000000000, .tup [.tup [.int 0, .int 1]], .tup [.str "ab"], .tup [.tup [.bl true]]]
def sp_odd : Sp := fun vs H Q _ => ∃ p, vs = [.ref p] ∧ PenAt H p ∧ ∀ v t H', But p H H' → PenAt H' p → Is (del H' p) v t → t ∈ oddTs → Q v H'
theorem has_law_odd (d : Dfn K mg "_law_odd" s_law_odd) (tx : Txt K mg) (h_law_draw : Has P w K mg base "_law_draw" ["_law_pen_here", "_law_many"] 1 sp_draw) : Has P w K mg base "_law_odd" ["_law_pen_here"] 2 sp_odd := by
  refine has_q (k := 1) d sc_law_odd bd_law_odd (fun vs H Q E h => ?_) (fun f cdv A outer s H vs Q E hr h => ?_)
  · obtain ⟨p, rfl, _⟩ := h
    rfl
  · obtain ⟨p, rfl, hp, q⟩ := h
    refine ⟨_, (q_bcons (q_set (i := 1) sc_law_odd.nd (w_lst (w_cons w_non (w_cons w_bl (w_cons w_bl (w_cons (w_val (q_un o_neg q_int) (fun _ _ _ q => ⟨_, rfl, q⟩)) (w_cons w_str (w_cons w_str (w_cons (w_tup w_nil) (w_cons (w_lst w_nil) (w_cons (w_tup (w_cons w_int w_nil)) (w_cons (w_lst (w_cons w_int w_nil)) (w_cons (w_dict1 w_int) (w_cons (w_tup (w_cons (w_tup (w_cons w_int w_nil)) w_nil)) (w_cons (w_val (q_op o_pow q_int q_int) (fun _ _ _ q => ⟨_, _, rfl, rfl, ⟨by decide, by decide, by decide⟩, q⟩)) (w_cons (w_tup (w_cons (w_tup (w_cons w_int (w_cons w_int w_nil))) w_nil)) (w_cons (w_tup (w_cons w_str w_nil)) w_nil)))))))))))))))))
      (q_bone (q_ret (q_ix (o_ix K rfl) (q_op (o_add K rfl) (q_pv 1) (w_lst (w_cons (w_tup (w_cons (w_tup (w_cons w_bl w_nil)) w_nil)) w_nil))) (q_fn h_law_draw (hr.mono (by decide)) (q_cons (q_pv 0) (q_cons q_int q_nil))))))), ?_⟩
    obtain ⟨px, hpx⟩ := hp.lst
    intro v1 H1 s1 r1
    refine ⟨_, rfl, ?_⟩
    intro v2 H2 s2 r2
    obtain ⟨l1, xs, rfl, e1, i1⟩ := r1.lst_inv
    obtain ⟨l2, ys, rfl, e2, i2⟩ := r2.lst_inv
    have z1 := i1.length
    have z2 := i2.length
    obtain ⟨n1, e1⟩ := frp_some e1
    obtain ⟨n2, e2⟩ := frp_some e2
    refine .inr (.inl ⟨l1, l2, xs, ys, rfl, rfl, s2 _ _ e1, e2, small_line (by rw [z1, z2]; decide), fun l3 n3 => ?_⟩)
    have s3 : Same H (upd H2 l3 (.lst (xs ++ ys))) := (s1.trans s2).trans (Same.upd n3)
    refine ⟨_, rfl, p, 16, rfl, hp.mono s3, by decide, by decide, fun r H4 r0 r1 b4 p4 => ?_⟩
    have hne : l3 ≠ p := fun z => by
      have := (s1.trans s2) _ _ hpx
      rw [← z, n3] at this
      cases this
    obtain ⟨v, hv, av⟩ := atI_ofInt (xs := xs ++ ys) r0 (by rw [List.length_append, z1, z2]; exact r1)
    refine .inl ⟨l3, _, _, _, rfl, rfl, SqL.of (b4.get hne upd_same), av, ?_⟩
    have sb : Same (del H2 p) (del H4 p) := Same.trans (But.of_same (Same.upd n3)) b4
    have i3 : IsL (del H4 p) (xs ++ ys) _ := (i1.mono ((frp_del hpx).trans ((But.of_same s2).trans sb))).append (i2.mono ((frp_del (s1 _ _ hpx)).trans sb))
    obtain ⟨t, ht, it⟩ := i3.get hv
    exact q v t H4 ((But.of_same s3).trans b4) p4 it (List.mem_of_getElem? (show oddTs[r.toNat]? = some t from ht))
def sp_mktab : Sp := fun vs H Q _ => ∃ (p : Addr) (n : Nat) (wy : Int), vs = [.ref p, .int n, .int wy] ∧ PenAt H p ∧ 1 ≤ n ∧ n ≤ 4 ∧ ∀ v M H', But p H H' → PenAt H' p → TabAt H' v M → M.length = n → (∀ r ∈ M, r.length = n) → (∀ r ∈ M, ∀ x ∈ r, -100000000000 ≤ x ∧ x ≤ 100000000000) → Q v H'
theorem has_law_table (d : Dfn K mg "_law_table" s_law_table) (tx : Txt K mg) (h_law_draw : Has P w K mg base "_law_draw" ["_law_pen_here", "_law_many"] 1 sp_draw) : Has P w K mg base "_law_table" ["_law_pen_here", "_law_size", "_law_way"] 2 sp_mktab := by
  refine has_q (k := 1) d sc_law_table bd_law_table (fun vs H Q E h => ?_) (fun f cdv A outer s H vs Q E hr h => ?_)
  · obtain ⟨p, n, wy, rfl, _⟩ := h
    rfl
  · obtain ⟨p, n, wy, rfl, hp, hn1, hn4, q⟩ := h
    refine ⟨_, (q_bcons (q_set (i := 3) sc_law_table.nd (w_lst w_nil))
      (q_bcons (q_for PassesOwn.never rfl (q_rng1 tx.n_range (q_cons (q_pv 1) q_nil)) (q_name (i := 4) sc_law_table.nd) (q_bcons (q_set (i := 5) sc_law_table.nd (w_lst w_nil))
      (q_bcons (q_for PassesOwn.never rfl (q_rng1 tx.n_range (q_cons (q_pv 1) q_nil)) (q_name (i := 6) sc_law_table.nd) (q_bcons (q_set (i := 7) sc_law_table.nd (q_bi c_max2 tx.n_max bt_max (q_cons q_int (q_cons (q_op o_sub (q_fn h_law_draw (hr.mono (by decide)) (q_cons (q_pv 0) (q_cons q_int q_nil))) q_int) q_nil))))
      (q_bseq (q_sif (q_tcmp o_eq (q_pv 2) q_int (nomark _)) (q_bone (q_set (i := 7) sc_law_table.nd (q_op o_sub (q_fn h_law_draw (hr.mono (by decide)) (q_cons (q_pv 0) (q_cons q_int q_nil))) q_int))) q_bnil)
      (q_bseq (q_sif (q_tcmp o_eq (q_pv 2) q_int (nomark _)) (q_bone (q_set (i := 7) sc_law_table.nd (q_op o_sub (q_fn h_law_draw (hr.mono (by decide)) (q_cons (q_pv 0) (q_cons (q_op (o_add K rfl) (q_op o_mul q_int (q_op o_pow q_int q_int)) q_int) q_nil))) (q_op o_pow q_int q_int)))) q_bnil)
      (q_bone (q_expr (q_bm K rfl PySem.F.plainAttrs_list PySem.F.slot_list_append PySem.F.type_list_append m_append (q_pv 5) (q_cons (q_pv 7) q_nil))))))))
      (q_bone (q_expr (q_bm K rfl PySem.F.plainAttrs_list PySem.F.slot_list_append PySem.F.type_list_append m_append (q_pv 3) (q_cons (q_cty (c_tuple K rfl) tx.n_tuple bt_tuple (q_cons (q_pv 5) q_nil)) q_nil)))))))
      (q_bone (q_ret (q_cty (c_tuple K rfl) tx.n_tuple bt_tuple (q_cons (q_pv 3) q_nil)))))), ?_⟩
    obtain ⟨px, hpx⟩ := hp.lst
    intro v1 H1 s1 r1
    obtain ⟨lr, ws, rfl, e1, i1⟩ := r1.lst_inv
    rw [i1.nil_inv] at e1
    obtain ⟨n1, e1⟩ := frp_some e1
    have hrp : lr ≠ p := fun z => by rw [z, hpx] at n1; cases n1
    have bnd : ∀ x : Int, (∃ lo hi : Int, lo ≤ x ∧ x ≤ hi ∧ -100000000000 ≤ lo ∧ hi ≤ 100000000000) → -100000000000 ≤ x ∧ x ≤ 100000000000 := fun x ⟨lo, hi, a, b, c, d⟩ => ⟨by omega, by omega⟩
    refine ⟨_, rfl, _, rfl, by omega, by omega, for_range (lo := 0) (n := (n : Int).toNat) (fun i σ H2 => ∃ o1 o2 o3 o4 vs M, σ = [some (.ref p), some (.int n), some (.int wy), some (.ref lr), o1, o2, o3, o4] ∧ But p H H2 ∧ PenAt H2 p ∧ H2 lr = some (.lst vs) ∧ RowsAt H2 vs M ∧ M.length = i ∧ (∀ r ∈ M, r.length = n) ∧ (∀ r ∈ M, ∀ x ∈ r, -100000000000 ≤ x ∧ x ≤ 100000000000))
      ⟨none, none, none, none, [], [], rfl, But.of_same s1, hp.mono s1, e1, .nil, rfl, (fun r hr => nomatch hr), (fun r hr => nomatch hr)⟩ ?_ ?_⟩
    · rintro i σ H2 hi ⟨o1, o2, o3, o4, vs, M, rfl, b2, p2, e2, rows, hM, hMr, hMb⟩
      intro v3 H3 s3 r3
      obtain ⟨ln, ws, rfl, e3, i3⟩ := r3.lst_inv
      rw [i3.nil_inv] at e3
      obtain ⟨n3, e3⟩ := frp_some e3
      obtain ⟨py, hpy⟩ := p2.lst
      have hnp : ln ≠ p := fun z => by rw [z, hpy] at n3; cases n3
      have hnr : ln ≠ lr := fun z => by rw [z, e2] at n3; cases n3
      have n0 : H ln = none := by
        cases z : H ln with
        | none => rfl
        | some o => rw [b2.get hnp z] at n3; cases n3
      refine ⟨_, rfl, _, rfl, by omega, by omega, for_range (lo := 0) (n := (n : Int).toNat) (fun j σ H4 => ∃ o3 o4 ns, σ = [some (.ref p), some (.int n), some (.int wy), some (.ref lr), some (.int (0 + i)), some (.ref ln), o3, o4] ∧ But p H H4 ∧ PenAt H4 p ∧ H4 lr = some (.lst vs) ∧ RowsAt H4 vs M ∧ H4 ln = some (.lst (ns.map V.int)) ∧ ns.length = j ∧ (∀ x ∈ ns, -100000000000 ≤ x ∧ x ≤ 100000000000))
        ⟨o3, o4, [], rfl, b2.trans (But.of_same s3), p2.mono s3, s3 _ _ e2, rows.mono s3.tups, e3, rfl, (fun x hx => nomatch hx)⟩ ?_ ?_⟩
      · rintro j σ H4 hj ⟨o3, o4, ns, rfl, b4, p4, e4, rows4, e4n, hns, hnb⟩
        -- number = max(0, draw(5) - 2)
        refine ⟨_, rfl, p, 5, rfl, p4, by decide, by decide, fun r H5 r0 r1 b5 p5 => ?_⟩
        obtain ⟨pz, hpz⟩ := p4.lst
        refine ⟨_, _, rfl, rfl, _, _, rfl, ?_⟩
        -- the two ifs join
        refine ⟨fun σ H6 => ∃ x, σ = [some (.ref p), some (.int n), some (.int wy), some (.ref lr), some (.int (0 + i)), some (.ref ln), some (.int (0 + j)), some (.int x)] ∧ (-100000000000 ≤ x ∧ x ≤ 100000000000) ∧ But p H4 H6 ∧ PenAt H6 p, ?_, ?_⟩
        · refine ⟨_, rfl, rfl, _, rfl, ?_⟩
          refine ite2 (fun c => ?_) (fun c => ?_)
          · refine ⟨_, rfl, p, 5, rfl, p5, by decide, by decide, fun r2 H6 a0 a1 b6 p6 => ⟨_, _, rfl, rfl, ?_⟩⟩
            exact ⟨_, rfl, bnd _ ⟨-2, 2, by omega, by omega, by decide, by decide⟩, b5.trans b6, p6⟩
          · refine ⟨_, rfl, bnd _ ⟨0, 2, ?_, ?_, by decide, by decide⟩, b5, p5⟩ <;> (split <;> omega)
        · rintro σ H6 ⟨x, rfl, hx, b6, p6⟩
          refine ⟨fun σ H6 => ∃ x, σ = [some (.ref p), some (.int n), some (.int wy), some (.ref lr), some (.int (0 + i)), some (.ref ln), some (.int (0 + j)), some (.int x)] ∧ (-100000000000 ≤ x ∧ x ≤ 100000000000) ∧ But p H4 H6 ∧ PenAt H6 p, ?_, ?_⟩
          · refine ⟨_, rfl, rfl, _, rfl, ?_⟩
            refine ite2 (fun c => ?_) (fun c => ?_)
            · refine ⟨_, rfl, _, _, rfl, rfl, ⟨by decide, by decide, by decide⟩, .inl ⟨_, _, rfl, rfl, .inl ⟨by decide, by decide⟩, .inl ⟨_, _, rfl, rfl, ?_⟩⟩⟩
              refine ⟨p, _, rfl, p6, by decide, by decide, fun r2 H7 a0 a1 b7 p7 => ⟨_, _, rfl, rfl, ⟨by decide, by decide, by decide⟩, _, _, rfl, rfl, ?_⟩⟩
              have a1 : r2 < 200000000001 := a1
              refine ⟨_, rfl, ?_, b6.trans b7, p7⟩
              show -100000000000 ≤ r2 - 100000000000 ∧ r2 - 100000000000 ≤ 100000000000
              omega
            · exact ⟨x, rfl, hx, b6, p6⟩
          · rintro σ H7 ⟨x, rfl, hx, b7, p7⟩
            have t7 := b7.tups hpz
            refine ⟨_, rfl, .inl ⟨rfl, _, SqL.of (b7.get hnp e4n)⟩, _, rfl, ln, _, _, rfl, rfl, b7.get hnp e4n, ?_, ?_⟩
            · rw [List.length_map, sizeLine_eq]
              omega
            · obtain ⟨nn, ff, z0, hp7⟩ := p7
              refine ⟨_, _, ns ++ [x], rfl, ?_, ⟨nn, ff, z0, by rw [upd_ne hnp.symm]; exact hp7⟩, by rw [upd_ne hnr.symm]; exact b7.get hrp e4, rows4.mono (t7.trans (tups_upd (b7.get hnp e4n))), by rw [upd_same, List.map_append]; rfl, by rw [List.length_append, hns]; rfl, fun y hy => ?_⟩
              · exact fun c o e => by
                  obtain ⟨h1, h2⟩ := del_get e
                  rw [del_ne h1, upd_ne (ne_of_none h2 n0)]
                  exact (b4.trans b7).get h1 h2
              · rcases List.mem_append.mp hy with hy | hy
                · exact hnb y hy
                · rw [List.mem_singleton.mp hy]
                  exact hx
      · rintro σ H4 ⟨o3, o4, ns, rfl, b4, p4, e4, rows4, e4n, hns, hnb⟩
        have hvl : vs.length ≤ 4 := by rw [rows4.1]; omega
        refine ⟨_, rfl, .inl ⟨rfl, _, SqL.of e4⟩, _, rfl, ln, _, rfl, .inl ⟨SqL.of e4n, fun lt nt => ?_⟩⟩
        have hrt : lr ≠ lt := ne_of_none e4 nt
        obtain ⟨pz, hpz⟩ := p4.lst
        have hpt : p ≠ lt := ne_of_none hpz nt
        have hr5 : upd H4 lt (.tup (ns.map V.int)) lr = some (.lst vs) := by rw [upd_ne hrt]; exact e4
        refine ⟨lr, vs, _, rfl, rfl, hr5, by rw [sizeLine_eq]; omega, ?_⟩
        obtain ⟨nn, ff, z0, hp4⟩ := p4
        have t6 : Tups H4 (upd (upd H4 lt (.tup (ns.map V.int))) lr (.lst (vs ++ [.ref lt]))) := (tups_new nt).trans (tups_upd hr5)
        refine ⟨_, _, _, _, vs ++ [.ref lt], M ++ [ns], rfl, ?_, ⟨nn, ff, z0, by rw [upd_ne hrp.symm, upd_ne hpt]; exact hp4⟩, upd_same, (rows4.mono t6).snoc ⟨lt, rfl, by rw [upd_ne hrt.symm, upd_same]⟩, by rw [List.length_append, hM]; rfl, fun r hr => ?_, fun r hr x hx => ?_⟩
        · exact fun c o e => by
            obtain ⟨h1, h2⟩ := del_get e
            have h4 := b4.get h1 h2
            rw [del_ne h1, upd_ne (ne_of_none h2 n1), upd_ne (ne_of_none h4 nt)]
            exact h4
        · rcases List.mem_append.mp hr with hr | hr
          · exact hMr r hr
          · rw [List.mem_singleton.mp hr, hns]
            omega
        · rcases List.mem_append.mp hr with hr | hr
          · exact hMb r hr x hx
          · rw [List.mem_singleton.mp hr] at hx
            exact hnb x hx
    · rintro σ H2 ⟨o1, o2, o3, o4, vs, M, rfl, b2, p2, e2, rows, hM, hMr, hMb⟩
      refine ⟨_, rfl, lr, _, rfl, .inl ⟨SqL.of e2, fun lt nt => ?_⟩⟩
      refine q _ M _ (b2.trans (But.of_same (Same.upd nt))) (p2.mono (Same.upd nt)) ⟨lt, vs, rfl, upd_same, rows.mono (tups_new nt)⟩ (by omega) (fun r hr => hMr r hr) (fun r hr => hMb r hr)
theorem has_law_whole_H (d : Dfn K mg "_law_whole" s_law_whole) (tx : Txt K mg) : HasH P w K mg base "_law_whole" ["_law_thing"] 1 sp_whole := by
  refine hasH_q (k := 0) d sc_law_whole bd_law_whole (fun vs H Q E h => ?_) (fun f cdv A outer s H vs Q E hr h => ?_)
  · obtain ⟨v, t, rfl, _⟩ := h
    rfl
  · obtain ⟨v, t, rfl, it, q⟩ := h
    refine ⟨_, (q_bone (q_ret (q_and (q_bi c_inst tx.n_isinstance bt_isinstance (q_cons (q_pv 0) (q_cons (q_ty "int" tx.n_int bt_int) q_nil))) (q_one (q_not (q_bi c_inst tx.n_isinstance bt_isinstance (q_cons (q_pv 0) (q_cons (q_ty "bool" tx.n_bool bt_bool) q_nil)))))))), ?_⟩
    refine ⟨_, rfl, _, _, t, rfl, it, by simp, _, rfl, ?_⟩
    refine ite2 (fun c => ?_) (fun c => ?_)
    · refine ⟨_, rfl, _, _, t, rfl, it, by simp, _, rfl, ?_⟩
      have z := whole_and t (fun b => Q (.bl b) H) q
      rw [if_pos c] at z
      exact z
    · have z := whole_and t (fun b => Q (.bl b) H) q
      rw [if_neg c] at z
      exact z
/-! ### what along says -/
def sp_said : Sp := fun vs H Q _ => ∃ v wv t tw, vs = [v, wv] ∧ Is H v t ∧ Is H wv tw ∧
  (∀ i, wrongV false t = .int i → ∀ u H', Same H H' → Is H' u (.tup [.str "tables", .int i]) → Q u H') ∧
  ∀ Ms, t = tabsT Ms → Tabs0 Ms → (isWay Ms.length tw = false → ∀ u H', Same H H' → Is H' u (.tup [.str "way", .non]) → Q u H') ∧
    ∀ ps, tw = wayT ps → OkWay Ms.length ps → (∀ q ∈ ps.tail, BdT (tabN Ms q)) ∧ ∀ u H', Same H H' → Is H' u (.tup [.str "told", .non]) → Q u H'
theorem has_law_said (d : Dfn K mg "_law_said" s_law_said) (tx : Txt K mg) (h_along : HasE P w K mg base "along" ["tables", "way"] 6 (sp_along mg)) (h_law_kind_H : HasH P w K mg base "_law_kind" ["_law_e"] 1 (sp_kind mg)) (h_law_whole_H : HasH P w K mg base "_law_whole" ["_law_thing"] 1 sp_whole) : Has P w K mg base "_law_said" ["_law_thing", "_law_way"] 7 sp_said := by
  refine has_q (k := 6) d sc_law_said bd_law_said (fun vs H Q E h => ?_) (fun f cdv A outer s H vs Q E hr h => ?_)
  · obtain ⟨v, wv, t, tw, rfl, _⟩ := h
    rfl
  · obtain ⟨v, wv, t, tw, rfl, it, iw, q1, q2⟩ := h
    refine ⟨_, (q_bcons (q_try (i := 2) (fun pins R pz => (q_bone (q_expr (q_fnE h_along pz (hr.mono (by decide)) (q_cons (q_pv 0) (q_cons (q_pv 1) q_nil)))))) (fun pins e => (q_bcons (q_sif (q_wt (q_wand (q_tcmp o_eq (q_fnH h_law_kind_H ((hr.mono (by decide)).mark _) (q_cons (q_pv 2) q_nil)) q_str (nomark _)) (q_wand1 (q_tval (q_fnH h_law_whole_H ((hr.mono (by decide)).mark _) (q_cons (q_fldx K rfl (q_pv 2)) q_nil)))))) (q_bone (q_ret (q_tup (q_cons q_str (q_cons (q_fldx K rfl (q_pv 2)) q_nil))))) q_bnil)
      (q_bone (q_ret (q_tup (q_cons (q_fnH h_law_kind_H ((hr.mono (by decide)).mark _) (q_cons (q_pv 2) q_nil)) (q_cons q_non q_nil))))))) sc_law_said.nd tx.ex.nou PySem.F.excBase_ValueError.hasBase tx.ex.m0)
      (q_bone (q_ret (w_tup (w_cons w_str (w_cons w_non w_nil)))))), ?_⟩
    refine ⟨fun cls dx σ' H' => σ' = [some v, some wv, none] ∧ Same H H' ∧ ((cls = .ref (cad mg "NoTables") ∧ ∃ i d, wrongV false t = .int i ∧ dx = some d ∧ H' d = some (.xd [("at", .int i)])) ∨ (cls = .ref (cad mg "NoWay") ∧ dx = none ∧ ∃ Ms, t = tabsT Ms ∧ Tabs0 Ms ∧ isWay Ms.length tw = false)), ?_, ?_⟩
    · refine ⟨_, rfl, _, rfl, v, wv, t, tw, rfl, it, iw, fun i e d H' s' hd => ⟨rfl, s', .inl ⟨rfl, i, d, e, rfl, hd⟩⟩, fun Ms e hM => ?_⟩
      obtain ⟨q3, q4⟩ := q2 Ms e hM
      refine ⟨fun un H' s' => ⟨rfl, s', .inr ⟨rfl, rfl, Ms, e, hM, un⟩⟩, fun ps e2 ok => ?_⟩
      obtain ⟨bd, q5⟩ := q4 ps e2 ok
      refine ⟨bd, fun u H' s' tab => ?_⟩
      intro v6 H6 s6 r6
      exact q5 _ _ (s'.trans s6) (r6.mono (frp_same _ _))
    · rintro cls dx σ' H' x ⟨rfl, s', hx'⟩ hx _
      rcases hx' with ⟨rfl, i, d, e, rfl, hd⟩ | ⟨rfl, rfl, Ms, e, hM, un⟩
      · refine ⟨⟨_, rfl, tx.ex.sub 6 rfl⟩, ?_⟩
        have dne : d ≠ x := ne_of_none hd hx
        have xc : XcAt mg (upd H' x (ExcO x (.ref (cad mg "NoTables")) (some d))) x 6 := ⟨_, some d, rfl, upd_same, fun d' e' => by cases e'; exact ⟨_, by rw [upd_ne dne]; exact hd⟩⟩
        refine ⟨_, rfl, x, 6, "tables", rfl, xc, rfl, fun H2 s2 => ⟨rfl, _, rfl, iteT ?_⟩⟩
        have rd : ∀ H3 (Q' : VK), Same (upd H' x (ExcO x (.ref (cad mg "NoTables")) (some d))) H3 → Q' (.int i) H3 → rFldX K "at" (.ref x) H3 Q' := fun H3 Q' s3 k => ⟨x, _, d, _, .int i, rfl, s3 _ _ upd_same, s3 _ _ (by rw [upd_ne dne]; exact hd), rfl, ⟨i, rfl⟩, ⟨_, tx.i_NoTables⟩, tx.ex.xc 6 rfl, k⟩
        refine ⟨_, rfl, rd _ _ s2 ⟨_, .int i, rfl, Is.int, _, rfl, iteT ?_⟩⟩
        refine ⟨_, rfl, rd _ _ s2 ⟨by show 2 ≤ sizeLine; decide, fun p hp => ?_⟩⟩
        exact q1 i e _ _ (((s'.trans (Same.upd hx)).trans s2).trans (Same.upd hp)) (.tup upd_same (.cons Is.str (.one Is.int)) (by show 2 ≤ 100000; decide))
      · refine ⟨⟨_, rfl, tx.ex.sub 1 rfl⟩, ?_⟩
        have xc : XcAt mg (upd H' x (ExcO x (.ref (cad mg "NoWay")) none)) x 1 := ⟨_, none, rfl, upd_same, fun d e => nomatch e⟩
        refine ⟨_, rfl, x, 1, "way", rfl, xc, rfl, fun H2 s2 => ⟨rfl, _, rfl, iteF (iteF ?_)⟩⟩
        refine ⟨_, rfl, x, 1, "way", rfl, xc.mono s2, rfl, fun H3 s3 => ⟨by show 2 ≤ sizeLine; decide, fun p hp => ?_⟩⟩
        exact (q2 Ms e hM).1 un _ _ ((((s'.trans (Same.upd hx)).trans s2).trans s3).trans (Same.upd hp)) (.tup upd_same (.cons Is.str (.one Is.non)) (by show 2 ≤ 100000; decide))
def sp_one : Sp := fun vs H Q _ => ∃ (k : Int) (v : V) (t : T), vs = [.int k, v] ∧ Is H v t ∧ (isGrid t = false → ∀ u H', Same H H' → Is H' u (.tup [.str "table", .non]) → Q u H') ∧
  ∀ M, t = tabT M → Square M → (k = 0 → ∀ u H', Same H H' → Is H' u (.tup [.str "told", .bl (noughtM M)]) → Q u H') ∧ (k ≠ 0 → ∀ u H', Same H H' → Is H' u (.tup [.str "told", tabT (cols M)]) → Q u H')
theorem has_law_one (d : Dfn K mg "_law_one" s_law_one) (tx : Txt K mg) (h_is_nought : HasE P w K mg base "is_nought" ["table"] 5 (sp_is_nought mg)) (h_turned : HasE P w K mg base "turned" ["table"] 5 (sp_turned mg)) (h_law_kind_H : HasH P w K mg base "_law_kind" ["_law_e"] 1 (sp_kind mg)) : Has P w K mg base "_law_one" ["_law_way", "_law_table_here"] 6 sp_one := by
  refine has_q (k := 5) d sc_law_one bd_law_one (fun vs H Q E h => ?_) (fun f cdv A outer s H vs Q E hr h => ?_)
  · obtain ⟨k, v, t, rfl, _⟩ := h
    rfl
  · obtain ⟨k, v, t, rfl, it, q1, q2⟩ := h
    refine ⟨_, (q_bone (q_try (i := 2) (fun pins R pz => (q_bone (q_ret (q_tup (q_cons q_str (q_cons (q_if (q_tcmp o_eq (q_pv 0) q_int (nomark _)) (q_fnE h_is_nought pz (hr.mono (by decide)) (q_cons (q_pv 1) q_nil)) (q_fnE h_turned pz (hr.mono (by decide)) (q_cons (q_pv 1) q_nil))) q_nil)))))) (fun pins e => (q_bone (q_ret (q_tup (q_cons (q_fnH h_law_kind_H ((hr.mono (by decide)).mark _) (q_cons (q_pv 2) q_nil)) (q_cons q_non q_nil)))))) sc_law_one.nd tx.ex.nou PySem.F.excBase_ValueError.hasBase tx.ex.m0)), ?_⟩
    refine ⟨fun cls dx σ' H' => cls = .ref (cad mg "NoTable") ∧ dx = none ∧ σ' = [some (.int k), some v, none] ∧ Same H H' ∧ isGrid t = false, ?_, ?_⟩
    · refine ⟨_, rfl, rfl, _, rfl, ?_⟩
      refine ite2 (fun c => ?_) (fun c => ?_)
      · have c : k = 0 := by simpa using c
        refine ⟨_, rfl, v, t, rfl, it, fun M e sq H' s' => ⟨by show 2 ≤ sizeLine; decide, fun p hp => ?_⟩, fun g H' s' => ⟨rfl, rfl, rfl, s', g⟩⟩
        exact (q2 M e sq).1 c _ _ (s'.trans (Same.upd hp)) (.tup upd_same (.cons Is.str (.one Is.bl)) (by show 2 ≤ 100000; decide))
      · have c : k ≠ 0 := by simpa using c
        refine ⟨_, rfl, v, t, rfl, it, fun M e sq u H' s' tu => ⟨by show 2 ≤ sizeLine; decide, fun p hp => ?_⟩, fun g H' s' => ⟨rfl, rfl, rfl, s', g⟩⟩
        exact (q2 M e sq).2 c _ _ (s'.trans (Same.upd hp)) (.tup upd_same (.cons Is.str (.one (tabAt_sq (tu.mono (tups_new hp)) (cols_sq sq)))) (by show 2 ≤ 100000; decide))
    · rintro cls dx σ' H' x ⟨rfl, rfl, rfl, s', g⟩ hx _
      refine ⟨⟨_, rfl, tx.ex.sub 0 rfl⟩, ?_⟩
      refine ⟨_, rfl, x, 0, "table", rfl, ⟨_, none, rfl, upd_same, fun d e => nomatch e⟩, rfl, fun H2 s2 => ⟨by show 2 ≤ sizeLine; decide, fun p hp => ?_⟩⟩
      exact q1 g _ _ (((s'.trans (Same.upd hx)).trans s2).trans (Same.upd hp)) (.tup upd_same (.cons Is.str (.one Is.non)) (by show 2 ≤ 100000; decide))
/-! ### the law's own look at a square -/
theorem has_law_is_square (d : Dfn K mg "_law_is_square" s_law_is_square) (tx : Txt K mg) (h_law_whole : Has P w K mg base "_law_whole" ["_law_thing"] 1 sp_whole) : Has P w K mg base "_law_is_square" ["_law_thing"] 2 sp_grid := by
  refine has_q (k := 1) d sc_law_is_square bd_law_is_square (fun vs H Q E h => ?_) (fun f cdv A outer s H vs Q E hr h => ?_)
  · obtain ⟨v, t, rfl, _⟩ := h
    rfl
  · obtain ⟨v, t, rfl, it, q⟩ := h
    refine ⟨_, (q_bcons (q_sif (q_wt (q_wor (q_tnot (q_tval (q_bi c_inst tx.n_isinstance bt_isinstance (q_cons (q_pv 0) (q_cons (q_ty "tuple" tx.n_tuple bt_tuple) q_nil))))) (q_wor1 (q_tcmp o_notInR (q_bi (c_len K rfl) tx.n_len bt_len (q_cons (q_pv 0) q_nil)) (q_cty c_range2 tx.n_range bt_range (q_cons q_int (q_cons q_int q_nil))) rfl)))) (q_bone (q_ret q_bl)) q_bnil)
      (q_bcons (q_for PassesOwn.never rfl (q_seq K rfl (q_pv 0)) (q_name (i := 1) sc_law_is_square.nd) (q_bone (q_sif (q_wt (q_wor (q_tnot (q_tval (q_bi c_inst tx.n_isinstance bt_isinstance (q_cons (q_pv 1) (q_cons (q_ty "tuple" tx.n_tuple bt_tuple) q_nil))))) (q_wor (q_tcmp o_ne (q_bi (c_len K rfl) tx.n_len bt_len (q_cons (q_pv 1) q_nil)) (q_bi (c_len K rfl) tx.n_len bt_len (q_cons (q_pv 0) q_nil)) (nomark _)) (q_wor1 (q_tnot (q_tval (q_bi (c_all K rfl) tx.n_all bt_all (q_cons (q_comp ["_law_one_here"] [none] rfl (q_seq K rfl (q_pv 1)) (fun _ _ _ => (q_name (i := 0) (show List.Nodup (["_law_one_here"] : List PySem.Str) by decide +kernel))) (fun _ _ _ => q_c0) (fun _ _ _ => (q_fn h_law_whole (hr.mono (by decide)) (q_cons (q_pv 0) q_nil)))) q_nil)))))))) (q_bone (q_ret q_bl)) q_bnil)))
      (q_bone (q_ret q_bl)))), ?_⟩
    refine ⟨_, rfl, _, _, t, rfl, it, by simp, _, rfl, ?_⟩
    cases t with
    | tup ts =>
      obtain ⟨a, us, rfl, ha, r⟩ := it.tup_inv
      have hl := r.length
      refine iteF ?_
      refine ⟨_, rfl, a, us, rfl, .inr (SqT.of ha), _, _, rfl, fun rg hrg => ⟨_, rg, _, _, rfl, rfl, upd_same, _, rfl, ?_⟩⟩
      have s1 : Same H (upd H rg (.rng 1 5)) := Same.upd hrg
      refine ite2 (fun c => ?_) (fun c => ?_)
      · have c : ¬ ((1 : Int) ≤ us.length ∧ (us.length : Int) < 5) := fun z => by
          rw [if_pos rfl, decide_eq_true z] at c
          exact Bool.false_ne_true c
        have z := q _ s1
        rw [isGrid_tup, decide_eq_false (by omega), Bool.false_and] at z
        exact z
      · have c : (1 : Int) ≤ us.length ∧ (us.length : Int) < 5 := by simpa using c
        have bad : ∀ i t H', ts[i]? = some t → isRow t ts.length = false → Same H H' → Q (.bl false) H' := fun i t H' e hb s' => by
          have z := q H' s'
          have hf : (ts.all fun t => isRow t ts.length) = false := by
            rw [Bool.eq_false_iff]
            intro h
            have := List.all_eq_true.mp h t (List.mem_of_getElem? e)
            rw [hb] at this
            exact Bool.false_ne_true this
          rw [isGrid_tup, hf, Bool.and_false] at z
          exact z
        refine ⟨_, rfl, a, rfl, .inr ⟨⟨us, SqT.of (s1 _ _ ha)⟩, for_tup (K := K) (a := a) (xs := us) (fun i σ H2 => (∃ o, σ = [some (.ref a), o]) ∧ Same H H2 ∧ ∀ j t, j < i → ts[j]? = some t → isRow t ts.length = true)
          ⟨⟨none, rfl⟩, s1, fun j t hj => absurd hj (Nat.not_lt_zero _)⟩ (fun i σ H2 _ h => SqT.of (h.2.1 _ _ ha)) ?_ ?_⟩⟩
        · rintro i x σ H2 hx ⟨⟨o, rfl⟩, s2, good⟩
          obtain ⟨t', ht, itx⟩ := r.get hx
          have itx := itx.mono s2
          have nxt : ∀ (σ' : St) H3, (∃ o, σ' = [some (.ref a), o]) → Same H H3 → isRow t' ts.length = true → ((∃ o, σ' = [some (.ref a), o]) ∧ Same H H3 ∧ ∀ j t, j < i + 1 → ts[j]? = some t → isRow t ts.length = true) := fun σ' H3 e s3 ok => ⟨e, s3, fun j t hj e => by
            by_cases hji : j = i
            · subst hji
              rw [ht] at e
              cases e
              exact ok
            · exact good j t (by omega) e⟩
          refine ⟨_, rfl, _, _, t', rfl, itx, by simp, _, rfl, ?_⟩
          cases t' with
          | tup xs =>
            obtain ⟨b, ws, rfl, hb, rb⟩ := itx.tup_inv
            have hlb := rb.length
            have hzb := itx.tup_len
            refine iteF ?_
            refine ⟨_, rfl, b, ws, rfl, .inr (SqT.of hb), _, rfl, a, us, rfl, .inr (SqT.of (s2 _ _ ha)), rfl, _, rfl, ?_⟩
            refine ite2 (fun c1 => ?_) (fun c1 => ?_)
            · have c1 : ¬ (ws.length : Int) = us.length := by simpa using c1
              refine bad i _ H2 ht ?_ s2
              rw [isRow_tup, decide_eq_false (by omega), Bool.false_and]
            · have c1 : (ws.length : Int) = us.length := by simpa using c1
              have c1 : ws.length = us.length := by omega
              refine ⟨_, rfl, b, rfl, .inr ⟨⟨ws, SqT.of hb⟩, fun l hl0 => ?_⟩⟩
              refine comp_map wk_tup (fun _ i y => ∃ t, xs[i]? = some t ∧ y = .bl (whole t)) (fun _ _ _ _ _ h => h) rfl hl0 (small_line (by omega)) (SqT.of hb) ?_ ?_
              · intro i x H1 Q1 hx s1 _ k
                obtain ⟨t, ht, itx⟩ := rb.get hx
                exact ⟨_, rfl, x, t, rfl, itx.mono s1, k _ _ (Same.refl _) ⟨t, ht, rfl⟩⟩
              · intro ys H3 s3 hl3 hlen hys
                have key := all_bl (f := whole) hys (by omega)
                have s3' := s2.trans s3
                refine ⟨l, ys, rfl, SqL.of hl3, key.1, _, rfl, ?_⟩
                rw [key.2]
                have hok : isRow (.tup xs) ts.length = xs.all whole := by rw [isRow_tup, decide_eq_true (by omega), Bool.true_and]
                refine ite2 (fun c2 => ?_) (fun c2 => ?_)
                · have c2 : xs.all whole = false := by simpa using c2
                  exact bad i _ H3 ht (hok.trans c2) s3'
                · have c2 : xs.all whole = true := by simpa using c2
                  exact nxt _ _ ⟨_, rfl⟩ s3' (hok.trans c2)
          | _ =>
            refine iteT ?_
            exact bad i _ H2 ht rfl s2
        · rintro σ H2 ⟨⟨o, rfl⟩, s2, good⟩
          have z := q H2 s2
          have hf : (ts.all fun t => isRow t ts.length) = true := by
            rw [List.all_eq_true]
            intro t ht
            obtain ⟨j, hj, e⟩ := List.getElem_of_mem ht
            exact good j t (by omega) (by rw [List.getElem?_eq_getElem hj, e])
          rw [isGrid_tup, decide_eq_true (by omega), Bool.true_and, hf] at z
          exact z
    | _ =>
      refine iteT ?_
      exact q H (Same.refl H)
/-! ### the law's own look at lists of tables -/
def sp_wrong1 (b : Bool) : Sp := fun vs H Q _ => ∃ v t, vs = [v] ∧ Is H v t ∧ ∀ H', Same H H' → Q (wrongV b t) H'
theorem has_law_wrong_list (d : Dfn K mg "_law_wrong_list" s_law_wrong_list) (tx : Txt K mg) (h_law_is_square : Has P w K mg base "_law_is_square" ["_law_thing"] 2 sp_grid) : Has P w K mg base "_law_wrong_list" ["_law_thing"] 3 (sp_wrong1 false) := by
  refine has_q (k := 2) d sc_law_wrong_list bd_law_wrong_list (fun vs H Q E h => ?_) (fun f cdv A outer s H vs Q E hr h => ?_)
  · obtain ⟨v, t, rfl, _⟩ := h
    rfl
  · obtain ⟨v, t, rfl, it, q⟩ := h
    refine ⟨_, (q_bcons (q_sif (q_wt (q_wor (q_tnot (q_tval (q_bi c_inst tx.n_isinstance bt_isinstance (q_cons (q_pv 0) (q_cons (q_ty "list" tx.n_list bt_list) q_nil))))) (q_wor1 (q_tcmp o_notInR (q_bi (c_len K rfl) tx.n_len bt_len (q_cons (q_pv 0) q_nil)) (q_cty c_range2 tx.n_range bt_range (q_cons q_int (q_cons q_int q_nil))) rfl)))) (q_bone (q_ret (q_un o_neg q_int))) q_bnil)
      (q_bcons (q_for PassesOwn.never rfl (q_enum K rfl tx.n_enumerate bt_enumerate (q_cons (q_pv 0) q_nil)) (q_gtup K rfl rfl (q_gcons (q_name (i := 1) sc_law_wrong_list.nd) (q_gcons (q_name (i := 2) sc_law_wrong_list.nd) q_gnil))) (q_bone (q_sif (q_wt (q_wor (q_tnot (q_tval (q_fn h_law_is_square (hr.mono (by decide)) (q_cons (q_pv 2) q_nil)))) (q_wor1 (q_tcmp o_ne (q_bi (c_len K rfl) tx.n_len bt_len (q_cons (q_pv 2) q_nil)) (q_bi (c_len K rfl) tx.n_len bt_len (q_cons (q_ix (o_ix K rfl) (q_pv 0) q_int) q_nil)) (nomark _))))) (q_bone (q_ret (q_pv 1))) q_bnil)))
      (q_bone (q_ret q_non)))), ?_⟩
    refine ⟨_, rfl, _, _, t, rfl, it, by simp, _, rfl, ?_⟩
    cases t with
    | lst ts =>
      obtain ⟨a, us, rfl, ha, r⟩ := it.lst_inv
      have hl := r.length
      refine iteF ?_
      refine ⟨_, rfl, a, us, rfl, .inl (SqL.of ha), _, _, rfl, fun rg hrg => ⟨_, rg, _, _, rfl, rfl, upd_same, _, rfl, ?_⟩⟩
      have s1 : Same H (upd H rg (.rng 1 5)) := Same.upd hrg
      refine ite2 (fun c => ?_) (fun c => ?_)
      · have c : ¬ ((1 : Int) ≤ us.length ∧ (us.length : Int) < 5) := fun z => by
          rw [if_pos rfl, decide_eq_true z] at c
          exact Bool.false_ne_true c
        have z := q _ s1
        rw [wrongV_long (by omega)] at z
        exact ⟨_, rfl, z⟩
      · have c : (1 : Int) ≤ us.length ∧ (us.length : Int) < 5 := by simpa using c
        have hz : 1 ≤ ts.length ∧ ts.length ≤ 4 := by omega
        have h0 : 0 < us.length := by omega
        obtain ⟨t0, ht0, i0⟩ := r.get (List.getElem?_eq_getElem h0)
        have g0 : ts.getD 0 .non = t0 := getT ht0
        have bad : ∀ (i : Nat) H', i < ts.length → goodAt false t0 (ts.getD i .non) = false → (∀ j, j < i → goodAt false t0 (ts.getD j .non) = true) → Same H H' → Q (.int i) H' := fun i H' hi hb hj s' => by
          have z := q H' s'
          rw [wrongV_lst hz, firstBad_some hi (by rw [g0]; exact hb) (by rw [g0]; exact hj)] at z
          exact z
        refine ⟨_, rfl, a, us, rfl, SqL.of (s1 _ _ ha), for_enum (K := K) (a := a) (xs := us) (fun i σ H2 => (∃ o1 o2, σ = [some (.ref a), o1, o2]) ∧ Same H H2 ∧ ∀ j, j < i → goodAt false t0 (ts.getD j .non) = true)
          ⟨⟨none, none, rfl⟩, s1, fun j hj => absurd hj (Nat.not_lt_zero _)⟩ (fun i σ H2 _ h => SqL.of (h.2.1 _ _ ha)) ?_ ?_⟩
        · rintro i x p σ H1 hx ⟨⟨o1, o2, rfl⟩, s2', good⟩ hp
          have hi : i < us.length := (List.getElem?_eq_some_iff.mp hx).1
          obtain ⟨t, ht, ix⟩ := r.get hx
          have gt : ts.getD i .non = t := getT ht
          have hit : i < ts.length := by omega
          have s2 : Same H (upd H1 p (.tup [.int (i : Nat), x])) := s2'.trans (Same.upd hp)
          refine ⟨p, _, rfl, SqT.of upd_same, rfl, _, _, rfl, _, _, rfl, rfl, ?_⟩
          refine ⟨_, rfl, x, t, rfl, ix.mono s2, fun H3 s3 => ⟨_, rfl, ?_⟩⟩
          have S3 := s2.trans s3
          have fail : goodAt false t0 t = false → Q (.int (i : Int)) H3 := fun e => bad i H3 hit (by rw [gt]; exact e) good S3
          cases hg : isGrid t with
          | false => exact iteT (iteT ⟨_, rfl, fail (by unfold goodAt; rw [hg]; rfl)⟩)
          | true =>
            obtain ⟨M, rfl, sq⟩ := isGrid_inv hg
            refine iteF ?_
            have tab0 : ∃ M0, t0 = tabT M0 := by
              by_cases hi0 : i = 0
              · subst hi0
                rw [ht0] at ht
                cases ht
                exact ⟨M, rfl⟩
              · have g := good 0 (by omega)
                rw [g0] at g
                unfold goodAt at g
                simp only [Bool.and_eq_true] at g
                obtain ⟨M0, e, _⟩ := isGrid_inv g.1.1
                exact ⟨M0, e⟩
            obtain ⟨M0, rfl⟩ := tab0
            obtain ⟨ax, ux, rfl, hax, hlx⟩ : ∃ ax ux, x = .ref ax ∧ H3 ax = some (.tup ux) ∧ ux.length = M.length := by
              obtain ⟨ax, ux, e, hx, rx⟩ := (ix.mono S3).tup_inv
              exact ⟨ax, ux, e, hx, by rw [rx.length, List.length_map]⟩
            obtain ⟨a0, u0, e0, ha0, hl0⟩ : ∃ a0 u0, us[0] = .ref a0 ∧ H3 a0 = some (.tup u0) ∧ u0.length = M0.length := by
              obtain ⟨ax, ux, e, hx, rx⟩ := (i0.mono S3).tup_inv
              exact ⟨ax, ux, e, hx, by rw [rx.length, List.length_map]⟩
            refine ⟨_, rfl, ax, ux, rfl, .inr (SqT.of hax), _, rfl, .inl ⟨a, us, _, us[0], rfl, rfl, SqL.of (S3 _ _ ha), atI_nat (List.getElem?_eq_getElem h0), ?_⟩⟩
            rw [e0]
            refine ⟨a0, u0, rfl, .inr (SqT.of ha0), rfl, _, rfl, ?_⟩
            have lt : lenT (tabT M) = M.length := by unfold tabT lenT; exact List.length_map _
            have lt0 : lenT (tabT M0) = M0.length := by unfold tabT lenT; exact List.length_map _
            refine ite2 (fun c3 => ?_) (fun c3 => ?_)
            · have c3 : ¬ (ux.length : Int) = u0.length := by simpa using c3
              refine ⟨_, rfl, fail ?_⟩
              unfold goodAt
              rw [lt, lt0, decide_eq_false (by omega), Bool.and_false, Bool.false_and]
            · have c3 : (ux.length : Int) = u0.length := by simpa using c3
              have ok : goodAt false (tabT M0) (tabT M) = true := by
                unfold goodAt
                rw [hg, lt, lt0, decide_eq_true (by omega)]
                rfl
              exact ⟨⟨_, _, rfl⟩, S3, fun j hj => by
                by_cases hji : j = i
                · subst hji
                  rw [gt]
                  exact ok
                · exact good j (by omega)⟩
        · rintro σ H2 ⟨⟨o1, o2, rfl⟩, s2, good⟩
          have z := q H2 s2
          rw [wrongV_lst hz, firstBad_none fun j hj => by rw [g0]; exact good j (by omega)] at z
          exact z
    | _ =>
      refine iteT ⟨_, rfl, ?_⟩
      exact q H (Same.refl H)
/-! ### the law's lists of tables -/
theorem bd_small {M : List (List Int)} (h : ∀ r ∈ M, ∀ x ∈ r, -100000000000 ≤ x ∧ x ≤ 100000000000) : BdT M := fun r hr x hx => by
  have := h r hr x hx
  unfold Bd
  omega
theorem pick_tabs {E : Hp} {G : List (List Int) → Prop} : ∀ {ys : List V}, (∀ (j : Nat) (y : V), ys[j]? = some y → ∃ M, Is E y (tabT M) ∧ G M) → ∃ Ms : List (List (List Int)), IsL E ys (Ms.map tabT) ∧ ∀ M ∈ Ms, G M
  | [], _ => ⟨[], .nil, fun _ h => nomatch h⟩
  | y :: ys, h => by
    obtain ⟨M, i, g⟩ := h 0 y rfl
    obtain ⟨Ms, r, gs⟩ := pick_tabs (ys := ys) (fun j z e => h (j + 1) z e)
    refine ⟨M :: Ms, .cons i r, fun N hN => ?_⟩
    rcases List.mem_cons.mp hN with rfl | hN
    · exact g
    · exact gs N hN
theorem two_apart {H : Hp} {l p : Addr} {v : V} {M : List (List Int)} {xs ys : List V} (h : TabAt H v M) (hl : H l = some (.lst xs)) (hp : H p = some (.lst ys)) (sq : Square M) : Is (del (del H l) p) v (tabT M) := by
  have e : del H l p = H p ∨ del H l p = none := by unfold del; split; exact .inr rfl; exact .inl rfl
  refine tabAt_sq ((h.mono (tups_del hl)).mono fun a us ha => ?_) sq
  have := del_get ha
  rw [del_ne fun z => by rw [z, hp] at this; cases this.2]
  exact ha
def sp_tables : Sp := fun vs H Q _ => ∃ (p : Addr) (n : Nat) (wy : Int), vs = [.ref p, .int n, .int wy] ∧ PenAt H p ∧ 1 ≤ n ∧ n ≤ 4 ∧ ∀ v Ms H', But p H H' → PenAt H' p → Is (del H' p) v (tabsT Ms) → Tabs Ms → Q v H'
theorem has_law_tables (d : Dfn K mg "_law_tables" s_law_tables) (tx : Txt K mg) (h_law_draw : Has P w K mg base "_law_draw" ["_law_pen_here", "_law_many"] 1 sp_draw) (h_law_table : Has P w K mg base "_law_table" ["_law_pen_here", "_law_size", "_law_way"] 2 sp_mktab) : Has P w K mg base "_law_tables" ["_law_pen_here", "_law_most", "_law_way"] 3 sp_tables := by
  refine has_q (k := 2) d sc_law_tables bd_law_tables (fun vs H Q E h => ?_) (fun f cdv A outer s H vs Q E hr h => ?_)
  · obtain ⟨p, n, wy, rfl, _⟩ := h
    rfl
  · obtain ⟨p, n, wy, rfl, hp, h1, h4, q⟩ := h
    refine ⟨_, (q_bcons (q_set (i := 3) sc_law_tables.nd (q_op (o_add K rfl) q_int (q_fn h_law_draw (hr.mono (by decide)) (q_cons (q_pv 0) (q_cons (q_pv 1) q_nil)))))
      (q_bone (q_ret (q_comp ["_law_turn", "_law_pen_here", "_law_size", "_law_way"] [none, some 0, some 3, some 2] rfl (q_rng1 tx.n_range (q_cons (q_op (o_add K rfl) q_int (q_fn h_law_draw (hr.mono (by decide)) (q_cons (q_pv 0) (q_cons q_int q_nil)))) q_nil)) (fun _ _ _ => (q_name (i := 0) (show List.Nodup (["_law_turn", "_law_pen_here", "_law_size", "_law_way"] : List PySem.Str) by decide +kernel))) (fun _ _ _ => q_c0) (fun _ _ _ => (q_fn h_law_table (hr.mono (by decide)) (q_cons (q_pv 1) (q_cons (q_pv 2) (q_cons (q_pv 3) q_nil))))))))), ?_⟩
    refine ⟨_, rfl, _, rfl, p, n, rfl, hp, by omega, by omega, fun r H1 a0 a1 b1 p1 => .inl ⟨_, _, rfl, rfl, ?_⟩⟩
    obtain ⟨j, rfl⟩ := Int.eq_ofNat_of_zero_le a0
    refine ⟨_, rfl, p, 4, rfl, p1, by decide, by decide, fun r2 H2 c0 c1 b2 p2 => .inl ⟨_, _, rfl, rfl, _, rfl, by omega, by omega, fun l hl0 => ?_⟩⟩
    obtain ⟨m, rfl⟩ := Int.eq_ofNat_of_zero_le c0
    obtain ⟨px, hpx⟩ := p2.lst
    have hlp : l ≠ p := fun z => by rw [z, hpx] at hl0; cases hl0
    have e1j : (1 + (j : Int)) = ((1 + j : Nat) : Int) := by omega
    refine comp_mapB wk_range (p := p) (fun H3 => PenAt H3 p) (fun E i y => ∃ M, Is (del E p) y (tabT M) ∧ (Square M ∧ M.length = 1 + j ∧ BdT M)) (fun H3 H4 i y b ⟨M, it, g⟩ => ⟨M, it.mono b, g⟩) rfl hl0 hlp (small_line (by rw [upTo_len]; omega)) trivial (fun _ _ _ _ => trivial) p2 (fun H3 ys g => ?_) ?_ ?_
    · obtain ⟨n, f, z, e⟩ := g
      exact ⟨n, f, z, by rw [upd_ne hlp.symm]; exact e⟩
    · intro i x H3 Q1 hx b3 p3 hl3 k
      obtain ⟨ys3, hl3⟩ := hl3
      refine ⟨_, rfl, _, rfl, _, rfl, p, 1 + j, wy, congrArg (fun z => [V.ref p, V.int z, V.int wy]) e1j, p3, by omega, by omega, fun v M H4 b4 p4 tab hM hMr hMb => ?_⟩
      have sq : Square M := ⟨by omega, by omega, fun r hr => by rw [hMr r hr, hM]⟩
      obtain ⟨py, hpy⟩ := p4.lst
      exact k v H4 b4 p4 ⟨M, two_apart tab (b4.get hlp hl3) hpy sq, sq, hM, bd_small hMb⟩
    · intro ys H4 b4 p4 hl4 hlen hys
      obtain ⟨Ms, r, g⟩ := pick_tabs hys
      have hrl := r.length
      rw [List.length_map, hlen, upTo_len] at hrl
      refine q (.ref l) Ms H4 ((b1.trans b2).trans b4) p4 (.lst (by rw [del_ne hlp]; exact hl4) (r.mono ?_) (by rw [List.length_map]; omega)) ⟨by omega, by omega, 1 + j, g⟩
      exact fun b o e => by
        obtain ⟨h1, h2⟩ := del_get e
        rw [del_ne h1]
        exact (del_get h2).2
/-! ### a table bent -/
def rowsT (M : List (List Int)) : List T := M.map fun r => .tup (r.map T.int)
theorem rowsT_len (M : List (List Int)) : (rowsT M).length = M.length := by unfold rowsT; rw [List.length_map]
theorem rowsT_get {M : List (List Int)} {i : Nat} {t : T} (h : (rowsT M)[i]? = some t) : ∃ r, M[i]? = some r ∧ t = .tup (r.map T.int) := by
  unfold rowsT at h
  rw [List.getElem?_map] at h
  cases e : M[i]? with
  | none => rw [e] at h; cases h
  | some r => rw [e] at h; exact ⟨r, rfl, (Option.some.inj h).symm⟩
theorem tab_apart {H : Hp} {v : V} {M : List (List Int)} {S : Addr → Prop} (h : TabAt H v M) (hp : Pen H S) (sq : Square M) : Is (dls H S) v (tabT M) := by
  obtain ⟨a, vs, rfl, ha, r⟩ := h.mono (tups_dls hp)
  refine .tup ha (r.is fun row hr => by rw [sq.2.2 row hr]; have := sq.2.1; omega) ?_
  have := sq.2.1
  rw [List.length_map]
  omega
theorem pen_but {H H' : Hp} {p : Addr} {S : Addr → Prop} (h : Pen H S) (b : But p H H') (q : PenAt H' p) : Pen H' S := fun c hc => by
  by_cases e : c = p
  · rw [e]; exact q.lst
  · obtain ⟨xs, z⟩ := h c hc
    exact ⟨xs, b.get e z⟩
/-- what is at hand while a table is bent -/
def Bx (S : Addr → Prop) (p : Addr) (row v odd : V) (acc : List V) (H : Hp) : Prop := (PenAt H p ∧ Pen H S) ∧ Tp (dls H S) row 4 ∧ Tp (dls H S) v 4 ∧ Sm (dls H S) odd ∧ Sms (dls H S) acc
theorem Bx.same {S : Addr → Prop} {p : Addr} {row v odd : V} {acc : List V} {H H' : Hp} (h : Bx S p row v odd acc H) (s : Same H H') : Bx S p row v odd acc H' := by
  obtain ⟨⟨a, a'⟩, b, c, d, e⟩ := h
  exact ⟨⟨a.mono s, a'.mono s⟩, b.mono (dls_same s), c.mono (dls_same s), d.mono (dls_same s), e.mono (dls_same s)⟩
theorem Bx.but {S : Addr → Prop} {p : Addr} {row v odd : V} {acc : List V} {H H' : Hp} (h : Bx S p row v odd acc H) (hS : S p) (s : But p H H') (q : PenAt H' p) : Bx S p row v odd acc H' := by
  obtain ⟨⟨a, a'⟩, b, c, d, e⟩ := h
  exact ⟨⟨q, pen_but a' s q⟩, b.mono (dls_but hS s), c.mono (dls_but hS s), d.mono (dls_but hS s), e.mono (dls_but hS s)⟩
theorem Bx.add {S : Addr → Prop} {p : Addr} {row v odd x : V} {acc : List V} {H : Hp} (h : Bx S p row v odd acc H) (a : Sm (dls H S) x) : Bx S p row v odd (acc ++ [x]) H := by
  obtain ⟨h1, h2, h3, h4, h5⟩ := h
  exact ⟨h1, h2, h3, h4, h5.append (.cons a .nil)⟩
def sp_bent : Sp := fun vs H Q _ => ∃ p v M S, vs = [.ref p, v] ∧ PenAt H p ∧ S p ∧ Pen H S ∧ TabAt H v M ∧ Square M ∧ ∀ v' t H', But p H H' → PenAt H' p → Is (dls H' S) v' t → Q v' H'
theorem has_law_bent (d : Dfn K mg "_law_bent" s_law_bent) (tx : Txt K mg) (h_law_draw : Has P w K mg base "_law_draw" ["_law_pen_here", "_law_many"] 1 sp_draw) : Has P w K mg base "_law_bent" ["_law_pen_here", "_law_table_here"] 2 sp_bent := by
  refine has_q (k := 1) d sc_law_bent bd_law_bent (fun vs H Q E h => ?_) (fun f cdv A outer s H vs Q E hr h => ?_)
  · obtain ⟨p, v, M, S, rfl, _⟩ := h
    rfl
  · obtain ⟨p, v, M, S, rfl, hp, hS, hpS, tab, sq, q⟩ := h
    refine ⟨_, (q_bcons (q_set (i := 2) sc_law_bent.nd (q_bi (c_len K rfl) tx.n_len bt_len (q_cons (q_pv 1) q_nil)))
      (q_bcons (q_par 3 4 sc_law_bent.nd (by decide) (q_cons (q_fn h_law_draw (hr.mono (by decide)) (q_cons (q_pv 0) (q_cons (q_pv 2) q_nil))) (q_cons (q_fn h_law_draw (hr.mono (by decide)) (q_cons (q_pv 0) (q_cons (q_pv 2) q_nil))) q_nil)))
      (q_bcons (q_set (i := 5) sc_law_bent.nd (q_ix (o_ix K rfl) (q_pv 1) (q_pv 3)))
      (q_bcons (q_set (i := 6) sc_law_bent.nd (q_ix (o_ix K rfl) (w_lst (w_cons w_bl (w_cons w_non (w_cons w_str (w_cons (w_tup (w_cons w_int w_nil)) (w_cons (w_val (q_op o_pow q_int q_int) (fun _ _ _ q => ⟨_, _, rfl, rfl, ⟨by decide, by decide, by decide⟩, q⟩)) (w_cons (w_val (q_op o_sub q_int (q_op o_pow q_int q_int)) (fun _ _ _ q => ⟨_, _, rfl, rfl, ⟨by decide, by decide, by decide⟩, ⟨_, _, rfl, rfl, q⟩⟩)) (w_cons (w_val (q_op o_sub (q_op o_pow q_int q_int) q_int) (fun _ _ _ q => ⟨_, _, rfl, rfl, ⟨by decide, by decide, by decide⟩, ⟨_, _, rfl, rfl, q⟩⟩)) (w_cons (w_val (q_op o_sub q_int (q_op o_pow q_int q_int)) (fun _ _ _ q => ⟨_, _, rfl, rfl, ⟨by decide, by decide, by decide⟩, ⟨_, _, rfl, rfl, q⟩⟩)) (w_cons w_bl w_nil)))))))))) (q_fn h_law_draw (hr.mono (by decide)) (q_cons (q_pv 0) (q_cons q_int q_nil)))))
      (q_bcons (q_set (i := 7) sc_law_bent.nd (q_lst (q_cons (q_op (o_add K rfl) (q_op (o_add K rfl) (q_sl (o_sl K rfl) (q_pv 5) q_no (q_some (q_pv 4))) (q_tup (q_cons (q_pv 6) q_nil))) (q_sl (o_sl K rfl) (q_pv 5) (q_some (q_op (o_add K rfl) (q_pv 4) q_int)) q_no)) (q_cons (q_sl (o_sl K rfl) (q_pv 5) (q_some q_int) q_no) (q_cons (q_op (o_add K rfl) (q_pv 5) (w_tup (w_cons w_int w_nil))) (q_cons (q_cty (c_list K rfl) tx.n_list bt_list (q_cons (q_pv 5) q_nil)) (q_cons q_non (q_cons q_int (q_cons (q_rev (q_pv 5) (q_un o_neg q_int)) q_nil)))))))))
      (q_bcons (q_set (i := 8) sc_law_bent.nd (q_ix (o_ix K rfl) (q_pv 7) (q_fn h_law_draw (hr.mono (by decide)) (q_cons (q_pv 0) (q_cons q_int q_nil)))))
      (q_bcons (q_set (i := 9) sc_law_bent.nd (q_lst (q_cons (q_op (o_add K rfl) (q_op (o_add K rfl) (q_sl (o_sl K rfl) (q_pv 1) q_no (q_some (q_pv 3))) (q_tup (q_cons (q_pv 8) q_nil))) (q_sl (o_sl K rfl) (q_pv 1) (q_some (q_op (o_add K rfl) (q_pv 3) q_int)) q_no)) (q_cons (q_sl (o_sl K rfl) (q_pv 1) (q_some q_int) q_no) (q_cons (q_op (o_add K rfl) (q_pv 1) (q_sl (o_sl K rfl) (q_pv 1) q_no (q_some q_int))) (q_cons (q_cty (c_list K rfl) tx.n_list bt_list (q_cons (q_pv 1) q_nil)) q_nil))))))
      (q_bcons (q_set (i := 9) sc_law_bent.nd (q_op (o_add K rfl) (q_pv 9) (q_lst (q_cons (q_tup (q_cons (q_pv 1) q_nil)) (q_cons (q_ix (o_ix K rfl) (q_pv 1) q_int) (q_cons (q_comp ["_law_one_here"] [none] rfl (q_seq K rfl (q_pv 1)) (fun _ _ _ => (q_name (i := 0) (show List.Nodup (["_law_one_here"] : List PySem.Str) by decide +kernel))) (fun _ _ _ => q_c0) (fun _ _ _ => (q_cty (c_list K rfl) tx.n_list bt_list (q_cons (q_pv 0) q_nil)))) q_nil))))))
      (q_bone (q_ret (q_ix (o_ix K rfl) (q_pv 9) (q_ix (o_ix K rfl) (w_lst (w_cons w_int (w_cons w_int (w_cons w_int (w_cons w_int (w_cons w_int (w_cons w_int (w_cons w_int (w_cons w_int (w_cons w_int (w_cons w_int w_nil))))))))))) (q_fn h_law_draw (hr.mono (by decide)) (q_cons (q_pv 0) (q_cons q_int q_nil))))))))))))))), ?_⟩
    have hM := sq.2.1
    have hM1 := sq.1
    have hrl := rowsT_len M
    have A : IsL (dls H S) [v] [.tup (rowsT M)] := .one (tab_apart tab hpS sq)
    -- size
    refine ⟨_, rfl, rd_len (A.is 0) ?_⟩
    -- at, to
    refine ⟨_, rfl, _, rfl, p, _, rfl, hp, by omega, by omega, fun at0 H1 a0 a1 b1 p1 => ?_⟩
    refine ⟨_, rfl, _, rfl, p, _, rfl, p1, by omega, by omega, fun to0 H2 c0 c1 b2 p2 => ⟨_, _, rfl, ?_⟩⟩
    have B := b1.trans b2
    have A := A.mono (dls_but hS B)
    have hpS2 := pen_but hpS B p2
    -- row
    refine ⟨_, rfl, _, rfl, rd_ix (A.is 0) a0 (by omega) fun row t ht irow => ?_⟩
    obtain ⟨rw0, hrw, rfl⟩ := rowsT_get ht
    have hr0 : rw0.length = M.length := sq.2.2 _ (List.mem_of_getElem? hrw)
    have A := IsL.cons irow A
    -- odd
    intro v3 H3 s3 r3
    have i3 := rd_lit hpS2 r3
    have A := IsL.cons i3 (A.mono (dls_same s3))
    refine ⟨_, rfl, p, 9, rfl, p2.mono s3, by decide, by decide, fun r H4 d0 d1 b4 p4 => ?_⟩
    have A := A.mono (dls_but hS b4)
    have B := (B.trans (But.of_same s3)).trans b4
    refine rd_ixL (i3.mono (dls_but hS b4)) d0 d1 fun odd tod _ iod => ?_
    have C : Bx S p row v odd [] H4 := ⟨⟨p4, pen_but (hpS2.mono s3) b4 p4⟩, ⟨rw0.map T.int, by rw [List.length_map]; omega, A.is 1⟩, ⟨rowsT M, by omega, A.is 2⟩, ⟨tod, iod⟩, .nil⟩
    -- rows
    refine ⟨_, rfl, _, rfl, _, rfl, tp_slice C.1.2 C.2.1 fun y1 H5 s5 i1 => ?_⟩
    replace C := C.same s5
    refine ⟨_, rfl, sm_tup C.1.2 (.cons C.2.2.2.1 .nil) (by simp) fun y2 H6 s6 i2 => ?_⟩
    replace C := C.same s6
    refine tp_cat C.1.2 (i1.mono (dls_same s6)) i2 (by simp) fun y3 H7 s7 i3 => ?_
    replace C := C.same s7
    refine ⟨_, rfl, _, rfl, .inl ⟨_, _, rfl, rfl, _, rfl, tp_slice C.1.2 C.2.1 fun y4 H8 s8 i4 => ?_⟩⟩
    replace C := C.same s8
    refine tp_cat C.1.2 (i3.mono (dls_same s8)) i4 (by simp) fun z1 H9 s9 j1 => ?_
    replace C := (C.same s9).add j1.sm
    refine ⟨_, rfl, _, rfl, tp_slice C.1.2 C.2.1 fun z2 H10 s10 j2 => ?_⟩
    replace C := (C.same s10).add j2.sm
    refine ⟨_, rfl, ?_⟩
    intro y5 H11 s11 r11
    have i5 := rd_lit C.1.2 r11
    replace C := C.same s11
    refine tp_cat C.1.2 C.2.1 (m := 1) ⟨_, by simp, i5⟩ (by simp) fun z3 H12 s12 j3 => ?_
    replace C := (C.same s12).add j3.sm
    refine ⟨_, rfl, tp_list C.1.2 C.2.1 fun z4 H13 s13 j4 => ?_⟩
    replace C := (((C.same s13).add j4.sm).add ⟨.non, Is.non⟩).add ⟨.int 0, Is.int⟩
    refine ⟨_, rfl, _, rfl, rfl, tp_rev C.1.2 C.2.1 fun z7 H14 s14 j7 => ?_⟩
    replace C := (C.same s14).add j7.sm
    refine sm_lst C.1.2 C.2.2.2.2 (by simp) fun rows H15 s15 _ lr => ?_
    replace C := C.same s15
    obtain ⟨trs, ltr, itr⟩ := lr
    -- here
    refine ⟨_, rfl, _, rfl, p, 7, rfl, C.1.1, by decide, by decide, fun r7 H16 e0 e1 b16 p16 => ?_⟩
    replace C := C.but hS b16 p16
    refine rd_ixL (itr.mono (dls_but hS b16)) e0 (by rw [ltr]; exact e1) fun here th _ ihere => ?_
    have D : Bx S p row v here [] H16 := ⟨C.1, C.2.1, C.2.2.1, ⟨th, ihere⟩, .nil⟩
    have B := ((((((((((((B.trans (But.of_same s5)).trans (But.of_same s6)).trans (But.of_same s7)).trans (But.of_same s8)).trans (But.of_same s9)).trans (But.of_same s10)).trans (But.of_same s11)).trans (But.of_same s12)).trans (But.of_same s13)).trans (But.of_same s14)).trans (But.of_same s15)).trans b16)
    -- some
    refine ⟨_, rfl, _, rfl, _, rfl, tp_slice D.1.2 D.2.2.1 fun y1 H5 s5 i1 => ?_⟩
    replace D := D.same s5
    refine ⟨_, rfl, sm_tup D.1.2 (.cons D.2.2.2.1 .nil) (by simp) fun y2 H6 s6 i2 => ?_⟩
    replace D := D.same s6
    refine tp_cat D.1.2 (i1.mono (dls_same s6)) i2 (by simp) fun y3 H7 s7 i3 => ?_
    replace D := D.same s7
    refine ⟨_, rfl, _, rfl, .inl ⟨_, _, rfl, rfl, _, rfl, tp_slice D.1.2 D.2.2.1 fun y4 H8 s8 i4 => ?_⟩⟩
    replace D := D.same s8
    refine tp_cat D.1.2 (i3.mono (dls_same s8)) i4 (by simp) fun z1 H9 s9 j1 => ?_
    replace D := (D.same s9).add j1.sm
    refine ⟨_, rfl, _, rfl, tp_slice D.1.2 D.2.2.1 fun z2 H10 s10 j2 => ?_⟩
    replace D := (D.same s10).add j2.sm
    refine ⟨_, rfl, _, rfl, _, rfl, tp_slice D.1.2 D.2.2.1 fun y5 H11 s11 i5 => ?_⟩
    replace D := D.same s11
    refine tp_cat D.1.2 D.2.2.1 i5 (by simp) fun z3 H12 s12 j3 => ?_
    replace D := (D.same s12).add j3.sm
    refine ⟨_, rfl, tp_list D.1.2 D.2.2.1 fun z4 H13 s13 j4 => ?_⟩
    replace D := (D.same s13).add j4.sm
    refine sm_lst D.1.2 D.2.2.2.2 (by simp) fun som H14 s14 _ lso => ?_
    replace D := D.same s14
    obtain ⟨tso, lts, iso⟩ := lso
    have B := ((((((((((B.trans (But.of_same s5)).trans (But.of_same s6)).trans (But.of_same s7)).trans (But.of_same s8)).trans (But.of_same s9)).trans (But.of_same s10)).trans (But.of_same s11)).trans (But.of_same s12)).trans (But.of_same s13)).trans (But.of_same s14))
    have iv := (tab_apart tab hpS sq).mono (dls_but hS B)
    clear s5 s6 s7 s8 s9 s10 s11 s12 s13
    -- some + [(table,), table[0], [list(one) for one in table]]
    refine ⟨_, rfl, _, rfl, sm_tup D.1.2 (.cons D.2.2.1.sm .nil) (by simp) fun x1 H5 s5 i1 => ?_⟩
    replace D := D.same s5
    replace iv := iv.mono (dls_same s5)
    refine ⟨_, rfl, rd_ix iv (by decide) (by rw [List.length_map]; show (0 : Int) < M.length; omega) fun x2 t2 _ i2 => ?_⟩
    obtain ⟨a, us, rfl, ha, r⟩ := iv.tup_inv
    have hal := r.length
    have ha := (dls_get ha).2
    refine ⟨_, rfl, a, rfl, .inr ⟨⟨us, SqT.of ha⟩, fun l hl0 => ?_⟩⟩
    have hlp : ¬ S l := D.1.2.new hl0
    refine comp_map wk_tup (fun E i y => Sm (dls E S) y) (fun H1 H2 i y s h => h.mono (dls_same s)) rfl hl0 (small_line (by rw [hal, List.length_map]; omega)) (SqT.of ha) ?_ ?_
    · intro i x H6 Q1 hx s6 hl6 k
      obtain ⟨ys, hl6⟩ := hl6
      obtain ⟨t, ht, ix⟩ := r.get hx
      obtain ⟨row, hrow, rfl⟩ := rowsT_get ht
      obtain ⟨b, ws, rfl, hb, rb⟩ := ix.tup_inv
      have hws := rb.ints_inv
      subst hws
      have hb := s6 _ _ (dls_get hb).2
      refine ⟨_, rfl, b, _, rfl, .inr (SqT.of hb), fun q hq => k _ _ (Same.upd hq) ⟨.lst (row.map T.int), .lst (vs := row.map V.int) ?_ (.ints row) ix.tup_len⟩⟩
      have hqp : ¬ S q := (D.1.2.mono s6).new hq
      have hql : q ≠ l := (ne_of_none hl6 hq).symm
      rw [dls_ne hqp, del_ne hql, upd_same]
    · intro ys H6 s6 hl6 hlen hys
      replace D := D.same s6
      have i3 : Sm (dls H6 S) (.ref l) := by
        have sms : Sms (dls H6 S) ys := fun y hy => by
          obtain ⟨j, hj, rfl⟩ := List.getElem_of_mem hy
          refine (hys j _ (List.getElem?_eq_getElem hj)).mono fun b o e => ?_
          obtain ⟨e1, e2⟩ := dls_get e
          rw [dls_ne e1]
          exact (del_get e2).2
        obtain ⟨ts, its⟩ := sms.isL
        have := its.length
        exact ⟨.lst ts, .lst (vs := ys) (by rw [dls_ne hlp]; exact hl6) its (by rw [List.length_map] at hal; omega)⟩
      refine sm_lst D.1.2 (.cons (i1.sm.mono (dls_same s6)) (.cons (Sm.mono ⟨t2, i2⟩ (dls_same s6)) (.cons i3 .nil))) (by simp) fun three H7 s7 _ l3 => ?_
      obtain ⟨t3, lt3, it3⟩ := l3
      replace D := D.same s7
      have hso := ((iso.mono (dls_same s5)).mono (dls_same s6)).mono (dls_same s7)
      have lts4 : tso.length = 4 := by rw [lts]; rfl
      have lt33 : t3.length = 3 := by rw [lt3]; rfl
      refine rd_catL D.1.2 hso it3 (by omega) fun so H8 s8 _ i8 => ?_
      replace D := D.same s8
      -- return some[[0, ..][draw(10)]]
      refine ⟨_, rfl, ?_⟩
      intro v9 H9 s9 r9
      have i9 := rd_lit D.1.2 r9
      replace D := D.same s9
      refine ⟨_, rfl, p, 10, rfl, D.1.1, by decide, by decide, fun r10 H10 d0 d1 b10 p10 => ?_⟩
      refine rd_ixL (i9.mono (dls_but hS b10)) d0 d1 fun y10 t10 ht10 iy10 => ?_
      have hm := List.mem_of_getElem? ht10
      obtain ⟨k, rfl, k0, k1⟩ : ∃ k : Int, t10 = .int k ∧ 0 ≤ k ∧ k < 7 := by
        simp only [List.mem_cons, List.not_mem_nil, or_false] at hm
        rcases hm with rfl | rfl | rfl | rfl | rfl | rfl | rfl | rfl | rfl | rfl <;> exact ⟨_, rfl, by decide, by decide⟩
      rw [iy10.int_inv]
      refine rd_ixL ((i8.mono (dls_same s9)).mono (dls_but hS b10)) k0 (by rw [List.length_append, lts4, lt33]; exact k1) fun z tz _ iz => ?_
      exact q z tz H10 (((((B.trans (But.of_same s5)).trans (But.of_same s6)).trans (But.of_same s7)).trans (But.of_same s8)).trans ((But.of_same s9).trans b10)) p10 iz
theorem dls_del {H : Hp} {p : Addr} : Same (dls H fun b => b = p) (del H p) := fun b o e => by
  obtain ⟨h1, h2⟩ := dls_get e
  rw [del_ne h1]
  exact h2
theorem del_dls {H : Hp} {p : Addr} : Same (del H p) (dls H fun b => b = p) := fun b o e => by
  obtain ⟨h1, h2⟩ := del_get e
  rw [dls_ne (S := fun b => b = p) h1]
  exact h2
/-! ### a list of tables bent -/
theorem rd_repL {H : Hp} {S : Addr → Prop} {x : V} {ts : List T} {k : Int} {Q : VK} (hp : Pen H S) (it : Is (dls H S) x (.lst ts)) (h0 : 0 ≤ k) (h1 : k ≤ 1000) (hz : ts.length ≤ 100) (q : ∀ l H', Same H H' → H l = none → Is (dls H' S) (.ref l) (.lst (List.replicate k.toNat ts).flatten) → Q (.ref l) H') : rMulU x (.int k) H Q := by
  obtain ⟨a, vs, rfl, ha, r⟩ := it.lst_inv
  have hl := r.length
  have hk : k.toNat ≤ 1000 := by omega
  have hm : ts.length * k.toNat ≤ 100 * 1000 := Nat.mul_le_mul hz hk
  refine .inr (.inl ⟨a, k, vs, rfl, rfl, (dls_get ha).2, by omega, by omega, small_line (by rw [hl]; omega), fun l hn => ?_⟩)
  refine q l _ (Same.upd hn) hn (.lst (by rw [dls_ne (hp.new hn), upd_same]) ((IsL.flat k.toNat r).mono (dls_same (Same.upd hn))) ?_)
  rw [len_rep, Nat.mul_comm]
  omega
def sp_blist : Sp := fun vs H Q _ => ∃ p v Ms, vs = [.ref p, v] ∧ PenAt H p ∧ Is (del H p) v (tabsT Ms) ∧ Tabs Ms ∧ ∀ v' t H', But p H H' → PenAt H' p → Is (del H' p) v' t → Q v' H'
theorem has_law_bent_list (d : Dfn K mg "_law_bent_list" s_law_bent_list) (tx : Txt K mg) (h_law_draw : Has P w K mg base "_law_draw" ["_law_pen_here", "_law_many"] 1 sp_draw) (h_law_bent : Has P w K mg base "_law_bent" ["_law_pen_here", "_law_table_here"] 2 sp_bent) : Has P w K mg base "_law_bent_list" ["_law_pen_here", "_law_tables_here"] 3 sp_blist := by
  refine has_q (k := 2) d sc_law_bent_list bd_law_bent_list (fun vs H Q E h => ?_) (fun f cdv A outer s H vs Q E hr h => ?_)
  · obtain ⟨p, v, Ms, rfl, _⟩ := h
    rfl
  · obtain ⟨p, v, Ms, rfl, hp, it, hM, q⟩ := h
    refine ⟨_, (q_bcons (q_set (i := 2) sc_law_bent_list.nd (q_fn h_law_draw (hr.mono (by decide)) (q_cons (q_pv 0) (q_cons (q_bi (c_len K rfl) tx.n_len bt_len (q_cons (q_pv 1) q_nil)) q_nil))))
      (q_bcons (q_set (i := 3) sc_law_bent_list.nd (q_ix (o_ix K rfl) (q_lst (q_cons (q_fn h_law_bent (hr.mono (by decide)) (q_cons (q_pv 0) (q_cons (q_ix (o_ix K rfl) (q_pv 1) (q_pv 2)) q_nil))) (q_cons q_non (q_cons (w_tup (w_cons (w_tup (w_cons w_int w_nil)) w_nil)) (q_cons (w_tup (w_cons (w_tup (w_cons w_int (w_cons w_int w_nil))) (w_cons (w_tup (w_cons w_int (w_cons w_int w_nil))) w_nil))) (q_cons (w_rep (w_tup (w_cons (w_rep (w_tup (w_cons w_int w_nil))) w_nil))) (q_cons q_int q_nil))))))) (q_fn h_law_draw (hr.mono (by decide)) (q_cons (q_pv 0) (q_cons q_int q_nil)))))
      (q_bcons (q_set (i := 4) sc_law_bent_list.nd (q_lst (q_cons (q_op (o_add K rfl) (q_op (o_add K rfl) (q_sl (o_sl K rfl) (q_pv 1) q_no (q_some (q_pv 2))) (q_lst (q_cons (q_pv 3) q_nil))) (q_sl (o_sl K rfl) (q_pv 1) (q_some (q_op (o_add K rfl) (q_pv 2) q_int)) q_no)) (q_cons (q_op (o_add K rfl) (q_op (o_add K rfl) (q_pv 1) (q_pv 1)) (q_op o_mul (q_sl (o_sl K rfl) (q_pv 1) q_no (q_some q_int)) q_int)) (q_cons (q_cty (c_tuple K rfl) tx.n_tuple bt_tuple (q_cons (q_pv 1) q_nil)) (q_cons (w_lst w_nil) (q_cons q_non q_nil)))))))
      (q_bone (q_ret (q_ix (o_ix K rfl) (q_op (o_add K rfl) (q_pv 4) (q_lst (q_cons (q_op (o_add K rfl) (q_sl (o_sl K rfl) (q_pv 1) q_no (q_some (q_pv 2))) (q_sl (o_sl K rfl) (q_pv 1) (q_some (q_op (o_add K rfl) (q_pv 2) q_int)) q_no)) (q_cons w_dict0 q_nil)))) (q_ix (o_ix K rfl) (w_lst (w_cons w_int (w_cons w_int (w_cons w_int (w_cons w_int (w_cons w_int (w_cons w_int (w_cons w_int (w_cons w_int (w_cons w_int w_nil)))))))))) (q_fn h_law_draw (hr.mono (by decide)) (q_cons (q_pv 0) (q_cons q_int q_nil)))))))))), ?_⟩
    obtain ⟨hm1, hm4, n, hn⟩ := hM
    have hL : (Ms.map tabT).length = Ms.length := List.length_map ..
    obtain ⟨px, hpx⟩ := hp.lst
    have P0 := pen_one hpx
    have A : Is (dls H fun b => b = p) v (.lst (Ms.map tabT)) := it.mono del_dls
    -- at
    refine ⟨_, rfl, _, rfl, rd_lenL A ?_⟩
    rw [hL]
    refine ⟨p, _, rfl, hp, by omega, by omega, fun at0 H1 a0 a1 b1 p1 => ?_⟩
    obtain ⟨at0, rfl⟩ := Int.eq_ofNat_of_zero_le a0
    replace A := A.mono (dls_but (S := fun b => b = p) rfl b1)
    have P1 := pen_but P0 b1 p1
    -- odd
    refine ⟨_, rfl, _, rfl, _, rfl, rd_ixL A a0 (by rw [hL]; exact a1) fun y t ht iy => ?_⟩
    obtain ⟨M, hMm, rfl⟩ : ∃ M, M ∈ Ms ∧ t = tabT M := by
      rw [List.getElem?_map] at ht
      cases e : Ms[(at0 : Int).toNat]? with
      | none => rw [e] at ht; cases ht
      | some M => rw [e] at ht; exact ⟨M, List.mem_of_getElem? e, (Option.some.inj ht).symm⟩
    refine ⟨p, y, M, fun b => b = p, rfl, p1, rfl, P1, is_tabAt (iy.mono (dls_le _ _)), (hn M hMm).1, fun v2 t2 H2 b2 p2 i2 => ?_⟩
    replace A := A.mono (dls_but (S := fun b => b = p) rfl b2)
    have P2 := pen_but P1 b2 p2
    intro v3 H3 s3 r3
    have i3 := rd_lit P2 r3
    have P3 := P2.mono s3
    intro v4 H4 s4 r4
    have i4 := rd_lit P3 r4
    have P4 := P3.mono s4
    intro v5 H5 s5 r5
    have i5 := rd_lit P4 r5
    have P5 := P4.mono s5
    have S5 := (s3.trans s4).trans s5
    refine rd_lst P5 (.cons (i2.mono (dls_same S5)) (.cons Is.non (.cons (i3.mono (dls_same (s4.trans s5))) (.cons (i4.mono (dls_same s5)) (.cons i5 (.one Is.int)))))) (by show 6 ≤ 100000; decide) fun l6 H6 s6 n6 e6 i6 => ?_
    replace A := A.mono (dls_same (S5.trans s6))
    have p6 := p2.mono (S5.trans s6)
    refine ⟨_, rfl, p, 6, rfl, p6, by decide, by decide, fun r7 H7 d0 d1 b7 p7 => ?_⟩
    replace A := A.mono (dls_but (S := fun b => b = p) rfl b7)
    have P7 := pen_but (P5.mono s6) b7 p7
    refine rd_ixL (i6.mono (dls_but (S := fun b => b = p) rfl b7)) d0 d1 fun odd tod _ iod => ?_
    have B7 : But p H H7 := ((b1.trans b2).trans (But.of_same (S5.trans s6))).trans b7
    -- rows
    have hcut : ∀ lo hi, (cutT (Ms.map tabT) lo hi).length ≤ 4 := fun lo hi => by have := cutT_len (Ms.map tabT) lo hi; omega
    refine ⟨_, rfl, _, rfl, _, rfl, rd_sliceL P7 A fun l8 H8 s8 n8 i8 => ?_⟩
    have c8 := hcut none (some (at0 : Int))
    generalize cutT (Ms.map tabT) none (some (at0 : Int)) = t8 at i8 c8
    have P8 := P7.mono s8
    refine ⟨_, rfl, rd_lst P8 (.one (iod.mono (dls_same s8))) (by show 1 ≤ 100000; decide) fun l9 H9 s9 n9 e9 i9 => ?_⟩
    have P9 := P8.mono s9
    refine rd_catL P9 (i8.mono (dls_same s9)) i9 (by show _ + 1 ≤ _; omega) fun l10 H10 s10 n10 i10 => ?_
    have P10 := P9.mono s10
    replace A := A.mono (dls_same ((s8.trans s9).trans s10))
    refine ⟨_, rfl, _, rfl, .inl ⟨_, _, rfl, rfl, ?_⟩⟩
    refine ⟨_, rfl, rd_sliceL P10 A fun l11 H11 s11 n11 i11 => ?_⟩
    have c11 := hcut (some ((at0 : Int) + 1)) none
    generalize cutT (Ms.map tabT) (some ((at0 : Int) + 1)) none = t11 at i11 c11
    have P11 := P10.mono s11
    refine rd_catL P11 (i10.mono (dls_same s11)) i11 (by rw [List.length_append]; show _ + 1 + _ ≤ _; omega) fun l12 H12 s12 n12 i12 => ?_
    have P12 := P11.mono s12
    replace A := A.mono (dls_same (s11.trans s12))
    refine ⟨_, rfl, _, rfl, rd_catL P12 A A (by omega) fun l13 H13 s13 n13 i13 => ?_⟩
    have P13 := P12.mono s13
    replace A := A.mono (dls_same s13)
    refine ⟨_, rfl, _, rfl, rd_sliceL P13 A fun l14 H14 s14 n14 i14 => ?_⟩
    have c14 := hcut none (some 1)
    generalize cutT (Ms.map tabT) none (some 1) = t14 at i14 c14
    have P14 := P13.mono s14
    refine rd_repL P14 i14 (by decide) (by decide) (by omega) fun l15 H15 s15 n15 i15 => ?_
    have c15 : (List.replicate (4 : Int).toNat t14).flatten.length ≤ 16 := by
      show (List.replicate 4 t14).flatten.length ≤ 16
      simp [List.replicate]
      omega
    generalize (List.replicate (4 : Int).toNat t14).flatten = t15 at i15 c15
    have P15 := P14.mono s15
    refine rd_catL P15 (i13.mono (dls_same (s14.trans s15))) i15 (by rw [List.length_append]; omega) fun l16 H16 s16 n16 i16 => ?_
    have P16 := P15.mono s16
    replace A := A.mono (dls_same ((s14.trans s15).trans s16))
    refine ⟨_, rfl, rd_tuple P16 A fun y17 H17 s17 i17 => ?_⟩
    have P17 := P16.mono s17
    intro v18 H18 s18 r18
    have i18 := rd_lit P17 r18
    have P18 := P17.mono s18
    replace A := A.mono (dls_same (s17.trans s18))
    have j12 := i12.mono (dls_same (((((s13.trans s14).trans s15).trans s16).trans s17).trans s18))
    have j16 := i16.mono (dls_same (s17.trans s18))
    have j17 := i17.mono (dls_same s18)
    refine rd_lst P18 (.cons j12 (.cons j16 (.cons j17 (.cons i18 (.one Is.non))))) (by show 5 ≤ 100000; decide) fun l19 H19 s19 n19 e19 i19 => ?_
    have P19 := P18.mono s19
    replace A := A.mono (dls_same s19)
    -- rows + [.., {}]
    refine ⟨_, rfl, _, rfl, _, rfl, _, rfl, rd_sliceL P19 A fun l20 H20 s20 n20 i20 => ?_⟩
    have c20 := hcut none (some (at0 : Int))
    generalize cutT (Ms.map tabT) none (some (at0 : Int)) = t20 at i20 c20
    have P20 := P19.mono s20
    replace A := A.mono (dls_same s20)
    refine ⟨_, rfl, _, rfl, .inl ⟨_, _, rfl, rfl, ?_⟩⟩
    refine ⟨_, rfl, rd_sliceL P20 A fun l21 H21 s21 n21 i21 => ?_⟩
    have c21 := hcut (some ((at0 : Int) + 1)) none
    generalize cutT (Ms.map tabT) (some ((at0 : Int) + 1)) none = t21 at i21 c21
    have P21 := P20.mono s21
    refine rd_catL P21 (i20.mono (dls_same s21)) i21 (by omega) fun l22 H22 s22 n22 i22 => ?_
    have P22 := P21.mono s22
    intro v23 H23 s23 r23
    have i23 := rd_lit P22 r23
    have P23 := P22.mono s23
    refine rd_lst P23 (.cons (i22.mono (dls_same s23)) (.one i23)) (by show 2 ≤ 100000; decide) fun l24 H24 s24 n24 e24 i24 => ?_
    have P24 := P23.mono s24
    have j19 := i19.mono (dls_same ((((s20.trans s21).trans s22).trans s23).trans s24))
    refine rd_catL P24 j19 i24 (by show 5 + 2 ≤ 100000; decide) fun l25 H25 s25 n25 i25 => ?_
    have P25 := P24.mono s25
    intro v26 H26 s26 r26
    have i26 := rd_lit P25 r26
    have S17 : Same H7 H17 := (((((((((s8.trans s9).trans s10).trans s11).trans s12).trans s13).trans s14).trans s15).trans s16).trans s17)
    have S26 : Same H7 H26 := (((((((((S17.trans s18).trans s19).trans s20).trans s21).trans s22).trans s23).trans s24).trans s25).trans s26)
    have p26 := p7.mono S26
    refine ⟨_, rfl, p, 9, rfl, p26, by decide, by decide, fun r27 H27 f0 f1 b27 p27 => ?_⟩
    refine rd_ixL (i26.mono (dls_but (S := fun b => b = p) rfl b27)) f0 f1 fun y27 t27 ht27 iy27 => ?_
    have hm := List.mem_of_getElem? ht27
    obtain ⟨k, rfl, k0, k1⟩ : ∃ k : Int, t27 = .int k ∧ 0 ≤ k ∧ k < 7 := by
      simp only [List.mem_cons, List.not_mem_nil, or_false] at hm
      rcases hm with rfl | rfl | rfl | rfl | rfl | rfl | rfl | rfl | rfl <;> exact ⟨_, rfl, by decide, by decide⟩
    rw [iy27.int_inv]
    refine rd_ixL ((i25.mono (dls_same s26)).mono (dls_but (S := fun b => b = p) rfl b27)) k0 k1 fun z tz _ iz => ?_
    exact q z tz H27 ((B7.trans (But.of_same S26)).trans b27) p27 (iz.mono dls_del)
/-! ### a table looked at -/
theorem eqOk_tab (n : Nat) (M : List (List Int)) : eqOk (n + 2) (tabT M) = true := by
  unfold tabT
  simp [eqOk]
theorem eqOk_tn : eqOk 50 (.tup [.str "table", .non]) = true := by simp [eqOk]
open Classical in
/-- a row that is not all noughts lies there -/
noncomputable def pz (H : Hp) (x : V) : Bool := decide (∃ r, RowAt H x r ∧ r.count 0 ≠ r.length)
theorem rowAt_inj {H : Hp} {x : V} {r r' : List Int} (a : RowAt H x r) (b : RowAt H x r') : r = r' := by
  obtain ⟨p, rfl, hp⟩ := a
  obtain ⟨p', e, hp'⟩ := b
  cases e
  rw [hp] at hp'
  injection hp' with hp'
  injection hp' with hp'
  exact (List.map_inj_right (f := V.int) fun a b e => by injection e).mp hp'
open Classical in
theorem pz_row {H : Hp} {x : V} {r : List Int} (a : RowAt H x r) : pz H x = !decide (r.count 0 = r.length) := by
  unfold pz
  by_cases h : r.count 0 = r.length
  · rw [decide_eq_true h]
    refine decide_eq_false ?_
    rintro ⟨r', b, hr⟩
    rw [rowAt_inj a b] at h
    exact hr h
  · rw [decide_eq_false h]
    exact decide_eq_true ⟨r, a, h⟩
theorem isL_filter {H : Hp} {p : V → Bool} : ∀ {us : List V} {ts : List T}, IsL H us ts → ∃ ts', IsL H (us.filter p) ts' ∧ ∀ t ∈ ts', t ∈ ts
  | us, [], r => by
    rw [r.nil_inv]
    exact ⟨[], .nil, fun _ h => h⟩
  | us, t :: ts, r => by
    obtain ⟨v, w, rfl, iv, rw'⟩ := r.cons_inv
    obtain ⟨ts', i', g⟩ := isL_filter (p := p) rw'
    cases hp : p v with
    | true =>
      refine ⟨t :: ts', by rw [List.filter_cons, if_pos hp]; exact .cons iv i', fun u hu => ?_⟩
      rcases List.mem_cons.mp hu with rfl | hu
      · exact List.mem_cons_self ..
      · exact List.mem_cons_of_mem _ (g u hu)
    | false => exact ⟨ts', by rw [List.filter_cons, if_neg (by rw [hp]; exact Bool.false_ne_true)]; exact i', fun u hu => List.mem_cons_of_mem _ (g u hu)⟩
theorem zero_row : ∀ r : List Int, decide (r.count 0 = r.length) = r.all fun x => x == 0
  | [] => rfl
  | n :: r => by
    have ih := zero_row r
    rw [List.all_cons, ← ih, List.count_cons, List.length_cons]
    have hle := List.count_le_length (a := (0 : Int)) (l := r)
    by_cases h : n = 0
    · subst h
      simp
    · have : (n == 0) = false := by simpa using h
      rw [this, Bool.false_and]
      refine decide_eq_false ?_
      simp
      omega
theorem nought_rows (M : List (List Int)) : noughtM M = M.all fun r => decide (r.count 0 = r.length) := by
  unfold noughtM
  induction M with
  | nil => rfl
  | cons r M ih => rw [List.flatten_cons, List.all_append, List.all_cons, ih, zero_row]
def sp_tright : Sp := fun vs H Q _ => ∃ v t, vs = [v] ∧ Is H v t ∧ ∀ H', Same H H' → Q (.bl true) H'
theorem has_law_table_right (d : Dfn K mg "_law_table_right" s_law_table_right) (tx : Txt K mg) (h_law_is_square : Has P w K mg base "_law_is_square" ["_law_thing"] 2 sp_grid) (h_law_one : Has P w K mg base "_law_one" ["_law_way", "_law_table_here"] 6 sp_one) : Has P w K mg base "_law_table_right" ["_law_thing"] 7 sp_tright := by
  refine has_q (k := 6) d sc_law_table_right bd_law_table_right (fun vs H Q E h => ?_) (fun f cdv A outer s H vs Q E hr h => ?_)
  · obtain ⟨v, t, rfl, _⟩ := h
    rfl
  · obtain ⟨v, t, rfl, it, q⟩ := h
    refine ⟨_, (q_bcons (q_sif (q_tnot (q_tval (q_fn h_law_is_square (hr.mono (by decide)) (q_cons (q_pv 0) q_nil)))) (q_bone (q_ret (q_and (q_cmp (o_eqT hr.units) (q_fn h_law_one (hr.mono (by decide)) (q_cons q_int (q_cons (q_pv 0) q_nil))) (w_tup (w_cons w_str (w_cons w_non w_nil))) (nomark _)) (q_one (q_cmp (o_eqT hr.units) (q_fn h_law_one (hr.mono (by decide)) (q_cons q_int (q_cons (q_pv 0) q_nil))) (w_tup (w_cons w_str (w_cons w_non w_nil))) (nomark _)))))) q_bnil)
      (q_bcons (q_set (i := 1) sc_law_table_right.nd (q_cmp (o_eqT hr.units) (q_comp ["_law_row"] [none] rfl (q_seq K rfl (q_pv 0)) (fun _ _ _ => (q_name (i := 0) (show List.Nodup (["_law_row"] : List PySem.Str) by decide +kernel))) (fun _ _ _ => (q_c1 (q_tcmp o_ne (q_bmT PySem.F.plainAttrs_tuple PySem.F.slot_tuple_count PySem.F.type_tuple_count (m_countT K rfl) (q_pv 0) (q_cons q_int q_nil)) (q_bi (c_len K rfl) tx.n_len bt_len (q_cons (q_pv 0) q_nil)) (nomark _)))) (fun _ _ _ => (q_pv 0))) (w_lst w_nil) (nomark _)))
      (q_bcons (q_asg (q_fn h_law_one (hr.mono (by decide)) (q_cons q_int (q_cons (q_pv 0) q_nil))) (q_gtup K rfl rfl (q_gcons (q_name (i := 2) sc_law_table_right.nd) (q_gcons (q_name (i := 3) sc_law_table_right.nd) q_gnil))))
      (q_bcons (q_sif (q_wt (q_wor (q_tcmp o_ne (q_pv 2) q_str (nomark _)) (q_wor (q_tnot (q_tval (q_bi c_inst tx.n_isinstance bt_isinstance (q_cons (q_pv 3) (q_cons (q_ty "bool" tx.n_bool bt_bool) q_nil))))) (q_wor1 (q_tcmp o_ne (q_pv 3) (q_pv 1) (nomark _)))))) (q_bone (q_ret q_bl)) q_bnil)
      (q_bcons (q_asg (q_fn h_law_one (hr.mono (by decide)) (q_cons q_int (q_cons (q_pv 0) q_nil))) (q_gtup K rfl rfl (q_gcons (q_name (i := 2) sc_law_table_right.nd) (q_gcons (q_name (i := 3) sc_law_table_right.nd) q_gnil))))
      (q_bcons (q_set (i := 4) sc_law_table_right.nd (q_cty (c_tuple K rfl) tx.n_tuple bt_tuple (q_cons (q_comp ["_law_at", "_law_thing"] [none, some 0] rfl (q_rng1 tx.n_range (q_cons (q_bi (c_len K rfl) tx.n_len bt_len (q_cons (q_pv 0) q_nil)) q_nil)) (fun _ _ _ => (q_name (i := 0) (show List.Nodup (["_law_at", "_law_thing"] : List PySem.Str) by decide +kernel))) (fun _ _ _ => q_c0) (fun _ _ _ => (q_cty (c_tuple K rfl) tx.n_tuple bt_tuple (q_cons (q_comp ["_law_row", "_law_at"] [none, some 0] rfl (q_seq K rfl (q_pv 1)) (fun _ _ _ => (q_name (i := 0) (show List.Nodup (["_law_row", "_law_at"] : List PySem.Str) by decide +kernel))) (fun _ _ _ => q_c0) (fun _ _ _ => (q_ix (o_ix K rfl) (q_pv 0) (q_pv 1)))) q_nil)))) q_nil)))
      (q_bone (q_ret (q_and (q_cmp o_eq (q_pv 2) q_str (nomark _)) (q_and (q_bi c_inst tx.n_isinstance bt_isinstance (q_cons (q_pv 3) (q_cons (q_ty "tuple" tx.n_tuple bt_tuple) q_nil))) (q_one (q_cmp (o_eqT hr.units) (q_pv 3) (q_pv 4) (nomark _))))))))))))), ?_⟩
    refine ⟨_, rfl, v, t, rfl, it, fun H1 s1 => ⟨_, rfl, ?_⟩⟩
    cases g : isGrid t with
    | false =>
      refine iteT ?_
      have no : ∀ M, t = tabT M → ¬ Square M := fun M e sq => by
        rw [e, isGrid_tab sq] at g
        cases g
      refine ⟨_, rfl, 0, v, t, rfl, it.mono s1, fun _ u H2 s2 i2 => ?_, fun M e sq => absurd sq (no M e)⟩
      intro v3 H3 s3 r3
      refine ⟨_, _, i2.mono s3, r3.mono (frp_same _ _), eqOk_tn, eqOk_tn, .inl ⟨_, _, rfl, rfl⟩, _, rfl, ?_⟩
      rw [eqT_refl 50 _ eqOk_tn]
      refine iteT ?_
      have S3 := (s1.trans s2).trans s3
      refine ⟨_, rfl, 1, v, t, rfl, it.mono S3, fun _ u H4 s4 i4 => ?_, fun M e sq => absurd sq (no M e)⟩
      intro v5 H5 s5 r5
      refine ⟨_, _, i4.mono s5, r5.mono (frp_same _ _), eqOk_tn, eqOk_tn, .inl ⟨_, _, rfl, rfl⟩, ?_⟩
      rw [eqT_refl 50 _ eqOk_tn]
      exact q _ ((S3.trans s4).trans s5)
    | true =>
      refine iteF ?_
      obtain ⟨M, rfl, sq⟩ := isGrid_inv g
      have hm := sq.2.1
      have tab := is_tabAt (it.mono s1)
      obtain ⟨a, us, e0, ha, rus⟩ := (it.mono s1).tup_inv
      subst e0
      obtain ⟨a', us', e1, ha1, hl, rows⟩ := tab
      cases e1
      rw [ha] at ha1
      injection ha1 with ha1
      injection ha1 with ha1
      subst ha1
      -- nought
      refine ⟨_, rfl, a, rfl, .inr ⟨⟨us, SqT.of ha⟩, fun l hl0 => ?_⟩⟩
      refine comp_filter wk_tup (pz H1) rfl hl0 (small_line (by omega)) (SqT.of ha) ?_ ?_ ?_
      · intro i x H2 k hx s2 _ hk
        have hi : i < M.length := by rw [← hl]; exact (List.getElem?_eq_some_iff.mp hx).1
        have ra0 := rows i x M[i] hx (List.getElem?_eq_getElem hi)
        have e := pz_row ra0
        have kk := hk H2 (Same.refl _)
        rw [e] at kk
        obtain ⟨b, rfl, hb⟩ := ra0.mono s2.tups
        refine ⟨_, rfl, ⟨b, _, rfl, hb⟩, b, M[i], 0, rfl, rfl, hb, _, rfl, b, _, rfl, .inr (SqT.of hb), rfl, _, rfl, ?_⟩
        rw [List.length_map]
        have ed : decide (V.int ((M[i].count 0 : Nat) : Int) = V.int ((M[i].length : Nat) : Int)) = decide (M[i].count 0 = M[i].length) := decide_eq_decide.mpr ⟨fun z => by injection z with z; omega, fun z => by rw [z]⟩
        rw [ed]
        exact kk
      · intro i x H2 Q1 hx s2 hk
        exact ⟨_, rfl, hk H2 (Same.refl _)⟩
      intro H2 s2 hl2
      obtain ⟨ts', its', mem⟩ := isL_filter (p := pz H1) rus
      have len' := its'.length
      have lenf := List.length_filter_le (pz H1) us
      intro v3 H3 s3 r3
      have oks : eqOk 50 (.lst ts') = true := by
        have h : ∀ t ∈ ts', eqOk 49 t = true := fun t ht => by
          obtain ⟨r, _, rfl⟩ := List.mem_map.mp (mem t ht)
          simp [eqOk]
        rw [eqOk]
        exact List.all_eq_true.mpr h
      refine ⟨.lst ts', .lst [], .lst (s3 _ _ hl2) ((its'.mono s2).mono s3) (by omega), r3.mono (frp_same _ _), oks, by simp [eqOk], .inr ⟨_, _, rfl, rfl⟩, ?_⟩
      have en : eqT (.lst ts') (.lst []) = noughtM M := by
        rw [nought_rows]
        cases hn : M.all fun r => decide (r.count 0 = r.length) with
        | true =>
          have : us.filter (pz H1) = [] := by
            rw [List.filter_eq_nil_iff]
            intro x hx
            obtain ⟨i, hi, rfl⟩ := List.getElem_of_mem hx
            have hiM : i < M.length := by omega
            have := List.all_eq_true.mp hn _ (List.getElem_mem hiM)
            rw [pz_row (rows i _ _ (List.getElem?_eq_getElem hi) (List.getElem?_eq_getElem hiM)), this]
            simp
          rw [this] at len'
          have : ts' = [] := List.length_eq_zero_iff.mp (by simpa using len'.symm)
          rw [this]
          simp [eqT, eqL]
        | false =>
          have hne : us.filter (pz H1) ≠ [] := fun z => by
            rw [List.filter_eq_nil_iff] at z
            rw [Bool.eq_false_iff] at hn
            refine hn (List.all_eq_true.mpr fun r hr => ?_)
            obtain ⟨i, hi, rfl⟩ := List.getElem_of_mem hr
            have hiu : i < us.length := by omega
            have := z us[i] (List.getElem_mem hiu)
            rw [pz_row (rows i _ _ (List.getElem?_eq_getElem hiu) (List.getElem?_eq_getElem hi))] at this
            simpa using this
          cases ts' with
          | nil => exact absurd (List.length_eq_zero_iff.mp (by simpa using len')) hne
          | cons t ts' => simp [eqT, eqL]
      rw [en]
      have S3 := (s1.trans s2).trans s3
      -- one(0, thing)
      refine ⟨_, rfl, 0, .ref a, _, rfl, it.mono S3, fun g' => (Bool.noConfusion (g.symm.trans g')), fun M' e' _ => ⟨fun _ u H4 s4 i4 => ?_, fun h => absurd rfl h⟩⟩
      have := tab_inj e'
      subst this
      obtain ⟨p, vs, rfl, hp, r⟩ := i4.tup_inv
      obtain ⟨v0, w0, rfl, i0, r⟩ := r.cons_inv
      obtain ⟨v1, w1, rfl, i2, r⟩ := r.cons_inv
      rw [r.nil_inv] at hp
      have : v0 = .str "told" := by unfold Is at i0; exact i0
      subst this
      have : v1 = .bl (noughtM M) := by unfold Is at i2; exact i2
      subst this
      refine ⟨p, _, rfl, SqT.of hp, rfl, _, _, rfl, _, _, rfl, rfl, ?_⟩
      refine ⟨_, rfl, rfl, _, rfl, ?_⟩
      rw [decide_eq_true rfl]
      refine iteF ?_
      refine ⟨_, rfl, _, _, _, rfl, i2, by simp, _, rfl, iteF ?_⟩
      refine ⟨_, rfl, _, rfl, rfl, _, rfl, ?_⟩
      refine ite2 (fun c => absurd c (by simp)) (fun _ => ?_)
      -- one(1, thing)
      have S4 := S3.trans s4
      refine ⟨_, rfl, 1, .ref a, _, rfl, it.mono S4, fun g' => (Bool.noConfusion (g.symm.trans g')), fun M' e' _ => ⟨fun h => absurd h (by decide), fun _ u H5 s5 i5 => ?_⟩⟩
      have := tab_inj e'
      subst this
      obtain ⟨p', vs', rfl, hp', r'⟩ := i5.tup_inv
      obtain ⟨v0, w0, rfl, i0', r'⟩ := r'.cons_inv
      obtain ⟨v1, w1, rfl, i3, r'⟩ := r'.cons_inv
      rw [r'.nil_inv] at hp'
      have : v0 = .str "told" := by unfold Is at i0'; exact i0'
      subst this
      refine ⟨p', _, rfl, SqT.of hp', rfl, _, _, rfl, _, _, rfl, rfl, ?_⟩
      -- due
      have S5 := S4.trans s5
      have tab5 : TabAt H5 (.ref a) M := is_tabAt (it.mono S5)
      have ha5 := ((s2.trans s3).trans (s4.trans s5)) _ _ ha
      refine ⟨_, rfl, a, us, rfl, .inr (SqT.of ha5), _, rfl, by omega, by omega, fun l6 n6 => ?_⟩
      refine comp_map wk_range (fun E i y => ∃ r, (cols M)[i]? = some r ∧ RowAt E y r) (fun H1 H2 i y s ⟨r, e, h⟩ => ⟨r, e, h.mono s.tups⟩) rfl n6 (small_line (by rw [upTo_len]; omega)) trivial ?_ ?_
      · intro j y H6 Q1 hy s6 hl6 k
        obtain ⟨ys6, hl6⟩ := hl6
        obtain ⟨hj, rfl⟩ := upTo_get hy
        have hj : j < M.length := by omega
        have ha6 := s6 _ _ ha5
        refine ⟨_, rfl, a, rfl, .inr ⟨⟨us, SqT.of ha6⟩, fun l7 n7 => ?_⟩⟩
        refine comp_map wk_tup (fun _ i y => ∃ n, (colAt M j)[i]? = some n ∧ y = .int n) (fun _ _ _ _ _ h => h) rfl n7 (small_line (by omega)) (SqT.of ha6) ?_ ?_
        · intro i x H7 Q2 hx s7 _ k7
          have hi : i < M.length := by rw [← hl]; exact (List.getElem?_eq_some_iff.mp hx).1
          have ra := ((rows i x M[i] hx (List.getElem?_eq_getElem hi)).mono ((s2.trans s3).trans (s4.trans s5)).tups).mono (s6.trans s7).tups
          have hri := sq.2.2 _ (List.getElem_mem hi)
          refine ⟨_, rfl, _, rfl, ?_⟩
          rw [Int.zero_add]
          refine rd_at ra (by omega) (k7 _ _ (Same.refl _) ⟨_, ?_, rfl⟩)
          unfold colAt
          rw [List.getElem?_map, List.getElem?_eq_getElem hi]
          rfl
        · intro ys H7 s7 hl7 hlen hys
          rw [vints hys (by rw [hlen, hl, colAt_len])] at hl7
          refine rd_ints hl7 fun u H8 s8 r8 => k _ _ (s7.trans s8) ⟨colAt M j, ?_, r8.mono (tups_del (s8 _ _ (s7 _ _ hl6)))⟩
          unfold cols
          rw [List.getElem?_map, List.getElem?_range hj]
          rfl
      · intro ys H6 s6 hl6 hlen hys
        refine rd_rows hl6 (rows_of hys (by rw [hlen, upTo_len, cols_len]; omega)) fun u H7 s7 t7 => ?_
        refine ⟨_, rfl, rfl, _, rfl, ?_⟩
        rw [decide_eq_true rfl]
        refine iteT ?_
        have S7 := s6.trans s7
        refine ⟨_, rfl, _, _, _, rfl, i3.mono S7, by simp, _, rfl, iteT ?_⟩
        refine ⟨_, rfl, _, rfl, _, _, i3.mono S7, tabAt_sq t7 (cols_sq sq), eqOk_tab 48 _, eqOk_tab 48 _, .inl ⟨_, _, rfl, rfl⟩, ?_⟩
        rw [eqT_refl 50 _ (eqOk_tab 48 _)]
        exact q _ (S5.trans S7)
theorem ok_q {x : Str} {st : Stmt} {f : Addr} {fd : FuncData} {N ps : List Str} {k : Nat} {sp : Sp} (F : Fun K x x st f fd) (S : FnScope N ps (defScope st)) (len : ∀ vs H Q E, sp vs H Q E → vs.length = ps.length)
    (hbody : ∀ (cdv : Value) (A : Around) (outer : List Env) (s : Shared) (H : Hp) (vs : List V) (Q : VK) (E : XK), Room k (A.deeper (PyProof.Rows.envOfC x (defScope st) s.heap.objs.size f cdv)) → sp vs H Q E →
      ∃ t, QB (cxOf CX0 P w K mg base N x (defScope st) f cdv A outer s H E).nox (defBody st) t ∧ t { nx := fun _ H' => Q .non H', rt := Q } (start N vs) H) : FnOk P w K mg base CX0 (k + 1) f fd ps sp :=
  F.ok S len fun cdv A outer s H vs Q E hr hs => let ⟨t, a, b⟩ := hbody cdv A outer s H vs Q E hr hs; ⟨t, a.h, b⟩
theorem dfn_mk {h : Heap} {x : Str} {st : Stmt} {f : Addr} {oc : Value} {od an : Option Addr} {osl : Array (Option Value)} {kV doc pm cdv ct : Value} (X : K.In h) (G : h.Ns mainGlobals mg) (a : PySem.W.nsIn K mainGlobals x = some (some (.ref f)))
    (l : K.lookup f = some ⟨oc, od, .func (PySem.W.fnOf x x (defArgs st) (defBody st) (defScope st) .none kV doc pm an cdv ct), osl⟩) (c : PySem.W.codeIn K cdv x = true) (k : PySem.W.keepIn K (.ref f) = true) : Dfn K mg x st := ⟨⟨f, _, fun_mk l c k, PySem.W.mg_of X G a⟩⟩
theorem int_mk {h : Heap} {x : Str} {i : Int} {t : Tok} (X : K.In h) (G : h.Ns mainGlobals mg) (a : PySem.W.nsIn K mainGlobals x = some (some (.int i t))) : ∃ u, mg x = some u ∧ RelV (.int i) u := ⟨_, PySem.W.mg_of X G a, t, rfl⟩
/-! ### the law -/
theorem eqOk_wn : eqOk 50 (.tup [.str "way", .non]) = true := by simp [eqOk]
theorem eqOk_to : eqOk 50 (.tup [.str "told", .non]) = true := by simp [eqOk]
theorem eqOk_ti (i : Int) : eqOk 50 (.tup [.str "tables", .int i]) = true := by simp [eqOk]
theorem ok0 {n : Nat} (h : 1 ≤ n) : OkWay n [0] := ⟨by decide, by decide, fun p hp => by rw [List.mem_singleton.mp hp]; omega⟩
def sp_law (K : PySem.W.Frag) : Sp := fun vs H Q _ => ∃ (a : Addr) (ns : List Int), vs = [.ref a] ∧ SqL K H a (ns.map V.int) ∧ ns.length ≤ 63 ∧ ∀ H', Q (.bl true) H'
theorem ok_law {lf : Addr} {lfd : FuncData} (F : Fun K "law" "law" s_law lf lfd) (tx : Txt K mg) (h_law_table_right : Has P w K mg base "_law_table_right" ["_law_thing"] 7 sp_tright) (h_law_said : Has P w K mg base "_law_said" ["_law_thing", "_law_way"] 7 sp_said)
    (h_law_wrong_list : Has P w K mg base "_law_wrong_list" ["_law_thing"] 3 (sp_wrong1 false)) (h_law_cell : Has P w K mg base "_law_cell" ["_law_script", "_law_k"] 1 (sp_cellK K)) (h_law_pen : Has P w K mg base "_law_pen" ["_law_cell_here"] 1 sp_pen)
    (h_law_tables : Has P w K mg base "_law_tables" ["_law_pen_here", "_law_most", "_law_way"] 3 sp_tables) (h_law_draw : Has P w K mg base "_law_draw" ["_law_pen_here", "_law_many"] 1 sp_draw) (h_law_odd : Has P w K mg base "_law_odd" ["_law_pen_here"] 2 sp_odd) (h_law_bent : Has P w K mg base "_law_bent" ["_law_pen_here", "_law_table_here"] 2 sp_bent) (h_law_bent_list : Has P w K mg base "_law_bent_list" ["_law_pen_here", "_law_tables_here"] 3 sp_blist) :
    FnOk P w K mg base CX0 9 lf lfd ["_law_script"] (sp_law K) := by
  refine ok_q (k := 8) F sc_law (fun vs H Q E h => ?_) (fun cdv A outer s H vs Q E hr h => ?_)
  · obtain ⟨a, ns, rfl, _⟩ := h
    rfl
  · obtain ⟨a, ns, rfl, hs, hns, q⟩ := h
    refine ⟨_, (q_bcons (q_for PassesOwn.never rfl (q_seq K rfl (w_lst (w_cons (w_tup (w_cons (w_tup (w_cons w_int w_nil)) w_nil)) (w_cons (w_tup (w_cons (w_tup (w_cons w_int (w_cons w_int w_nil))) (w_cons (w_tup (w_cons w_int (w_cons w_int w_nil))) w_nil))) (w_cons (w_tup w_nil) (w_cons w_non (w_cons (w_tup (w_cons (w_tup (w_cons w_bl w_nil)) w_nil)) (w_cons (w_lst (w_cons (w_lst (w_cons w_int w_nil)) w_nil)) w_nil)))))))) (q_name (i := 1) sc_law.nd) (q_bone (q_sif (q_tnot (q_tval (q_fn h_law_table_right (hr.mono (by decide)) (q_cons (q_pv 1) q_nil)))) (q_bone (q_ret q_bl)) q_bnil)))
      (q_bcons (q_for PassesOwn.never rfl (q_seq K rfl (q_op (o_add K rfl) (q_lst (q_cons (q_fn h_law_cell (hr.mono (by decide)) (q_cons (q_pv 0) (q_cons q_int q_nil))) q_nil)) (q_sl (o_sl K rfl) (q_pv 0) (q_some q_int) (q_some q_int)))) (q_name (i := 2) sc_law.nd) (q_bcons (q_set (i := 3) sc_law.nd (q_fn h_law_pen (hr.mono (by decide)) (q_cons (q_pv 2) q_nil)))
      (q_bcons (q_set (i := 4) sc_law.nd (q_fn h_law_tables (hr.mono (by decide)) (q_cons (q_pv 3) (q_cons q_int (q_cons (q_fn h_law_draw (hr.mono (by decide)) (q_cons (q_pv 3) (q_cons q_int q_nil))) q_nil)))))
      (q_bcons (q_for PassesOwn.never rfl (q_seq K rfl (q_lst (q_cons (q_pv 4) (q_cons (q_fn h_law_odd (hr.mono (by decide)) (q_cons (q_pv 3) q_nil)) (q_cons (q_fn h_law_bent_list (hr.mono (by decide)) (q_cons (q_pv 3) (q_cons (q_pv 4) q_nil))) (q_cons (q_fn h_law_bent_list (hr.mono (by decide)) (q_cons (q_pv 3) (q_cons (q_pv 4) q_nil))) (q_cons (w_lst w_nil) q_nil))))))) (q_name (i := 1) sc_law.nd) (q_bcons (q_set (i := 5) sc_law.nd (q_fn h_law_wrong_list (hr.mono (by decide)) (q_cons (q_pv 1) q_nil)))
      (q_bone (q_sif (q_tcmp o_isN (q_pv 5) q_non (nomark _)) (q_bone (q_sif (q_wt (q_wor (q_tcmp (o_neT hr.units) (q_fn h_law_said (hr.mono (by decide)) (q_cons (q_pv 1) (q_cons (w_tup (w_cons w_int w_nil)) q_nil))) (w_tup (w_cons w_str (w_cons w_non w_nil))) (nomark _)) (q_wor1 (q_tcmp (o_neT hr.units) (q_fn h_law_said (hr.mono (by decide)) (q_cons (q_pv 1) (q_cons (w_tup w_nil) q_nil))) (w_tup (w_cons w_str (w_cons w_non w_nil))) (nomark _))))) (q_bone (q_ret q_bl)) q_bnil)) (q_bone (q_sif (q_wt (q_wor (q_tcmp (o_neT hr.units) (q_fn h_law_said (hr.mono (by decide)) (q_cons (q_pv 1) (q_cons (w_tup (w_cons w_int w_nil)) q_nil))) (q_tup (q_cons q_str (q_cons (q_pv 5) q_nil))) (nomark _)) (q_wor1 (q_tcmp (o_neT hr.units) (q_fn h_law_said (hr.mono (by decide)) (q_cons (q_pv 1) (q_cons q_non q_nil))) (q_tup (q_cons q_str (q_cons (q_pv 5) q_nil))) (nomark _))))) (q_bone (q_ret q_bl)) q_bnil))))))
      (q_bone (q_for PassesOwn.never rfl (q_seq K rfl (q_op (o_add K rfl) (q_lst (q_cons (q_ix (o_ix K rfl) (q_pv 4) q_int) (q_cons (q_fn h_law_odd (hr.mono (by decide)) (q_cons (q_pv 3) q_nil)) q_nil))) (q_comp ["_law_turn", "_law_pen_here", "_law_tables_here"] [none, some 3, some 4] rfl (q_rng1 tx.n_range (q_cons q_int q_nil)) (fun _ _ _ => (q_name (i := 0) (show List.Nodup (["_law_turn", "_law_pen_here", "_law_tables_here"] : List PySem.Str) by decide +kernel))) (fun _ _ _ => q_c0) (fun _ _ _ => (q_fn h_law_bent (hr.mono (by decide)) (q_cons (q_pv 1) (q_cons (q_ix (o_ix K rfl) (q_pv 2) q_int) q_nil))))))) (q_name (i := 1) sc_law.nd) (q_bone (q_sif (q_tnot (q_tval (q_fn h_law_table_right (hr.mono (by decide)) (q_cons (q_pv 1) q_nil)))) (q_bone (q_ret q_bl)) q_bnil))))))))
      (q_bone (q_ret q_bl)))), ?_⟩
    -- the written things
    intro v1 H1 s1 r1
    have r1 := r1.mono (frp_same _ _)
    obtain ⟨l1, vs1, rfl, e1, i1⟩ := r1.lst_inv
    refine ⟨l1, rfl, .inl ⟨⟨_, SqL.of e1⟩, for_list (K := K) (a := l1) (xs := vs1) (fun i σ H2 => (∃ o1 o2 o3 o4 o5, σ = [some (.ref a), o1, o2, o3, o4, o5]) ∧ Same H1 H2) ⟨⟨_, _, _, _, _, rfl⟩, Same.refl _⟩ (fun i σ H2 _ h => SqL.of (h.2 _ _ e1)) ?_ ?_⟩⟩
    · rintro i x σ H2 hx ⟨⟨o1, o2, o3, o4, o5, rfl⟩, s2⟩
      obtain ⟨t, ht, it⟩ := i1.get hx
      exact ⟨_, rfl, x, t, rfl, it.mono s2, fun H3 s3 => ⟨_, rfl, iteF ⟨⟨_, _, _, _, _, rfl⟩, s2.trans s3⟩⟩⟩
    rintro σ H7 ⟨⟨o1, o2, o3, o4, o5, rfl⟩, s7⟩
    have S7 : Same H H7 := s1.trans s7
    -- [cell(script, 0)] + script[1:5]
    have hs6 := S7.seq hs
    refine ⟨_, rfl, a, ns, 0, rfl, hs6, fun c0 => ⟨by show 1 ≤ sizeLine; decide, fun l7 n7 => ?_⟩⟩
    have hs7 := (Same.upd (o := .lst [.int c0]) n7).seq hs6
    refine ⟨_, rfl, _, rfl, _, rfl, .inl ⟨a, _, rfl, hs7, fun l8 n8 => ?_⟩⟩
    have n78 : l7 ≠ l8 := ne_of_none upd_same n8
    have hcl := cutV_length (ns.map V.int) (some 1) (some 5)
    refine .inr (.inl ⟨l7, l8, _, _, rfl, rfl, by rw [upd_ne n78, upd_same], upd_same, ?_, fun l9 n9 => ?_⟩)
    · refine small_line ?_
      rw [List.length_map] at hcl
      show 1 + _ ≤ 100000
      omega
    generalize hH9 : upd (upd (upd H7 l7 (.lst [.int c0])) l8 (.lst (cutV (ns.map V.int) (some 1) (some 5)))) l9 (.lst ([.int c0] ++ cutV (ns.map V.int) (some 1) (some 5))) = H9
    have e9 : H9 l9 = some (.lst ([.int c0] ++ cutV (ns.map V.int) (some 1) (some 5))) := by rw [← hH9, upd_same]
    have allI : ∀ x ∈ [V.int c0] ++ cutV (ns.map V.int) (some 1) (some 5), ∃ i : Int, x = .int i := fun x hx => by
      rcases List.mem_append.mp hx with hx | hx
      · exact ⟨c0, List.mem_singleton.mp hx⟩
      · have hx := List.mem_of_mem_drop (List.mem_of_mem_take hx)
        obtain ⟨n, _, e⟩ := List.mem_map.mp hx
        exact ⟨n, e.symm⟩
    refine ⟨l9, rfl, .inl ⟨⟨_, SqL.of e9⟩, for_list (K := K) (a := l9) (xs := [V.int c0] ++ cutV (ns.map V.int) (some 1) (some 5)) (fun i σ H10 => (∃ o1 o2 o3 o4 o5, σ = [some (.ref a), o1, o2, o3, o4, o5]) ∧ Same H9 H10) ⟨⟨_, _, _, _, _, rfl⟩, Same.refl _⟩ (fun i σ H10 _ h => SqL.of (h.2 _ _ e9)) ?_ ?_⟩⟩
    · rintro i x σ H10 hx ⟨⟨o1, o2, o3, o4, o5, rfl⟩, s10⟩
      obtain ⟨n, rfl⟩ := allI x (List.mem_of_getElem? hx)
      -- pen, tables
      refine ⟨_, rfl, n, rfl, fun p H11 s11 np p11 => ?_⟩
      refine ⟨_, rfl, _, rfl, p, 3, rfl, p11, by decide, by decide, fun wy H12 _ _ b12 p12 => ?_⟩
      refine ⟨p, 4, wy, rfl, p12, by omega, by omega, fun tv Ms H13 b13 p13 it hM => ?_⟩
      -- [tables, odd(pen), bent_list(..), bent_list(..), []]
      refine ⟨_, rfl, _, rfl, p, rfl, p13, fun od tod H14 b14 p14 iod _ => ?_⟩
      replace it := it.mono b14
      refine ⟨_, rfl, _, rfl, p, tv, Ms, rfl, p14, it, hM, fun x15 t15 H15 b15 p15 i15 => ?_⟩
      replace it := it.mono b15
      replace iod := iod.mono b15
      refine ⟨_, rfl, _, rfl, p, tv, Ms, rfl, p15, it, hM, fun x16 t16 H16 b16 p16 i16 => ?_⟩
      replace it := it.mono b16
      replace iod := iod.mono b16
      replace i15 := i15.mono b16
      intro v17 H17 s17 r17
      obtain ⟨px, hpx⟩ := p16.lst
      have P16 := pen_one hpx
      have P17 := P16.mono s17
      have D : IsL (dls H17 fun b => b = p) [tv, od, x15, x16, v17] [tabsT Ms, tod, t15, t16, .lst []] :=
        .cons ((it.mono (But.of_same s17)).mono del_dls) (.cons ((iod.mono (But.of_same s17)).mono del_dls) (.cons ((i15.mono (But.of_same s17)).mono del_dls) (.cons ((i16.mono (But.of_same s17)).mono del_dls) (.one (rd_lit P16 r17)))))
      refine rd_lst P17 D (by show 5 ≤ 100000; decide) fun l18 H18 s18 n18 e18 _ => ?_
      replace D := (D.mono (dls_same s18)).mono (dls_le _ _)
      have S18 := s17.trans s18
      replace it := it.mono (But.of_same S18)
      have p18 := p16.mono S18
      refine ⟨l18, rfl, .inl ⟨⟨_, SqL.of e18⟩, for_list (K := K) (a := l18) (xs := [tv, od, x15, x16, v17]) (fun i σ H19 => (∃ o1 o2 o3, σ = [some (.ref a), o1, o2, some (.ref p), some tv, o3]) ∧ Same H18 H19) ⟨⟨_, _, _, rfl⟩, Same.refl _⟩ (fun i σ H19 _ h => SqL.of (h.2 _ _ e18)) ?_ ?_⟩⟩
      · rintro i5 x5 σ H19 hx5 ⟨⟨o1, o2, o3, rfl⟩, s19⟩
        obtain ⟨t5, ht5, it5⟩ := D.get hx5
        replace it5 := it5.mono s19
        refine ⟨_, rfl, x5, t5, rfl, it5, fun H20 s20 => ?_⟩
        replace it5 := it5.mono s20
        have S20 := s19.trans s20
        rcases wrong_cases false t5 with e | ⟨j, e⟩
        · rw [e]
          refine ⟨_, rfl, rfl, _, rfl, iteT ?_⟩
          obtain ⟨Ns, eN, hN⟩ := wrong_none e
          have noI : ∀ i, wrongV false t5 ≠ .int i := fun i z => by rw [e] at z; cases z
          refine ⟨_, rfl, ?_⟩
          intro v21 H21 s21 r21
          refine ⟨x5, v21, t5, .tup [.int 0], rfl, it5.mono s21, r21.mono (frp_same _ _), fun i z => absurd z (noI i), fun Ms' e' hM' => ⟨fun un => ?_, fun ps e2 okp => ⟨?_, fun u H22 s22 i22 => ?_⟩⟩⟩
          · have := isWay_way (ok0 hM'.1)
            rw [show wayT [0] = .tup [.int 0] from rfl, un] at this
            cases this
          · have : ps = [0] := (wayT_inj (qs := [0]) e2.symm)
            rw [this]
            intro q hq
            cases hq
          intro v23 H23 s23 r23
          refine ⟨_, _, i22.mono s23, r23.mono (frp_same _ _), eqOk_to, eqOk_to, .inl ⟨_, _, rfl, rfl⟩, _, rfl, ?_⟩
          rw [eqT_refl 50 _ eqOk_to]
          refine iteF ?_
          refine ⟨_, rfl, ?_⟩
          intro v24 H24 s24 r24
          have S24 := (s21.trans s22).trans (s23.trans s24)
          refine ⟨x5, v24, t5, .tup [], rfl, it5.mono S24, r24.mono (frp_same _ _), fun i z => absurd z (noI i), fun Ms' e' hM' => ⟨fun un u H25 s25 i25 => ?_, fun ps e2 okp => ?_⟩⟩
          · intro v26 H26 s26 r26
            refine ⟨_, _, i25.mono s26, r26.mono (frp_same _ _), eqOk_wn, eqOk_wn, .inl ⟨_, _, rfl, rfl⟩, _, rfl, ?_⟩
            rw [eqT_refl 50 _ eqOk_wn]
            refine iteF ?_
            exact ⟨⟨_, _, _, rfl⟩, (S20.trans S24).trans (s25.trans s26)⟩
          · have : ps = [] := (wayT_inj (qs := []) e2.symm)
            rw [this] at okp
            exact absurd okp.1 (by decide)
        · rw [e]
          refine ⟨_, rfl, rfl, _, rfl, iteF ?_⟩
          have noN : ∀ Ms', t5 = tabsT Ms' → ¬ Tabs0 Ms' := fun Ms' e' hM' => by
            have : wrongV false t5 = .non := by rw [e']; exact wrong_tabs hM'
            rw [e] at this
            cases this
          have say : ∀ wv tw H21, Same H20 H21 → Is H21 wv tw → ∀ Q' : VK, (∀ u H', Same H21 H' → Is H' u (.tup [.str "tables", .int j]) → Q' u H') → sp_said [x5, wv] H21 Q' (fun _ _ _ => False) := fun wv tw H21 s21 iw Q' k =>
            ⟨x5, wv, t5, tw, rfl, it5.mono s21, iw, fun i z => by rw [e] at z; cases z; exact k, fun Ms' e' hM' => absurd hM' (noN Ms' e')⟩
          refine ⟨_, rfl, ?_⟩
          intro v21 H21 s21 r21
          refine say v21 _ H21 s21 (r21.mono (frp_same _ _)) _ fun u H22 s22 i22 => ?_
          refine ⟨_, rfl, by show 2 ≤ sizeLine; decide, fun p23 n23 => ?_⟩
          refine ⟨_, _, i22.mono (Same.upd n23), .tup upd_same (.cons Is.str (.one Is.int)) (by show 2 ≤ 100000; decide), eqOk_ti j, eqOk_ti j, .inl ⟨_, _, rfl, rfl⟩, _, rfl, ?_⟩
          rw [eqT_refl 50 _ (eqOk_ti j)]
          refine iteF ?_
          have S23 := (s21.trans s22).trans (Same.upd (o := .tup [.str "tables", .int j]) n23)
          refine ⟨_, rfl, say .non .non _ S23 Is.non _ fun u H24 s24 i24 => ?_⟩
          refine ⟨_, rfl, by show 2 ≤ sizeLine; decide, fun p25 n25 => ?_⟩
          refine ⟨_, _, i24.mono (Same.upd n25), .tup upd_same (.cons Is.str (.one Is.int)) (by show 2 ≤ 100000; decide), eqOk_ti j, eqOk_ti j, .inl ⟨_, _, rfl, rfl⟩, _, rfl, ?_⟩
          rw [eqT_refl 50 _ (eqOk_ti j)]
          refine iteF ?_
          exact ⟨⟨_, _, _, rfl⟩, ((S20.trans S23).trans s24).trans (Same.upd n25)⟩
      rintro σ H19 ⟨⟨o1, o2, o3, rfl⟩, s19⟩
      replace it := it.mono (But.of_same s19)
      have p19 := p18.mono s19
      -- [tables[0], odd(pen)] + [bent(pen, tables[0]) for turn in range(3)]
      obtain ⟨ta, us, rfl, hta, hus, tabs⟩ := tabs_at it
      have hm1 := hM.1
      obtain ⟨nn, hn⟩ := hM.sized
      obtain ⟨u0, hu0, tu0⟩ := tabs 0 (by omega)
      have sq0 := (hn 0 (by omega)).1
      refine ⟨_, rfl, .inl ⟨ta, us, _, u0, rfl, rfl, SqL.of (del_get hta).2, atI_nat (j := 0) hu0, ?_⟩⟩
      refine ⟨_, rfl, p, rfl, p19, fun od2 tod2 H20 b20 p20 iod2 _ => ?_⟩
      obtain ⟨py, hpy⟩ := p20.lst
      have P20 := pen_one hpy
      have iu0 : Is (del H20 p) u0 (tabT (tabN Ms 0)) := (tabAt_sq tu0 sq0).mono b20
      refine rd_lst P20 (.cons (iu0.mono del_dls) (.one (iod2.mono del_dls))) (by show 2 ≤ 100000; decide) fun l21 H21 s21 n21 e21 i21 => ?_
      have p21 := p20.mono s21
      have i21 : Is (del H21 p) (.ref l21) (.lst [tabT (tabN Ms 0), tod2]) := i21.mono dls_del
      have iu1 := iu0.mono (But.of_same (p := p) s21)
      replace it := (it.mono b20).mono (But.of_same s21)
      obtain ⟨ta', us', e', hta1, hus1, tabs1⟩ := tabs_at it
      cases e'
      have eus : us' = us := by
        have := (b20.trans (But.of_same s21)) _ _ hta
        rw [hta1] at this
        injection this with this
        injection this
      subst eus
      refine ⟨_, rfl, by decide, by decide, fun l22 n22 => ?_⟩
      obtain ⟨pw, hpw⟩ := p21.lst
      have nlp : l22 ≠ p := fun z => by rw [z, hpw] at n22; cases n22
      have nta := del_get hta1
      refine comp_mapB wk_range (p := p) (fun H3 => PenAt H3 p) (fun E i y => Sm (del E p) y) (fun H3 H4 i y b ⟨t, it⟩ => ⟨t, it.mono b⟩) rfl n22 nlp (small_line (by rw [upTo_len]; decide)) trivial (fun _ _ _ _ => trivial) p21 (fun H3 ys g => ?_) ?_ ?_
      · obtain ⟨n, f, z, e⟩ := g
        exact ⟨n, f, z, by rw [upd_ne nlp.symm]; exact e⟩
      · intro i x H23 Q1 hx b23 p23 hl23 k
        obtain ⟨ys23, hl23⟩ := hl23
        obtain ⟨pv, hpv⟩ := p23.lst
        have PP : Pen H23 (fun b => b = p ∨ b = l22) := fun b hb => by
          rcases hb with rfl | rfl
          · exact ⟨_, hpv⟩
          · exact ⟨_, hl23⟩
        refine ⟨_, rfl, _, rfl, .inl ⟨ta, us', _, u0, rfl, rfl, SqL.of (b23.get nta.1 nta.2), atI_nat (j := 0) hu0, ?_⟩⟩
        refine ⟨p, u0, tabN Ms 0, fun b => b = p ∨ b = l22, rfl, p23, .inl rfl, PP, is_tabAt ((iu1.mono b23).del), sq0, fun v' t' H24 b24 p24 i24 => ?_⟩
        refine k _ H24 b24 p24 ⟨t', i24.mono fun b o e => ?_⟩
        obtain ⟨h1, h2⟩ := dls_get e
        rw [del_ne fun z => h1 (.inl z), del_ne fun z => h1 (.inr z)]
        exact h2
      · intro ys H23 b23 p23 hl23 hlen hys
        have sms : Sms (del H23 p) ys := fun y hy => by
          obtain ⟨j, hj, rfl⟩ := List.getElem_of_mem hy
          obtain ⟨t, ht⟩ := hys j _ (List.getElem?_eq_getElem hj)
          refine ⟨t, ht.mono fun b o e => ?_⟩
          obtain ⟨h1, h2⟩ := del_get e
          rw [del_ne h1]
          exact (del_get h2).2
        obtain ⟨ts, its⟩ := sms.isL
        have lts := its.length
        rw [hlen, upTo_len] at lts
        have lts : 3 = ts.length := lts
        have iy : Is H23 (.ref l22) (.lst ts) := .lst hl23 its.del (by omega)
        refine rd_cat0 (i21.mono b23).del iy (by show 2 + _ ≤ _; omega) fun l24 vs24 H24 s24 n24 e24 L24 _ => ?_
        refine ⟨l24, rfl, .inl ⟨⟨_, SqL.of e24⟩, for_list (K := K) (a := l24) (xs := vs24) (fun i σ H25 => (∃ o1 o2 o3 o4 o5, σ = [some (.ref a), o1, o2, o3, o4, o5]) ∧ Same H24 H25) ⟨⟨_, _, _, _, _, rfl⟩, Same.refl _⟩ (fun i σ H25 _ h => SqL.of (h.2 _ _ e24)) ?_ ?_⟩⟩
        · rintro i x σ H25 hx ⟨⟨o1, o2, o3, o4, o5, rfl⟩, s25⟩
          obtain ⟨t, ht, itx⟩ := L24.get hx
          exact ⟨_, rfl, x, t, rfl, itx.mono s25, fun H26 s26 => ⟨_, rfl, iteF ⟨⟨_, _, _, _, _, rfl⟩, s25.trans s26⟩⟩⟩
        · rintro σ H25 ⟨⟨o1, o2, o3, o4, o5, rfl⟩, s25⟩
          refine ⟨⟨_, _, _, _, _, rfl⟩, s10.trans ?_⟩
          have ball : But p H10 H25 := ((((((((((((But.of_same s11).trans b12).trans b13).trans b14).trans b15).trans b16).trans (But.of_same S18)).trans (But.of_same s19)).trans b20).trans (But.of_same s21)).trans b23).trans (But.of_same s24)).trans (But.of_same s25)
          exact ball.same np
    · rintro σ H10 ⟨⟨o1, o2, o3, o4, o5, rfl⟩, s10⟩
      exact q H10
theorem law_top {lf : Addr} {lfd : FuncData} (F : Fun K "law" "law" s_law lf lfd) (s : Shared) (v : Value) : BindsTo s lfd ⟨[v], []⟩ [("_law_script", v)] := by
  obtain ⟨oc, od, kV, doc, pm, an, cdv, ct, osl, rfl, lk, hcd⟩ := F.ex
  exact .of_eq (bd_law _ _ _ _ _ _ [v] rfl)
theorem all_ok {l : PySem.W.OpenLaw} {fa : Addr} (hfa : mg "law" = some (.ref fa)) (tx : Txt K mg) (d1 : Dfn K mg "is_whole" s_is_whole) (d2 : Dfn K mg "is_row" s_is_row) (d3 : Dfn K mg "is_grid" s_is_grid) (d4 : Dfn K mg "numbers_of" s_numbers_of) (d5 : Dfn K mg "is_bounded" s_is_bounded) (d6 : Dfn K mg "wrong_at" s_wrong_at) (d7 : Dfn K mg "is_place" s_is_place) (d8 : Dfn K mg "are_places" s_are_places) (d9 : Dfn K mg "is_way" s_is_way) (d10 : Dfn K mg "need_table" s_need_table) (d11 : Dfn K mg "need_tables" s_need_tables) (d12 : Dfn K mg "need_way" s_need_way) (d13 : Dfn K mg "column_at" s_column_at) (d14 : Dfn K mg "columns_of" s_columns_of) (d15 : Dfn K mg "row_times_column" s_row_times_column) (d16 : Dfn K mg "row_times_columns" s_row_times_columns) (d17 : Dfn K mg "times" s_times) (d18 : Dfn K mg "along" s_along) (d19 : Dfn K mg "is_nought" s_is_nought) (d20 : Dfn K mg "turned" s_turned) (d21 : Dfn K mg "_law_cell" s_law_cell) (d22 : Dfn K mg "_law_pen" s_law_pen) (d23 : Dfn K mg "_law_draw" s_law_draw) (d24 : Dfn K mg "_law_whole" s_law_whole) (d25 : Dfn K mg "_law_odd" s_law_odd) (d26 : Dfn K mg "_law_kind" s_law_kind) (d27 : Dfn K mg "_law_table" s_law_table) (d28 : Dfn K mg "_law_tables" s_law_tables) (d29 : Dfn K mg "_law_bent" s_law_bent) (d30 : Dfn K mg "_law_bent_list" s_law_bent_list) (d31 : Dfn K mg "_law_is_square" s_law_is_square) (d32 : Dfn K mg "_law_wrong_list" s_law_wrong_list) (d33 : Dfn K mg "_law_said" s_law_said) (d34 : Dfn K mg "_law_one" s_law_one) (d35 : Dfn K mg "_law_table_right" s_law_table_right) (d36 : Dfn K mg "law" s_law) :
    ∃ fd : FuncData, (∀ (s : Shared) (v : Value), BindsTo s fd ⟨[v], []⟩ [("_law_script", v)]) ∧ ∀ base : Heap, K.In base → base.Ns mainGlobals mg → FnOk l.prog w K mg base CX0 9 fa fd ["_law_script"] (sp_law K) := by
  obtain ⟨f, fd, F, m⟩ := d36.ex
  have e := hfa.symm.trans m
  cases e
  refine ⟨fd, law_top F, fun base _ _ => ?_⟩
  have w_is_whole := has_is_whole (P := l.prog) (w := w) (base := base) d1 tx
  have w_is_row := has_is_row d2 tx w_is_whole
  have w_is_grid := has_is_grid d3 tx w_is_row
  have w_need_table := has_need_table d10 tx w_is_grid
  have w_numbers_of := has_numbers_of (P := l.prog) (w := w) (base := base) d4 tx
  have w_is_bounded := has_is_bounded d5 tx w_numbers_of
  have w_wrong_at := has_wrong_at d6 tx w_is_grid w_is_bounded
  have w_is_place := has_is_place d7 tx w_is_whole
  have w_are_places := has_are_places d8 tx w_is_place
  have w_is_way := has_is_way d9 tx w_are_places
  have w_need_tables := has_need_tables d11 tx w_wrong_at
  have w_need_way := has_need_way d12 tx w_is_way
  have w_column_at := has_column_at (P := l.prog) (w := w) (base := base) d13 tx
  have w_columns_of := has_columns_of d14 tx w_column_at
  have w_row_times_column := has_row_times_column (P := l.prog) (w := w) (base := base) d15 tx
  have w_row_times_columns := has_row_times_columns d16 tx w_row_times_column
  have w_times := has_times d17 tx w_columns_of w_row_times_columns
  have w_along := has_along d18 tx w_need_tables w_need_way w_times
  have w_is_nought := has_is_nought d19 tx w_need_table w_numbers_of
  have w_turned := has_turned d20 tx w_need_table w_columns_of
  have w_law_kind := has_law_kind (P := l.prog) (w := w) (base := base) d26 tx
  have w_law_whole := has_law_whole (P := l.prog) (w := w) (base := base) d24 tx
  have w_law_whole_H := has_law_whole_H (P := l.prog) (w := w) (base := base) d24 tx
  have w_law_said := has_law_said d33 tx w_along w_law_kind w_law_whole_H
  have w_law_one := has_law_one d34 tx w_is_nought w_turned w_law_kind
  have w_law_is_square := has_law_is_square d31 tx w_law_whole
  have w_law_wrong_list := has_law_wrong_list d32 tx w_law_is_square
  have w_law_draw := has_law_draw (P := l.prog) (w := w) (base := base) d23 tx
  have w_law_table := has_law_table d27 tx w_law_draw
  have w_law_tables := has_law_tables d28 tx w_law_draw w_law_table
  have w_law_odd := has_law_odd d25 tx w_law_draw
  have w_law_bent := has_law_bent d29 tx w_law_draw
  have w_law_bent_list := has_law_bent_list d30 tx w_law_draw w_law_bent
  have w_law_table_right := has_law_table_right d35 tx w_law_is_square w_law_one
  exact ok_law F tx w_law_table_right w_law_said w_law_wrong_list (has_law_cell d21 tx) (has_law_pen d22 tx) w_law_tables w_law_draw w_law_odd w_law_bent w_law_bent_list
end
end My
def PySem.W.Fast.tw9466485561794692990 : Unit := ()
def PySem.W.Fast.tw8121333439441999080 : Unit := ()
def PySem.W.Fast.tw7581099606773942563 : Unit := ()
def PySem.W.Fast.tw14442206780953491433 : Unit := ()
def PySem.W.Fast.tw6300979477307111123 : Unit := ()
def PySem.W.Fast.tw8253582652760067988 : Unit := ()
def PySem.W.Fast.tw10891624929452736589 : Unit := ()
def PySem.W.Fast.tw2280668128224885675 : Unit := ()
def PySem.W.Fast.tw6041810733037972563 : Unit := ()
def PySem.W.Fast.tw8634483389214636800 : Unit := ()
def PySem.W.Fast.tw13709209480388580926 : Unit := ()
def PySem.W.Fast.tw15161547679833826844 : Unit := ()
def PySem.W.Fast.tw623457030328989175 : Unit := ()
def PySem.W.Fast.tw9396126924026025048 : Unit := ()
def PySem.W.Fast.tw1083788477412494544 : Unit := ()
def PySem.W.Fast.tw2279537443639632542 : Unit := ()
def PySem.W.Fast.tw5371091595905343969 : Unit := ()
def PySem.W.Fast.tw3508579858407187957 : Unit := ()
def PySem.W.Fast.tw9197140715344377962 : Unit := ()
def PySem.W.Fast.tw13881932292200228982 : Unit := ()
def PySem.W.Fast.tw5216998972603393074 : Unit := ()
def PySem.W.Fast.tw16631890850747746748 : Unit := ()
def PySem.W.Fast.tw7980178874878629219 : Unit := ()
def PySem.W.Fast.tw18273499447778667506 : Unit := ()
def PySem.W.Fast.tw16621265412379056730 : Unit := ()
def PySem.W.Fast.tw9977633052536710438 : Unit := ()
def PySem.W.Fast.tw696529465758767558 : Unit := ()
def PySem.W.Fast.tw1142237336128352937 : Unit := ()
def PySem.W.Fast.tw2378215180244760840 : Unit := ()
def PySem.W.Fast.tw10268457244361282854 : Unit := ()
def PySem.W.Fast.tw16825193153695618854 : Unit := ()
def PySem.W.Fast.tw9277252197065392419 : Unit := ()
def PySem.W.Fast.tw4803561572882992800 : Unit := ()
def PySem.W.Fast.tw1144835887263518827 : Unit := ()
def PySem.W.Fast.tw3580637529561966020 : Unit := ()
def PySem.W.Fast.tw16908221375573846075 : Unit := ()
def PySem.W.Fast.tw1377241315797795393 : Unit := ()
def PySem.W.Fast.tw3563853942088753711 : Unit := ()
def PySem.W.Fast.tw14589081535932171512 : Unit := ()
def PySem.W.Fast.tw2585330122736492938 : Unit := ()
def PySem.W.Fast.tw6845140736610012593 : Unit := ()
def PySem.W.Fast.tw3314974746848592894 : Unit := ()
def PySem.W.Fast.tw13881488938760174352 : Unit := ()
def PySem.W.Fast.tw4648099319813701465 : Unit := ()
def PySem.W.Fast.tw16674379883636174927 : Unit := ()
def PySem.W.Fast.tw8848893597431865736 : Unit := ()
def PySem.W.Fast.tw10513130993575869113 : Unit := ()
def PySem.W.Fast.tw11993538886391358175 : Unit := ()
def PySem.W.Fast.tw7472278820213705376 : Unit := ()
def PySem.W.Fast.tw9866948782396528466 : Unit := ()
def PySem.W.Fast.tw7368632474009079344 : Unit := ()
def PySem.W.Fast.tw2700899318953967303 : Unit := ()
def PySem.W.Fast.tw4643497783636508864 : Unit := ()
def PySem.W.Fast.tw9097370862308724787 : Unit := ()
def PySem.W.Fast.tw8320811046365694022 : Unit := ()
def PySem.W.Fast.tw2021499125616558343 : Unit := ()
def PySem.W.Fast.tw2151262011981773456 : Unit := ()
def PySem.W.Fast.tw8440606711691133381 : Unit := ()
def PySem.W.Fast.tw16001496029740327611 : Unit := ()
def PySem.W.Fast.tw912334134275241938 : Unit := ()
def PySem.W.Fast.tw5721859860014982873 : Unit := ()
def PySem.W.Fast.tw834127756035380944 : Unit := ()
def PySem.W.Fast.tw7814065894160039986 : Unit := ()
def PySem.W.Fast.tw10311216106308263585 : Unit := ()
def PySem.W.Fast.tw2548749123397382899 : Unit := ()
def PySem.W.Fast.tw18028941375392267669 : Unit := ()
def PySem.W.Fast.tw5815570057784550224 : Unit := ()
def PySem.W.Fast.tw9648400905780732510 : Unit := ()
def PySem.W.Fast.tw10029891229109935913 : Unit := ()
def PySem.W.Fast.tw11096581738965564491 : Unit := ()
def PySem.W.Fast.tw5762626110351099682 : Unit := ()
def PySem.W.Fast.tw15197999421277746475 : Unit := ()
def PySem.W.Fast.tw13399412242227193790 : Unit := ()
def PySem.W.Fast.tw3359149155269814281 : Unit := ()
def PySem.W.Fast.tw10850625103257989961 : Unit := ()
def PySem.W.Fast.tw13215169243271314828 : Unit := ()
def PySem.W.Fast.tw786949786037985583 : Unit := ()
def PySem.W.Fast.tw3812387186198269924 : Unit := ()
def PySem.W.Fast.tw7256657097032626950 : Unit := ()
def PySem.W.Fast.tw13381283706995122273 : Unit := ()
def PySem.W.Fast.tw6172335402216386574 : Unit := ()
def PySem.W.Fast.tw4634049655972412929 : Unit := ()
def PySem.W.Fast.tw13281409483534090375 : Unit := ()
def PySem.W.Fast.tw16555043429396244282 : Unit := ()
def PySem.W.Fast.tw16118764629845556326 : Unit := ()
def PySem.W.Fast.tw9728316981801937964 : Unit := ()
def PySem.W.Fast.tw2041351415778120188 : Unit := ()
def PySem.W.Fast.tw8990218967043129469 : Unit := ()
def PySem.W.Fast.tw4852208231974918586 : Unit := ()
def PySem.W.Fast.tw16295769730709990008 : Unit := ()
def PySem.W.Fast.tw8732630305570975381 : Unit := ()
def PySem.W.Fast.tw11949894787564676189 : Unit := ()
def PySem.W.Fast.tw18261895795826279591 : Unit := ()
def PySem.W.Fast.tw6083597184242306172 : Unit := ()
def PySem.W.Fast.tw2615765484553382768 : Unit := ()
def PySem.W.Fast.tw9329043498825106839 : Unit := ()
def PySem.W.Fast.tw5524147350332919656 : Unit := ()
def PySem.W.Fast.tw2603312340405656977 : Unit := ()
def PySem.W.Fast.tw4009961008447471620 : Unit := ()
def PySem.W.Fast.tw18076424473882823319 : Unit := ()
def PySem.W.Fast.tw365442645631733450 : Unit := ()
def PySem.W.Fast.tw16902370091278456766 : Unit := ()
def PySem.W.Fast.tw11957978176805355006 : Unit := ()
def PySem.W.Fast.tw12748341688802742055 : Unit := ()
def PySem.W.Fast.tw7625215739218239056 : Unit := ()
def PySem.W.Fast.tw7930076568437005929 : Unit := ()
def PySem.W.Fast.tw14247183334668673202 : Unit := ()
def PySem.W.Fast.tw4644372314240195063 : Unit := ()
def PySem.W.Fast.tw2808340514384771816 : Unit := ()
def PySem.W.Fast.tw4896396991179233713 : Unit := ()
def PySem.W.Fast.tw15813179658855386140 : Unit := ()
def PySem.W.Fast.tw10622126235214186235 : Unit := ()
def PySem.W.Fast.tw16703894021518722488 : Unit := ()
def PySem.W.Fast.tw14334413076026516410 : Unit := ()
def PySem.W.Fast.tw164492643297851812 : Unit := ()
def PySem.W.Fast.tw15068356907957838174 : Unit := ()
def PySem.W.Fast.tw4613850958947087617 : Unit := ()
def PySem.W.Fast.tw9638573427117617695 : Unit := ()
def PySem.W.Fast.tw8695309422811019026 : Unit := ()
def PySem.W.Fast.tw7783919479274981609 : Unit := ()
def PySem.W.Fast.tw7425142754380978057 : Unit := ()
def PySem.W.Fast.tw17139341899967474763 : Unit := ()
def PySem.W.Fast.tw8522731254375022607 : Unit := ()
def PySem.W.Fast.tw12373072955349700368 : Unit := ()
def PySem.W.Fast.tw8953003373366258383 : Unit := ()
def PySem.W.Fast.tw8879057997831414832 : Unit := ()
def PySem.W.Fast.tw7020376473554614756 : Unit := ()
def PySem.W.Fast.tw11698190512371590730 : Unit := ()
def PySem.W.Fast.tw13152737061056944305 : Unit := ()
def PySem.W.Fast.tw1385391071130668799 : Unit := ()
def PySem.W.Fast.tw10498748373697783726 : Unit := ()
def PySem.W.Fast.tw4630503022907174221 : Unit := ()
def PySem.W.Fast.tw8290884497249976904 : Unit := ()
def PySem.W.Fast.tw272164959414114837 : Unit := ()
def PySem.W.Fast.tw8602068929967486649 : Unit := ()
def PySem.W.Fast.tw6570546426964437898 : Unit := ()
def PySem.W.Fast.tw18285046686501931255 : Unit := ()
def PySem.W.Fast.tw14062647958081828824 : Unit := ()
def PySem.W.Fast.tw6768970486997959781 : Unit := ()
def PySem.W.Fast.tw9529977268671172040 : Unit := ()
def PySem.W.Fast.tw13751576839489214000 : Unit := ()
def PySem.W.Fast.tw15534483936401712188 : Unit := ()
def PySem.W.Fast.tw12151337332040628686 : Unit := ()
def PySem.W.Fast.tw3570469312472614142 : Unit := ()
def PySem.W.Fast.tw15033501812804405734 : Unit := ()
def PySem.W.Fast.tw10722131715489697253 : Unit := ()
def PySem.W.Fast.tw9560747672948408164 : Unit := ()
def PySem.W.Fast.tw12963228915103425077 : Unit := ()
def PySem.W.Fast.tw9213019968891275009 : Unit := ()
def PySem.W.Fast.tw9125758527117640812 : Unit := ()
def PySem.W.Fast.tw11660142436652387908 : Unit := ()
def PySem.W.Fast.tw14226730714550235325 : Unit := ()
def PySem.W.Fast.tw15803936823662262635 : Unit := ()
def PySem.W.Fast.tw9890321770156420336 : Unit := ()
def PySem.W.Fast.tw16052755116540743687 : Unit := ()
def PySem.W.Fast.tw14636161905899962894 : Unit := ()
def PySem.W.Fast.tw4599289370027446398 : Unit := ()
def PySem.W.Fast.tw2739845887057514701 : Unit := ()
def PySem.W.Fast.tw2217418739483644496 : Unit := ()
def PySem.W.Fast.tw10595379184422612904 : Unit := ()
def PySem.W.Fast.tw13413969192547487171 : Unit := ()
def PySem.W.Fast.tw8343329700192562461 : Unit := ()
def PySem.W.Fast.tw15558085849382385969 : Unit := ()
def PySem.W.Fast.tw668063662453336113 : Unit := ()
def PySem.W.Fast.tw6886271044791388726 : Unit := ()
def PySem.W.Fast.tw9252938481211567457 : Unit := ()
def PySem.W.Fast.tw1534136271191281655 : Unit := ()
def PySem.W.Fast.tw6042448362163760724 : Unit := ()
def PySem.W.Fast.tw1153506792095733187 : Unit := ()
def PySem.W.Fast.tw668553551768789771 : Unit := ()
def PySem.W.Fast.tw1001822981327012062 : Unit := ()
def PySem.W.Fast.tw12731951292342909278 : Unit := ()
def PySem.W.Fast.tw7421803496923584208 : Unit := ()
def PySem.W.Fast.tw8524594940264671067 : Unit := ()
def PySem.W.Fast.tw14510501616241476436 : Unit := ()
def PySem.W.Fast.tw13479951803684819147 : Unit := ()
def PySem.W.Fast.tw8360914360634276936 : Unit := ()
def PySem.W.Fast.tw10302147613221939186 : Unit := ()
def PySem.W.Fast.tw2999395500004246425 : Unit := ()
def PySem.W.Fast.tw12180222252501171157 : Unit := ()
def PySem.W.Fast.tw10052872582806056835 : Unit := ()
def PySem.W.Fast.tw12810982029087742275 : Unit := ()
def PySem.W.Fast.tw2269930293111629870 : Unit := ()
def PySem.W.Fast.tw873656728190026951 : Unit := ()
def PySem.W.Fast.tw15433421720963166398 : Unit := ()
def PySem.W.Fast.tw9481316621979248446 : Unit := ()
def PySem.W.Fast.tw16125426141571929017 : Unit := ()
def PySem.W.Fast.tw5638824729503409221 : Unit := ()
def PySem.W.Fast.tw16184332503346567503 : Unit := ()
def PySem.W.Fast.tw18125344129132927936 : Unit := ()
def PySem.W.Fast.tw6582156771955269054 : Unit := ()
def PySem.W.Fast.tw2354443218247160014 : Unit := ()
def PySem.W.Fast.tw8678872797045391659 : Unit := ()
def PySem.W.Fast.tw3846095266059533098 : Unit := ()
def PySem.W.Fast.tw11505377574208436354 : Unit := ()
def PySem.W.Fast.tw3876509538170508456 : Unit := ()
def PySem.W.Fast.tw4364680379265772482 : Unit := ()
def PySem.W.Fast.tw444362958686289111 : Unit := ()
def PySem.W.Fast.tw2971418688126976076 : Unit := ()
def PySem.W.Fast.tw12122459940640071866 : Unit := ()
def PySem.W.Fast.tw7656543268331296115 : Unit := ()
def PySem.W.Fast.tw12851547766998586549 : Unit := ()
def PySem.W.Fast.tw17781540687936921466 : Unit := ()
def PySem.W.Fast.tw14406413630656663803 : Unit := ()
def PySem.W.Fast.tw17820877070716867541 : Unit := ()
def PySem.W.Fast.tw17292416525635191557 : Unit := ()
def PySem.W.Fast.tw13075746657323691893 : Unit := ()
def PySem.W.Fast.tw16824089605528779937 : Unit := ()
def PySem.W.Fast.tw8150858185990845220 : Unit := ()
def PySem.W.Fast.tw13842023260069963538 : Unit := ()
def PySem.W.Fast.tw223678762182083203 : Unit := ()
def PySem.W.Fast.tw2783395873175125413 : Unit := ()
def PySem.W.Fast.tw14734609868873503562 : Unit := ()
def PySem.W.Fast.tw6124588391049088168 : Unit := ()
def PySem.W.Fast.tw14041489296397535771 : Unit := ()
def PySem.W.Fast.tw10339838483055237446 : Unit := ()
def PySem.W.Fast.tw10455511117531199168 : Unit := ()
def PySem.W.Fast.tw5319495339415358501 : Unit := ()
def PySem.W.Fast.tw18309492566830732953 : Unit := ()
def PySem.W.Fast.tw3452601855022525545 : Unit := ()
def PySem.W.Fast.tw4668926348050680732 : Unit := ()
def PySem.W.Fast.tw1169261940833934589 : Unit := ()
def PySem.W.Fast.tw4203688233330313483 : Unit := ()
def PySem.W.Fast.tw6852711002317257286 : Unit := ()
def PySem.W.Fast.tw13272433368788499300 : Unit := ()
def PySem.W.Fast.tw6415070772853505827 : Unit := ()
def PySem.W.Fast.tw11297309069944810403 : Unit := ()
def PySem.W.Fast.tw124171104221291004 : Unit := ()
def PySem.W.Fast.tw9967144993693385893 : Unit := ()
def PySem.W.Fast.tw17379161831827928081 : Unit := ()
def PySem.W.Fast.tw8594266198047815959 : Unit := ()
def PySem.W.Fast.tw8406312566644778398 : Unit := ()
def PySem.W.Fast.tw8679394337012854708 : Unit := ()
def PySem.W.Fast.tw13075682791027541296 : Unit := ()
def PySem.W.Fast.tw4788905226343451419 : Unit := ()
def PySem.W.Fast.tw11435892602204879083 : Unit := ()
def PySem.W.Fast.tw13760056073566482010 : Unit := ()
def PySem.W.Fast.tw15679567026627402117 : Unit := ()
def PySem.W.Fast.tw6262583688596769539 : Unit := ()
def PySem.W.Fast.tw4344427519926793749 : Unit := ()
def PySem.W.Fast.tw2789681475424886995 : Unit := ()
def PySem.W.Fast.tw6154124395425257601 : Unit := ()
def PySem.W.Fast.tw7122753503616291261 : Unit := ()
def PySem.W.Fast.tw1926183228775558928 : Unit := ()
def PySem.W.Fast.tw11709497853355000610 : Unit := ()
def PySem.W.Fast.tw13204448187250612924 : Unit := ()
def PySem.W.Fast.tw2853622245424558947 : Unit := ()
def PySem.W.Fast.tw12651086017458685388 : Unit := ()
def PySem.W.Fast.tw4821063471543283696 : Unit := ()
def PySem.W.Fast.tw5888083118978220752 : Unit := ()
def PySem.W.Fast.tw1242592826140661102 : Unit := ()
def PySem.W.Fast.tw18384098067384760613 : Unit := ()
def PySem.W.Fast.tw14316008632972761456 : Unit := ()
open PySem PySem.W PyProof.Rows
set_option maxRecDepth 100000 in
set_option maxHeartbeats 0 in
theorem PySem.Challenge.cw_noughtways_k07_tables_refused_holds : PySem.Challenge.rw_noughtways_k07_tables_refused.Holds := by
  w_on; o_law; k_head; (case hw => w_witness2)
  k_fill
  refine L2.walk_ofK (l := PySem.Challenge.rw_noughtways_k07_tables_refused) (n := 63) (k := 9) (x := "_law_script") (CX := L2.CX0) (sp := My.sp_law) rfl (by decide) rfl ⟨rfl, by decide, by decide, rfl⟩ (fun w h Y => PySem.W.kIn_of Y) ?F ?S ?C
  case F =>
    intro w mg fa h KX G hmg
    have d1 : L2.Dfn (L2.KOf KX) mg "is_whole" My.s_is_whole := by
      dsimp only [L2.KOf]
      refine' My.dfn_mk KX G ?a ?l ?c ?k
      (case a => k_is); (case l => k_is); (case c => k_is); (case k => k_is)
    have d2 : L2.Dfn (L2.KOf KX) mg "is_row" My.s_is_row := by
      dsimp only [L2.KOf]
      refine' My.dfn_mk KX G ?a ?l ?c ?k
      (case a => k_is); (case l => k_is); (case c => k_is); (case k => k_is)
    have d3 : L2.Dfn (L2.KOf KX) mg "is_grid" My.s_is_grid := by
      dsimp only [L2.KOf]
      refine' My.dfn_mk KX G ?a ?l ?c ?k
      (case a => k_is); (case l => k_is); (case c => k_is); (case k => k_is)
    have d4 : L2.Dfn (L2.KOf KX) mg "numbers_of" My.s_numbers_of := by
      dsimp only [L2.KOf]
      refine' My.dfn_mk KX G ?a ?l ?c ?k
      (case a => k_is); (case l => k_is); (case c => k_is); (case k => k_is)
    have d5 : L2.Dfn (L2.KOf KX) mg "is_bounded" My.s_is_bounded := by
      dsimp only [L2.KOf]
      refine' My.dfn_mk KX G ?a ?l ?c ?k
      (case a => k_is); (case l => k_is); (case c => k_is); (case k => k_is)
    have d6 : L2.Dfn (L2.KOf KX) mg "wrong_at" My.s_wrong_at := by
      dsimp only [L2.KOf]
      refine' My.dfn_mk KX G ?a ?l ?c ?k
      (case a => k_is); (case l => k_is); (case c => k_is); (case k => k_is)
    have d7 : L2.Dfn (L2.KOf KX) mg "is_place" My.s_is_place := by
      dsimp only [L2.KOf]
      refine' My.dfn_mk KX G ?a ?l ?c ?k
      (case a => k_is); (case l => k_is); (case c => k_is); (case k => k_is)
    have d8 : L2.Dfn (L2.KOf KX) mg "are_places" My.s_are_places := by
      dsimp only [L2.KOf]
      refine' My.dfn_mk KX G ?a ?l ?c ?k
      (case a => k_is); (case l => k_is); (case c => k_is); (case k => k_is)
    have d9 : L2.Dfn (L2.KOf KX) mg "is_way" My.s_is_way := by
      dsimp only [L2.KOf]
      refine' My.dfn_mk KX G ?a ?l ?c ?k
      (case a => k_is); (case l => k_is); (case c => k_is); (case k => k_is)
    have d10 : L2.Dfn (L2.KOf KX) mg "need_table" My.s_need_table := by
      dsimp only [L2.KOf]
      refine' My.dfn_mk KX G ?a ?l ?c ?k
      (case a => k_is); (case l => k_is); (case c => k_is); (case k => k_is)
    have d11 : L2.Dfn (L2.KOf KX) mg "need_tables" My.s_need_tables := by
      dsimp only [L2.KOf]
      refine' My.dfn_mk KX G ?a ?l ?c ?k
      (case a => k_is); (case l => k_is); (case c => k_is); (case k => k_is)
    have d12 : L2.Dfn (L2.KOf KX) mg "need_way" My.s_need_way := by
      dsimp only [L2.KOf]
      refine' My.dfn_mk KX G ?a ?l ?c ?k
      (case a => k_is); (case l => k_is); (case c => k_is); (case k => k_is)
    have d13 : L2.Dfn (L2.KOf KX) mg "column_at" My.s_column_at := by
      dsimp only [L2.KOf]
      refine' My.dfn_mk KX G ?a ?l ?c ?k
      (case a => k_is); (case l => k_is); (case c => k_is); (case k => k_is)
    have d14 : L2.Dfn (L2.KOf KX) mg "columns_of" My.s_columns_of := by
      dsimp only [L2.KOf]
      refine' My.dfn_mk KX G ?a ?l ?c ?k
      (case a => k_is); (case l => k_is); (case c => k_is); (case k => k_is)
    have d15 : L2.Dfn (L2.KOf KX) mg "row_times_column" My.s_row_times_column := by
      dsimp only [L2.KOf]
      refine' My.dfn_mk KX G ?a ?l ?c ?k
      (case a => k_is); (case l => k_is); (case c => k_is); (case k => k_is)
    have d16 : L2.Dfn (L2.KOf KX) mg "row_times_columns" My.s_row_times_columns := by
      dsimp only [L2.KOf]
      refine' My.dfn_mk KX G ?a ?l ?c ?k
      (case a => k_is); (case l => k_is); (case c => k_is); (case k => k_is)
    have d17 : L2.Dfn (L2.KOf KX) mg "times" My.s_times := by
      dsimp only [L2.KOf]
      refine' My.dfn_mk KX G ?a ?l ?c ?k
      (case a => k_is); (case l => k_is); (case c => k_is); (case k => k_is)
    have d18 : L2.Dfn (L2.KOf KX) mg "along" My.s_along := by
      dsimp only [L2.KOf]
      refine' My.dfn_mk KX G ?a ?l ?c ?k
      (case a => k_is); (case l => k_is); (case c => k_is); (case k => k_is)
    have d19 : L2.Dfn (L2.KOf KX) mg "is_nought" My.s_is_nought := by
      dsimp only [L2.KOf]
      refine' My.dfn_mk KX G ?a ?l ?c ?k
      (case a => k_is); (case l => k_is); (case c => k_is); (case k => k_is)
    have d20 : L2.Dfn (L2.KOf KX) mg "turned" My.s_turned := by
      dsimp only [L2.KOf]
      refine' My.dfn_mk KX G ?a ?l ?c ?k
      (case a => k_is); (case l => k_is); (case c => k_is); (case k => k_is)
    have d21 : L2.Dfn (L2.KOf KX) mg "_law_cell" My.s_law_cell := by
      dsimp only [L2.KOf]
      refine' My.dfn_mk KX G ?a ?l ?c ?k
      (case a => k_is); (case l => k_is); (case c => k_is); (case k => k_is)
    have d22 : L2.Dfn (L2.KOf KX) mg "_law_pen" My.s_law_pen := by
      dsimp only [L2.KOf]
      refine' My.dfn_mk KX G ?a ?l ?c ?k
      (case a => k_is); (case l => k_is); (case c => k_is); (case k => k_is)
    have d23 : L2.Dfn (L2.KOf KX) mg "_law_draw" My.s_law_draw := by
      dsimp only [L2.KOf]
      refine' My.dfn_mk KX G ?a ?l ?c ?k
      (case a => k_is); (case l => k_is); (case c => k_is); (case k => k_is)
    have d24 : L2.Dfn (L2.KOf KX) mg "_law_whole" My.s_law_whole := by
      dsimp only [L2.KOf]
      refine' My.dfn_mk KX G ?a ?l ?c ?k
      (case a => k_is); (case l => k_is); (case c => k_is); (case k => k_is)
    have d25 : L2.Dfn (L2.KOf KX) mg "_law_odd" My.s_law_odd := by
      dsimp only [L2.KOf]
      refine' My.dfn_mk KX G ?a ?l ?c ?k
      (case a => k_is); (case l => k_is); (case c => k_is); (case k => k_is)
    have d26 : L2.Dfn (L2.KOf KX) mg "_law_kind" My.s_law_kind := by
      dsimp only [L2.KOf]
      refine' My.dfn_mk KX G ?a ?l ?c ?k
      (case a => k_is); (case l => k_is); (case c => k_is); (case k => k_is)
    have d27 : L2.Dfn (L2.KOf KX) mg "_law_table" My.s_law_table := by
      dsimp only [L2.KOf]
      refine' My.dfn_mk KX G ?a ?l ?c ?k
      (case a => k_is); (case l => k_is); (case c => k_is); (case k => k_is)
    have d28 : L2.Dfn (L2.KOf KX) mg "_law_tables" My.s_law_tables := by
      dsimp only [L2.KOf]
      refine' My.dfn_mk KX G ?a ?l ?c ?k
      (case a => k_is); (case l => k_is); (case c => k_is); (case k => k_is)
    have d29 : L2.Dfn (L2.KOf KX) mg "_law_bent" My.s_law_bent := by
      dsimp only [L2.KOf]
      refine' My.dfn_mk KX G ?a ?l ?c ?k
      (case a => k_is); (case l => k_is); (case c => k_is); (case k => k_is)
    have d30 : L2.Dfn (L2.KOf KX) mg "_law_bent_list" My.s_law_bent_list := by
      dsimp only [L2.KOf]
      refine' My.dfn_mk KX G ?a ?l ?c ?k
      (case a => k_is); (case l => k_is); (case c => k_is); (case k => k_is)
    have d31 : L2.Dfn (L2.KOf KX) mg "_law_is_square" My.s_law_is_square := by
      dsimp only [L2.KOf]
      refine' My.dfn_mk KX G ?a ?l ?c ?k
      (case a => k_is); (case l => k_is); (case c => k_is); (case k => k_is)
    have d32 : L2.Dfn (L2.KOf KX) mg "_law_wrong_list" My.s_law_wrong_list := by
      dsimp only [L2.KOf]
      refine' My.dfn_mk KX G ?a ?l ?c ?k
      (case a => k_is); (case l => k_is); (case c => k_is); (case k => k_is)
    have d33 : L2.Dfn (L2.KOf KX) mg "_law_said" My.s_law_said := by
      dsimp only [L2.KOf]
      refine' My.dfn_mk KX G ?a ?l ?c ?k
      (case a => k_is); (case l => k_is); (case c => k_is); (case k => k_is)
    have d34 : L2.Dfn (L2.KOf KX) mg "_law_one" My.s_law_one := by
      dsimp only [L2.KOf]
      refine' My.dfn_mk KX G ?a ?l ?c ?k
      (case a => k_is); (case l => k_is); (case c => k_is); (case k => k_is)
    have d35 : L2.Dfn (L2.KOf KX) mg "_law_table_right" My.s_law_table_right := by
      dsimp only [L2.KOf]
      refine' My.dfn_mk KX G ?a ?l ?c ?k
      (case a => k_is); (case l => k_is); (case c => k_is); (case k => k_is)
    have d36 : L2.Dfn (L2.KOf KX) mg "law" My.s_law := by
      dsimp only [L2.KOf]
      refine' My.dfn_mk KX G ?a ?l ?c ?k
      (case a => k_is); (case l => k_is); (case c => k_is); (case k => k_is)
    have z0 : mg "isinstance" = none := by
      have q : PySem.W.nsIn (L2.KOf KX) mainGlobals "isinstance" = some none := by
        dsimp only [L2.KOf]
        k_is
      exact PySem.W.mg_none_of KX G q
    have z1 : mg "len" = none := by
      have q : PySem.W.nsIn (L2.KOf KX) mainGlobals "len" = some none := by
        dsimp only [L2.KOf]
        k_is
      exact PySem.W.mg_none_of KX G q
    have z2 : mg "all" = none := by
      have q : PySem.W.nsIn (L2.KOf KX) mainGlobals "all" = some none := by
        dsimp only [L2.KOf]
        k_is
      exact PySem.W.mg_none_of KX G q
    have z3 : mg "any" = none := by
      have q : PySem.W.nsIn (L2.KOf KX) mainGlobals "any" = some none := by
        dsimp only [L2.KOf]
        k_is
      exact PySem.W.mg_none_of KX G q
    have z4 : mg "enumerate" = none := by
      have q : PySem.W.nsIn (L2.KOf KX) mainGlobals "enumerate" = some none := by
        dsimp only [L2.KOf]
        k_is
      exact PySem.W.mg_none_of KX G q
    have z5 : mg "abs" = none := by
      have q : PySem.W.nsIn (L2.KOf KX) mainGlobals "abs" = some none := by
        dsimp only [L2.KOf]
        k_is
      exact PySem.W.mg_none_of KX G q
    have z6 : mg "sum" = none := by
      have q : PySem.W.nsIn (L2.KOf KX) mainGlobals "sum" = some none := by
        dsimp only [L2.KOf]
        k_is
      exact PySem.W.mg_none_of KX G q
    have z7 : mg "max" = none := by
      have q : PySem.W.nsIn (L2.KOf KX) mainGlobals "max" = some none := by
        dsimp only [L2.KOf]
        k_is
      exact PySem.W.mg_none_of KX G q
    have z8 : mg "divmod" = none := by
      have q : PySem.W.nsIn (L2.KOf KX) mainGlobals "divmod" = some none := by
        dsimp only [L2.KOf]
        k_is
      exact PySem.W.mg_none_of KX G q
    have z9 : mg "int" = none := by
      have q : PySem.W.nsIn (L2.KOf KX) mainGlobals "int" = some none := by
        dsimp only [L2.KOf]
        k_is
      exact PySem.W.mg_none_of KX G q
    have z10 : mg "bool" = none := by
      have q : PySem.W.nsIn (L2.KOf KX) mainGlobals "bool" = some none := by
        dsimp only [L2.KOf]
        k_is
      exact PySem.W.mg_none_of KX G q
    have z11 : mg "tuple" = none := by
      have q : PySem.W.nsIn (L2.KOf KX) mainGlobals "tuple" = some none := by
        dsimp only [L2.KOf]
        k_is
      exact PySem.W.mg_none_of KX G q
    have z12 : mg "list" = none := by
      have q : PySem.W.nsIn (L2.KOf KX) mainGlobals "list" = some none := by
        dsimp only [L2.KOf]
        k_is
      exact PySem.W.mg_none_of KX G q
    have z13 : mg "range" = none := by
      have q : PySem.W.nsIn (L2.KOf KX) mainGlobals "range" = some none := by
        dsimp only [L2.KOf]
        k_is
      exact PySem.W.mg_none_of KX G q
    have z14 : mg "ValueError" = none := by
      have q : PySem.W.nsIn (L2.KOf KX) mainGlobals "ValueError" = some none := by
        dsimp only [L2.KOf]
        k_is
      exact PySem.W.mg_none_of KX G q
    have z15 : ∃ u, mg "MOST_ROWS" = some u ∧ L2.RelV (L2.V.int 4) u := by
      refine' My.int_mk (K := L2.KOf KX) KX G ?a
      (case a => (try dsimp only [L2.KOf]); k_is)
    have z16 : ∃ u, mg "MOST_TABLES" = some u ∧ L2.RelV (L2.V.int 4) u := by
      refine' My.int_mk (K := L2.KOf KX) KX G ?a
      (case a => (try dsimp only [L2.KOf]); k_is)
    have z17 : ∃ u, mg "MOST_PLACES" = some u ∧ L2.RelV (L2.V.int 200) u := by
      refine' My.int_mk (K := L2.KOf KX) KX G ?a
      (case a => (try dsimp only [L2.KOf]); k_is)
    have z18 : L2.Exs (L2.KOf KX) mg := by
      dsimp only [L2.KOf]
      refine' L2.exs_mk KX G ?e0 ?e1 ?e2 ?e3 ?e4 ?e5 ?e6 ?e7 ?e8 ?e9 ?e10 ?ok
      (case e0 => k_is); (case e1 => k_is); (case e2 => k_is); (case e3 => k_is); (case e4 => k_is); (case e5 => k_is); (case e6 => k_is); (case e7 => k_is); (case e8 => k_is); (case e9 => k_is); (case e10 => k_is)
      (case ok => kernel_rfl)
    have z19 : L2.Ini (L2.KOf KX) (L2.cad mg "NoughtError") (L2.cad mg "NoTables") := by
      dsimp only [L2.KOf]
      refine' L2.ini_mk (st := My.s_NoTables_init) (x := "NoTables") KX G ?e0 ?e1 ?lc ?fi ?l ?c ?k My.sc_NoTables_init (by rfl) (by rfl) My.bd_NoTables_init (by rfl) ?ok
      (case e0 => k_is); (case e1 => k_is); (case lc => k_is); (case fi => (dsimp only; k_is)); (case l => k_is); (case c => k_is); (case k => k_is)
      (case ok => kernel_rfl)
    have tx : My.Txt (L2.KOf KX) mg := ⟨z0, z1, z2, z3, z4, z5, z6, z7, z8, z9, z10, z11, z12, z13, z14, z15, z16, z17, z18, z19⟩
    exact My.all_ok hmg tx d1 d2 d3 d4 d5 d6 d7 d8 d9 d10 d11 d12 d13 d14 d15 d16 d17 d18 d19 d20 d21 d22 d23 d24 d25 d26 d27 d28 d29 d30 d31 d32 d33 d34 d35 d36
  case S => exact fun K H a ns hl _ hS => ⟨a, ns, rfl, hS, hl, fun _ => rfl⟩
  case C => exact fun _ _ _ _ z => z
