import PyProof.Rows.All
import Wide.All
import OpenK.AllK
import Wide.FinOn
import PyProof.DictFindH
import PyProof.DictRoadsH
import Lean
import PyProof.EqAt
import PyProof.EqKinds
import PyProof.TupleCall
import KE.KStateDown
import PyProof.NeKinds
import PyProof.ListRange
import PyProof.TupleOfSeq
import KE.KSortTup
import PyProof.TupleKey
import PyProof.Rows.SetFrom
import PyProof.SetRoads
import KE.KDictList
import KE.KDictOf
import PyProof.AttrMiss
import PyProof.IsiH_list
import PyProof.AutoListH
import PySem.Challenge.RW_noughtways_k05_ranks_and_determinants
set_option Elab.async false
set_option linter.all false
set_option maxRecDepth 100000
set_option compiler.extract_closed false
open List (all_cons all_eq_true all_map all_nil any_cons any_eq_false append_assoc append_nil filter_cons foldl_cons forIn_nil getD_eq_getElem?_getD getElem?_append_right getElem?_cons_succ getElem?_cons_zero getElem?_eq_getElem getElem?_eq_none getElem?_map getElem?_replicate getElem?_set_ne getElem?_set_self getElem_mem length_append length_cons length_drop length_map length_nil length_range length_replicate length_set length_singleton length_take map_append map_congr_left map_cons map_drop map_map map_nil map_take mem_append mem_append_left mem_append_right mem_cons mem_cons_of_mem mem_cons_self mem_filter mem_map mem_of_getElem? mem_of_mem_drop mem_of_mem_take mem_range mem_singleton nodup_cons not_mem_nil replicate_succ reverse_cons set_set size_toArray)
noncomputable section
abbrev Fz:=PySem.W.Frag
abbrev Fy:=PySem.Shared
abbrev Fx:=PySem.Value
abbrev Fw:=PySem.Addr
abbrev Fv:=PySem.Around
abbrev Fu:=PySem.Program
abbrev Ft:=PySem.World
abbrev Fs:=PySem.Stmt
abbrev Fr:=PySem.Expr
abbrev Fq:=PySem.Heap
def Za:=@PySem.wpAny_bind
def Zb:=@PySem.Heap.get?_push_of_some
def Zc:=@List.getElem?_eq_getElem
def Zd:=@List.length_map
def Ze:=@List.length_cons
def Zf:=@if_pos
def Zg:=@if_neg
def Zh:=@List.getD_eq_getElem?_getD
def Zi:=@PySem.wpAny_pure
def Zj:=@PySem.Heap.lt_size
def Zk:=@Nat.le_refl
def Zl:=@if_true
def Zm:=@Bool.false_ne_true
def Zn:=@PySem.Heap.get?_push_size
def Zo:=@List.length_append
def Zp:=@List.length_nil
def Zq:=@List.getElem?_cons_succ
def Zr:=@Option.some.inj
def Zs:=@Nat.lt_of_lt_of_le
def Zt:=@Bool.and_eq_true
def Zu:=@List.size_toArray
def Zv:=@List.mem_singleton
def Zw:=@Nat.ne_of_lt
def Zx:=@decide_eq_false
def Zy:=@Bool.and_true
def Zz:=@List.mem_append_right
def Z0:=@PyProof.Rows.slot_tuple_getitem
def Z1:=@List.mem_of_getElem?
def Z2:=@PySem.mem_of_lookup
def Z3:=@Bool.not_true
def Z4:=@List.length_singleton
def Z5:=@List.mem_cons_of_mem
def Z6:=@List.map_cons
def Z7:=@List.mem_map
def Z8:=@Bool.not_false
def Z9:=@List.mem_cons
def Zaa:=@PySem.wpAny_field
def Zab:=@List.getElem?_map
def Zac:=@PySem.wpAny_newObj_type
def Zad:=@List.mem_append
def Zae:=@Classical.byContradiction
def Zaf:=@List.getElem?_cons_zero
def Zag:=@List.length_replicate
def Zah:=@List.all_eq_true
def Zai:=@PySem.wpAny_callSpecial?_slot
def Zaj:=@List.mem_cons_self
def Zak:=@Nat.zero_add
def Zal:=@List.all_cons
def Zam:=@PySem.W.kia_one
def Zan:=@decide_true
def Zao:=@Nat.le_trans
def Zap:=@decide_false
def Zaq:=@PyProof.Rows.callWith_type1
def Zar:=@PySem.F.plainAttrs_list
def Zas:=@Nat.lt_irrefl
def Zat:=@PySem.W.mg_of
def Zau:=@PySem.Heap.get?_update_other
def Zav:=@decide_eq_true_eq
def Zaw:=@PySem.Heap.size_push
def Zax:=@List.mem_append_left
def Zay:=@PySem.wpAny_pyIter_tuple
def Zaz:=@List.not_mem_nil
def Za0:=@if_false
def Za1:=@PySem.wpAny_mono
def Za2:=@List.replicate_succ
def Za3:=@PySem.W.cellsFrom_some
def Za4:=@List.length_take
def Za5:=@List.getElem?_append_right
def Za6:=@List.append_nil
def Za7:=@PySem.wpAny_call_entry
def Za8:=@PySem.AutoSeq1.wpAny_loadPart'
def Za9:=@Option.isSome_iff_exists
def Zba:=@PySem.F.slot_list_append
def Zbb:=@PySem.F.type_list_append
def Zbc:=@List.length_drop
def Zbd:=@PySem.call_meets
def Zbe:=@List.mem_of_mem_take
def Zbf:=@Array.length_toList
def Zbg:=@List.getElem?_eq_none
def Zbh:=@decide_eq_true
def Zbi:=@PySem.wpAny_seqItems
def Zbj:=@List.getElem?_replicate
def Zbk:=@PySem.wpAny_setField_rec
def Zbl:=@PySem.Heap.get?_update_self
def Zbm:=@PySem.wpAny_passesOwn
def Zbn:=@List.mem_of_mem_drop
def Zbo:=@PySem.sizeLine_eq
def Zbp:=@List.getElem?_set_self
def Zbq:=@PySem.wpAny_truthy_bool
def Zbr:=@Nat.lt_succ_of_lt
def Zbs:=@PySem.wpAny_pyIter_list
def Zbt:=@PySem.wpAny_holding
def Zbu:=@or_false
def Zbv:=@Bool.false_and
def Zbw:=@List.map_congr_left
def Zbx:=@Option.getD_some
def Zby:=@List.length_set
def Zbz:=@Nat.mul_comm
def Zb0:=@List.length_range
def Zb1:=@PySem.wpAny_Call_Name_kw
def Zb2:=@Bool.false_eq_true
def Zb3:=@PySem.Obj.data_mapFields
def Zb4:=@PySem.codeAny_compStart_list
def Zb5:=@Bool.or_eq_true
def Zb6:=@PySem.Obj.isFreed_of_fields
def Zb7:=@Nat.zero_le
def Zb8:=@List.map_map
def Zb9:=@List.mem_range
def Zca:=@PySem.F.args_tuple_add_2
def Zcb:=@List.getElem?_set_ne
def Zcc:=@PySem.wpAny_execs_nil
def Zcd:=@Bool.eq_iff_iff
def Zce:=@PySem.F.entry_tuple_add
def Zcf:=@Ne.symm
def Zcg:=@Nat.ne_of_gt
def Zch:=@PySem.wpAny_setField
def Zci:=@PySem.wpAny_pyIter_enum
def Zcj:=@PySem.F.slot_tuple_add
def Zck:=@List.map_append
def Zcl:=@PySem.wpAny_onRaise
def Zcm:=@PySem.wpAny_attempt
def Zcn:=@Bool.true_and
def Zco:=@List.getElem_mem
def Zcp:=@PySem.Heap.get?_push_cases
def Zcq:=@PySem.wpAny_updateSeq_pair
def Zcr:=@PySem.pushCells_keeps
def Zcs:=@PyProof.Rows.entry_tuple_getitem
def Zct:=@Nat.mul_le_mul_left
def Zcu:=@List.all_nil
def Zcv:=@Nat.le_of_lt
def Zcw:=@PySem.codeAny_mono
def Zcx:=@List.nodup_cons
def Zcy:=@PyProof.Rows.assignInOrder_cons
def Zcz:=@PySem.W.callWith_K
def Zc0:=@PyProof.Rows.args_tuple_getitem
def Zc1:=@Option.toList_none
def Zc2:=@PySem.Calls.Name_function_global
def Zc3:=@PySem.wpAny_newFunctionEnv_cells
def Zc4:=@PySem.wpAny_letOwnedTupleGo_enum
def Zc5:=@PySem.wpAny_binaryOp_repeat_ref
def Zc6:=@PySem.wpAny_sequenceKey
def Zc7:=@Nat.le_of_succ_le
def Zc8:=@PySem.wpAny_standAt
def Zc9:=@PySem.wpAny_comprehension_free
def Zda:=@PyProof.noPylong_of_log2
def Zdb:=@PySem.noFill_tuple_add
def Zdc:=@Nat.lt_succ_self
def Zdd:=@Nat.mul_lt_mul''
def Zde:=@List.map_nil
def Zdf:=@List.mem_filter
def Zdg:=@PySem.wpAny_rule
def Zdh:=@PySem.typeIs_int
def Zdi:=@beq_iff_eq
def Zdj:=@List.any_eq_false
def Zdk:=@PySem.wpAny_typeOf
def Zdl:=@List.reverse_cons
def Zdm:=@List.append_assoc
def Zdn:=@Nat.lt_trans
def Zdo:=@Nat.min_self
def Zdp:=@Nat.lt_or_ge
def Zdq:=@PySem.wpAny_pyNext_range_end
def Zdr:=@PySem.wpAny_pyIter_rangeiter
def Zds:=@PyProof.Rows.subscriptTail_builtinR
def Zdt:=@PySem.wpAny_isSame_ref_other
def Zdu:=@PySem.PassesOwn.never
def Zdv:=@Nat.not_lt_zero
def Zdw:=@PySem.wpAny_isTrue_Compare1
def Zdx:=@PySem.codeAny_call_function
def Zdy:=@Nat.le_of_ble_eq_true
def Zdz:=@List.any_cons
def Zd0:=@and_self
def Zd1:=@List.filter_cons
def Zd2:=@PySem.wpAny_bindName
def Zd3:=@Bool.and_false
def Zd4:=@PySem.isSubtype_type
def Zd5:=@PySem.seq_tuple_add
def Zd6:=@PyProof.Rows.tupleItemsOf_
def Zd7:=@PySem.evalPart_none
def Zd8:=@PySem.wpAny_call
def Zd9:=@List.foldl_cons
def Zea:=@PySem.concat_meets
def Zeb:=@Nat.le_of_eq
def Zec:=@Nat.pow_succ
def Zed:=@List.forIn_nil
def Zee:=@PySem.SeqAt.EqAt.same
theorem Zef {p:Prop}(h:False):p:=h.elim
namespace L2
open PySem
section
variable {prog:Fu} {w:Ft} {K:Type} [DecidableEq K] {knd:HeapKind prog w K} {A:Fv} {E:Fx→Fy→Prop} {s:Fy}
end
open PySem PySem.Spec PyProof.Rows
abbrev Key:=Sum Int Str
def Qnq:Key→Fx→Bool
 | .inl k,v=>Value.isInt k v
 | .inr x,v=>Value.isStrOf x v
def keyH (w:Ft):Key→Int
 | .inl k=>hashInt k
 | .inr x=>hashStr w x
theorem Qbq:∀ {k:Key} {v:Fx},Qnq k v=true→(∃ i t,k=Sum.inl i∧v=Value.int i t)∨(∃ x t,k=Sum.inr x∧v=Value.str x t)
 | .inl i,v,h=>by
  obtain ⟨t,e⟩:=Value.isInt_shape (k:=i) (v:=v) h
  exact .inl ⟨i,t,rfl,e⟩
 | .inr x,v,h=>by
  obtain ⟨t,e⟩:=Value.isStrOf_shape (x:=x) (v:=v) h
  exact .inr ⟨x,t,rfl,e⟩
theorem Qvc (i:Int) (t:Tok):Qnq (.inl i) (.int i t)=true:=by simp [Qnq,Value.isInt]
theorem Qvd (x:Str) (t:Tok):Qnq (.inr x) (.str x t)=true:=by simp [Qnq,Value.isStrOf]
theorem Q5u (a b:Int):decide ((Sum.inl a:Key)=Sum.inl b)=(a==b):=by
 by_cases e:a=b
 ·subst e;simp
 ·have h:¬ (Sum.inl a:Key)=Sum.inl b:=fun q=>e (Sum.inl.inj q)
  rw [Zx h]
  exact (beq_eq_false_iff_ne.mpr e).symm
theorem Q5v (a b:Str):decide ((Sum.inr a:Key)=Sum.inr b)=decide (a=b):=by
 by_cases e:a=b
 ·subst e;simp
 ·have h:¬ (Sum.inr a:Key)=Sum.inr b:=fun q=>e (Sum.inr.inj q)
  rw [Zx h,Zx e]
theorem Q5w (a:Int) (b:Str):decide ((Sum.inl a:Key)=Sum.inr b)=false:=Zx (fun q=>nomatch q)
theorem Q5x (a:Str) (b:Int):decide ((Sum.inr a:Key)=Sum.inl b)=false:=Zx (fun q=>nomatch q)
noncomputable def Qdy (prog:Fu) (w:Ft):PySem.KeyKind prog w Key where
 is:=Qnq
 hash:=keyH w
 inj:=fun v a b ha hb=>by
  rcases Qbq ha with ⟨i,t,rfl,rfl⟩ | ⟨x,t,rfl,rfl⟩
  ·rcases Qbq hb with ⟨j,u,rfl,e⟩ | ⟨y,u,rfl,e⟩
   ·injection e with e1 _;rw [e1]
   ·exact nomatch e
  ·rcases Qbq hb with ⟨j,u,rfl,e⟩ | ⟨y,u,rfl,e⟩
   ·exact nomatch e
   ·injection e with e1 _;rw [e1]
 byValue:=fun k v h=>by
  rcases Qbq h with ⟨i,t,rfl,rfl⟩ | ⟨x,t,rfl,rfl⟩ <;> rfl
 pyHash:=fun hv h=>by
  rcases Qbq hv with ⟨i,t,rfl,rfl⟩ | ⟨x,t,rfl,rfl⟩
  ·exact wpAny_pyHash_int h
  ·exact wpAny_pyHash_str h
 eqBool:=fun hu hv h=>by
  rcases Qbq hu with ⟨i,t,rfl,rfl⟩ | ⟨x,t,rfl,rfl⟩
  ·rcases Qbq hv with ⟨j,u,rfl,rfl⟩ | ⟨y,u,rfl,rfl⟩
   ·rw [Q5u] at h;exact wpAny_eqBool_int h
   ·rw [Q5w] at h;exact SeqAt.EqAt.int_str i t y u _ _ _ _ h
  ·rcases Qbq hv with ⟨j,u,rfl,rfl⟩ | ⟨y,u,rfl,rfl⟩
   ·rw [Q5x] at h;exact SeqAt.EqAt.str_int x t j u _ _ _ _ h
   ·rw [Q5v] at h;exact wpAny_eqBool_str h
 «strs»:=fun k x t v h=>by
  rcases Qbq h with ⟨i,u,rfl,e⟩ | ⟨y,u,rfl,e⟩
  ·exact nomatch e
  ·injection e with e1 _
   subst e1
   cases v <;> rfl
theorem Qp5 (prog:Fu) (w:Ft) (i:Int) (t:Tok):(Qdy prog w).is (.inl i) (.int i t)=true:=Qvc i t
theorem Qp6 (prog:Fu) (w:Ft) (x:Str) (t:Tok):(Qdy prog w).is (.inr x) (.str x t)=true:=Qvd x t
inductive V where
 | non | bl (b:Bool) | int (i:Int) | str (x:Str) | byt (b:Array UInt8) | flt (b:UInt64) | ref (a:Fw) | ty (n:String)
 deriving DecidableEq
noncomputable def RelV:V→Fx→Prop
 | .non,u=>u=Value.none
 | .bl b,u=>u=Value.bool b
 | .int i,u=>∃ t,u=Value.int i t
 | .str x,u=>∃ t,u=Value.str x t
 | .byt b,u=>∃ t,u=Value.bytes b t
 | .flt b,u=>∃ t,u=Value.float b t
 | .ref a,u=>u=Value.ref a
 | .ty n,u=>u=Value.type n
abbrev Vals:List V→List Fx→Prop:=Paired RelV
theorem Vals.length {xs:List V} {us:List Fx} (r:Vals xs us):xs.length=us.length:=Paired.length r
theorem Vals.get:∀ {xs:List V} {us:List Fx} {i:Nat} {x:V},Vals xs us→xs[i]?=some x→∃ u,us[i]?=some u∧RelV x u
 | _,_,_,_,.nil,e=>by simp at e
 | _,_,0,_,.cons r _,e=>by simp at e;subst e;exact ⟨_,rfl,r⟩
 | _,_,i+1,x,.cons _ t,e=>by
  obtain ⟨u,h1,h2⟩:=Vals.get (i:=i) (x:=x) t (by simpa using e)
  exact ⟨u,by simpa using h1,h2⟩
theorem Vals.set {x:V} {u:Fx} (r:RelV x u):∀ {xs:List V} {us:List Fx} (i:Nat),Vals xs us→Vals (xs.set i x) (us.set i u)
 | _,_,_,.nil=>.nil
 | _,_,0,.cons _ t=>.cons r t
 | _,_,i+1,.cons q t=>.cons q (Vals.set r i t)
theorem Vals.append:∀ {xs ys:List V} {us ws:List Fx},Vals xs us→Vals ys ws→Vals (xs++ys) (us++ws)
 | _,_,_,_,.nil,s=>s
 | _,_,_,_,.cons r t,s=>.cons r (Vals.append t s)
theorem Vals.take:∀ {xs:List V} {us:List Fx} (n:Nat),Vals xs us→Vals (xs.take n) (us.take n)
 | _,_,0,_=>.nil
 | _,_,_+1,.nil=>.nil
 | _,_,n+1,.cons r t=>.cons r (Vals.take n t)
theorem Vals.drop:∀ {xs:List V} {us:List Fx} (n:Nat),Vals xs us→Vals (xs.drop n) (us.drop n)
 | _,_,0,r=>r
 | _,_,_+1,.nil=>.nil
 | _,_,n+1,.cons _ t=>Vals.drop n t
noncomputable def RelO:Option V→Option Fx→Prop
 | some v,some u=>RelV v u
 | none,none=>True
 | _,_=>False
noncomputable def KV {κ:Type}:List (κ×V)→List (κ×Fx)→Prop:=Paired fun (p:κ×V) (q:κ×Fx)=>p.1=q.1∧RelV p.2 q.2
def kV:Key→V
 | .inl i=>.int i
 | .inr x=>.str x
inductive HO where
  | lst (xs:List V)
  | tup (xs:List V)
  | dK (ag:List (Key×V)) | dT (ag:List (List Key×V))
  | set (S:Int→Bool) (n:Nat)
  | ins (C dx:Fw) (fs:List (Str×V))
  | own (x:Fw)
  | xd (fs:List (Str×V))
  | met (f x:Fw)
  | rng (lo hi:Int)
  | frz (o:Obj) (u:HO)
  | tbl (q:Str)
 | cod (q:Str)
  | ext (φ:Fq→Prop)
abbrev Hp:=Fw→Option HO
def upd (H:Hp) (a:Fw) (o:HO):Hp:=fun b=>if b=a then some o else H b
theorem Qn {H:Hp} {a:Fw} {o:HO}:upd H a o a=some o:=by unfold upd;rw [Zf rfl]
theorem Q7 {H:Hp} {a b:Fw} {o:HO} (h:b≠a):upd H a o b=H b:=by unfold upd;rw [Zg h]
theorem Qbk {H:Hp} {a b:Fw} {o:HO} (h:H a=some o) (h':H b=none):a≠b:=by
 intro e;subst e;rw [h] at h';cases h'
noncomputable def IsTupD (h:Fq) (a:Fw) (ac:Array Fx):Prop:=∃ o,h.get? a=some o∧o.cls=.type "tuple" ∧ ∃ n,o.data=.seq ac n∧o.dict=none
theorem IsTupD.tup {h:Fq} {a:Fw} {ac:Array Fx} (x:IsTupD h a ac):IsTup h a ac:=let ⟨o,e,c,n,d,_⟩:=x;⟨o,e,c,n,d⟩
theorem IsTupD.new (h:Fq) (ac:Array Fx):IsTupD (h.push { cls:=.type "tuple",data:=.seq ac }) h.objs.size ac:=⟨_,Zn _ rfl,rfl,_,rfl,rfl⟩
section
variable (P:Fu) (w:Ft)
noncomputable def ObjOk (H:Hp) (h:Fq) (a:Fw):HO→Prop
 | .lst xs=>xs.length≤sizeLine∧∃ (ac:List Fx) (n:Nat),Vals xs ac∧h.get? a=some { cls:=.type "list",data:=.seq ac.toArray n }
 | .tup xs=>xs.length≤sizeLine∧∃ ac:List Fx,Vals xs ac∧IsTupD h a ac.toArray
 | .dK ag=>ag.length≤sizeLine∧(a==sysModules)=false∧∃ vs,KV ag vs∧h.DictOf (Qdy P w) a vs
 | .dT ag=>ag.length≤sizeLine∧(a==sysModules)=false∧∃ xs:List (List Key×Fw×Fx),
   Paired (fun (p:List Key×V) (q:List Key×Fw×Fx)=>p.1=q.1∧H q.2.1=some (.tup (p.1.map kV))∧RelV p.2 q.2.2) ag xs ∧
   ∃ o es ep,h.get? a=some o∧o.ExactDict∧o.data=.dict es ep∧es.toList=xs.map (entryOfKey (tupleKind (Qdy P w)))∧(xs.map (·.1)).Nodup∧ep=es.size
 | .set S n=>h.SetOf (intKind P w) a S n
 | .ins C dx fs=>H dx=some (.own a)∧fs.length≤1000∧dx≠a∧h.get? a=some (PySem.W.instObj C dx) ∧
   ∃ mA,h.Ns1 dx mA∧(∀ f,RelO (fs.lookup f) (mA f))∧PySem.Within mA (fs.map (·.1))
 | .own _=>∃ o,h.get? a=some o
 | .xd fs=>∃ mA,h.Ns1 a mA∧∀ f,RelO (fs.lookup f) (mA f)
 | .rng lo hi=>∃ t u v,h.get? a=some { cls:=.type "range",data:=.fields #[.int lo t,.int hi u,.int 1 v] }
 | .frz o u=>h.get? a=some o∧ObjOk H h a u
 | .tbl q=>∃ ps:Array Fx,h.get? a=some { cls:=.none,data:=.fields ps }∧TriplesOk ps.toList∧∀ pos cv,codeAmong pos ps.toList=some cv→∃ c,cv=.ref c∧H c=some (.cod q)
 | .cod q=>h.CodeRec (.ref a) q
 | .met f x=>h.get? a=some (PySem.W.methodObj (.ref f) (.ref x))
 | .ext φ=>φ h∧(∃ o,h.get? a=some o)∧∀ h1 h2:Fq,φ h1→(∀ o,h1.get? a=some o→h2.get? a=some o)→φ h2
def HOk (H:Hp) (h:Fq):Prop:=∀ a o,H a=some o→ObjOk P w H h a o
end
section
variable {P:Fu} {w:Ft} {H H':Hp} {h h':Fq} {a:Fw} {o:HO}
theorem ObjOk.lt (x:ObjOk P w H h a o):a<h.objs.size:=by
 cases o with
 | lst xs=>obtain ⟨_,_,_,_,e⟩:=x;exact Zj e
 | tup xs=>obtain ⟨_,_,_,p⟩:=x;exact p.tup.lt
 | dK ag=>obtain ⟨_,_,_,_,o,_,_,e,_⟩:=x;exact Zj e
 | dT ag=>obtain ⟨_,_,_,_,o,_,_,e,_⟩:=x;exact Zj e
 | set S n=>obtain ⟨o,_,_,_,e,_⟩:=x;exact Zj e
 | ins C dx fs=>obtain ⟨_,_,_,e,_⟩:=x;exact Zj e
 | own y=>obtain ⟨_,e⟩:=x;exact Zj e
 | xd fs=>obtain ⟨_,⟨_,_,_,e,_⟩,_⟩:=x;exact Zj e
 | rng lo hi=>obtain ⟨_,_,_,e⟩:=x;exact Zj e
 | frz ob u=>obtain ⟨e,_⟩:=x;exact Zj e
 | tbl q=>obtain ⟨_,e,_⟩:=x;exact Zj e
 | cod q=>obtain ⟨_,_,_,_,e,e1,_⟩:=x;cases e;exact Zj e1
 | met f y=>exact Zj (show h.get? a=some _ from x)
 | ext φ=>obtain ⟨_,⟨_,e⟩,_⟩:=x;exact Zj e
theorem Paired.mapP {α β:Type} {F G:α→β→Prop}:∀ {l₁:List α} {l₂:List β},Paired F l₁ l₂→(∀ a b,F a b→G a b)→Paired G l₁ l₂
 | _,_,.nil,_=>.nil
 | _,_,.cons r t,f=>.cons (f _ _ r) (Paired.mapP t f)
theorem ObjOk.stay (x:ObjOk P w H h a o) (k:∀ b u,(b=a∨H b=some (.own a))→h.get? b=some u→h'.get? b=some u)
  (ho:∀ b,H b=some (.own a)→H' b=some (.own a)) (ht:∀ b xs,H b=some (.tup xs)→H' b=some (.tup xs)) (gB:∀ b q,H b=some (.cod q)→H' b=some (.cod q):=by exact fun _ _ q=>q):ObjOk P w H' h' a o:=by
 induction o with
 | lst xs=>obtain ⟨z,ac,n,r,e⟩:=x;exact ⟨z,ac,n,r,k _ _ (.inl rfl) e⟩
 | tup xs=>obtain ⟨z,ac,r,ob,e,c⟩:=x;exact ⟨z,ac,r,ob,k _ _ (.inl rfl) e,c⟩
 | dK ag=>obtain ⟨z,y,vs,r,ob,es,ep,e,c⟩:=x;exact ⟨z,y,vs,r,ob,es,ep,k _ _ (.inl rfl) e,c⟩
 | dT ag =>
  obtain ⟨z,y,xs,r,ob,es,ep,e,c⟩:=x
  exact ⟨z,y,xs,Paired.mapP r fun p q z=>⟨z.1,ht _ _ z.2.1,z.2.2⟩,ob,es,ep,k _ _ (.inl rfl) e,c⟩
 | set S n=>obtain ⟨ob,es,ep,t,e,c⟩:=x;exact ⟨ob,es,ep,t,k _ _ (.inl rfl) e,c⟩
 | ins C dx fs =>
  obtain ⟨d,z,ne,e,mA,⟨od,es,ep,e2,c⟩,r⟩:=x
  exact ⟨ho _ d,z,ne,k _ _ (.inl rfl) e,mA,⟨od,es,ep,k _ _ (.inr d) e2,c⟩,r⟩
 | own y=>obtain ⟨ob,e⟩:=x;exact ⟨ob,k _ _ (.inl rfl) e⟩
 | xd fs=>obtain ⟨mA,⟨od,es,ep,e,c⟩,r⟩:=x;exact ⟨mA,⟨od,es,ep,k _ _ (.inl rfl) e,c⟩,r⟩
 | rng lo hi=>obtain ⟨t,u,v,e⟩:=x;exact ⟨t,u,v,k _ _ (.inl rfl) e⟩
 | frz ob u ih=>obtain ⟨e,q⟩:=x;exact ⟨k _ _ (.inl rfl) e,ih q⟩
 | tbl q =>
  obtain ⟨ps,e,tr,al⟩:=x
  refine ⟨ps,k _ _ (.inl rfl) e,tr,fun pos cv hc=>?_⟩
  obtain ⟨c,ec,hH⟩:=al pos cv hc
  exact ⟨c,ec,gB _ _ hH⟩
 | cod q =>
  obtain ⟨c,o,vs,t,e,e1,r⟩:=x
  cases e
  exact ⟨_,o,vs,t,rfl,k _ _ (.inl rfl) e1,r⟩
 | met f y =>
  have e:h.get? a=some (PySem.W.methodObj (.ref f) (.ref y)):=x
  show h'.get? a=some (PySem.W.methodObj (.ref f) (.ref y))
  exact k a _ (.inl rfl) e
 | ext φ=>obtain ⟨p,⟨o,e⟩,st⟩:=x;exact ⟨st _ _ p fun o q=>k _ _ (.inl rfl) q,⟨o,k _ _ (.inl rfl) e⟩,st⟩
theorem HOk.lt (x:HOk P w H h) (e:H a=some o):a<h.objs.size:=(x a o e).lt
theorem HOk.fresh (x:HOk P w H h) (e:h.objs.size≤a):H a=none:=by
 cases q:H a with
 | none=>rfl
 | some u=>exact absurd (Zs (x.lt q) e) (Zas _)
theorem HOk.kept (x:HOk P w H h) (k:∀ b u,h.get? b=some u→h'.get? b=some u):HOk P w H h':=fun a o e =>
 (x a o e).stay (fun b u _ q=>k b u q) (fun _ q=>q) fun _ _ q=>q
theorem HOk.laid (x:HOk P w H h) (k:∀ b u,h.get? b=some u→h'.get? b=some u) (hp:h.objs.size≤a) (new:ObjOk P w (upd H a o) h' a o):HOk P w (upd H a o) h':=fun b u e=>by
 have hn:=x.fresh hp
 by_cases hb:b=a
 ·subst hb;rw [Qn] at e;cases e;exact new
 ·rw [Q7 hb] at e
  exact (x b u e).stay (fun c v _ q=>k c v q) (fun c q=>by rw [Q7 (Qbk q hn)];exact q) (fun c xs q=>by rw [Q7 (Qbk q hn)];exact q) fun c xs q=>by rw [Q7 (Qbk q hn)];exact q
end
def Rd (H:Hp) (a:Fw) (u:HO):Prop:=H a=some u∨∃ o,H a=some (.frz o u)
theorem Rd.ok {P:Fu} {w:Ft} {H:Hp} {h:Fq} {a:Fw} {u:HO} (r:Rd H a u) (x:HOk P w H h):ObjOk P w H h a u:=by
 rcases r with r | ⟨o,r⟩
 ·exact x a u r
 ·obtain ⟨_,q⟩:=x a _ r
  exact q
noncomputable def Mut:Option HO→Prop
 | some (.lst _)=>True
 | some (.dK _)=>True
 | some (.dT _)=>True
 | some (.set _ _)=>True
 | some (.ins _ _ _)=>True
 | some (.ext _)=>True
 | _=>False
section
variable {P:Fu} {w:Ft} {H:Hp} {h h':Fq} {x e:Fw} {o':HO}
theorem HOk.write (ok:HOk P w H h) (mu:Mut (H x)) (he:e=x∨H e=some (.own x)) (k:∀ b u,b≠e→h.get? b=some u→h'.get? b=some u) (dz:∃ u,h'.get? e=some u)
  (new:ObjOk P w (upd H x o') h' x o'):HOk P w (upd H x o') h':=fun b u q=>by
 have eG:∀ c y,H c=some (.own y)→c≠x:=fun c y r z=>by subst z;rw [r] at mu;exact mu
 have fw:∀ c xs,H c=some (.tup xs)→c≠x:=fun c xs r z=>by subst z;rw [r] at mu;exact mu
 by_cases hb:b=x
 ·subst hb;rw [Qn] at q;cases q;exact new
 ·rw [Q7 hb] at q
  by_cases bo:b=e
  ·have q':H b=some (.own x):=by
    rcases he with z | z
    ·exact absurd (bo.trans z) hb
    ·rw [bo];exact z
   rw [q] at q';cases q'
   obtain ⟨v,hv⟩:=dz
   exact ⟨v,by rw [bo];exact hv⟩
  ·refine (ok b u q).stay (fun c v hc r=>k c v ?_ r) (fun c r=>by rw [Q7 (eG c b r)];exact r) (fun c xs r=>by rw [Q7 (fw c xs r)];exact r) fun c y r=>by rw [Q7 (fun z=>by subst z;rw [r] at mu;exact mu)];exact r
   rcases hc with rfl | hc
   ·exact bo
   ·rintro rfl
    rcases he with z | z
    ·exact eG c b hc z
    ·rw [hc] at z;cases z;exact hb rfl
end
structure Un (fs ex:List Fw) (H H':Hp) (h h':Fq):Prop where
 keep:∀ b o,h.get? b=some o→H b=none→b∉fs→b∉ex→h'.get? b=some o
 slot:∀ b o,h.get? b=some o→H b=none→b∈fs→b∉ex→∃ sl,h'.get? b=some { o with slots:=sl }
 free:∀ b o,h.get? b=some o→H b=none→b∉ex→H' b=none
 there:∀ b o,h.get? b=some o→b∉ex→∃ o',h'.get? b=some o'
 tups:∀ b xs,H b=some (.tup xs)→H' b=some (.tup xs)
 frzs:∀ b o u,H b=some (.frz o u)→H' b=some (.frz o u)
 tbls:∀ b q,H b=some (.tbl q)→H' b=some (.tbl q)
section
variable {fs eS ex kz:List Fw} {H H1 H2:Hp} {h h1 h2 h':Fq} {a x e:Fw} {o:HO}
theorem Un.any (u:Un fs ex H H1 h h1) {b:Fw} {ob:Obj} (q:h.get? b=some ob) (n:H b=none) (hx:b∉ex):∃ sl,h1.get? b=some { ob with slots:=sl }:=by
 by_cases hb:b∈fs
 ·exact u.slot b ob q n hb hx
 ·exact ⟨ob.slots,u.keep b ob q n hb hx⟩
theorem Un.kept (k:∀ b u,h.get? b=some u→h'.get? b=some u):Un fs ex H H h h' :=
 ⟨fun b ob q _ _ _=>k b ob q,fun b ob q _ _ _=>⟨ob.slots,k b ob q⟩,fun _ _ _ n _=>n,fun b ob q _=>⟨ob,k b ob q⟩,fun _ _ q=>q,fun _ _ _ q=>q,fun _ _ q=>q⟩
theorem Un.refl:Un fs ex H H h h:=Un.kept fun _ _ q=>q
theorem Un.laid (k:∀ b u,h.get? b=some u→h'.get? b=some u) (hp:h.objs.size≤a) (hn:H a=none):Un fs ex H (upd H a o) h h' where
 keep:=fun b u q _ _ _=>k b u q
 slot:=fun b u q _ _ _=>⟨u.slots,k b u q⟩
 free:=fun b u q n _=>by rw [Q7 (Zw (Zs (Zj q) hp))];exact n
 there:=fun b u q _=>⟨u,k b u q⟩
 tups:=fun b xs q=>by rw [Q7 (Qbk q hn)];exact q
 frzs:=fun b u xs q=>by rw [Q7 (Qbk q hn)];exact q
 tbls:=fun b ps q=>by rw [Q7 (Qbk q hn)];exact q
theorem Un.write (mu:Mut (H x)) (he:e=x∨H e=some (.own x)) (k:∀ b u,b≠e→h.get? b=some u→h'.get? b=some u) (dz:∃ u,h'.get? e=some u):Un fs ex H (upd H x o) h h':=by
 have hx:∀ b,H b=none→b≠x:=fun b n z=>by subst z;rw [n] at mu;exact mu
 have hb:∀ b,H b=none→b≠e:=fun b n z=>by
  subst z
  rcases he with r | r
  ·exact hx b n r
  ·rw [n] at r;cases r
 have hm:∀ b u,H b=some u→¬ Mut (some u)→b≠x:=fun b u q nm z=>by subst z;rw [q] at mu;exact nm mu
 refine ⟨fun b u q n _ _=>k b u (hb b n) q,fun b u q n _ _=>⟨u.slots,k b u (hb b n) q⟩,fun b u q n _=>by rw [Q7 (hx b n)];exact n,fun b u q _=>?_,
  fun b xs q=>by rw [Q7 (hm b _ q fun z=>z)];exact q,fun b u xs q=>by rw [Q7 (hm b _ q fun z=>z)];exact q,fun b ps q=>by rw [Q7 (hm b _ q fun z=>z)];exact q⟩
 by_cases bo:b=e
 ·subst bo;exact dz
 ·exact ⟨u,k b u bo q⟩
end
def trk (h:Fq) (H:Hp):List Fw:=(List.range h.objs.size).filter fun a=>(H a).isSome
def Qor (h:Fq) (H:Hp):Fq:=PySem.W.hideAll h (trk h H)
theorem Qve (h:Fq) (H:Hp):(Qor h H).objs.size=h.objs.size:=PySem.W.hideAll_size _ _
theorem Qwy {h:Fq} {H:Hp} {b:Fw} {o:Obj} (e:h.get? b=some o) (n:H b=none):(Qor h H).get? b=some o :=
 PySem.W.hideAll_get _ e fun hm=>by
  have q:(H b).isSome=true:=(Zdf.mp hm).2
  rw [n] at q;simp at q
theorem Q09 {h:Fq} {H:Hp} {b:Fw} {o:Obj} (e:(Qor h H).get? b=some o):h.get? b=some o∧H b=none:=by
 have e':h.get? b=some o:=PySem.W.of_hideAll (trk h H) e
 refine ⟨e',?_⟩
 cases q:H b with
 | none=>rfl
 | some x =>
  have hm:b∈trk h H:=Zdf.mpr ⟨Zb9.mpr (Zj e'),by simp [q]⟩
  have z:(Qor h H).get? b=none:=PySem.W.hideAll_none (trk h H) hm
  rw [z] at e;cases e
noncomputable def Q1a (g h:Fq) (L:Fw):List (Fw×Obj):=(List.range h.objs.size).filterMap fun a=>if a=L∨(g.get? a).isSome=true then none else (h.get? a).map fun o=>(a,o)
def rest (g h:Fq) (L d:Fw):List (Fw×Obj):=(Q1a g h L).filter fun p=>decide (p.1≠d)
structure Mod (K:Fz) (mg:Str→Option Fx) (base:Fq):Prop where
 kin:K.In base
 glob:base.Ns mainGlobals mg
 blt:∃ mb,base.Ns builtinsNs mb∧∀ x:Str,x ≠ "__name__" → mb x=bootBuiltins x
 nolimit:base.NoLimit
 bm:∃ bm ob,mg "__builtins__" = some (.ref bm)∧bm≠builtinsNs∧base.get? bm=some ob∧ob.cls=.type "module" ∧ ob.dict=some builtinsNs∧ob.data=.plain
noncomputable def Qwz (K:Fz) (a:Fw) (q:Str):Prop:=∃ b t,K.getLast?=some (b,{ cls:=.none,data:=.fields #[.ref a,.str q t] })
def Qw0 (K:Fz) (H:Hp):Prop:=∀ a q,Qwz K a q→H a=some (.tbl q)
structure Cx where
 prog:Fu
 w:Ft
 K:Fz
 mg:Str→Option Fx
 base:Fq
 A:Fv
 N:List Str
 s₀:Fy
 H₀:Hp
 env:Env
 outer:List Env
 stack:List Env
 ex:List Fw
 fn:Str→Bool
 calm:Bool
 pn:List (Fw×Obj)
 xe:Fx→Fy→Prop
def frs (l:List Env):List Fw:=l.filterMap (·.frame)
abbrev Cx.fs (X:Cx):List Fw:=frs X.outer
noncomputable def Vis (sc:Scope) (x:Str):Prop:=sc.names.lookup x=some .local∨sc.names.lookup x=some .cell∨sc.names.lookup x=some .free
def Loc (sc:Scope) (x:Str):Prop:=sc.names.lookup x=some .local∨sc.names.lookup x=some .cell
noncomputable def Look (env:Env) (h:Fq) (m:Str→Option Fx) (x:Str) (u:Fx):Prop :=
 (env.kindOf x=some .local∧m x=some u)∨((env.kindOf x=some .cell∨env.kindOf x=some .free)∧∃ c,env.cells.lookup x=some c∧h.IsCell c (some u))
structure Cx.Ok (X:Cx):Prop where
 mod:Mod X.K X.mg X.base
 kind:X.env.scope.kind=.function
 glob:X.env.globals=mainGlobals
 blt:X.env.builtins=builtinsNs
 above:X.s₀.heap.objs.size≤X.env.locals
 inj:∀ x y c,X.env.cells.lookup x=some c→X.env.cells.lookup y=some c→x=y
 has:∀ x,(X.env.kindOf x=some .cell∨X.env.kindOf x=some .free)→∃ c,X.env.cells.lookup x=some c
 cab:∀ x c,X.fn x=true→X.env.cells.lookup x=some c→X.s₀.heap.objs.size≤c
 hd:X.calm=true→X.A.handled=none
 frames:X.A.frames=some X.stack
 stk:X.stack=X.outer∨(X.stack=X.env::X.outer∧X.env.frame=some X.env.locals)
 exf:∀ b∈X.ex,b≠X.env.locals∧∀ x c,X.env.cells.lookup x=some c→c≠b
 bs:∀ b o,X.base.get? b=some o→X.s₀.heap.get? b=some o∧X.H₀ b=none
 bsz:X.base.objs.size≤X.s₀.heap.objs.size
 noex:∀ b o,X.base.get? b=some o→b∉X.ex
 exfs:∀ b∈X.ex,b∉X.fs
 funs:X.s₀.heap.FunFrames X.base X.outer
 frf:(∀ b∈X.fs,X.H₀ b=none)∧Qw0 X.K X.H₀
structure Inv (X:Cx) (aa:List (Fw×Obj)) (σ:List (Option V)) (H:Hp) (s:Fy):Prop where
 ok:X.Ok
 os:s.os=X.s₀.os
 bare:AllBare s.gens
 base:Un X.fs X.ex X.H₀ H X.s₀.heap s.heap
 loc:∃ m,s.heap.Ns X.env.locals m∧∀ (i:Nat) (x:Str) (v:V),X.N[i]?=some x→σ[i]?=some (some v)→Vis X.env.scope x→∃ u,RelV v u∧Look X.env s.heap m x u
 cell:∀ x c,X.env.cells.lookup x=some c→∃ v,s.heap.IsCell c v
 free:H X.env.locals=none
 freeC:∀ x c,X.env.cells.lookup x=some c→H c=none∨(X.fn x=false∧∃ o u,H c=some (.frz o u))
 pin:∀ p∈X.pn++aa,s.heap.get? p.1=some p.2∧H p.1=none∧p.1≠X.env.locals∧p.1∉X.fs∧∀ v,p.2.data≠.cell v
 hok:HOk X.prog X.w H s.heap
 len:σ.length=X.N.length
section
variable {X:Cx} {aa:List (Fw×Obj)} {σ:List (Option V)} {H H':Hp} {s:Fy} {h':Fq}
theorem Cx.Ok.nofr (ok:X.Ok) {b:Fw} {o:Obj} (e:X.base.get? b=some o):b∉X.fs:=fun hb=>by
 have:=(ok.funs.mem hb).1
 rw [e] at this;cases this
theorem Inv.bs (I:Inv X aa σ H s):∀ b o,X.base.get? b=some o→s.heap.get? b=some o∧H b=none:=fun b o e =>
 ⟨I.base.keep b o (I.ok.bs b o e).1 (I.ok.bs b o e).2 (I.ok.nofr e) (I.ok.noex b o e),I.base.free b o (I.ok.bs b o e).1 (I.ok.bs b o e).2 (I.ok.noex b o e)⟩
theorem Inv.bk (I:Inv X aa σ H s):∀ b o,X.base.get? b=some o→s.heap.get? b=some o:=fun b o e=>(I.bs b o e).1
theorem Inv.mod (I:Inv X aa σ H s):Mod X.K X.mg X.base:=I.ok.mod
theorem Inv.kIn (I:Inv X aa σ H s):X.K.In s.heap:=I.ok.mod.kin.keeps I.bk
theorem Inv.lt (I:Inv X aa σ H s):X.env.locals<s.heap.objs.size:=let ⟨_,hn,_⟩:=I.loc;hn.lt
theorem Inv.sz (I:Inv X aa σ H s):X.s₀.heap.objs.size≤s.heap.objs.size:=Zao I.ok.above (Zcv I.lt)
theorem Inv.nofs (I:Inv X aa σ H s) {a:Fw} (h:s.heap.objs.size≤a):a∉X.fs:=fun hb=>by
 obtain ⟨_,o,ho,_⟩:=I.ok.funs.mem hb
 exact absurd (Zs (Zj ho) (Zao I.sz h)) (Zas _)
theorem Inv.cne (I:Inv X aa σ H s):∀ x c,X.env.cells.lookup x=some c→c≠X.env.locals:=fun x c e z=>by
 obtain ⟨v,o,ho,hd⟩:=I.cell x c e
 obtain ⟨m,⟨o',es,ep,bv,eV,_⟩,_⟩:=I.loc
 rw [z,bv] at ho;cases ho;rw [eV] at hd;cases hd
theorem Inv.funs (I:Inv X aa σ H s):s.heap.FunFrames X.base X.outer:=by
 have all:∀ (l:List Env),(∀ b∈frs l,b∈X.fs)→X.s₀.heap.FunFrames X.base l→s.heap.FunFrames X.base l:=by
  intro l
  induction l with
  | nil=>intro _ _;trivial
  | cons env r ih =>
   intro hs hl
   obtain ⟨hk,⟨L,o,hf,hn,ho,hd⟩,hr⟩:=hl
   have hL:L∈X.fs:=hs L (by unfold frs;rw [List.filterMap_cons,hf];exact Zaj)
   obtain ⟨sl,e⟩:=I.base.slot L o ho (I.ok.frf.1 L hL) hL fun z=>I.ok.exfs L z hL
   exact ⟨hk,⟨L,_,hf,hn,e,hd⟩,ih (fun b hb=>hs b (by unfold frs;rw [List.filterMap_cons,hf];exact Z5 _ hb)) hr⟩
 exact all X.outer (fun _ hb=>hb) I.ok.funs
theorem Inv.stack (I:Inv X aa σ H s):s.heap.FunFrames X.base X.stack:=by
 rcases I.ok.stk with e | ⟨e,hf⟩
 ·rw [e];exact I.funs
 ·rw [e]
  obtain ⟨m,hn,_⟩:=I.loc
  refine .cons (by rw [I.ok.kind];decide) hf hn ?_ I.funs
  exact Heap.get?_none_of_le (Zao I.ok.bsz I.ok.above)
theorem Inv.stkSub (I:Inv X aa σ H s):∀ b∈frs X.stack,b∈X.env.locals::X.fs:=fun b hb=>by
 rcases I.ok.stk with e | ⟨e,hf⟩
 ·rw [e] at hb;exact Z5 _ hb
 ·rw [e] at hb
  unfold frs at hb
  rw [List.filterMap_cons,hf] at hb
  exact hb
theorem Inv.stkFree (I:Inv X aa σ H s):∀ b∈frs X.stack,H b=none:=fun b hb=>by
 rcases Z9.mp (I.stkSub b hb) with e | hb
 ·rw [e];exact I.free
 ·obtain ⟨_,o,ho,_⟩:=I.ok.funs.mem hb
  exact I.base.free b o ho (I.ok.frf.1 b hb) fun z=>I.ok.exfs b z hb
theorem Inv.tab (I:Inv X aa σ H s):Qw0 X.K H:=fun a q h=>I.base.tbls a q (I.ok.frf.2 a q h)
theorem Inv.step {g':Array GenState} {t':Nat} {d':Drawn} {ch:List Fw} (I:Inv X aa σ H s)
  (bZ:∀ b∈ch,(b∈X.ex∨X.s₀.heap.objs.size≤b)∧b≠X.env.locals∧(∀ x c,X.env.cells.lookup x=some c→c≠b)∧∀ p∈X.pn++aa,p.1≠b)
  (keep:∀ b o,b≠X.env.locals→b∉X.fs→b∉ch→s.heap.get? b=some o→H b=none→h'.get? b=some o)
  (slot:∀ b o,b≠X.env.locals→b∈X.fs→b∉ch→s.heap.get? b=some o→H b=none→∃ sl,h'.get? b=some { o with slots:=sl }) (free:∀ b o,b∉ch→s.heap.get? b=some o→H b=none→H' b=none)
  (there:∀ b o,b∉ch→s.heap.get? b=some o→∃ o',h'.get? b=some o')
  (tups:∀ b xs,H b=some (.tup xs)→H' b=some (.tup xs)) (frzs:∀ b o u,H b=some (.frz o u)→H' b=some (.frz o u)) (tbls:∀ b q,H b=some (.tbl q)→H' b=some (.tbl q))
  (ns:∀ m,s.heap.Ns X.env.locals m→h'.Ns X.env.locals m) (hok:HOk X.prog X.w H' h') (hg:AllBare g') :
  Inv X aa σ H' { s with heap:=h',gens:=g',drawn:=d',toks:=t' }:=by
 have h8:∀ b o,X.s₀.heap.get? b=some o→b≠X.env.locals:=fun b o e=>Zw (Zs (Zj e) I.ok.above)
 have eX:∀ b o,X.s₀.heap.get? b=some o→b∉X.ex→b∉ch:=fun b o e hx hb=>by
  rcases (bZ b hb).1 with z | z
  ·exact hx z
  ·exact absurd (Zs (Zj e) z) (Zas _)
 have bf:∀ x c,X.env.cells.lookup x=some c→∀ v,s.heap.IsCell c v→h'.IsCell c v:=fun x c e v ⟨o,ho,hd⟩=>by
  have eA:c∉ch:=fun z=>(bZ c z).2.2.1 x c e rfl
  rcases I.freeC x c e with fc | ⟨_,of,u,fc⟩
  ·by_cases hc:c∈X.fs
   ·obtain ⟨sl,q⟩:=slot c o (I.cne x c e) hc eA ho fc
    exact ⟨_,q,hd⟩
   ·exact ⟨o,keep c o (I.cne x c e) hc eA ho fc,hd⟩
  ·have e1:=(I.hok c _ fc).1
   rw [ho] at e1
   cases e1
   exact ⟨_,(hok c _ (frzs c _ _ fc)).1,hd⟩
 refine ⟨I.ok,I.os,hg,⟨fun b o e n hb hx=>?_,fun b o e n hb hx=>?_,fun b o e n hx=>?_,fun b o e hx=>?_,fun b xs e=>tups b xs (I.base.tups b xs e),fun b o xs e=>frzs b o xs (I.base.frzs b o xs e),fun b ps e=>?_⟩,?_,fun x c e=>?_,?_,fun x c e=>?_,fun p hp=>?_,hok,I.len⟩
 ·exact keep b o (h8 b o e) hb (eX b o e hx) (I.base.keep b o e n hb hx) (I.base.free b o e n hx)
 ·obtain ⟨sl,e1⟩:=I.base.slot b o e n hb hx
  obtain ⟨bV,e2⟩:=slot b _ (h8 b o e) hb (eX b o e hx) e1 (I.base.free b o e n hx)
  exact ⟨bV,e2⟩
 ·obtain ⟨o',e1⟩:=I.base.there b o e hx
  exact free b o' (eX b o e hx) e1 (I.base.free b o e n hx)
 ·obtain ⟨o',e1⟩:=I.base.there b o e hx
  exact there b o' (eX b o e hx) e1
 ·exact tbls b ps (I.base.tbls b ps e)
 ·obtain ⟨m,hn,hl⟩:=I.loc
  refine ⟨m,ns m hn,fun i x v e1 e2 e3=>?_⟩
  obtain ⟨u,r,l⟩:=hl i x v e1 e2 e3
  refine ⟨u,r,?_⟩
  rcases l with l | ⟨k,c,e,z⟩
  ·exact .inl l
  ·exact .inr ⟨k,c,e,bf x c e _ z⟩
 ·obtain ⟨v,z⟩:=I.cell x c e
  exact ⟨v,bf x c e v z⟩
 ·obtain ⟨m,⟨o,_,_,ho,_⟩,_⟩:=I.loc
  exact free _ o (fun z=>(bZ _ z).2.1 rfl) ho I.free
 ·obtain ⟨v,o,ho,hd⟩:=I.cell x c e
  rcases I.freeC x c e with fc | ⟨fn,of,u,fc⟩
  ·exact .inl (free c o (fun z=>(bZ c z).2.2.1 x c e rfl) ho fc)
  ·exact .inr ⟨fn,of,u,frzs c _ _ fc⟩
 ·obtain ⟨e,n,ne,nf,d⟩:=I.pin p hp
  have eA:p.1∉ch:=fun z=>(bZ p.1 z).2.2.2 p hp rfl
  exact ⟨keep p.1 p.2 ne nf eA e n,free p.1 p.2 eA e n,ne,nf,d⟩
theorem Inv.un {t':Nat} (I:Inv X aa σ H s) (u:Un X.fs [] H H' s.heap h') (hok:HOk X.prog X.w H' h'):Inv X aa σ H' { s with heap:=h',toks:=t' }:=by
 obtain ⟨m,⟨o,es,ep,ho,r⟩,_⟩:=id I.loc
 obtain ⟨sl,hL⟩:=u.any ho I.free (by simp)
 exact I.step (g':=s.gens) (d':=s.drawn) (ch:=[]) (fun _ z=>nomatch z) (fun b o _ hb _ e n=>u.keep b o e n hb (by simp)) (fun b o _ hb _ e n=>u.slot b o e n hb (by simp)) (fun b o _ e n=>u.free b o e n (by simp)) (fun b o _ e=>u.there b o e (by simp)) u.tups u.frzs u.tbls (fun m' hm=>by
  obtain ⟨o',aw,gE,bv,r'⟩:=hm
  rw [ho] at bv;cases bv
  exact ⟨_,aw,gE,hL,r'⟩) hok I.bare
theorem Inv.call {g':Array GenState} {t':Nat} {d':Drawn} {ch:List Fw} (I:Inv X aa σ H s) (u:Un (frs X.stack) ch H H' s.heap h') (hok:HOk X.prog X.w H' h') (hg:AllBare g')
  (bZ:∀ b∈ch,(b∈X.ex∨X.s₀.heap.objs.size≤b)∧b≠X.env.locals∧(∀ x c,X.env.cells.lookup x=some c→c≠b)∧∀ p∈X.pn++aa,p.1≠b) :
  Inv X aa σ H' { s with heap:=h',gens:=g',drawn:=d',toks:=t' }:=by
 obtain ⟨m,⟨o,es,ep,ho,r⟩,_⟩:=id I.loc
 obtain ⟨sl,hL⟩:=u.any ho I.free fun z=>(bZ _ z).2.1 rfl
 exact I.step (ch:=ch) bZ (fun b o hL hb hc e n=>u.keep b o e n (fun z=>(Z9.mp (I.stkSub b z)).elim hL hb) hc) (fun b o _ _ hc e n=>u.any e n hc) (fun b o hc e n=>u.free b o e n hc) (fun b o hc e=>u.there b o e hc) u.tups u.frzs u.tbls (fun m' hm=>by
  obtain ⟨o',aw,gE,bv,r'⟩:=hm
  rw [ho] at bv;cases bv
  exact ⟨_,aw,gE,hL,r'⟩) hok hg
theorem Inv.turned {t':Nat} {it:Fw} (I:Inv X aa σ H s) (k:∀ b o,b≠it→s.heap.get? b=some o→h'.get? b=some o) (hn:H it=none) (hL:it≠X.env.locals)
  (h1:it∈X.ex∨X.s₀.heap.objs.size≤it) (h2:∀ x c,X.env.cells.lookup x=some c→c≠it) (h3:∀ p∈X.pn++aa,p.1≠it):Inv X aa σ H { s with heap:=h',toks:=t' }:=by
 have dZ:∀ b u,H b=some u→b≠it:=fun b u e z=>by rw [z,hn] at e;cases e
 refine I.step (g':=s.gens) (d':=s.drawn) (ch:=[it]) (fun b hb=>?_) (fun b o _ _ hc e _=>k b o (fun z=>hc (by simp [z])) e) (fun b o _ _ hc e _=>⟨o.slots,k b o (fun z=>hc (by simp [z])) e⟩) (fun _ _ _ _ n=>n)
  (fun b o hc e=>⟨o,k b o (fun z=>hc (by simp [z])) e⟩) (fun _ _ e=>e) (fun _ _ _ e=>e) (fun _ _ e=>e) (fun m hm=>?_) (fun b u e=>?_) I.bare
 ·have e:b=it:=by simpa using hb
  subst e
  exact ⟨h1,hL,h2,h3⟩
 ·obtain ⟨o,es,ep,ho,r⟩:=hm
  exact ⟨o,es,ep,k _ o (Zcf hL) ho,r⟩
 ·refine (I.hok b u e).stay (fun c v hc q=>k c v ?_ q) (fun _ q=>q) fun _ _ q=>q
  rcases hc with z | z
  ·rw [z];exact dZ b u e
  ·exact dZ c _ z
theorem Inv.tok (I:Inv X aa σ H s) (t:Nat):Inv X aa σ H { s with toks:=t }:=I.un (h':=s.heap) (t':=t) Un.refl I.hok
theorem Inv.kept {t':Nat} (I:Inv X aa σ H s) (k:∀ b u,s.heap.get? b=some u→h'.get? b=some u):Inv X aa σ H { s with heap:=h',toks:=t' }:=I.un (Un.kept k) (I.hok.kept k)
theorem Inv.laid {a:Fw} {o:HO} {t':Nat} (I:Inv X aa σ H s) (k:∀ b u,s.heap.get? b=some u→h'.get? b=some u) (hp:s.heap.objs.size≤a) (new:ObjOk X.prog X.w (upd H a o) h' a o) :
  Inv X aa σ (upd H a o) { s with heap:=h',toks:=t' }:=I.un (Un.laid k hp (I.hok.fresh hp)) (I.hok.laid k hp new)
theorem Inv.write {x e:Fw} {o:HO} {t':Nat} (I:Inv X aa σ H s) (mu:Mut (H x)) (he:e=x∨H e=some (.own x)) (k:∀ b u,b≠e→s.heap.get? b=some u→h'.get? b=some u) (dz:∃ u,h'.get? e=some u)
  (new:ObjOk X.prog X.w (upd H x o) h' x o):Inv X aa σ (upd H x o) { s with heap:=h',toks:=t' }:=I.un (Un.write mu he k dz) (I.hok.write mu he k dz new)
theorem Inv.pins_of {cK:List (Fw×Obj)} (I:Inv X aa σ H s) (h:∀ p∈cK,s.heap.get? p.1=some p.2∧H p.1=none∧p.1≠X.env.locals∧p.1∉X.fs∧∀ v,p.2.data≠.cell v):Inv X cK σ H s :=
 ⟨I.ok,I.os,I.bare,I.base,I.loc,I.cell,I.free,I.freeC,fun p hp=>(Zad.mp hp).elim (fun z=>I.pin p (Zax _ z)) (h p),I.hok,I.len⟩
theorem Qln {N:List Str} (hN:N.Nodup) {i j:Nat} {x:Str} (a:N[i]?=some x) (b:N[j]?=some x):i=j:=by
 obtain ⟨h1,e1⟩:=List.getElem?_eq_some_iff.mp a
 obtain ⟨h2,e2⟩:=List.getElem?_eq_some_iff.mp b
 exact (List.getElem_inj hN).mp (e1.trans e2.symm)
theorem Qvf {M:Model} {A:Fv} {E:Fx→Fy→Prop} {i:Nat} {x:Str} {v:V} {u:Fx} {Q:Unit→Fy→Prop} (I:Inv X aa σ H s) (hN:X.N.Nodup) (hi:X.N[i]?=some x) (hx:Loc X.env.scope x) (r:RelV v u)
  (h:∀ s',Inv X aa (σ.set i (some v)) H s'→(∃ a,Heap.SameBut a s.heap s'.heap∧(a=X.env.locals∨X.env.cells.lookup x=some a))→Q () s') (hf:X.fn x=true∨X.env.scope.names.lookup x=some .local:=by first | exact .inl rfl | exact .inr rfl | assumption):wpAny M A (storeName X.env x u) Q E s:=by
 obtain ⟨m,hn,hl⟩:=id I.loc
 have bE:(X.env.scope.kind==.class||(X.env.scope.kind==.module&&X.env.locals != X.env.globals))=false:=by rw [I.ok.kind];rfl
 have eD:i<σ.length:=by rw [I.len];exact (List.getElem?_eq_some_iff.mp hi).1
 have cne:=I.cne
 have aA:∀ {a:Fw} {h':Fq},(∃ o,s.heap.get? a=some o∧H a=none)→Heap.SameBut a s.heap h'→HOk X.prog X.w H h':=fun {a h'} ha hs b ob e=>by
  obtain ⟨_,_,cH⟩:=ha
  refine (I.hok b ob e).stay (fun c w' hc q=>(hs.2 c ?_).trans q) (fun _ q=>q) fun _ _ q=>q
  rintro rfl
  rcases hc with rfl | hc
  ·rw [cH] at e;cases e
  ·rw [cH] at hc;cases hc
 rcases hx with hk | hk
 ·refine wpAny_storeName_local hk hn (fun h' dO hs=>?_) bE
  obtain ⟨oL,_,_,iq,_⟩:=id hn
  refine h _ ⟨I.ok,I.os,I.bare,⟨fun b o e n hb hx=>?_,fun b o e n hb hx=>?_,I.base.free,fun b o e hx=>?_,I.base.tups,I.base.frzs,I.base.tbls⟩,⟨_,dO,fun j y v' e1 e2 e3=>?_⟩,fun y c e=>?_,I.free,I.freeC,fun p hp=>?_,aA ⟨oL,iq,I.free⟩ hs,by simpa using I.len⟩ ⟨_,hs,.inl rfl⟩
  ·exact (hs.2 b (Zw (Zs (Zj e) I.ok.above))).trans (I.base.keep b o e n hb hx)
  ·obtain ⟨sl,e1⟩:=I.base.slot b o e n hb hx
   exact ⟨sl,(hs.2 b (Zw (Zs (Zj e) I.ok.above))).trans e1⟩
  ·obtain ⟨o',e1⟩:=I.base.there b o e hx
   exact ⟨o',(hs.2 b (Zw (Zs (Zj e) I.ok.above))).trans e1⟩
  ·by_cases hj:j=i
   ·subst hj
    rw [hi] at e1;cases e1
    rw [Zbp eD] at e2
    cases e2
    exact ⟨u,r,.inl ⟨hk,by simp⟩⟩
   ·rw [Zcb (Zcf hj)] at e2
    obtain ⟨u',r',q⟩:=hl j y v' e1 e2 e3
    refine ⟨u',r',?_⟩
    rcases q with ⟨k,e⟩ | ⟨k,c,e,z⟩
    ·refine .inl ⟨k,?_⟩
     have:y≠x:=fun e=>hj (Qln hN e1 (e ▸ hi))
     simp [this,e]
    ·exact .inr ⟨k,c,e,z.sameBut hs (cne y c e)⟩
  ·obtain ⟨w',z⟩:=I.cell y c e
   exact ⟨w',z.sameBut hs (cne y c e)⟩
  ·obtain ⟨e,n,ne,nf,d⟩:=I.pin p hp
   exact ⟨(hs.2 p.1 ne).trans e,n,ne,nf,d⟩
 ·have fb:X.fn x=true:=by
   rcases hf with z | z
   ·exact z
   ·rw [z] at hk;cases hk
  obtain ⟨c,hc⟩:=I.ok.has x (.inl hk)
  obtain ⟨w',z⟩:=I.cell x c hc
  refine wpAny_storeName_cell I.ok.kind hk hc z (fun h' cT hs=>?_)
  obtain ⟨oc,hU,fO⟩:=id z
  refine h { s with heap:=h' } ⟨I.ok,I.os,I.bare,⟨fun b o e n hb hx=>?_,fun b o e n hb hx=>?_,I.base.free,fun b o e hx=>?_,I.base.tups,I.base.frzs,I.base.tbls⟩,⟨m,hn.sameBut hs (Zcf (cne x c hc)),fun j y v' e1 e2 e3=>?_⟩,fun y c' e=>?_,I.free,I.freeC,fun p hp=>?_,aA ⟨oc,hU,(I.freeC x c hc).resolve_right fun z=>by rw [fb] at z;cases z.1⟩ hs,by simpa using I.len⟩ ⟨c,hs,.inr hc⟩
  ·exact (hs.2 b (Zw (Zs (Zj e) (I.ok.cab x c fb hc)))).trans (I.base.keep b o e n hb hx)
  ·obtain ⟨sl,e1⟩:=I.base.slot b o e n hb hx
   exact ⟨sl,(hs.2 b (Zw (Zs (Zj e) (I.ok.cab x c fb hc)))).trans e1⟩
  ·obtain ⟨o',e1⟩:=I.base.there b o e hx
   exact ⟨o',(hs.2 b (Zw (Zs (Zj e) (I.ok.cab x c fb hc)))).trans e1⟩
  ·by_cases hj:j=i
   ·subst hj
    rw [hi] at e1;cases e1
    rw [Zbp eD] at e2
    cases e2
    exact ⟨u,r,.inr ⟨.inl hk,c,hc,cT⟩⟩
   ·rw [Zcb (Zcf hj)] at e2
    obtain ⟨u',r',q⟩:=hl j y v' e1 e2 e3
    refine ⟨u',r',?_⟩
    rcases q with q | ⟨k,c',e,z'⟩
    ·exact .inl q
    ·refine .inr ⟨k,c',e,z'.sameBut hs ?_⟩
     rintro rfl
     exact hj (Qln hN e1 (I.ok.inj _ _ _ e hc ▸ hi))
  ·by_cases hcc:c'=c
   ·subst hcc;exact ⟨_,cT⟩
   ·obtain ⟨w2,z2⟩:=I.cell y c' e
    exact ⟨w2,z2.sameBut hs hcc⟩
  ·obtain ⟨e,n,ne,nf,d⟩:=I.pin p hp
   refine ⟨(hs.2 p.1 ?_).trans e,n,ne,nf,d⟩
   intro q
   rw [q,hU] at e
   have q':oc=p.2:=Zr e
   exact d w' (by rw [←q'];exact fO)
theorem Qfp {M:Model} {A:Fv} {E:Fx→Fy→Prop} {i:Nat} {x:Str} {v:V} {u:Fx} {Q:Unit→Fy→Prop} (I:Inv X aa σ H s) (hN:X.N.Nodup) (hi:X.N[i]?=some x) (hx:Loc X.env.scope x) (r:RelV v u)
  (h:∀ s',Inv X aa (σ.set i (some v)) H s'→Q () s') (hf:X.fn x=true∨X.env.scope.names.lookup x=some .local:=by first | exact .inl rfl | exact .inr rfl | assumption):wpAny M A (storeName X.env x u) Q E s :=
 Qvf I hN hi hx r (fun s' I' _=>h s' I') hf
theorem Inv.call' {s':Fy} {ch:List Fw} (I:Inv X aa σ H s) (ho:s'.os=s.os) (u:Un (frs X.stack) ch H H' s.heap s'.heap) (hok:HOk X.prog X.w H' s'.heap) (hg:AllBare s'.gens)
  (bZ:∀ b∈ch,(b∈X.ex∨X.s₀.heap.objs.size≤b)∧b≠X.env.locals∧(∀ x c,X.env.cells.lookup x=some c→c≠b)∧∀ p∈X.pn++aa,p.1≠b):Inv X aa σ H' s':=by
 obtain ⟨h',g',d',t',o'⟩:=s'
 have e:o'=s.os:=ho
 subst e
 exact I.call (g':=g') (t':=t') (d':=d') u hok hg bZ
end
abbrev XK:=Fx→Option Fw→Hp→Prop
abbrev St:=List (Option V)
abbrev VK:=V→Hp→Prop
abbrev TE:=St→Hp→VK→Prop
abbrev TT:=St→Hp→(Bool→Hp→Prop)→Prop
abbrev TA:=St→Hp→(List V→Hp→Prop)→Prop
structure Ends where
 nx:St→Hp→Prop
 rt:VK
 bk:St→Hp→Prop:=fun _ _=>False
 ct:St→Hp→Prop:=fun _ _=>False
abbrev TS:=Ends→St→Hp→Prop
noncomputable def EP (X:Cx) (aa:List (Fw×Obj)) (σ:St) (Q:VK) (u:Fx) (s':Fy):Prop:=∃ v H',Inv X aa σ H' s'∧RelV v u∧Q v H'
noncomputable def TP (X:Cx) (aa:List (Fw×Obj)) (σ:St) (Q:Bool→Hp→Prop) (b:Bool) (s':Fy):Prop:=∃ H',Inv X aa σ H' s'∧Q b H'
noncomputable def AP (X:Cx) (aa:List (Fw×Obj)) (σ:St) (Q:List V→Hp→Prop) (us:List Fx) (s':Fy):Prop:=∃ vs H',Inv X aa σ H' s'∧Vals vs us∧Q vs H'
noncomputable def SP (X:Cx) (aa:List (Fw×Obj)) (D:Ends) (f:Flow) (s':Fy):Prop :=
 match f with
 | .next=>∃ σ' H',Inv X aa σ' H' s'∧D.nx σ' H'
 | .brk=>∃ σ' H',Inv X aa σ' H' s'∧D.bk σ' H'
 | .cont=>∃ σ' H',Inv X aa σ' H' s'∧D.ct σ' H'
 | .ret u=>∃ v σ' H',Inv X aa σ' H' s'∧RelV v u∧D.rt v H'
noncomputable def PE (X:Cx) (e:Fr) (t:TE):Prop :=
 ∀ (aa:List (Fw×Obj)) (s:Fy) (σ:St) (H:Hp) (Q:VK),Inv X aa σ H s→t σ H Q→wpAny (model X.prog X.w) X.A (eval e X.env) (EP X aa σ Q) X.xe s
noncomputable def PT (X:Cx) (e:Fr) (t:TT):Prop :=
 ∀ (aa:List (Fw×Obj)) (s:Fy) (σ:St) (H:Hp) (Q:Bool→Hp→Prop),Inv X aa σ H s→t σ H Q→wpAny (model X.prog X.w) X.A (isTrue e X.env (eval e X.env)) (TP X aa σ Q) X.xe s
noncomputable def PW (X:Cx) (e:Fr) (t:TT):Prop :=
 ∀ (whole:Sem Fx) (aa:List (Fw×Obj)) (s:Fy) (σ:St) (H:Hp) (Q:Bool→Hp→Prop),Inv X aa σ H s→t σ H Q→wpAny (model X.prog X.w) X.A (isTrue e X.env whole) (TP X aa σ Q) X.xe s
theorem PW.pt {X:Cx} {e:Fr} {t:TT} (h:PW X e t):PT X e t:=h _
noncomputable def PA (X:Cx) (es:List Fr) (t:TA):Prop :=
 ∀ (pos:Pos) (aa:List (Fw×Obj)) (s:Fy) (σ:St) (H:Hp) (Q:List V→Hp→Prop),Inv X aa σ H s→t σ H Q→wpAny (model X.prog X.w) X.A (spliced (backTo pos (starEach es X.env))) (AP X aa σ Q) X.xe s
noncomputable def PS (X:Cx) (st:Fs) (t:TS):Prop :=
 ∀ (aa:List (Fw×Obj)) (s:Fy) (σ:St) (H:Hp) (D:Ends),Inv X aa σ H s→t D σ H→wpAny (model X.prog X.w) X.A (exec st X.env) (SP X aa D) X.xe s
noncomputable def PSs (X:Cx) (st:List Fs) (t:TS):Prop :=
 ∀ (aa:List (Fw×Obj)) (s:Fy) (σ:St) (H:Hp) (D:Ends),Inv X aa σ H s→t D σ H→wpAny (model X.prog X.w) X.A (execs st X.env) (SP X aa D) X.xe s
theorem thn {α:Type} {t:Sem α} {Q Q':α→Fy→Prop} {M:Model} {A:Fv} {E:Fx→Fy→Prop} {s:Fy} (h:wpAny M A t Q E s) (hQ:∀ a s,Q a s→Q' a s):wpAny M A t Q' E s:=Za1 h hQ fun _ _ x=>x
section
variable {X:Cx}
theorem bin {a b:Fr} {ta tb:TE} (ha:PE X a ta) (hb:PE X b tb) {aa:List (Fw×Obj)} {s:Fy} {σ:St} {H:Hp} {R:V→V→Hp→Prop} (I:Inv X aa σ H s) (h:ta σ H fun x H1=>tb σ H1 fun y H2=>R x y H2)
  {α:Type} {Q:α→Fy→Prop} {f:Fx→Fx→Sem α}
  (hf:∀ v u s2 x y H2,Inv X aa σ H2 s2→RelV x v→RelV y u→R x y H2→wpAny (model X.prog X.w) X.A (f v u) Q X.xe s2) :
  wpAny (model X.prog X.w) X.A (eval a X.env) (fun v s₁=>wpAny (model X.prog X.w) X.A (eval b X.env) (fun u s₂=>wpAny (model X.prog X.w) X.A (f v u) Q X.xe s₂) X.xe s₁) X.xe s:=by
 refine thn (ha aa s σ H _ I h) fun v s1 ⟨x,H1,I1,r1,q1⟩=>?_
 refine thn (hb aa s1 σ H1 _ I1 q1) fun u s2 ⟨y,H2,I2,r2,q2⟩=>?_
 exact hf v u s2 x y H2 I2 r1 r2 q2
abbrev Qos (i:Nat):TE:=fun σ H Q=>∃ v,σ[i]?=some (some v)∧Q v H
abbrev tC (v:V):TE:=fun _ H Q=>Q v H
theorem Q5y {i:Nat} {x:Str} {pos:Pos} (hN:X.N[i]?=some x) (hv:Vis X.env.scope x) (hd:(x==("__debug__" : Str))=false:=by decide) (aF:(x==("__classdict__" : Str))=false:=by decide):PE X (.Name x pos) (Qos i):=by
 intro aa s σ H Q I h
 obtain ⟨v,e,h⟩:=h
 obtain ⟨m,hn,hl⟩:=I.loc
 obtain ⟨u,r,l⟩:=hl i x v hN e hv
 have fin:EP X aa σ Q u s:=⟨v,H,I,r,h⟩
 rcases l with ⟨hk,hm⟩ | ⟨hk,c,hc,cE⟩
 ·exact wpAny_Name (wpAny_loadName_local I.ok.kind hk hn hm fin) hd
 ·rcases hk with hk | hk
  ·exact wpAny_Name (wpAny_loadName_cell I.ok.kind hk hc cE fin) hd
  ·exact wpAny_Name (wpAny_loadName_free I.ok.kind hk hc cE fin aF) hd
theorem Qw1 {i j pos}:PE X (.Constant (.int i) j pos) (tC (.int i)):=fun _ _ _ H _ I h=>wpAny_Constant_int ⟨.int i,H,I.tok _,⟨_,rfl⟩,h⟩
theorem Qaah {b j pos}:PE X (.Constant (.bool b) j pos) (tC (.bl b)):=fun _ _ _ H _ I h=>Constant_bool ⟨.bl b,H,I,rfl,h⟩
theorem Q5z {j pos}:PE X (.Constant .none j pos) (tC .non):=fun _ _ _ H _ I h=>Constant_none ⟨.non,H,I,rfl,h⟩
theorem Qrz {x j pos}:PE X (.Constant (.str x) j pos) (tC (.str x)):=fun _ _ _ H _ I h=>Calls.Constant_str ⟨.str x,H,I.tok _,⟨_,rfl⟩,h⟩
def Gl (X:Cx) (x:Str):Prop:=X.env.kindOf x=some .globalImplicit
theorem Qhc {E:Fx→Fy→Prop} {aa:List (Fw×Obj)} {s:Fy} {σ:St} {H:Hp} {x:Str} {u:Fx} {pos:Pos} {Q:Fx→Fy→Prop} (I:Inv X aa σ H s) (hg:Gl X x) (hm:X.mg x=some u) (h:Q u s)
  (hd:(x==("__debug__" : Str))=false:=by decide):wpAny (model X.prog X.w) X.A (eval (.Name x pos) X.env) Q E s :=
 Zc2 I.ok.kind hg (Calls.loadGlobal_global (by rw [I.ok.glob];exact I.mod.glob.keeps I.bk) hm h) hd
theorem Qgs {E:Fx→Fy→Prop} {aa:List (Fw×Obj)} {s:Fy} {σ:St} {H:Hp} {x:Str} {u:Fx} {pos:Pos} {Q:Fx→Fy→Prop} (I:Inv X aa σ H s) (hg:Gl X x) (hm:X.mg x=none) (hv:bootBuiltins x=some u) (h:Q u s)
  (hn:x ≠ "__name__" := by decide) (hd:(x==("__debug__" : Str))=false:=by decide):wpAny (model X.prog X.w) X.A (eval (.Name x pos) X.env) Q E s:=by
 obtain ⟨mb,h1,h2⟩:=I.mod.blt
 exact Zc2 I.ok.kind hg (Calls.loadGlobal_builtin (by rw [I.ok.glob];exact I.mod.glob.keeps I.bk) hm (by rw [I.ok.blt];exact h1.keeps I.bk) ((h2 x hn).trans hv) h) hd
theorem Qtk {x:Str} {v:V} {u:Fx} {pos:Pos} (hg:Gl X x) (hm:X.mg x=some u) (r:RelV v u) (hd:(x==("__debug__" : Str))=false:=by decide):PE X (.Name x pos) (tC v) :=
 fun _ _ _ H _ I h=>Qhc I hg hm ⟨v,H,I,r,h⟩ hd
theorem Q1b {x:Str} {v:V} {u:Fx} {pos:Pos} (hg:Gl X x) (hm:X.mg x=none) (hv:bootBuiltins x=some u) (r:RelV v u) (hn:x ≠ "__name__" := by decide) (hd:(x==("__debug__" : Str))=false:=by decide):PE X (.Name x pos) (tC v) :=
 fun _ _ _ H _ I h=>Qgs I hg hm hv ⟨v,H,I,r,h⟩ hn hd
variable {a b:Fr} {ta tb:TE} {pos:Pos}
noncomputable def PC (X:Cx) (op:CmpOp) (a b:Fr) (t:TE):Prop :=
 ∀ (aa:List (Fw×Obj)) (s:Fy) (σ:St) (H:Hp) (Q:VK),Inv X aa σ H s→t σ H Q →
  wpAny (model X.prog X.w) X.A (eval a X.env) (fun v s₁=>wpAny (model X.prog X.w) X.A (eval b X.env) (fun u s₂=>wpAny (model X.prog X.w) X.A (compareOp op v u) (EP X aa σ Q) X.xe s₂) X.xe s₁) X.xe s
theorem Qw2 (b:Fr) {op:CmpOp} (h:op≠.In) (h2:op≠.NotIn):behindInMarks op b=false:=by
 have e1:(op==CmpOp.In)=false:=by cases op <;> first | rfl | exact absurd rfl h
 have e2:(op==CmpOp.NotIn)=false:=by cases op <;> first | rfl | exact absurd rfl h2
 cases b <;> simp [behindInMarks,e1,e2]
abbrev tB (t:TE):TT:=fun σ H Q=>t σ H fun x H1=>∃ c,x=.bl c∧Q c H1
theorem pt_cmp {op:CmpOp} {t:TE} (h:PC X op a b t) (h1:behindInMarks op b=false:=by first | exact Qw2 _ (by decide) (by decide) | rfl):PT X (.Compare a [op] [b] pos) (tB t):=by
 intro aa s σ H Q I hw
 refine Zdw (thn (h aa s σ H _ I hw) fun v s1 h1=>thn h1 fun u s2 h2=>thn h2 fun c s3 ⟨x,H1,I1,r1,q1⟩=>?_) h1
 obtain ⟨d,rfl,q⟩:=q1
 cases r1
 exact Zbq ⟨H1,I1,q⟩
theorem Q50 {e:Fr} {t:TE} (h:PE X e t) (he:∀ whole,isTrue e X.env whole=(do let v ← whole;standAt e.pos;holding [v] (truthy v)):=by intro _;rfl):PT X e (tB t):=by
 intro aa s σ H Q I hw
 refine isTrue_plain (thn (h aa s σ H _ I hw) fun v s1 ⟨x,H1,I1,r1,q1⟩=>?_) (he _)
 obtain ⟨d,rfl,q⟩:=q1
 cases r1
 exact Zbq ⟨H1,I1,q⟩
variable {tA cr:TT} {rest:List Fr}
abbrev tAnd (t u:TT):TT:=fun σ H Q=>t σ H fun c H1=>if c=true then u σ H1 Q else Q false H1
abbrev tOr (t u:TT):TT:=fun σ H Q=>t σ H fun c H1=>if c=true then Q true H1 else u σ H1 Q
abbrev tNot (t:TT):TT:=fun σ H Q=>t σ H fun c H1=>Q (!c) H1
theorem Q1c (ha:PT X a tA):PW X (.BoolOp .And [a] pos) tA:=by
 intro wh aa s σ H Q I h
 refine isTrue_and (thn (ha aa s σ H Q I h) fun c s1 e=>?_)
 cases c with
 | true=>exact isTrue_and_nil e
 | false=>exact e
theorem Q51 (ha:PT X a tA):PW X (.BoolOp .Or [a] pos) tA:=by
 intro wh aa s σ H Q I h
 refine isTrue_or (thn (ha aa s σ H Q I h) fun c s1 e=>?_)
 cases c with
 | false=>exact isTrue_or_nil e
 | true=>exact e
theorem Q52 (ha:PT X a tA) (hb:PW X (.BoolOp .And (b::rest) pos) cr):PW X (.BoolOp .And (a::b::rest) pos) (tAnd tA cr):=by
 intro wh aa s σ H Q I h
 refine isTrue_and (thn (ha aa s σ H _ I h) fun c s1 ⟨H1,I1,q1⟩=>?_)
 cases c with
 | true=>exact hb wh aa s1 σ H1 Q I1 q1
 | false=>exact ⟨H1,I1,q1⟩
theorem Qaak (ha:PT X a tA) (hb:PW X (.BoolOp .Or (b::rest) pos) cr):PW X (.BoolOp .Or (a::b::rest) pos) (tOr tA cr):=by
 intro wh aa s σ H Q I h
 refine isTrue_or (thn (ha aa s σ H _ I h) fun c s1 ⟨H1,I1,q1⟩=>?_)
 cases c with
 | true=>exact ⟨H1,I1,q1⟩
 | false=>exact hb wh aa s1 σ H1 Q I1 q1
theorem Q53 (ha:PT X a tA):PT X (.UnaryOp .Not a pos) (tNot tA):=by
 intro aa s σ H Q I h
 exact isTrue_not (ha aa s σ H (fun c H1=>Q (!c) H1) I h)
noncomputable abbrev Q4l (ta tb:TE):TE:=fun σ H Q=>ta σ H fun x H1=>∃ c,x=.bl c∧if c=true then tb σ H1 Q else Q (.bl false) H1
abbrev Q4m (ta:TE):TE:=fun σ H Q=>ta σ H fun x H1=>∃ c,x=.bl c∧Q (.bl (!c)) H1
theorem Q54 {op} {t:TE} (h:PE X a t):PE X (.BoolOp op [a] pos) t:=fun aa s σ H Q I hw=>BoolOp_one (h aa s σ H Q I hw)
theorem Q55 (ha:PE X a ta) (hb:PE X (.BoolOp .And (b::rest) pos) tb):PE X (.BoolOp .And (a::b::rest) pos) (Q4l ta tb):=by
 intro aa s σ H Q I h
 refine BoolOp_and (thn (ha aa s σ H _ I h) fun v s1 ⟨x,H1,I1,r1,q1⟩=>?_)
 obtain ⟨c,rfl,q1⟩:=q1
 cases r1
 refine Zbq ?_
 cases c with
 | true=>exact hb aa s1 σ H1 Q I1 q1
 | false=>exact ⟨.bl false,H1,I1,rfl,q1⟩
theorem Q56 (ha:PE X a ta):PE X (.UnaryOp .Not a pos) (Q4m ta):=by
 intro aa s σ H Q I h
 refine UnaryOp_ (thn (ha aa s σ H _ I h) fun v s1 ⟨x,H1,I1,r1,q1⟩=>?_)
 obtain ⟨c,rfl,q1⟩:=q1
 cases r1
 exact not_of (Zbq ⟨.bl (!c),H1,I1,rfl,q1⟩)
end
noncomputable def SqL (K:Fz) (H:Hp) (a:Fw) (xs:List V):Prop :=
 Rd H a (.lst xs) ∨
  ∃ (o:Obj) (ac:Array Fx) (n:Nat),K.lookup a=some o∧o.cls=.type "list" ∧ o.dict=none∧o.data=.seq ac n∧ac.size≤sizeLine∧Vals xs ac.toList
noncomputable def SqT (K:Fz) (H:Hp) (a:Fw) (xs:List V):Prop :=
 Rd H a (.tup xs) ∨
  ∃ (o:Obj) (ac:Array Fx) (n:Nat),K.lookup a=some o∧o.cls=.type "tuple" ∧ o.data=.seq ac n∧ac.size≤sizeLine∧Vals xs ac.toList
noncomputable def absV:Fx→Option V
 | .none=>some .non
 | .bool b=>some (.bl b)
 | .int i _=>some (.int i)
 | .str x _=>some (.str x)
 | .bytes b _=>some (.byt b)
 | .float b _=>some (.flt b)
 | .ref a=>some (.ref a)
 | .type n=>some (.ty n)
 | _=>none
theorem RelV.abs {x:V} {u:Fx} (r:RelV x u):absV u=some x:=by
 cases x with
 | non=>cases r;rfl
 | bl _=>cases r;rfl
 | int _=>obtain ⟨t,rfl⟩:=r;rfl
 | str _=>obtain ⟨t,rfl⟩:=r;rfl
 | byt _=>obtain ⟨t,rfl⟩:=r;rfl
 | flt _=>obtain ⟨t,rfl⟩:=r;rfl
 | ref _=>cases r;rfl
 | ty _=>cases r;rfl
theorem RelV.inj {x y:V} {u:Fx} (r:RelV x u) (q:RelV y u):x=y:=Zr (r.abs.symm.trans q.abs)
theorem Vals.inj:∀ {xs ys:List V} {us:List Fx},Vals xs us→Vals ys us→xs=ys
 | _,_,_,.nil,.nil=>rfl
 | _,_,_,.cons r t,.cons r' t'=>by rw [r.inj r',Vals.inj t t']
section
variable {X:Cx} {aa:List (Fw×Obj)} {σ:St} {H:Hp} {s:Fy} {a:Fw} {xs ys:List V}
theorem SqL.of {K:Fz} (h:H a=some (.lst xs)):SqL K H a xs:=.inl (.inl h)
theorem SqT.of {K:Fz} (h:H a=some (.tup xs)):SqT K H a xs:=.inl (.inl h)
theorem Inv.list (I:Inv X aa σ H s) (h:SqL X.K H a xs):∃ ac:List Fx,Vals xs ac∧PlainL s.heap a ac.toArray∧xs.length≤sizeLine:=by
 rcases h with h | ⟨o,ac,n,hk,hc,hd,hs,hz,r⟩
 ·obtain ⟨z,ac,n,r,e⟩:=h.ok I.hok
  exact ⟨ac,r,⟨_,n,e,rfl,rfl,rfl⟩,z⟩
 ·refine ⟨ac.toList,r,⟨o,n,I.kIn a o hk,hc,hd,by simpa using hs⟩,?_⟩
  have e:=r.length
  simp only [Zbf] at e
  omega
theorem Inv.tuple (I:Inv X aa σ H s) (h:SqT X.K H a xs):∃ ac:List Fx,Vals xs ac∧IsTup s.heap a ac.toArray∧xs.length≤sizeLine:=by
 rcases h with h | ⟨o,ac,n,hk,hc,hs,hz,r⟩
 ·obtain ⟨z,ac,r,p⟩:=h.ok I.hok
  exact ⟨ac,r,p.tup,z⟩
 ·refine ⟨ac.toList,r,⟨o,I.kIn a o hk,hc,n,by simpa using hs⟩,?_⟩
  have e:=r.length
  simp only [Zbf] at e
  omega
theorem Inv.list_inj (I:Inv X aa σ H s) (h:SqL X.K H a xs) (h':SqL X.K H a ys):xs=ys:=by
 obtain ⟨ac,r,⟨o,n,e,_,_,d⟩,_⟩:=I.list h
 obtain ⟨its',r',⟨o',n',e',_,_,d'⟩,_⟩:=I.list h'
 rw [e] at e';cases e'
 rw [d] at d'
 injection d' with d1 _
 have:ac=its':=by simpa using congrArg Array.toList d1
 subst this
 exact r.inj r'
theorem Inv.tuple_inj (I:Inv X aa σ H s) (h:SqT X.K H a xs) (h':SqT X.K H a ys):xs=ys:=by
 obtain ⟨ac,r,⟨o,e,_,n,d⟩,_⟩:=I.tuple h
 obtain ⟨its',r',⟨o',e',_,n',d'⟩,_⟩:=I.tuple h'
 rw [e] at e';cases e'
 rw [d] at d'
 injection d' with d1 _
 have:ac=its':=by simpa using congrArg Array.toList d1
 subst this
 exact r.inj r'
end
abbrev Cx.wish (X:Cx) (E:Fx→Fy→Prop):Cx:={ X with xe:=E }
abbrev Cx.nox (X:Cx):Cx:=X.wish fun _ _=>False
theorem Cx.Ok.wish {X:Cx} (ok:X.Ok) (E:Fx→Fy→Prop):(X.wish E).Ok :=
 ⟨ok.mod,ok.kind,ok.glob,ok.blt,ok.above,ok.inj,ok.has,ok.cab,ok.hd,ok.frames,ok.stk,ok.exf,ok.bs,ok.bsz,ok.noex,ok.exfs,ok.funs,ok.frf⟩
theorem Cx.Ok.unwish {X:Cx} {E:Fx→Fy→Prop} (ok:(X.wish E).Ok):X.Ok :=
 ⟨ok.mod,ok.kind,ok.glob,ok.blt,ok.above,ok.inj,ok.has,ok.cab,ok.hd,ok.frames,ok.stk,ok.exf,ok.bs,ok.bsz,ok.noex,ok.exfs,ok.funs,ok.frf⟩
section
variable {X:Cx} {aa:List (Fw×Obj)} {σ:St} {H:Hp} {s:Fy} {E:Fx→Fy→Prop}
theorem Inv.wish (I:Inv X aa σ H s) (E:Fx→Fy→Prop):Inv (X.wish E) aa σ H s:=⟨I.ok.wish E,I.os,I.bare,I.base,I.loc,I.cell,I.free,I.freeC,I.pin,I.hok,I.len⟩
theorem Inv.unwish (I:Inv (X.wish E) aa σ H s):Inv X aa σ H s:=⟨I.ok.unwish,I.os,I.bare,I.base,I.loc,I.cell,I.free,I.freeC,I.pin,I.hok,I.len⟩
theorem SP.unwish {D:Ends} {f:Flow} {s':Fy} (h:SP (X.wish E) aa D f s'):SP X aa D f s':=by
 cases f with
 | next=>obtain ⟨σ',H',I,q⟩:=h;exact ⟨σ',H',I.unwish,q⟩
 | brk=>obtain ⟨σ',H',I,q⟩:=h;exact ⟨σ',H',I.unwish,q⟩
 | cont=>obtain ⟨σ',H',I,q⟩:=h;exact ⟨σ',H',I.unwish,q⟩
 | ret u=>obtain ⟨v,σ',H',I,r,q⟩:=h;exact ⟨v,σ',H',I.unwish,r,q⟩
theorem PSs.nox {st:List Fs} {t:TS} (h:PSs X.nox st t):PSs X st t:=fun aa s σ H D I hw =>
 Za1 (h aa s σ H D (I.wish _) hw) (fun _ _ q=>q.unwish) fun _ _ z=>Zef z
end
section
variable {X:Cx} {st:Fs} {rest:List Fs} {t u:TS} {e:Fr} {te:TE} {pos:Pos}
abbrev Qw3:TS:=fun D σ H=>D.nx σ H
abbrev Qw4 (t u:TS):TS:=fun D σ H=>t { D with nx:=u D } σ H
theorem Q1d:PSs X [] Qw3:=fun _ _ σ H _ I h=>Zcc ⟨σ,H,I,h⟩
theorem Qw5 (h1:PS X st t) (h2:PSs X rest u):PSs X (st::rest) (Qw4 t u):=by
 intro aa s σ H D I h
 refine wpAny_execs_cons (thn (h1 aa s σ H { D with nx:=u D } I h) fun f s1 q=>?_)
 cases f with
 | next =>
  obtain ⟨σ',H',I',q⟩:=q
  exact h2 aa s1 σ' H' D I' q
 | ret v=>exact q
 | brk=>exact q
 | cont=>exact q
theorem Q1e (h1:PS X st t):PSs X [st] t:=by
 intro aa s σ H D I h
 refine wpAny_execs_cons (thn (h1 aa s σ H D I h) fun f s1 q=>?_)
 cases f with
 | next=>exact Zcc q
 | ret v=>exact q
 | brk=>exact q
 | cont=>exact q
theorem Inv.quiet {aa:List (Fw×Obj)} {σ:St} {H:Hp} {s:Fy} (I:Inv X aa σ H s):interactive X.env=false:=by simp [interactive,I.ok.kind]
abbrev Qtl (te:TE):TS:=fun D σ H=>te σ H fun _ H1=>D.nx σ H1
theorem Q1f (he:PE X e te) (hs:swapsWith e none pos.line X.env=pure false:=by rfl):PS X (.Expr e pos) (Qtl te):=by
 intro aa s σ H D I h
 exact wpAny_Expr_any (thn (he aa s σ H _ I h) fun v s1 ⟨x,H1,I1,r1,q1⟩=>⟨σ,H1,I1,q1⟩) I.quiet hs
abbrev Q57 (te:TE):TS:=fun D σ H=>te σ H D.rt
theorem Q58 (he:PE X e te):PS X (.Return (some e) pos) (Q57 te):=by
 intro aa s σ H D I h
 exact wpAny_Return_some (thn (he aa s σ H _ I h) fun v s1 ⟨x,H1,I1,r1,q1⟩=>⟨x,σ,H1,I1,r1,q1⟩)
noncomputable abbrev Q59 (c:TT) (t u:TS):TS:=fun D σ H=>c σ H fun b H1=>if b=true then t D σ H1 else u D σ H1
theorem Qaal {c:Fr} {a b:List Fs} {tc:TT} (hc:PT X c tc) (ha:PSs X a t) (hb:PSs X b u):PS X (.If c a b pos) (Q59 tc t u):=by
 intro aa s σ H D I h
 refine wpAny_If (thn (hc aa s σ H _ I h) fun d s1 ⟨H1,I1,q1⟩=>?_)
 cases d with
 | true=>exact ha aa s1 σ H1 D I1 q1
 | false=>exact hb aa s1 σ H1 D I1 q1
end
abbrev TG:=V→St→Hp→(St→Hp→Prop)→Prop
abbrev TGs:=List V→St→Hp→(St→Hp→Prop)→Prop
noncomputable def PG (X:Cx) (aD:Fr) (t:TG):Prop :=
 ∀ (aa:List (Fw×Obj)) (s:Fy) (σ:St) (H:Hp) (v:V) (u:Fx) (Q:St→Hp→Prop),Inv X aa σ H s→RelV v u→t v σ H Q →
  wpAny (model X.prog X.w) X.A (assign aD X.env u) (fun _ s'=>∃ σ' H',Inv X aa σ' H' s'∧Q σ' H') X.xe s
noncomputable def PGs (X:Cx) (ts:List Fr) (t:TGs):Prop :=
 ∀ (aa:List (Fw×Obj)) (s:Fy) (σ:St) (H:Hp) (vs:List V) (us:List Fx) (Q:St→Hp→Prop),Inv X aa σ H s→Vals vs us→t vs σ H Q →
  wpAny (model X.prog X.w) X.A (assignInOrder ((assignEach ts X.env).map (·.2)) us) (fun _ s'=>∃ σ' H',Inv X aa σ' H' s'∧Q σ' H') X.xe s
abbrev Q6a:=V→V→V→Hp→(Hp→Prop)→Prop
noncomputable def PSet (X:Cx) (t:Q6a):Prop :=
 ∀ (aa:List (Fw×Obj)) (s:Fy) (σ:St) (H:Hp) (o i v:V) (ov iv u:Fx) (Q:Hp→Prop),Inv X aa σ H s→RelV o ov→RelV i iv→RelV v u→t o i v H Q →
  wpAny (model X.prog X.w) X.A (setItem ov iv u) (fun _ s'=>∃ H',Inv X aa σ H' s'∧Q H') X.xe s
section
variable {X:Cx} {pos:Pos}
abbrev Qgk (i:Nat):TG:=fun v σ H Q=>Q (σ.set i (some v)) H
theorem Q1g {i:Nat} {x:Str} (hN:X.N.Nodup) (hi:X.N[i]?=some x) (hx:Loc X.env.scope x) (hf:X.fn x=true∨X.env.scope.names.lookup x=some .local:=by first | exact .inl rfl | exact .inr rfl | assumption):PG X (.Name x pos) (Qgk i):=by
 intro aa s σ H v u Q I r h
 exact wpAny_assign_Name (Qfp I hN hi hx r (fun s' I'=>⟨_,H,I',h⟩) hf)
abbrev Q6b:TGs:=fun vs σ H Q=>vs=[]∧Q σ H
abbrev Qw6 (t:TG) (u:TGs):TGs:=fun vs σ H Q=>∃ v r,vs=v::r∧t v σ H fun σ' H'=>u r σ' H' Q
theorem Q1h:PGs X [] Q6b:=by
 intro aa s σ H vs us Q I r h
 obtain ⟨e,h⟩:=h
 subst e
 cases r
 exact assignInOrder_nil ⟨σ,H,I,h⟩
theorem Qw7 {e:Fr} {es:List Fr} {t:TG} {u:TGs} (h1:PG X e t) (h2:PGs X es u)
  (hs:(assignEach (e::es) X.env).map (·.2)=assign e X.env::(assignEach es X.env).map (·.2):=by rfl):PGs X (e::es) (Qw6 t u):=by
 intro aa s σ H vs us Q I r h
 obtain ⟨v,vr,e1,h⟩:=h
 subst e1
 cases r with
 | cons r rr =>
  rw [hs]
  refine Zcy (thn (h1 aa s σ H _ _ _ I r h) fun _ s1 ⟨σ1,H1,I1,q1⟩=>?_)
  exact h2 aa s1 σ1 H1 _ _ Q I1 rr q1
noncomputable def Q1i (K:Fz) (n:Nat) (t:TGs):TG:=fun v σ H Q=>∃ a xs,v=.ref a∧SqT K H a xs∧xs.length=n∧t xs σ H Q
theorem Q6c {es:List Fr} {k:Nat} {t:TGs} {n:Nat} (hc:X.calm=true) (h:PGs X es t)
  (hn:(assignEach es X.env).length=n:=by rfl) (bn:(assignEach es X.env).findIdx? (·.1)=none:=by rfl):PG X (.Tuple es k pos) (Q1i X.K n t):=by
 intro aa s σ H v u Q I r hw
 obtain ⟨a,xs,e1,hq,hl,hw⟩:=hw
 subst e1
 cases r
 obtain ⟨ac,rv,ht,hz⟩:=I.tuple hq
 refine assign_Tuple_tuple (I.ok.hd hc) ht (by simp [hn,←hl,rv.length]) bn fun h' hx=>?_
 have I1:Inv X aa σ H { s with heap:=h' }:=I.kept (t':=s.toks) fun b o e=>hx b o (Zw (Zj e)) e
 exact h aa _ σ H xs _ Q I1 (by simpa using rv) hw
noncomputable abbrev Q6d (to ti:TE) (t:Q6a):TG:=fun v σ H Q=>to σ H fun o H1=>ti σ H1 fun i H2=>t o i v H2 fun H3=>Q σ H3
theorem Q6e {o i:Fr} {to ti:TE} {t:Q6a} (ho:PE X o to) (hi:PE X i ti) (hs:PSet X t)
  (ha:∀ v,assign (.Subscript o i pos) X.env v=(do
   let ov ← holding [v] (eval o X.env)
   let iv ← holding [v,ov] (eval i X.env)
   standAt pos
   holding [v,ov,iv] (setItem ov iv v)
   release [v,ov,iv] []):=by intro _;rfl):PG X (.Subscript o i pos) (Q6d to ti t):=by
 intro aa s σ H v u Q I r h
 rw [ha]
 refine Za (Zbt (thn (ho aa s σ H _ I h) fun ov s1 ⟨x,H1,I1,r1,q1⟩=>?_))
 refine Za (Zbt (thn (hi aa s1 σ H1 _ I1 q1) fun iv s2 ⟨y,H2,I2,r2,q2⟩=>?_))
 refine Za (Zc8 (Za (Zbt (thn (hs aa s2 σ H2 x y v ov iv u _ I2 r1 r2 r q2) fun _ s3 ⟨H3,I3,q3⟩=>?_))))
 exact wpAny_release ⟨σ,H3,I3,q3⟩
abbrev Qm7 (te:TE) (g:TG):TS:=fun D σ H=>te σ H fun x H1=>g x σ H1 D.nx
theorem Q6f {tg e:Fr} {te:TE} {g:TG} (he:PE X e te) (hg:PG X tg g) (hs:swapsWithSole [tg] e pos.line X.env=pure false:=by rfl) (hw:swappedStores [tg] e X.env=pure none:=by rfl)
  (h1:(assignEach [tg] X.env).map (·.2)=[assign tg X.env]:=by rfl):PS X (.Assign [tg] e pos) (Qm7 te g):=by
 intro aa s σ H D I h
 refine wpAny_Assign_stores (thn (he aa s σ H _ I h) fun v s1 ⟨x,H1,I1,r1,q1⟩=>?_) hs hw
 rw [h1]
 exact thn (hg aa s1 σ H1 x v _ I1 r1 q1) fun _ s2 q=>q
theorem Q6g {i:Nat} {x:Str} {e:Fr} {te:TE} {bR:Pos} (hN:X.N.Nodup) (hi:X.N[i]?=some x) (hx:Loc X.env.scope x) (he:PE X e te) (hs:swapsWith e (some (.Name x bR)) pos.line X.env=pure false:=by rfl) (hf:X.fn x=true∨X.env.scope.names.lookup x=some .local:=by first | exact .inl rfl | exact .inr rfl | assumption) :
  PS X (.Assign [.Name x bR] e pos) (Qm7 te (Qgk i)):=by
 intro aa s σ H D I h
 refine wpAny_Assign_Name (thn (he aa s σ H _ I h) fun v s1 ⟨y,H1,I1,r1,q1⟩=>?_) hs
 exact Qfp I1 hN hi hx r1 (fun s2 I2=>⟨_,H1,I2,q1⟩) hf
noncomputable abbrev Q6h (i j:Nat) (ta:TA):TS:=fun D σ H=>ta σ H fun vs H1=>∃ v w,vs=[v,w]∧D.nx ((σ.set i (some v)).set j (some w)) H1
theorem Q6i {i j:Nat} {x y:Str} {a b:Fr} {ta:TA} {px py pt:Pos} {kt k2 pt2} (hc:X.calm=true) (hN:X.N.Nodup) (hi:X.N[i]?=some x) (hj:X.N[j]?=some y) (cy:i≠j)
  (hx:X.env.scope.names.lookup x=some .local) (hy:X.env.scope.names.lookup y=some .local) (ha:PA X [a,b] ta)
  (hw:swappedStores [.Tuple [.Name x px,.Name y py] kt pt] (.Tuple [a,b] k2 pt2) X.env=pure (some [x,y]))
  (hs:swapsWithSole [.Tuple [.Name x px,.Name y py] kt pt] (.Tuple [a,b] k2 pt2) pos.line X.env=pure false:=by rfl) :
  PS X (.Assign [.Tuple [.Name x px,.Name y py] kt pt] (.Tuple [a,b] k2 pt2) pos) (Q6h i j ta):=by
 intro aa s σ H D I h
 rw [exec_Assign_arm]
 refine Za (Zc8 ?_)
 rw [hs]
 refine Za (Zi ?_)
 rw [Zg (by decide)]
 refine Za (Tuple_ (thn (ha _ aa s σ H _ I h) fun us s1 ⟨vs,H1,I1,r1,q1⟩=>?_))
 obtain ⟨v,w,e1,q1⟩:=q1
 subst e1
 obtain ⟨u1,u2,rfl,rv,dU⟩:∃ u1 u2,us=[u1,u2]∧RelV v u1∧RelV w u2:=by
  cases r1 with
  | cons p q =>
   cases q with
   | cons p' q' =>
    cases q'
    exact ⟨_,_,rfl,p,p'⟩
 refine Zac ?_ (by show 2≤sizeLine;decide)
 have I2:Inv X aa σ H1 { s1 with heap:=s1.heap.push { cls:=.type "tuple",data:=.seq [u1,u2].toArray } }:=I1.kept (t':=s1.toks) fun b o e=>Zb _ e
 rw [hw]
 refine Za (Zi ?_)
 show wpAny (model X.prog X.w) X.A (do rule "assign.swapped-stores";let items ← unpackItems (.ref s1.heap.objs.size) 2 none;assignInOrder [fun v=>bindName X.env y v,fun v=>bindName X.env x v] items.reverse;pure Flow.next) _ _ _
 refine Za (Zdg (Za (unpackItems_tuple (items:=#[u1,u2]) (I.ok.hd hc) (IsTup.new s1.heap _) fun h' bC=>?_)))
 have I3:=I2.kept (h':=h') (t':=s1.toks) fun b o e=>bC b o (Zw (Zj e)) e
 show wpAny _ _ (assignInOrder [fun v=>bindName X.env y v,fun v=>bindName X.env x v] [u2,u1] >>= fun _=>pure Flow.next) _ _ _
 refine Za (Zcy (Zd2 (Qfp I3 hN hj (.inl hy) dU (fun s2 I4=>?_) (.inr hy))))
 refine Zcy (Zd2 (Qfp I4 hN hi (.inl hx) rv (fun s3 I5=>assignInOrder_nil (Zi ?_)) (.inr hx)))
 rw [List.set_comm _ _ (Zcf cy)] at I5
 exact ⟨_,H1,I5,q1⟩
noncomputable def Qw8 (c:TT) (tb:TS):TS:=fun D σ H=>∃ W:Nat→St→Hp→Prop,(∃ m,W m σ H)∧∀ m σ H,W m σ H →
 c σ H fun b H1=>if b=true then ∃ N:St→Hp→Prop,(∀ σ' H',N σ' H'→∃ m',m'<m∧W m' σ' H')∧tb { D with nx:=N,ct:=N,bk:=D.nx } σ H1 else D.nx σ H1
theorem Qw9 {c:Fr} {body:List Fs} {tc:TT} {tb:TS} (hp:PassesOwn (model X.prog X.w) X.A X.env X.xe) (hc:PT X c tc) (hb:PSs X body tb):PS X (.While c body [] pos) (Qw8 tc tb):=by
 intro aa s σ H D I h
 obtain ⟨W,⟨m0,w0⟩,aO⟩:=h
 refine wpAny_While (codeAny_whileLoop (fun n s'=>∃ σ' H',Inv X aa σ' H' s'∧W n σ' H') ?_ m0 ⟨σ,H,I,w0⟩)
 rintro n s1 ⟨σ1,H1,I1,w1⟩
 refine Zbm hp (thn (hc aa s1 σ1 H1 _ I1 (aO n σ1 H1 w1)) fun b s2 ⟨H2,I2,q2⟩=>?_)
 cases b with
 | true =>
  obtain ⟨N,hN,q2⟩:=q2
  rw [Zf rfl]
  refine Zbm hp (thn (hb aa s2 σ1 H2 _ I2 q2) fun f s3 q3=>?_)
  cases f with
  | next =>
   obtain ⟨σ3,H3,I3,n3⟩:=q3
   obtain ⟨m',hm,w3⟩:=hN σ3 H3 n3
   exact ⟨m',hm,σ3,H3,I3,w3⟩
  | cont =>
   obtain ⟨σ3,H3,I3,n3⟩:=q3
   obtain ⟨m',hm,w3⟩:=hN σ3 H3 n3
   exact ⟨m',hm,σ3,H3,I3,w3⟩
  | brk=>exact q3
  | ret v=>exact q3
 | false =>
  rw [Zg Zm]
  exact Zcc ⟨σ1,H2,I2,q2⟩
end
structure It where
 go:Nat→Hp→Prop
 yld:Nat→Hp→V→Hp→Prop
 stop:Nat→Hp→Prop
noncomputable def Qgp (X:Cx) (aa:List (Fw×Obj)) (H:Hp) (b:Fw):Prop :=
 H b=none∧b≠X.env.locals∧b∉X.fs∧(b∈X.ex∨X.s₀.heap.objs.size≤b)∧(∀ x c,X.env.cells.lookup x=some c→c≠b)∧∀ p∈X.pn++aa,p.1≠b
theorem Inv.fpOk {X:Cx} {aa:List (Fw×Obj)} {σ:St} {H H':Hp} {s:Fy} {b:Fw} (I:Inv X aa σ H s) (hb:s.heap.objs.size≤b) (hn:H' b=none):Qgp X aa H' b:=by
 refine ⟨hn,Zcg (Zs I.lt hb),I.nofs hb,.inr (Zao I.sz hb),fun x c e z=>?_,fun p hp z=>?_⟩
 ·obtain ⟨v,q⟩:=I.cell x c e
  exact absurd (Zs q.lt (by rw [z];exact hb)) (Zas _)
 ·exact absurd (Zs (Zj (I.pin p hp).1) (by rw [z];exact hb)) (Zas _)
structure Turn (P:Fu) (w:Ft) (K:Fz) (tg:Fr) (J:It) (fp:List Fw) (it:Fw) (tn:Nat→Fq→Prop):Prop where
 mem:it∈fp
 obj:∀ i h,tn i h→∀ b∈fp,∃ o,h.get? b=some o∧∀ v,o.data≠.cell v
 keep:∀ i h h',tn i h→(∀ b∈fp,∀ o,h.get? b=some o→h'.get? b=some o)→tn i h'
 item:∀ (X:Cx),X.prog=P→X.w=w→X.K=K→X.calm=true→∀ (i:Nat) (aa:List (Fw×Obj)) (s:Fy) (σ:St) (H:Hp) (E:Fx→Fy→Prop),Inv X aa σ H s→(∀ b∈fp,Qgp X aa H b)→tn i s.heap→J.go i H →
  wpAny (model P w) X.A (pyNext (.ref it)) (fun r s1=>∃ u,r=some u ∧
   wpAny (model P w) X.A (letOwnedTupleGo tg (.ref it) u) (fun _ s2=>∃ x H',Inv X aa σ H' s2∧RelV x u∧J.yld i H x H'∧tn (i+1) s2.heap∧∀ b∈fp,H' b=none) E s1) E s
 done:∀ (X:Cx),X.prog=P→X.w=w→X.K=K→X.calm=true→∀ (i:Nat) (aa:List (Fw×Obj)) (s:Fy) (σ:St) (H:Hp) (E:Fx→Fy→Prop),Inv X aa σ H s→(∀ b∈fp,Qgp X aa H b)→tn i s.heap→J.stop i H →
  wpAny (model P w) X.A (pyNext (.ref it)) (fun r s1=>r=none∧Inv X aa σ H s1) E s
 self:∀ (A:Fv) (i:Nat) (s:Fy) (Q:Fx→Fy→Prop) (E:Fx→Fy→Prop),tn i s.heap→Q (.ref it) s→wpAny (model P w) A (pyIter (.ref it)) Q E s
abbrev TI:=St→Hp→(It→Hp→Prop)→Prop
noncomputable def PIE (X:Cx) (aa:List (Fw×Obj)) (σ:St) (tg:Fr) (R:It→Hp→Prop) (ff:Fx) (s2:Fy):Prop :=
 ∃ (it:Fw) (fp:List Fw) (tn:Nat→Fq→Prop) (J:It) (H':Hp),ff=.ref it∧Inv X aa σ H' s2∧Turn X.prog X.w X.K tg J fp it tn∧tn 0 s2.heap∧(∀ b∈fp,Qgp X aa H' b)∧R J H'
noncomputable def PI (X:Cx) (tg af:Fr) (wi:TI):Prop :=
 ∀ (aa:List (Fw×Obj)) (s:Fy) (σ:St) (H:Hp) (R:It→Hp→Prop),Inv X aa σ H s→wi σ H R →
  wpAny (model X.prog X.w) X.A (eval af X.env) (fun v s1=>wpAny (model X.prog X.w) X.A (pyIter v) (PIE X aa σ tg R) X.xe s1) X.xe s
theorem Qtm {M:Model} {A:Fv} {E:Fx→Fy→Prop} {s:Fy} {tg:Fr} {it:Fw} {u:Fx} {o:Obj} {n:String} {vs:Array Fx} {Q:Unit→Fy→Prop} (ho:s.heap.get? it=some o) (hc:o.cls=.type n) (hd:o.data=.fields vs)
  (hn:["enumerate","zip","dict_itemiterator","dict_reverseitemiterator","odict_iterator","itertools.zip_longest","itertools.pairwise"].contains n=false) (hQ:Q () s):wpAny M A (letOwnedTupleGo tg (.ref it) u) Q E s:=by
 unfold letOwnedTupleGo
 cases tg <;> first
  | exact Zi hQ
  | (cases u <;> first
    | exact Zi hQ
    | (refine Za (wpAny_load ho ?_)
       rw [hc,hd]
       show wpAny M A (if (["enumerate","zip","dict_itemiterator","dict_reverseitemiterator","odict_iterator","itertools.zip_longest","itertools.pairwise"].contains n&&vs[0]?==some (rawInt _))=true then _ else _) Q E s
       rw [Zg (by intro h;rw [hn,Zbv] at h;cases h)]
       exact Zi hQ))
noncomputable def Itl (K:Fz) (a:Fw):It :=
 ⟨fun i H=>∃ xs x,SqL K H a xs∧xs[i]?=some x,fun i H x H'=>H'=H∧∀ xs,SqL K H a xs→xs[i]?=some x,fun i H=>∃ xs,SqL K H a xs∧xs.length≤i⟩
noncomputable def Itt (K:Fz) (a:Fw):It :=
 ⟨fun i H=>∃ xs x,SqT K H a xs∧xs[i]?=some x,fun i H x H'=>H'=H∧∀ xs,SqT K H a xs→xs[i]?=some x,fun i H=>∃ xs,SqT K H a xs∧xs.length≤i⟩
def Itr (lo:Int) (n:Nat):It:=⟨fun i _=>i<n,fun i H x H'=>H'=H∧x=.int (lo+i),fun i _=>n≤i⟩
theorem Qvg {P:Fu} {w:Ft} {K:Fz} {tg:Fr} (a it:Fw):Turn P w K tg (Itl K a) [it] it (fun i h=>h.IsListIter it a i) where
 mem:=by simp
 obj:=fun i h st b hb=>by
  have e:b=it:=by simpa using hb
  subst e
  obtain ⟨o,e,c,d⟩:=st
  exact ⟨o,e,fun v z=>by rw [d] at z;cases z⟩
 keep:=fun i h h' st k=>st.at fun o e=>k it (by simp) o e
 item:=by
  intro X hP hw hK hc i aa s σ H E I hf st hg
  subst hP hw hK
  obtain ⟨xs,x,hq,hx⟩:=hg
  obtain ⟨ac,rv,p,hz⟩:=I.list hq
  obtain ⟨u,hu,ru⟩:=rv.get hx
  obtain ⟨f0,f1,f2,f3,f4,f5⟩:=hf it (by simp)
  refine wpAny_pyNext_list_item st p.isList (x:=u) (by simpa using hu) fun h' bN sb=>?_
  have I1:Inv X aa σ H { s with heap:=h' }:=I.turned (t':=s.toks) (fun b o hb e=>(sb.2 b hb).trans e) f0 f1 f3 f4 f5
  obtain ⟨o,e,c,d⟩:=id bN
  exact ⟨u,rfl,Qtm (s:={ s with heap:=h' }) e c d (by decide) ⟨x,H,I1,ru,⟨rfl,fun ys hy=>by rw [I.list_inj hy hq];exact hx⟩,bN,fun b hb=>(hf b hb).1⟩⟩
 done:=by
  intro X hP hw hK hc i aa s σ H E I hf st hg
  subst hP hw hK
  obtain ⟨xs,hq,hx⟩:=hg
  obtain ⟨ac,rv,p,hz⟩:=I.list hq
  obtain ⟨f0,f1,f2,f3,f4,f5⟩:=hf it (by simp)
  have hl:=rv.length
  exact wpAny_pyNext_list_end (I.ok.hd hc) st p.isList (by simp;omega) fun h' eb=>⟨rfl,I.turned (t':=s.toks) (fun b o hb e=>eb b o hb e) f0 f1 f3 f4 f5⟩
 self:=fun _ _ _ _ _ st h=>wpAny_pyIter_listiter st h
theorem Qr0 {P:Fu} {w:Ft} {K:Fz} {tg:Fr} (a it:Fw):Turn P w K tg (Itt K a) [it] it (fun i h=>h.IsTupleIter it a i) where
 mem:=by simp
 obj:=fun i h st b hb=>by
  have e:b=it:=by simpa using hb
  subst e
  obtain ⟨o,e,c,d⟩:=st
  exact ⟨o,e,fun v z=>by rw [d] at z;cases z⟩
 keep:=fun i h h' st k=>st.at fun o e=>k it (by simp) o e
 item:=by
  intro X hP hw hK hc i aa s σ H E I hf st hg
  subst hP hw hK
  obtain ⟨xs,x,hq,hx⟩:=hg
  obtain ⟨ac,rv,p,hz⟩:=I.tuple hq
  obtain ⟨u,hu,ru⟩:=rv.get hx
  obtain ⟨f0,f1,f2,f3,f4,f5⟩:=hf it (by simp)
  refine wpAny_pyNext_tuple_item st (show s.heap.IsTuple a ac.toArray from p) (x:=u) (by simpa using hu) fun h' bN sb=>?_
  have I1:Inv X aa σ H { s with heap:=h' }:=I.turned (t':=s.toks) (fun b o hb e=>(sb.2 b hb).trans e) f0 f1 f3 f4 f5
  obtain ⟨o,e,c,d⟩:=id bN
  exact ⟨u,rfl,Qtm (s:={ s with heap:=h' }) e c d (by decide) ⟨x,H,I1,ru,⟨rfl,fun ys hy=>by rw [I.tuple_inj hy hq];exact hx⟩,bN,fun b hb=>(hf b hb).1⟩⟩
 done:=by
  intro X hP hw hK hc i aa s σ H E I hf st hg
  subst hP hw hK
  obtain ⟨xs,hq,hx⟩:=hg
  obtain ⟨ac,rv,p,hz⟩:=I.tuple hq
  obtain ⟨f0,f1,f2,f3,f4,f5⟩:=hf it (by simp)
  have hl:=rv.length
  exact wpAny_pyNext_tuple_end (I.ok.hd hc) st (show s.heap.IsTuple a ac.toArray from p) (by simp;omega) fun h' eb=>⟨rfl,I.turned (t':=s.toks) (fun b o hb e=>eb b o hb e) f0 f1 f3 f4 f5⟩
 self:=fun _ _ _ _ _ st h=>wpAny_pyIter_tupleiter st h
theorem Qr1 {P:Fu} {w:Ft} {K:Fz} {tg:Fr} (it:Fw) (lo:Int) (n:Nat):Turn P w K tg (Itr lo n) [it] it (fun i h=>IsRangeIter h it (lo+(i:Nat)*1) ((n:Int)-(i:Nat)) 1) where
 mem:=by simp
 obj:=fun i h st b hb=>by
  have e:b=it:=by simpa using hb
  subst e
  exact ⟨_,st,fun v z=>by
   have z':Data.fields _=Data.cell v:=z
   cases z'⟩
 keep:=fun i h h' st k=>k it (by simp) _ st
 item:=by
  intro X hP hw hK hc i aa s σ H E I hf st hg
  subst hP hw hK
  obtain ⟨f0,f1,f2,f3,f4,f5⟩:=hf it (by simp)
  have W:=Walks.range (prog:=X.prog) (w:=X.w) (I.ok.hd hc) it lo 1 n
  refine W.item i s _ _ hg st fun v h' tk hv bN kk=>?_
  obtain ⟨t,rfl⟩:=hv
  have I1:Inv X aa σ H { s with heap:=h',toks:=tk }:=I.turned (fun b o hb e=>kk b o (by simpa using hb) e) f0 f1 f3 f4 f5
  refine ⟨_,rfl,Qtm (s:={ s with heap:=h',toks:=tk }) (n := "range_iterator") bN rfl rfl (by decide) ⟨.int (lo+i),H,I1,⟨t,?_⟩,⟨rfl,rfl⟩,bN,fun b hb=>(hf b hb).1⟩⟩
  rw [Int.mul_one]
 done:=by
  intro X hP hw hK hc i aa s σ H E I hf st hg
  subst hP hw hK
  obtain ⟨f0,f1,f2,f3,f4,f5⟩:=hf it (by simp)
  exact Zdq (I.ok.hd hc) st (by have:n≤i:=hg;omega) fun h' eb=>⟨rfl,I.turned (t':=s.toks) (fun b o hb e=>eb b o hb e) f0 f1 f3 f4 f5⟩
 self:=fun _ _ _ _ _ st h=>Zdr st h
section
variable {X:Cx} {tg:Fr}
theorem Qp7 {aa:List (Fw×Obj)} {σ:St} {H:Hp} {s:Fy} {R:It→Hp→Prop} {E:Fx→Fy→Prop} {lo hi:Int} {t u v:Tok} {tk:Nat} (I:Inv X aa σ H s) (h1:-(2^62)≤lo) (h2:lo<2^62) (h3:-(2^62)≤hi) (h4:hi<2^62)
  (q:R (Itr lo (hi-lo).toNat) H):wpAny (model X.prog X.w) X.A (pyIter (.ref s.heap.objs.size)) (PIE X aa σ tg R) E { s with heap:=s.heap.push { cls:=.type "range",data:=.fields #[.int lo t,.int hi u,.int 1 v] },toks:=tk }:=by
 refine wpAny_pyIter_range (IsRange.new ..) (small_one h1 h2 h3 h4) ?_
 have I1:Inv X aa σ H { s with heap:=s.heap.push { cls:=.type "range",data:=.fields #[.int lo t,.int hi u,.int 1 v] },toks:=tk }:=I.kept fun b o e=>Zb _ e
 refine ⟨(s.heap.push { cls:=.type "range",data:=.fields #[.int lo t,.int hi u,.int 1 v] }).objs.size,[(s.heap.push { cls:=.type "range",data:=.fields #[.int lo t,.int hi u,.int 1 v] }).objs.size],_,_,H,rfl,
  I1.kept (t':=tk) fun b o e=>Zb _ e,Qr1 _ lo (hi-lo).toNat,?_,fun b hb=>?_,q⟩
 ·have e1:lo+((0:Nat):Int)*1=lo:=by simp
  have e2:(((hi-lo).toNat:Nat):Int)-((0:Nat):Int)=Builtin.Range.rangeSize lo hi 1:=by rw [rangeSize_one];split <;> omega
  show IsRangeIter _ _ (lo+((0:Nat):Int)*1) ((((hi-lo).toNat:Nat):Int)-((0:Nat):Int)) 1
  rw [e1,e2]
  exact Zn _ rfl
 ·have e:b=(s.heap.push { cls:=.type "range",data:=.fields #[.int lo t,.int hi u,.int 1 v] }).objs.size:=by simpa using hb
  subst e
  exact I1.fpOk (Zk _) (I1.hok.fresh (Zk _))
noncomputable def Q4n (ta:TA):TI:=fun σ H R=>ta σ H fun vs H1=>∃ j:Int,vs=[.int j] ∧ -(2^62)≤j∧j<2^62∧R (Itr 0 j.toNat) H1
noncomputable def Q4o (ta:TA):TI:=fun σ H R=>ta σ H fun vs H1=>∃ i j:Int,vs=[.int i,.int j]∧(-(2^62)≤i∧i<2^62 ∧ -(2^62)≤j∧j<2^62)∧R (Itr i (j-i).toNat) H1
theorem Qvh {a:Fr} {ta:TA} {p pos:Pos} (hg:Gl X "range") (hm:X.mg "range" = none) (ha:PA X [a] ta) (hs:starEach [a] X.env=[(false,eval a X.env)]:=by rfl):PI X tg (.Call (.Name "range" p) [a] [] pos) (Q4n ta):=by
 intro aa s σ H R I h
 refine Call_ (Qgs I hg hm boot_range (Zaq (thn (ha pos aa s σ H _ I h) fun us s1 ⟨vs,H1,I1,r1,q1⟩=>?_) hs rfl))
 obtain ⟨j,e,q1,q2,q⟩:=q1
 subst e
 cases r1 with
 | cons r rr =>
  cases rr
  obtain ⟨t,rfl⟩:=r
  exact call_range_1 (Qp7 I1 (by omega) (by omega) q1 q2 (by simpa using q))
theorem Qvi {a b:Fr} {ta:TA} {p pos:Pos} (hg:Gl X "range") (hm:X.mg "range" = none) (ha:PA X [a,b] ta) (hs:starEach [a,b] X.env=[(false,eval a X.env),(false,eval b X.env)]:=by rfl) (ao:starEach [b] X.env=[(false,eval b X.env)]:=by rfl) :
  PI X tg (.Call (.Name "range" p) [a,b] [] pos) (Q4o ta):=by
 intro aa s σ H R I h
 refine Call_ (Qgs I hg hm boot_range (Zaq (thn (ha pos aa s σ H _ I h) fun us s1 ⟨vs,H1,I1,r1,q1⟩=>?_) (by rw [hs,ao]) (by rw [ao];rfl)))
 obtain ⟨i,j,e,⟨q1,q2,q3,q4⟩,q⟩:=q1
 subst e
 cases r1 with
 | cons r rr =>
  cases rr with
  | cons r' rr =>
   cases rr
   obtain ⟨t,rfl⟩:=r
   obtain ⟨t',rfl⟩:=r'
   exact call_range_2 (Qp7 I1 q1 q2 q3 q4 q)
noncomputable def Qxa (wi:TI) (g:TG) (tb:TS):TS:=fun D σ H=>wi σ H fun J H1=>∃ W:Nat→Nat→St→Hp→Prop,(∃ m,W 0 m σ H1)∧∀ i m σ H,W i m σ H →
 (J.stop i H∧D.nx σ H)∨(J.go i H∧∃ N:St→Hp→Prop,(∀ σ' H',N σ' H'→∃ m',m'<m∧W (i+1) m' σ' H')∧∀ x H',J.yld i H x H'→g x σ H' fun σ2 H2=>tb { D with nx:=N,ct:=N,bk:=D.nx } σ2 H2)
def Qjo (fp:List Fw) (h:Fq):List (Fw×Obj):=fp.filterMap fun b=>(h.get? b).map fun o=>(b,o)
theorem Qc5 {fp:List Fw} {h:Fq} {b:Fw} {o:Obj} (hb:b∈fp) (e:h.get? b=some o):(b,o)∈Qjo fp h:=List.mem_filterMap.mpr ⟨b,hb,by rw [e];rfl⟩
theorem Qvj {fp:List Fw} {h:Fq} {p:Fw×Obj} (hp:p∈Qjo fp h):p.1∈fp∧h.get? p.1=some p.2:=by
 obtain ⟨b,hb,e⟩:=List.mem_filterMap.mp hp
 cases q:h.get? b with
 | none=>rw [q] at e;cases e
 | some o =>
  rw [q] at e
  have e':(b,o)=p:=Zr e
  subst e'
  exact ⟨hb,q⟩
theorem Inv.pinned {aa:List (Fw×Obj)} {σ:St} {H:Hp} {s:Fy} {fp:List Fw} (I:Inv X aa σ H s) (hf:∀ b∈fp,Qgp X aa H b) (ho:∀ b∈fp,∃ o,s.heap.get? b=some o∧∀ v,o.data≠.cell v):Inv X (aa++Qjo fp s.heap) σ H s :=
 I.pins_of fun p hp=>(Zad.mp hp).elim (fun z=>I.pin p (Zz _ z)) fun z=>by
  obtain ⟨hb,e⟩:=Qvj z
  obtain ⟨f0,f1,f2,_⟩:=hf p.1 hb
  obtain ⟨o,e',d⟩:=ho p.1 hb
  rw [e] at e';cases e'
  exact ⟨e,f0,f1,f2,d⟩
theorem Inv.unpinned {aa pl:List (Fw×Obj)} {σ:St} {H:Hp} {s:Fy} (I:Inv X (aa++pl) σ H s):Inv X aa σ H s:=I.pins_of fun p hp=>I.pin p (Zz _ (Zax _ hp))
theorem Q6j {af:Fr} {body:List Fs} {wi:TI} {g:TG} {tb:TS} {pos:Pos} (hp:PassesOwn (model X.prog X.w) X.A X.env X.xe) (hc:X.calm=true) (hi:PI X tg af wi) (hg:PG X tg g) (hb:PSs X body tb)
  (hs:∀ x,foldedSetIterable af X.env x=pure x:=by intro _;rfl):PS X (.For tg af body [] pos) (Qxa wi g tb):=by
 intro aa s σ H D I h
 refine wpAny_For (thn (hi aa s σ H _ I h) fun v s1 h1=>thn h1 fun ff s2 h2=>?_) hs
 obtain ⟨it,fp,tn,J,H2,e,I2,T,cm,f2,W,⟨m0,w0⟩,aO⟩:=h2
 subst e
 -- what stays true of the iterator's objects through the loop
 have cV:∀ {H':Hp},(∀ b∈fp,H' b=none)→∀ b∈fp,Qgp X aa H' b:=fun hn b hb=>⟨hn b hb,(f2 b hb).2⟩
 refine codeAny_forLoop_any (fun n s'=>∃ i σ' H',Inv X aa σ' H' s'∧tn i s'.heap∧(∀ b∈fp,H' b=none)∧W i n σ' H') ?_ m0 ⟨0,σ,H2,I2,cm,fun b hb=>(f2 b hb).1,w0⟩
 rintro n s3 ⟨i,σ3,H3,I3,gP,gQ,w3⟩
 rcases aO i n σ3 H3 w3 with ⟨stop,qn⟩ | ⟨go,N,hN,step⟩
 ·refine Zbm hp (thn (T.done X rfl rfl rfl hc i aa s3 σ3 H3 X.xe I3 (cV gQ) gP stop) fun r s4 ⟨hr,I4⟩=>?_)
  subst hr
  exact Zcc ⟨σ3,H3,I4,qn⟩
 ·refine Zbm hp (thn (T.item X rfl rfl rfl hc i aa s3 σ3 H3 X.xe I3 (cV gQ) gP go) fun r s4 ⟨u,hr,h4⟩=>?_)
  subst hr
  refine Zbm hp (thn h4 fun _ s5 ⟨x,H5,I5,r5,y5,cq,db⟩=>?_)
  have I5':=I5.pinned (cV db) (T.obj _ _ cq)
  refine Zbm hp (thn (hg _ s5 σ3 H5 x u _ I5' r5 (step x H5 y5)) fun _ s6 ⟨σ6,H6,I6,q6⟩=>?_)
  refine Zbm hp (thn (hb _ s6 σ6 H6 _ I6 q6) fun f s7 q7=>?_)
  have again:∀ {σ7:St} {H7:Hp},Inv X (aa++Qjo fp s5.heap) σ7 H7 s7→N σ7 H7→∃ m,m<n∧∃ i σ' H',Inv X aa σ' H' s7∧tn i s7.heap∧(∀ b∈fp,H' b=none)∧W i m σ' H':=fun {σ7 H7} I7 n7=>by
   obtain ⟨m',hm,w7⟩:=hN σ7 H7 n7
   refine ⟨m',hm,i+1,σ7,H7,I7.unpinned,T.keep _ _ _ cq fun b hb o e=>(I7.pin (b,o) (Zz _ (Zz _ (Qc5 hb e)))).1,fun b hb=>?_,w7⟩
   obtain ⟨o,e,d⟩:=T.obj _ _ cq b hb
   exact (I7.pin (b,o) (Zz _ (Zz _ (Qc5 hb e)))).2.1
  cases f with
  | next=>obtain ⟨σ7,H7,I7,n7⟩:=q7;exact again I7 n7
  | cont=>obtain ⟨σ7,H7,I7,n7⟩:=q7;exact again I7 n7
  | brk=>obtain ⟨σ7,H7,I7,q7⟩:=q7;exact ⟨σ7,H7,I7.unpinned,q7⟩
  | ret v=>obtain ⟨x7,σ7,H7,I7,r7,q7⟩:=q7;exact ⟨x7,σ7,H7,I7.unpinned,r7,q7⟩
end
theorem Qxb {K:Fz} {a:Fw} {xs:List V} {g:TG} {tb:TS} {D:Ends} {σ:St} {H:Hp} (Pv:Nat→St→Hp→Prop) (h0:Pv 0 σ H) (hl:∀ i σ H,i≤xs.length→Pv i σ H→SqL K H a xs)
  (hs:∀ i x σ H,xs[i]?=some x→Pv i σ H→g x σ H fun σ2 H2=>tb { D with nx:=Pv (i+1),ct:=Pv (i+1),bk:=D.nx } σ2 H2) (hd:∀ σ H,Pv xs.length σ H→D.nx σ H) :
  ∃ W:Nat→Nat→St→Hp→Prop,(∃ m,W 0 m σ H)∧∀ i m σ H,W i m σ H →
   ((Itl K a).stop i H∧D.nx σ H)∨((Itl K a).go i H∧∃ N:St→Hp→Prop,(∀ σ' H',N σ' H'→∃ m',m'<m∧W (i+1) m' σ' H')∧∀ x H',(Itl K a).yld i H x H'→g x σ H' fun σ2 H2=>tb { D with nx:=N,ct:=N,bk:=D.nx } σ2 H2):=by
 refine ⟨fun i m σ H=>m=xs.length-i∧i≤xs.length∧Pv i σ H,⟨xs.length,by simp,Zb7 _,h0⟩,?_⟩
 rintro i m σ H ⟨rfl,hi,p⟩
 have q:=hl i σ H hi p
 by_cases aN:i<xs.length
 ·refine .inr ⟨⟨xs,xs[i],q,by simp [aN]⟩,Pv (i+1),fun σ' H' p'=>⟨xs.length-(i+1),by omega,rfl,aN,p'⟩,fun x H' y=>?_⟩
  obtain ⟨e,y⟩:=y
  subst e
  exact hs i x σ _ (y xs q) p
 ·have e:i=xs.length:=by omega
  subst e
  exact .inl ⟨⟨xs,q,Zk _⟩,hd σ H p⟩
abbrev R2:=V→V→Hp→VK→Prop
noncomputable def OpR (X:Cx) (f:Fx→Fx→Sem Fx) (r:R2):Prop :=
 ∀ (aa:List (Fw×Obj)) (s:Fy) (σ:St) (H:Hp) (x y:V) (v u:Fx) (Q:VK),Inv X aa σ H s→RelV x v→RelV y u→r x y H Q →
  wpAny (model X.prog X.w) X.A (f v u) (EP X aa σ Q) X.xe s
noncomputable def UnR (X:Cx) (f:Fx→Sem Fx) (r:V→Hp→VK→Prop):Prop :=
 ∀ (aa:List (Fw×Obj)) (s:Fy) (σ:St) (H:Hp) (x:V) (v:Fx) (Q:VK),Inv X aa σ H s→RelV x v→r x H Q →
  wpAny (model X.prog X.w) X.A (f v) (EP X aa σ Q) X.xe s
noncomputable def CallR (X:Cx) (f:Fx) (r:List V→Hp→VK→Prop):Prop :=
 ∀ (aa:List (Fw×Obj)) (s:Fy) (σ:St) (H:Hp) (xs:List V) (us:List Fx) (Q:VK),Inv X aa σ H s→Vals xs us→r xs H Q →
  wpAny (model X.prog X.w) X.A (call f us) (EP X aa σ Q) X.xe s
abbrev tOp (r:R2) (ta tb:TE):TE:=fun σ H Q=>ta σ H fun x H1=>tb σ H1 fun y H2=>r x y H2 Q
abbrev tUn (r:V→Hp→VK→Prop) (ta:TE):TE:=fun σ H Q=>ta σ H fun x H1=>r x H1 Q
noncomputable def rI (C:Int→Int→Prop) (g:Int→Int→V):R2:=fun x y H Q=>∃ i j,x=.int i∧y=.int j∧C i j∧Q (g i j) H
def rI0 (g:Int→Int→V):R2:=fun x y H Q=>∃ i j,x=.int i∧y=.int j∧Q (g i j) H
def rU (g:Int→V):V→Hp→VK→Prop:=fun x H Q=>∃ i,x=.int i∧Q (g i) H
section
variable {X:Cx} {a b c:Fr} {ta tb tc:TE} {pos:Pos}
theorem Q6k (ha:PE X a ta) (hb:PE X b tb) {aa:List (Fw×Obj)} {s:Fy} {σ:St} {H:Hp} {R:V→V→Hp→Prop} (I:Inv X aa σ H s)
  (h:ta σ H fun x H1=>tb σ H1 fun y H2=>R x y H2) {Q:Fx→Fy→Prop} {f:Fx→Fx→Sem Fx}
  (hf:∀ v u s2 x y H2,Inv X aa σ H2 s2→RelV x v→RelV y u→R x y H2→wpAny (model X.prog X.w) X.A (f v u) Q X.xe s2) :
  wpAny (model X.prog X.w) X.A (eval a X.env) (fun v s₁=>wpAny (model X.prog X.w) X.A (eval b X.env) (fun u s₂=>wpAny (model X.prog X.w) X.A (f v u) Q X.xe s₂) X.xe s₁) X.xe s:=by
 refine thn (ha aa s σ H _ I h) fun v s1 ⟨x,H1,I1,r1,q1⟩=>?_
 refine thn (hb aa s1 σ H1 _ I1 q1) fun u s2 ⟨y,H2,I2,r2,q2⟩=>?_
 exact hf v u s2 x y H2 I2 r1 r2 q2
theorem Qaan {op:Operator} {r:R2} (ho:OpR X (binaryOp op) r) (ha:PE X a ta) (hb:PE X b tb):PE X (.BinOp a op b pos) (tOp r ta tb):=by
 intro aa s σ H Q I h
 exact wpAny_BinOp (Q6k ha hb I h fun v u s2 x y H2 I2 rx ry q=>ho aa s2 σ H2 x y v u Q I2 rx ry q)
theorem Qaao {op:UnaryOp} {r:V→Hp→VK→Prop} (ho:UnR X (unaryOp op) r) (ha:PE X a ta):PE X (.UnaryOp op a pos) (tUn r ta):=by
 intro aa s σ H Q I h
 exact UnaryOp_ (thn (ha aa s σ H _ I h) fun v s1 ⟨x,H1,I1,r1,q1⟩=>ho aa s1 σ H1 x v Q I1 r1 q1)
theorem opI {f:Fx→Fx→Sem Fx} {C:Int→Int→Prop} {g:Int→Int→Int}
  (rule:∀ (i j:Int) (t u:Tok) (s:Fy) (Q:Fx→Fy→Prop) (E:Fx→Fy→Prop),C i j→Q (.int (g i j) s.toks) { s with toks:=s.toks+1 }→wpAny (model X.prog X.w) X.A (f (.int i t) (.int j u)) Q E s) :
  OpR X f (rI C fun i j=>.int (g i j)):=by
 intro aa s σ H x y v u Q I rx ry h
 obtain ⟨i,j,rfl,rfl,hc,q⟩:=h
 obtain ⟨t,rfl⟩:=rx
 obtain ⟨t',rfl⟩:=ry
 exact rule i j t t' s _ _ hc ⟨.int (g i j),H,I.tok _,⟨_,rfl⟩,q⟩
theorem opI0 {f:Fx→Fx→Sem Fx} {g:Int→Int→Int}
  (rule:∀ (i j:Int) (t u:Tok) (s:Fy) (Q:Fx→Fy→Prop) (E:Fx→Fy→Prop),Q (.int (g i j) s.toks) { s with toks:=s.toks+1 }→wpAny (model X.prog X.w) X.A (f (.int i t) (.int j u)) Q E s) :
  OpR X f (rI0 fun i j=>.int (g i j)):=by
 intro aa s σ H x y v u Q I rx ry h
 obtain ⟨i,j,rfl,rfl,q⟩:=h
 obtain ⟨t,rfl⟩:=rx
 obtain ⟨t',rfl⟩:=ry
 exact rule i j t t' s _ _ ⟨.int (g i j),H,I.tok _,⟨_,rfl⟩,q⟩
theorem Q6l {f:Fx→Fx→Sem Fx} {g:Int→Int→Bool}
  (rule:∀ (i j:Int) (t u:Tok) (s:Fy) (Q:Fx→Fy→Prop) (E:Fx→Fy→Prop),Q (.bool (g i j)) s→wpAny (model X.prog X.w) X.A (f (.int i t) (.int j u)) Q E s) :
  OpR X f (rI0 fun i j=>.bl (g i j)):=by
 intro aa s σ H x y v u Q I rx ry h
 obtain ⟨i,j,rfl,rfl,q⟩:=h
 obtain ⟨t,rfl⟩:=rx
 obtain ⟨t',rfl⟩:=ry
 exact rule i j t t' s _ _ ⟨.bl (g i j),H,I,rfl,q⟩
def Q6m (i j:Int):Prop:=0≤j∧j≤1000000∧i.natAbs<2^64
def CMul (i j:Int):Prop:=(-(2^64)<i∧i<2^64)∨(-(2^64)<j∧j<2^64)
theorem CMul.ok {i j:Int} (h:CMul i j):IntMulOk i j:=by
 rcases h with ⟨h1,h2⟩ | ⟨h1,h2⟩
 ·exact .of_left (intBits_le_64 h1 h2)
 ·exact .of_right (intBits_le_64 h1 h2)
theorem Q6n:OpR X (binaryOp .Add) (rI0 fun i j=>.int (i+j)):=opI0 fun _ _ _ _ _ _ _ q=>add_int q
theorem Q6o:OpR X (binaryOp .Sub) (rI0 fun i j=>.int (i-j)):=opI0 fun _ _ _ _ _ _ _ q=>sub_int q
theorem Q6p:OpR X (binaryOp .Mult) (rI CMul fun i j=>.int (i*j)):=opI fun _ _ _ _ _ _ _ hc q=>mul_int q hc.ok
theorem Q1j:OpR X (binaryOp .Mod) (rI (fun _ j=>j≠0) fun i j=>.int (i.fmod j)):=opI fun _ _ _ _ _ _ _ hc q=>mod_int' hc q
theorem Q6q:OpR X (binaryOp .Pow) (rI Q6m fun i j=>.int (i^j.toNat)):=opI fun _ _ _ _ _ _ _ hc q=>pow_int_small hc.1 hc.2.1 hc.2.2 q
theorem unI {f:Fx→Sem Fx} {g:Int→Int}
  (rule:∀ (i:Int) (t:Tok) (s:Fy) (Q:Fx→Fy→Prop) (E:Fx→Fy→Prop),Q (.int (g i) s.toks) { s with toks:=s.toks+1 }→wpAny (model X.prog X.w) X.A (f (.int i t)) Q E s) :
  UnR X f (rU fun i=>.int (g i)):=by
 intro aa s σ H x v Q I rx h
 obtain ⟨i,rfl,q⟩:=h
 obtain ⟨t,rfl⟩:=rx
 exact rule i t s _ _ ⟨.int (g i),H,I.tok _,⟨_,rfl⟩,q⟩
theorem Q6r:UnR X (unaryOp .USub) (rU fun i=>.int (-i)):=unI fun _ _ _ _ _ q=>neg_int q
end
noncomputable def Q6s:V→V→Bool
 | .non,.non=>true | .non,.int _=>true | .int _,.non=>true | .non,.bl _=>true | .bl _,.non=>true | .non,.str _=>true | .str _,.non=>true
 | .int _,.int _=>true | .bl _,.bl _=>true | .str _,.str _=>true | .byt _,.byt _=>true
 | .int _,.str _=>true | .str _,.int _=>true | .bl _,.str _=>true | .str _,.bl _=>true
 | _,_=>false
def rEq:R2:=fun x y H Q=>Q6s x y=true∧Q (.bl (decide (x=y))) H
def rNe:R2:=fun x y H Q=>Q6s x y=true∧Q (.bl (!decide (x=y))) H
theorem Qtn {i j:Int}:decide (V.int i=V.int j)=(i==j):=by
 rw [Zcd]
 simp
theorem Qxc {i j:Bool}:decide (V.bl i=V.bl j)=(i==j):=by
 rw [Zcd]
 simp
theorem Qto {i j:Str}:decide (V.str i=V.str j)=(i==j):=by
 rw [Zcd]
 simp
theorem Qtp {i j:Array UInt8}:decide (V.byt i=V.byt j)=(i.toList==j.toList):=by
 rw [Zcd]
 cases i
 cases j
 simp
section
variable {X:Cx} {a b c:Fr} {ta tb tc:TE} {pos:Pos}
theorem Qat {aa:List (Fw×Obj)} {σ:St} {H:Hp} {s:Fy} {Q:VK} {k k':Bool} (I:Inv X aa σ H s) (q:Q (.bl k) H) (e:k=k'):EP X aa σ Q (.bool k') s:=by
 subst e
 exact ⟨.bl k,H,I,rfl,q⟩
theorem Qaaq:OpR X (compareOp .Eq) rEq:=by
 intro aa s σ H x y v u Q I rx ry h
 obtain ⟨hs,q⟩:=h
 cases x with
 | non =>
  cases rx
  cases y with
  | non=>cases ry;exact PySem.EqNone.eq_none_none (Qat I q (by simp))
  | bl j=>cases ry;exact PySem.EqNone.eq_none_bool (Qat I q (by simp))
  | int j=>obtain ⟨t',rfl⟩:=ry;exact PySem.EqNone.eq_none_int (Qat I q (by simp))
  | str j=>obtain ⟨t',rfl⟩:=ry;exact PySem.EqNone.eq_none_str (Qat I q (by simp))
  | _=>exact absurd (show false=true from hs) Zm
 | bl i =>
  cases rx
  cases y with
  | non=>cases ry;exact PySem.EqNone.eq_bool_none (Qat I q (by simp))
  | bl j=>cases ry;exact eq_bool (Qat I q Qxc)
  | str j=>obtain ⟨t',rfl⟩:=ry;exact PySem.EqMixed.eq_bool_str (Qat I q (by simp))
  | _=>exact absurd (show false=true from hs) Zm
 | int i =>
  obtain ⟨t,rfl⟩:=rx
  cases y with
  | non=>cases ry;exact PySem.EqNone.eq_int_none (Qat I q (by simp))
  | int j=>obtain ⟨t',rfl⟩:=ry;exact eq_int (Qat I q Qtn)
  | str j=>obtain ⟨t',rfl⟩:=ry;exact PySem.EqMixed.eq_int_str (Qat I q (by simp))
  | _=>exact absurd (show false=true from hs) Zm
 | str i =>
  obtain ⟨t,rfl⟩:=rx
  cases y with
  | non=>cases ry;exact PySem.EqNone.eq_str_none (Qat I q (by simp))
  | bl j=>cases ry;exact PySem.EqMixed.eq_str_bool (Qat I q (by simp))
  | int j=>obtain ⟨t',rfl⟩:=ry;exact PySem.EqMixed.eq_str_int (Qat I q (by simp))
  | str j=>obtain ⟨t',rfl⟩:=ry;exact eq_str (Qat I q Qto)
  | _=>exact absurd (show false=true from hs) Zm
 | byt i =>
  obtain ⟨t,rfl⟩:=rx
  cases y with
  | byt j=>obtain ⟨t',rfl⟩:=ry;exact PySem.W.eq_bytes (Qat I q Qtp)
  | _=>exact absurd (show false=true from hs) Zm
 | _=>cases y <;> exact absurd (show false=true from hs) Zm
theorem Qaar:OpR X (compareOp .NotEq) rNe:=by
 intro aa s σ H x y v u Q I rx ry h
 obtain ⟨hs,q⟩:=h
 cases x with
 | non =>
  cases rx
  cases y with
  | non=>cases ry;exact PySem.EqNone.ne_none_none (Qat I q (by simp))
  | bl j=>cases ry;exact PySem.EqNone.ne_none_bool (Qat I q (by simp))
  | int j=>obtain ⟨t',rfl⟩:=ry;exact PySem.EqNone.ne_none_int (Qat I q (by simp))
  | str j=>obtain ⟨t',rfl⟩:=ry;exact PySem.EqNone.ne_none_str (Qat I q (by simp))
  | _=>exact absurd (show false=true from hs) Zm
 | bl i =>
  cases rx
  cases y with
  | non=>cases ry;exact PySem.EqNone.ne_bool_none (Qat I q (by simp))
  | bl j=>cases ry;exact ne_bool (Qat I q (congrArg not Qxc))
  | str j=>obtain ⟨t',rfl⟩:=ry;exact PySem.EqMixed.ne_bool_str (Qat I q (by simp))
  | _=>exact absurd (show false=true from hs) Zm
 | int i =>
  obtain ⟨t,rfl⟩:=rx
  cases y with
  | non=>cases ry;exact PySem.EqNone.ne_int_none (Qat I q (by simp))
  | int j=>obtain ⟨t',rfl⟩:=ry;exact ne_int (Qat I q (congrArg not Qtn))
  | str j=>obtain ⟨t',rfl⟩:=ry;exact PySem.EqMixed.ne_int_str (Qat I q (by simp))
  | _=>exact absurd (show false=true from hs) Zm
 | str i =>
  obtain ⟨t,rfl⟩:=rx
  cases y with
  | non=>cases ry;exact PySem.EqNone.ne_str_none (Qat I q (by simp))
  | bl j=>cases ry;exact PySem.EqMixed.ne_str_bool (Qat I q (by simp))
  | int j=>obtain ⟨t',rfl⟩:=ry;exact PySem.EqMixed.ne_str_int (Qat I q (by simp))
  | str j=>obtain ⟨t',rfl⟩:=ry;exact ne_str (Qat I q (congrArg not Qto))
  | _=>exact absurd (show false=true from hs) Zm
 | byt i =>
  obtain ⟨t,rfl⟩:=rx
  cases y with
  | byt j=>obtain ⟨t',rfl⟩:=ry;exact PySem.W.ne_bytes (Qat I q (congrArg not Qtp))
  | _=>exact absurd (show false=true from hs) Zm
 | _=>cases y <;> exact absurd (show false=true from hs) Zm
theorem Qaas:OpR X (compareOp .Lt) (rI0 fun i j=>.bl (decide (i<j))):=Q6l fun _ _ _ _ _ _ _ q=>lt_int q
theorem Qaat:OpR X (compareOp .Gt) (rI0 fun i j=>.bl (decide (j<i))):=Q6l fun _ _ _ _ _ _ _ q=>gt_int q
theorem Qaau:OpR X (compareOp .GtE) (rI0 fun i j=>.bl (decide (j≤i))):=Q6l fun _ _ _ _ _ _ _ q=>ge_int q
theorem Q6t:OpR X (compareOp .Is) (fun x y H Q=>y=.non∧Q (.bl (decide (x=.non))) H):=by
 intro aa s σ H x y v u Q I rx ry h
 obtain ⟨rfl,q⟩:=h
 cases ry
 refine is_none_gen (Qat I q ?_)
 cases x <;> first
  | (cases rx;rfl)
  | (obtain ⟨t,rfl⟩:=rx;rfl)
theorem Q1k:OpR X (compareOp .IsNot) (fun x y H Q=>y=.non∧Q (.bl (!decide (x=.non))) H):=by
 intro aa s σ H x y v u Q I rx ry h
 obtain ⟨rfl,q⟩:=h
 cases ry
 refine isnot_none_gen (Qat I q ?_)
 cases x <;> first
  | (cases rx;rfl)
  | (obtain ⟨t,rfl⟩:=rx;rfl)
theorem OpR.or {f:Fx→Fx→Sem Fx} {r r':R2} (h:OpR X f r) (h':OpR X f r'):OpR X f (fun x y H Q=>r x y H Q∨r' x y H Q):=by
 intro aa s σ H x y v u Q I rx ry q
 rcases q with q | q
 ·exact h aa s σ H x y v u Q I rx ry q
 ·exact h' aa s σ H x y v u Q I rx ry q
theorem Qxd (b:Fr) {op:CmpOp} (h:op≠.In:=by decide) (h2:op≠.NotIn:=by decide):behindInMarks op b=false:=by
 have e1:(op==CmpOp.In)=false:=by cases op <;> first | rfl | exact absurd rfl h
 have e2:(op==CmpOp.NotIn)=false:=by cases op <;> first | rfl | exact absurd rfl h2
 cases b <;> simp [behindInMarks,e1,e2]
theorem Q1l {op:CmpOp} {r:R2} (ho:OpR X (compareOp op) r) (ha:PE X a ta) (hb:PE X b tb) (hm:behindInMarks op b=false):PE X (.Compare a [op] [b] pos) (tOp r ta tb):=by
 intro aa s σ H Q I h
 exact wpAny_Compare1 (Q6k ha hb I h fun v u s2 x y H2 I2 rx ry q=>ho aa s2 σ H2 x y v u Q I2 rx ry q) hm
abbrev Q4p (t:TE):TT:=fun σ H Q=>t σ H fun x H'=>∃ k,x=.bl k∧Q k H'
theorem Q1m {op:CmpOp} {r:R2} (ho:OpR X (compareOp op) r) (ha:PE X a ta) (hb:PE X b tb) (hm:behindInMarks op b=false):PT X (.Compare a [op] [b] pos) (Q4p (tOp r ta tb)):=by
 intro aa s σ H Q I h
 refine Zdw (thn (ha aa s σ H _ I h) fun v s1 ⟨x,H1,I1,r1,q1⟩=>thn (hb aa s1 σ H1 _ I1 q1) fun u s2 ⟨y,H2,I2,r2,q2⟩ =>
  thn (ho aa s2 σ H2 x y v u _ I2 r1 r2 q2) fun c s3 ⟨z,H3,I3,r3,k,e,q3⟩=>?_) hm
 subst e
 cases r3
 exact Zbq ⟨H3,I3,q3⟩
theorem Qlo:(sizeLine:Nat)<2^63:=by rw [Zbo];decide
theorem Qkp {x:V} {us:List Fx} (r:Vals [x] us):∃ u,us=[u]∧RelV x u:=by
 cases r with
 | cons r1 r2=>cases r2;exact ⟨_,rfl,r1⟩
theorem Qp8 {x y:V} {us:List Fx} (r:Vals [x,y] us):∃ u w',us=[u,w']∧RelV x u∧RelV y w':=by
 cases r with
 | cons r1 r2 =>
  cases r2 with
  | cons r3 r4=>cases r4;exact ⟨_,_,rfl,r1,r3⟩
theorem Qxe:CallR X (.builtin "abs") (fun xs H Q=>∃ i,xs=[.int i]∧Q (.int (if i<0 then -i else i)) H):=by
 intro aa s σ H xs us Q I r h
 obtain ⟨i,rfl,q⟩:=h
 obtain ⟨u,rfl,t,rfl⟩:=Qkp r
 exact call_abs_int fun u tk=>⟨.int (if i<0 then -i else i),H,I.tok _,⟨_,rfl⟩,q⟩
theorem Qvk (hc:X.calm=true):CallR X (.builtin "max") (fun xs H Q=>∃ i j,xs=[.int i,.int j]∧Q (.int (if j>i then j else i)) H):=by
 intro aa s σ H xs us Q I r h
 obtain ⟨i,j,rfl,q⟩:=h
 obtain ⟨u,w',rfl,⟨t,rfl⟩,⟨t',rfl⟩⟩:=Qp8 r
 refine max_two_ints (I.ok.hd hc) fun h' tk k=>⟨_,H,I.kept k,?_,q⟩
 by_cases hj:j>i
 ·rw [Zf hj,Zf hj];exact ⟨_,rfl⟩
 ·rw [Zg hj,Zg hj];exact ⟨_,rfl⟩
theorem Qvl:CallR X (.type "int") (fun xs H Q=>(∃ i,xs=[.int i]∧Q (.int i) H)∨∃ k,xs=[.bl k]∧Q (.int (if k then 1 else 0)) H):=by
 intro aa s σ H xs us Q I r h
 rcases h with ⟨i,rfl,q⟩ | ⟨k,rfl,q⟩
 ·obtain ⟨u,rfl,t,rfl⟩:=Qkp r
  exact call_int_int ⟨.int i,H,I,⟨_,rfl⟩,q⟩
 ·obtain ⟨u,rfl,r1⟩:=Qkp r
  cases r1
  exact call_int_bool ⟨.int (if k then 1 else 0),H,I.tok _,⟨_,rfl⟩,q⟩
end
structure ObjM (h:Fq) (x dx C:Fw) (mA:Str→Option Fx):Prop where
 obj:h.get? x=some (PySem.W.instObj C dx)
 ns:h.Ns1 dx mA
 ne:dx≠x
theorem Qvm {h:Fq} {dx:Fw} {mA:Str→Option Fx} (n:h.Ns1 dx mA):∃ od,h.get? dx=some od∧∀ name,PySem.W.lookIn name od=some (mA name):=by
 obtain ⟨o,es,ep,ho,hd,hk,_,hm⟩:=n
 refine ⟨o,ho,fun name=>?_⟩
 have e:=hm name
 unfold nsFind findBy at e
 rw [←Array.find?_toList] at e
 unfold PySem.W.lookIn
 rw [hd]
 dsimp only
 split
 ·rename_i y q
  rw [q] at e
  exact congrArg some e
 ·rename_i q
  rw [q] at e
  have a:es.toList.any (·.refKey)=false:=by
   rw [Zdj]
   intro y hy
   obtain ⟨z,t,fZ⟩:=hk y (Array.mem_toList_iff.mp hy)
   simp [DictEntry.refKey,fZ]
  have a':¬ es.toList.any (·.refKey)=true:=by rw [a];exact Zm
  rw [Zg a']
  exact congrArg some e
theorem ObjM.look {h:Fq} {x dx C:Fw} {mA:Str→Option Fx} (I:ObjM h x dx C mA):∃ od,PySem.W.InstAt h x (PySem.W.instObj C dx) C (some od)∧∀ name,PySem.W.lookIn name od=some (mA name) :=
 let ⟨od,ho,hl⟩:=Qvm I.ns
 ⟨od,⟨I.obj,rfl,rfl,ho⟩,hl⟩
section
variable {prog:Fu} {w:Ft} {A:Fv} {E:Fx→Fy→Prop} {s:Fy} {K:Fz} {x dx C f:Fw} {mA:Str→Option Fx} {name:Str} {v:Fx}
end
section
variable {P:Fu} {w:Ft} {H H':Hp} {h h':Fq} {a C dx:Fw} {fs eS:List (Str×V)}
theorem Q1n (hok:HOk P w H h) (e:H a=some (.ins C dx fs)):∃ mA,ObjM h a dx C mA∧(∀ f,RelO (fs.lookup f) (mA f))∧PySem.Within mA (fs.map (·.1))∧fs.length≤1000∧H dx=some (.own a):=by
 obtain ⟨d,z,ne,ob,mA,n,r,q⟩:=(show ObjOk P w H h a (.ins C dx fs) from hok a _ e)
 exact ⟨mA,⟨ob,n,ne⟩,r,q,z,d⟩
end
structure Cls (K:Fz) (C:Fw):Prop where
 pg:PySem.W.plainGet K C Str.empty=true
 hd:PySem.W.hasDictIn K C=true
 po:PySem.W.plainOver K C=true
 sa:PySem.W.findIn K (.ref C) "__setattr__" = some (some (.builtin "object.__setattr__"))
theorem Cls.get {K:Fz} {C:Fw} (c:Cls K C) (f:Str):PySem.W.plainGet K C f=true:=c.pg
structure Con (K:Fz) (C:Fw) (f:Str) (v:V) (u:Fx):Prop where
 at_:PySem.W.findIn K (.ref C) f=some (some u)
 rel:RelV v u
 get:PySem.W.specialIn K u "__get__" = some none
 cp:PySem.W.copiedNames.contains f=false
structure Meth (K:Fz) (C:Fw) (m:Str) (f:Fw):Prop where
 at_:PySem.W.findIn K (.ref C) m=some (some (.ref f))
 fn:PySem.W.isFn K (.ref f)=true
 kp:PySem.W.keepIn K (.ref f)=true
section
variable {X:Cx} {aa:List (Fw×Obj)} {σ:St} {H:Hp} {s:Fy} {a C dx:Fw} {fs:List (Str×V)} {f:Str} {v:V} {A:Fv} {E:Fx→Fy→Prop}
end
section
variable {X:Cx} {o e value:Fr} {f:Str} {pos bR gs:Pos} {ta tv:TE}
end
section
variable {X:Cx} {aa:List (Fw×Obj)} {σ:St} {H:Hp} {s:Fy} {A:Fv} {E:Fx→Fy→Prop} {Q:Fx→Fy→Prop} {c:Fx} {b:Bool}
inductive TyOf (K:Fz) (H:Hp):V→Fx→Prop where
 | non:TyOf K H .non (.type "NoneType")
 | bl (x:Bool):TyOf K H (.bl x) (.type "bool")
 | int (i:Int):TyOf K H (.int i) (.type "int")
 | str (x:Str):TyOf K H (.str x) (.type "str")
 | flt (x:UInt64):TyOf K H (.flt x) (.type "float")
 | lst {a:Fw} {xs:List V} (e:H a=some (.lst xs)):TyOf K H (.ref a) (.type "list")
 | frz {a:Fw} {o:Obj} {xs:List V} (e:H a=some (.frz o (.lst xs))):TyOf K H (.ref a) (.type "list")
 | tup {a:Fw} {xs:List V} (e:H a=some (.tup xs)):TyOf K H (.ref a) (.type "tuple")
 | dK {a:Fw} {ag:List (Key×V)} (e:H a=some (.dK ag)):TyOf K H (.ref a) (.type "dict")
 | dT {a:Fw} {ag:List (List Key×V)} (e:H a=some (.dT ag)):TyOf K H (.ref a) (.type "dict")
 | ins {a C dx:Fw} {fs:List (Str×V)} (e:H a=some (.ins C dx fs)) (cl:Cls K C) (ha:PySem.W.findIn K (.ref C) "__class__" = some (some (.builtin "object.__class__")))
   (hn:PySem.W.specialIn K (.builtin "object.__class__") "__get__" = some (some (.builtin "getset_descriptor.__get__"))) (gX:PySem.W.takesIn K (.builtin "object.__class__")=some true)
   (hm:PySem.W.mroIn K C (.type "object")=some true):TyOf K H (.ref a) (.ref C)
theorem Qvn {x:V} {u t:Fx} (I:Inv X aa σ H s) (rx:RelV x u) (ty:TyOf X.K H x t) (e:PySem.W.kitOne X.K t c=some b) (h:∀ tk,Q (.bool b) { s with toks:=tk }) :
  wpAny (model X.prog X.w) A (call (.builtin "isinstance") [u,c]) Q E s:=by
 cases ty with
 | non=>cases (show u=Value.none from rx);exact Zam PySem.W.kitx_none I.kIn True.intro e (fun z=>nomatch z) h
 | bl y=>cases (show u=Value.bool y from rx);exact Zam PySem.W.kitx_bool I.kIn True.intro e (fun z=>nomatch z) h
 | int i=>obtain ⟨t,q⟩:=(show ∃ t,u=Value.int i t from rx);cases q;exact Zam PySem.W.kitx_int I.kIn True.intro e (fun z=>nomatch z) h
 | str y=>obtain ⟨t,q⟩:=(show ∃ t,u=Value.str y t from rx);cases q;exact Zam PySem.W.kitx_str I.kIn True.intro e (fun z=>nomatch z) h
 | flt y=>obtain ⟨t,q⟩:=(show ∃ t,u=Value.float y t from rx);cases q;exact Zam PySem.W.kitx_float I.kIn True.intro e (fun z=>nomatch z) h
 | @lst a xs ea =>
  cases (show u=Value.ref a from rx)
  obtain ⟨_,_,n,_,h1⟩:=(show ObjOk X.prog X.w H s.heap a (.lst xs) from I.hok a _ ea)
  exact Zam PySem.W.kitx_list I.kIn ⟨_,h1,rfl⟩ e (fun z=>nomatch z) h
 | @frz a ob xs ea =>
  cases (show u=Value.ref a from rx)
  obtain ⟨_,_,_,n,_,h1⟩:=(show ObjOk X.prog X.w H s.heap a (.frz ob (.lst xs)) from I.hok a _ ea)
  exact Zam PySem.W.kitx_list I.kIn ⟨_,h1,rfl⟩ e (fun z=>nomatch z) h
 | @tup a xs ea =>
  cases (show u=Value.ref a from rx)
  obtain ⟨_,_,_,p⟩:=(show ObjOk X.prog X.w H s.heap a (.tup xs) from I.hok a _ ea)
  obtain ⟨o,h1,h2,_⟩:=p
  exact Zam PySem.W.kitx_tuple I.kIn ⟨o,h1,h2⟩ e (fun z=>nomatch z) h
 | @dK a ag ea =>
  cases (show u=Value.ref a from rx)
  obtain ⟨_,_,vs,_,p⟩:=(show ObjOk X.prog X.w H s.heap a (.dK ag) from I.hok a _ ea)
  obtain ⟨o,es,ep,h1,h2,_⟩:=p
  exact Zam PySem.W.kitx_dict I.kIn ⟨o,h1,h2.1⟩ e (fun z=>nomatch z) h
 | @dT a ag ea =>
  cases (show u=Value.ref a from rx)
  obtain ⟨_,_,xs,_,o,es,ep,h1,h2,_⟩:=(show ObjOk X.prog X.w H s.heap a (.dT ag) from I.hok a _ ea)
  exact Zam PySem.W.kitx_dict I.kIn ⟨o,h1,h2.1⟩ e (fun z=>nomatch z) h
 | @ins a C dx fs ea cl ha hn gX hm =>
  cases (show u=Value.ref a from rx)
  obtain ⟨mA,O,_⟩:=Q1n I.hok ea
  obtain ⟨od,J,_⟩:=O.look
  exact Zam (PySem.W.kitx_own (cl.get _) cl.hd ha hn gX hm) I.kIn J e (fun z=>nomatch z) h
end
structure Room (k:Nat) (A:Fv):Prop where
 hd:A.handled=none
 dp:A.depth+3*k+5<recursionLimit
 un:A.units+16*k+200<cLine
 gd:A.guards=some []
theorem Room.mono {j k:Nat} {A:Fv} (r:Room k A) (h:j≤k):Room j A:=⟨r.hd,by have:=r.dp;omega,by have:=r.un;omega,r.gd⟩
theorem Room.deeper {k:Nat} {A:Fv} (r:Room (k+1) A) (env:Env):Room k (A.deeper env) :=
 ⟨r.hd,by have:=r.dp;show A.depth+1+3*k+5<_;omega,by have:=r.un;show A.units+3+16*k+200<_;omega,r.gd⟩
theorem Room.depth {k:Nat} {A:Fv} (r:Room k A):A.depth<recursionLimit:=by have:=r.dp;omega
theorem Room.units {k:Nat} {A:Fv} (r:Room k A):A.units+64<cLine:=by have:=r.un;omega
abbrev Qr2:TA:=fun _ H Q=>Q [] H
abbrev Qil (ta:TE) (tr:TA):TA:=fun σ H Q=>ta σ H fun x H1=>tr σ H1 fun xs H2=>Q (x::xs) H2
section
variable {X:Cx} {e:Fr} {es:List Fr} {te:TE} {t:TA} {pos:Pos}
theorem Qxf:PA X [] Qr2:=fun _ _ _ _ H Q I h=>Calls.spliced_nil ⟨[],H,I,.nil,h⟩
theorem Q1o (ha:PE X e te) (hr:PA X es t) (hs:starEach (e::es) X.env=(false,eval e X.env)::starEach es X.env:=by rfl):PA X (e::es) (Qil te t):=by
 intro pos aa s σ H Q I h
 rw [hs]
 show wpAny _ _ (spliced ((false,eval e X.env)::backTo pos (starEach es X.env))) _ _ s
 refine Calls.spliced_cons (thn (ha aa s σ H _ I h) fun u s1 ⟨x,H1,I1,r1,q1⟩=>?_)
 exact thn (hr pos aa s1 σ H1 _ I1 q1) fun us s2 ⟨xs,H2,I2,r2,q2⟩=>⟨x::xs,H2,I2,.cons r1 r2,q2⟩
noncomputable abbrev tTup (t:TA):TE:=fun σ H Q=>t σ H fun xs H1=>xs.length≤sizeLine∧∀ p,H1 p=none→Q (.ref p) (upd H1 p (.tup xs))
noncomputable abbrev tLst (t:TA):TE:=fun σ H Q=>t σ H fun xs H1=>xs.length≤sizeLine∧∀ p,H1 p=none→Q (.ref p) (upd H1 p (.lst xs))
theorem Qxg {x1} (h:PA X es t):PE X (.Tuple es x1 pos) (tTup t):=by
 intro aa s σ H Q I hq
 refine wpAny_Tuple_spliced (thn (h pos aa s σ H _ I hq) fun us s1 ⟨xs,H1,I1,r,z,q⟩=>⟨by rw [←r.length];exact z,?_⟩)
 have hf:H1 s1.heap.objs.size=none:=I1.hok.fresh (Zk _)
 refine ⟨.ref s1.heap.objs.size,upd H1 s1.heap.objs.size (.tup xs),I1.laid (t':=s1.toks) (fun b u e=>Zb _ e) (Zk _) ?_,rfl,q _ hf⟩
 exact ⟨z,us,r,⟨_,Zn _ rfl,rfl,_,rfl,rfl⟩⟩
theorem Qxh (h:PA X es t):PE X (.List es pos) (tLst t):=by
 intro aa s σ H Q I hq
 refine wpAny_List_spliced (thn (h pos aa s σ H _ I hq) fun us s1 ⟨xs,H1,I1,r,z,q⟩=>⟨by rw [←r.length];exact z,?_⟩)
 have hf:H1 s1.heap.objs.size=none:=I1.hok.fresh (Zk _)
 refine ⟨.ref s1.heap.objs.size,upd H1 s1.heap.objs.size (.lst xs),I1.laid (t':=s1.toks) (fun b u e=>Zb _ e) (Zk _) ?_,rfl,q _ hf⟩
 exact ⟨z,us,0,r,Zn _ rfl⟩
end
abbrev Sp:=List V→Hp→VK→XK→Prop
abbrev CXT:=List Env→Hp→Fy→XK→Fx→Fy→Prop
structure Env0 (P:Fu) (w:Ft) (K:Fz) (mg:Str→Option Fx) (base:Fq) (A:Fv) (outer:List Env) (s:Fy) (H:Hp):Prop where
 frames:A.frames=some outer
 mod:Mod K mg base
 bs:∀ b o,base.get? b=some o→s.heap.get? b=some o∧H b=none
 bsz:base.objs.size≤s.heap.objs.size
 funs:s.heap.FunFrames base outer
 frf:(∀ b∈frs outer,H b=none)∧Qw0 K H
 hok:HOk P w H s.heap
 bare:AllBare s.gens
noncomputable def CE (outer:List Env) (P:Fu) (w:Ft) (H:Hp) (s:Fy) (Q:VK) (u:Fx) (s':Fy):Prop :=
 ∃ v H',s'.os=s.os∧AllBare s'.gens∧Un (frs outer) [] H H' s.heap s'.heap∧HOk P w H' s'.heap∧RelV v u∧Q v H'
noncomputable def CR (CX:CXT) (outer:List Env) (P:Fu) (w:Ft) (H:Hp) (s:Fy) (Q:VK) (E:XK) (r:Result) (s':Fy):Prop :=
 match r with
 | .ok (.ret u)=>CE outer P w H s Q u s'
 | .ok _=>False
 | .error e=>CX outer H s E e s'
structure FnOk (P:Fu) (w:Ft) (K:Fz) (mg:Str→Option Fx) (base:Fq) (CX:CXT) (k:Nat) (f:Fw) (fd:FuncData) (ps:List Str) (sp:Sp):Prop where
 len:∀ vs H Q E,sp vs H Q E→vs.length=ps.length
 run:∀ (A:Fv) (outer:List Env) (s:Fy) (H:Hp) (args:Args) (us:List Fx) (vs:List V) (Q:VK) (E:XK),Room k A→Env0 P w K mg base A outer s H→BindsTo s fd args (ps.zip us)→Vals vs us→sp vs H Q E →
  codeAny (model P w) A (.call (.ref f) args) (CR CX outer P w H s Q E) s
theorem FnOk.mono {P:Fu} {w:Ft} {K:Fz} {mg:Str→Option Fx} {base:Fq} {CX:CXT} {j k:Nat} {f:Fw} {fd:FuncData} {ps:List Str} {sp:Sp} (F:FnOk P w K mg base CX j f fd ps sp) (h:j≤k) :
  FnOk P w K mg base CX k f fd ps sp:=⟨F.len,fun A outer s H args us vs Q E hr=>F.run A outer s H args us vs Q E (hr.mono h)⟩
section
variable {X:Cx} {aa:List (Fw×Obj)} {σ:St} {H:Hp} {s s':Fy}
theorem Inv.env0 (I:Inv X aa σ H s):Env0 X.prog X.w X.K X.mg X.base X.A X.stack s H :=
 ⟨I.ok.frames,I.ok.mod,I.bs,Zao I.ok.bsz I.sz,I.stack,⟨I.stkFree,I.tab⟩,I.hok,I.bare⟩
theorem Inv.after {Q:VK} {u:Fx} (I:Inv X aa σ H s) (h:CE X.stack X.prog X.w H s Q u s'):EP X aa σ Q u s':=by
 obtain ⟨v,H',os,bare,un,hok,r,q⟩:=h
 obtain ⟨hh,g,d,t,kr⟩:=s'
 obtain rfl:kr=s.os:=os
 exact ⟨v,H',I.call (h':=hh) (g':=g) (d':=d) (t':=t) (ch:=[]) un hok bare (fun b z=>absurd z (by simp)),r,q⟩
end
noncomputable abbrev Qnr (sp:Sp) (cG:List V) (E:XK) (t:TA):TE:=fun σ H Q=>t σ H fun vs H1=>sp (vs++cG) H1 Q E
noncomputable def Binds (K:Fz) (fd:FuncData) (ps:List Str) (ds:List Fx):Prop :=
 ∀ (s:Fy) (us:List Fx),K.In s.heap→(us++ds).length=ps.length→BindsTo s fd ⟨us,[]⟩ (ps.zip (us++ds))
theorem Binds.all {K:Fz} {fd:FuncData} {ps:List Str} (h:∀ us:List Fx,us.length=ps.length→bindArgs fd ⟨us,[]⟩=pure (ps.zip us)):Binds K fd ps []:=fun s us _ hl=>by
 rw [Za6] at hl ⊢
 exact .of_eq (h us hl)
noncomputable def Qr3 (CX:CXT) (X:Cx) (E:XK):Prop:=∀ (aa:List (Fw×Obj)) (σ:St) (H:Hp) (s:Fy) (e:Fx) (s':Fy),Inv X aa σ H s→CX X.stack H s E e s'→X.xe e s'
section
variable {X:Cx} {CX:CXT} {k:Nat} {f C:Fw} {fd:FuncData} {ps:List Str} {sp:Sp} {cG:List V} {ds:List Fx} {E:XK} {x m:Str} {p pos a7:Pos} {e o:Fr} {es:List Fr} {ta:TE} {t:TA}
theorem Q6u {aa:List (Fw×Obj)} {σ:St} {H:Hp} {s:Fy} {Q:VK} {us:List Fx} {vs:List V} (F:FnOk X.prog X.w X.K X.mg X.base CX k f fd ps sp) (hr:Room k X.A) (hb:Binds X.K fd ps ds) (hd:Vals cG ds) (hx:Qr3 CX X E)
  (I:Inv X aa σ H s) (r:Vals vs us) (h:sp (vs++cG) H Q E):wpAny (model X.prog X.w) X.A (call (.ref f) us) (EP X aa σ Q) X.xe s:=by
 have r2:Vals (vs++cG) (us++ds):=r.append hd
 have hl:(us++ds).length=ps.length:=by rw [←r2.length];exact F.len _ _ _ _ h
 refine Zd8 (Zcw (F.run X.A X.stack s H ⟨us,[]⟩ (us++ds) (vs++cG) Q E hr I.env0 (hb s us I.kIn hl) r2 h) fun r s' hq=>?_)
 cases r with
 | error e=>exact hx aa σ H s e s' I hq
 | ok fl =>
  cases fl with
  | ret u=>exact I.after hq
  | next=>exact Zef hq
  | brk=>exact Zef hq
  | cont=>exact Zef hq
theorem Q1p (F:FnOk X.prog X.w X.K X.mg X.base CX k f fd ps sp) (hr:Room k X.A) (hg:Gl X x) (hm:X.mg x=some (.ref f)) (hk:PySem.W.keepIn X.K (.ref f)=true) (hb:Binds X.K fd ps ds) (hd:Vals cG ds) (hx:Qr3 CX X E)
  (ha:PA X (e::es) t) (ay:(x==("__debug__" : Str))=false:=by decide) (he:starEach (e::es) X.env=(false,eval e X.env)::starEach es X.env:=by rfl) (aI:(backTo pos (starEach es X.env)).any (·.1)=false:=by rfl) :
  PE X (.Call (.Name x p) (e::es) [] pos) (Qnr sp cG E t):=by
 intro aa s σ H Q I h
 refine Zb1 (Qhc I hg hm ?_ ay)
 refine Zcz (h₀:=X.base) I.ok.mod.kin hk (thn (ha pos aa s σ H _ I h) fun us s1 ⟨vs,H1,I1,r,q⟩=>⟨I1.kIn,?_⟩) he aI
 exact Q6u F hr hb hd hx I1 r q
structure Mk (K:Fz) (C f:Fw):Prop where
 makes:PySem.W.makesIn K C=true
 init:PySem.W.findIn K (.ref C) "__init__" = some (some (.ref f))
 fn:PySem.W.isFn K (.ref f)=true
 kp:PySem.W.keepIn K (.ref C)=true
end
section
variable {X:Cx} {CX:CXT} {k:Nat} {f C:Fw} {fd:FuncData} {ps ks:List Str} {sp:Sp} {E:XK} {x m:Str} {p pos a7 iO:Pos} {e o:Fr} {es:List Fr} {kK:List Keyword} {te ta:TE} {t tk:TA} {nm:Option Str}
structure KBinds (K:Fz) (fd:FuncData) (ps ks:List Str) (g:List Fx→List Fx→List Fx) (gV:List V→List V→List V):Prop where
 to:∀ (s:Fy) (us ws:List Fx),K.In s.heap→(g us ws).length=ps.length→BindsTo s fd ⟨us,ks.zip ws⟩ (ps.zip (g us ws))
 rel:∀ {vs:List V} {us:List Fx} {zs:List V} {ws:List Fx},Vals vs us→Vals zs ws→Vals (gV vs zs) (g us ws)
variable {g:List Fx→List Fx→List Fx} {gV:List V→List V→List V}
end
structure FnScope (N P:List Str) (sc:Scope):Prop where
 kind:sc.kind=.function
 co:sc.isCoroutine=false
 gen:sc.isGenerator=false
 nd:N.Nodup
 pre:N.take P.length=P
 par:∀ x∈P,sc.names.lookup x=some .local∨sc.names.lookup x=some .cell
 nofree:∀ y∈sc.names,y.2≠.free
theorem Qns {kindOf:Str→Option NameKind} {x:Str}:∀ {binds:List (Str×Fx)} {m:Str→Option Fx},(∀ v,(x,v)∉binds)→bindL kindOf binds m x=m x
 | [],_,_=>rfl
 | (n,v)::r,m,h=>by
  unfold bindL
  rw [Qns fun w hw=>h w (Z5 _ hw)]
  split
  ·have:x≠n:=by rintro rfl;exact h v Zaj
   simp [this]
  ·rfl
theorem Qnt {kindOf:Str→Option NameKind} {x:Str}:∀ {binds:List (Str×Fx)} {m:Str→Option Fx},(∀ v,(x,v)∉binds)→bindC kindOf binds m x=m x
 | [],_,_=>rfl
 | (n,v)::r,m,h=>by
  unfold bindC
  rw [Qnt fun w hw=>h w (Z5 _ hw)]
  split
  ·rfl
  ·have:x≠n:=by rintro rfl;exact h v Zaj
   simp [this]
theorem Qjp {kindOf:Str→Option NameKind} {x:Str} {v:Fx}:∀ {P:List Str} {vs:List Fx} {i:Nat} {m:Str→Option Fx},P.Nodup→P[i]?=some x→vs[i]?=some v→kindOf x=some .local →
  bindL kindOf (P.zip vs) m x=some v
 | [],_,_,_,_,h,_,_=>by simp at h
 | _::_,[],_,_,_,_,h,_=>by simp at h
 | p::P,w::vs,0,m,nd,h1,h2,hk=>by
  simp at h1 h2;subst h1;subst h2
  show bindL kindOf ((p,w)::P.zip vs) m p=_
  unfold bindL
  rw [Qns fun v hv=>(Zcx.mp nd).1 (List.of_mem_zip hv).1,Zf hk]
  simp
 | p::P,w::vs,i+1,m,nd,h1,h2,hk=>by
  show bindL kindOf ((p,w)::P.zip vs) m x=_
  unfold bindL
  exact Qjp (i:=i) (Zcx.mp nd).2 (by simpa using h1) (by simpa using h2) hk
theorem Qjq {kindOf:Str→Option NameKind} {x:Str} {v:Fx}:∀ {P:List Str} {vs:List Fx} {i:Nat} {m:Str→Option Fx},P.Nodup→P[i]?=some x→vs[i]?=some v→kindOf x≠some .local →
  bindC kindOf (P.zip vs) m x=some v
 | [],_,_,_,_,h,_,_=>by simp at h
 | _::_,[],_,_,_,_,h,_=>by simp at h
 | p::P,w::vs,0,m,nd,h1,h2,hk=>by
  simp at h1 h2;subst h1;subst h2
  show bindC kindOf ((p,w)::P.zip vs) m p=_
  unfold bindC
  rw [Qnt fun v hv=>(Zcx.mp nd).1 (List.of_mem_zip hv).1,Zg hk]
  simp
 | p::P,w::vs,i+1,m,nd,h1,h2,hk=>by
  show bindC kindOf ((p,w)::P.zip vs) m x=_
  unfold bindC
  exact Qjq (i:=i) (Zcx.mp nd).2 (by simpa using h1) (by simpa using h2) hk
def Qbl (N:List Str) (vs:List V):St:=vs.map some++List.replicate (N.length-vs.length) none
noncomputable def Qhu (g:Str→Bool) (CX:CXT) (P:Fu) (w:Ft) (K:Fz) (mg:Str→Option Fx) (base:Fq) (N:List Str) (qual:Str) (scope:Scope) (f:Fw) (cd:Fx) (A:Fv) (outer:List Env) (s:Fy) (H:Hp) (E:XK):Cx where
 prog:=P
 w:=w
 K:=K
 mg:=mg
 base:=base
 A:=A.deeper (envOfC qual scope s.heap.objs.size f cd)
 N:=N
 s₀:=s
 H₀:=H
 env:=envOfC qual scope s.heap.objs.size f cd
 outer:=outer
 stack:=envOfC qual scope s.heap.objs.size f cd::outer
 ex:=[]
 calm:=true
 fn:=g
 pn:=[]
 xe:=fun e s'=>wpAny (model P w) (A.deeper (envOfC qual scope s.heap.objs.size f cd)) (leaving (envOfC qual scope s.heap.objs.size f cd) e) (fun _ de=>CX outer H s E e de) (fun e' de=>CX outer H s E e' de) s'
theorem Qim {sc:Scope} {n:Nat} {x:Str} (h:sc.names.lookup x=some .cell):∃ c,(cellsFrom n sc.names []).lookup x=some c:=by
 have q:=Za3 sc.names n [] (.inl h)
 exact Za9.mp q
theorem Qvo {g:Str→Bool} {CX:CXT} {P:Fu} {w:Ft} {K:Fz} {mg:Str→Option Fx} {base:Fq} {N ps:List Str} {qual:Str} {scope:Scope} {f:Fw} {cd:Fx} {A:Fv} {outer:List Env} {s s1:Fy} {H:Hp} {E:XK} {us:List Fx} {vs:List V}
  (S:FnScope N ps scope) (hd:A.handled=none) (e0:Env0 P w K mg base A outer s H) (hl:vs.length=ps.length) (r:Vals vs us)
  (x:InCallC s s.heap.objs.size (bindL (envOfC qual scope s.heap.objs.size f cd).kindOf (ps.zip us) fun _=>none) (cellsFrom (s.heap.objs.size+1) scope.names []) (bindC (envOfC qual scope s.heap.objs.size f cd).kindOf (ps.zip us) fun _=>none) s1) :
  Inv (Qhu g CX P w K mg base N qual scope f cd A outer s H E) [] (Qbl N vs) H s1:=by
 have aI:ps.length≤N.length:=by have:=congrArg List.length S.pre;rw [Za4] at this;omega
 obtain ⟨h1,tk,rfl,hk⟩:=x.done
 have cw:∀ b:Fw,b∉(Qhu g CX P w K mg base N qual scope f cd A outer s H E).ex:=fun b z=>absurd (show b∈([]:List Fw) from z) (by simp)
 refine ⟨⟨e0.mod,S.kind,rfl,rfl,Zk _,fun y z c h1 h2=>?_,fun y hy=>?_,fun y c _ h=>?_,fun _=>hd,Around.frames_deeper e0.frames,.inr ⟨rfl,rfl⟩,fun b z=>absurd z (cw b),e0.bs,e0.bsz,fun b _ _=>cw b,fun b z=>absurd z (cw b),e0.funs,e0.frf⟩,
  rfl,e0.bare,Un.kept hk,⟨_,x.toInCall.ns,fun i y v h1 h2 h3=>?_⟩,fun y c h=>⟨_,x.cell y c h⟩,e0.hok.fresh (Zk _),fun y c h=>?_,fun p hp=>absurd (show p∈([]:List (Fw×Obj)) from hp) (by simp),e0.hok.kept hk,?_⟩
 ·exact name_of_addr x.apart (Z2 h1) (Z2 h2)
 ·have hy:scope.names.lookup y=some .cell∨scope.names.lookup y=some .free:=hy
  rcases hy with hy | hy
  ·exact Qim hy
  ·exact absurd rfl (S.nofree _ (Z2 hy))
 ·exact Zcv (x.above y c (Z2 h))
 ·have hi:i<vs.length:=by
   unfold Qbl at h2
   by_cases hi:i<vs.length
   ·exact hi
   ·rw [Za5 (by simpa using hi),Zbj] at h2
    split at h2 <;> cases h2
  have ha:vs[i]?=some v:=by
   unfold Qbl at h2
   rw [List.getElem?_append_left (by simpa using hi),Zab] at h2
   cases e:vs[i]? with
   | none=>rw [e] at h2;cases h2
   | some a=>rw [e] at h2;cases h2;rfl
  obtain ⟨u,hu,rv⟩:=r.get ha
  have hp:ps[i]?=some y:=by
   rw [←S.pre,List.getElem?_take_of_lt (by omega)];exact h1
  have dP:ps.Nodup:=by rw [←S.pre];exact S.nd.sublist (List.take_sublist _ _)
  refine ⟨u,rv,?_⟩
  rcases S.par y (Z1 hp) with k | k
  ·exact .inl ⟨k,Qjp dP hp hu k⟩
  ·obtain ⟨c,e⟩:=Qim (n:=s.heap.objs.size+1) k
   refine .inr ⟨.inl k,c,e,?_⟩
   have q:=x.cell y c e
   rw [Qjq dP hp hu (by show scope.names.lookup y≠_;rw [k];decide)] at q
   exact q
 ·exact .inl (e0.hok.fresh (Zcv (x.above y c (Z2 h))))
 ·unfold Qbl
  show _=N.length
  rw [Zo,Zd,Zag]
  omega
theorem Q4q {g:Str→Bool} {CX:CXT} {P:Fu} {w:Ft} {K:Fz} {mg:Str→Option Fx} {base:Fq} {k:Nat} {f:Fw} {name qual:Str} {params:Arguments} {body:List Fs} {scope:Scope} {dV kV az pm ae ct oc:Fx} {an od:Option Fw}
  {aQ:Array (Option Fx)} {N ps:List Str} {sp:Sp} (lk:K.lookup f=some ⟨oc,od,.func (PySem.W.fnOf name qual params body scope dV kV az pm an ae ct),aQ⟩) (aF:PySem.W.codeIn K ae qual=true) (S:FnScope N ps scope)
  (len:∀ vs H Q E,sp vs H Q E→vs.length=ps.length)
  (av:∀ (A:Fv) (outer:List Env) (s:Fy) (H:Hp) (vs:List V) (Q:VK) (E:XK),Room k (A.deeper (envOfC qual scope s.heap.objs.size f ae))→sp vs H Q E →
   ∃ t,PSs (Qhu g CX P w K mg base N qual scope f ae A outer s H E) body t∧t { nx:=fun _ H'=>Q .non H',rt:=Q } (Qbl N vs) H) :
  FnOk P w K mg base CX (k+1) f (PySem.W.fnOf name qual params body scope dV kV az pm an ae ct) ps sp:=by
 refine ⟨len,fun A outer s H args us vs Q E hr e0 hb r aZ=>?_⟩
 have hl:=len _ _ _ _ aZ
 have KX:K.In s.heap:=e0.mod.kin.keeps fun b o e=>(e0.bs b o e).1
 have f8:s.heap.NoLimit:=e0.mod.nolimit.keeps fun b o e=>(e0.bs b o e).1
 have bK:∀ y∈ps.zip us,scope.names.lookup y.1=some .local∨(scope.names.lookup y.1=some .cell∧((cellsFrom (s.heap.objs.size+1) scope.names []).lookup y.1).isSome=true):=fun ⟨n,v⟩ hy=>by
  rcases S.par n (List.of_mem_zip hy).1 with q | q
  ·exact .inl q
  ·exact .inr ⟨q,Za3 _ _ _ (.inl q)⟩
 refine Zdx hr.depth (KX _ _ lk) rfl S.co S.gen rfl (PySem.W.codeRec_of KX aF) (hb _ _ _ _ ?_)
 refine Zc3 S.kind bK fun env he s1 x=>?_
 subst he
 refine ⟨f8.keeps x.toInCall.keep,codeAny_func ?_⟩
 obtain ⟨t,ht,hq⟩:=av A outer s H vs Q E (hr.deeper _) aZ
 have I:Inv (Qhu g CX P w K mg base N qual scope f ae A outer s H E) [] (Qbl N vs) H s1:=Qvo S hr.hd e0 hl r x
 refine Za1 (ht [] s1 (Qbl N vs) H _ I hq) (fun fl s' hs=>?_) fun e s' hs=>hs
 have fin:∀ {σ':St} {H':Hp} {v:V} {u:Fx},Inv (Qhu g CX P w K mg base N qual scope f ae A outer s H E) [] σ' H' s'→RelV v u→Q v H'→CE outer P w H s Q u s' :=
  fun {σ' H' v u} J rv q=>⟨v,H',J.os,J.bare,J.base,J.hok,rv,q⟩
 cases fl with
 | ret u =>
  obtain ⟨v,σ',H',J,rv,q⟩:=hs
  exact fin J rv q
 | next =>
  obtain ⟨σ',H',J,q⟩:=hs
  exact fin (v:=V.non) (u:=Value.none) J rfl q
 | brk =>
  obtain ⟨_,_,_,q⟩:=hs
  exact Zef q
 | cont =>
  obtain ⟨_,_,_,q⟩:=hs
  exact Zef q
section
variable {X:Cx} {x:Str} {p pos:Pos} {e:Fr} {es:List Fr} {t:TA} {id T:String} {r:List V→Hp→VK→Prop}
abbrev tCB (r:List V→Hp→VK→Prop) (t:TA):TE:=fun σ H Q=>t σ H fun vs H1=>r vs H1 Q
theorem Qxi (hc:CallR X (.builtin id) r) (hg:Gl X x) (hm:X.mg x=none) (hv:bootBuiltins x=some (.builtin id)) (ha:PA X (e::es) t) (hn:x ≠ "__name__" := by decide) (ay:(x==("__debug__" : Str))=false:=by decide)
  (he:starEach (e::es) X.env=(false,eval e X.env)::starEach es X.env:=by rfl) (aI:(backTo pos (starEach es X.env)).any (·.1)=false:=by rfl):PE X (.Call (.Name x p) (e::es) [] pos) (tCB r t):=by
 intro aa s σ H Q I h
 refine Zb1 (Qgs I hg hm hv ?_ hn ay)
 exact PyProof.Rows.callWith_builtin1 (thn (ha pos aa s σ H _ I h) fun us s1 ⟨vs,H1,I1,r1,q1⟩=>hc aa s1 σ H1 vs us Q I1 r1 q1) he aI
theorem Qvp (hc:CallR X (.type T) r) (hg:Gl X x) (hm:X.mg x=none) (hv:bootBuiltins x=some (.type T)) (ha:PA X (e::es) t) (hn:x ≠ "__name__" := by decide) (ay:(x==("__debug__" : Str))=false:=by decide)
  (he:starEach (e::es) X.env=(false,eval e X.env)::starEach es X.env:=by rfl) (aI:(backTo pos (starEach es X.env)).any (·.1)=false:=by rfl):PE X (.Call (.Name x p) (e::es) [] pos) (tCB r t):=by
 intro aa s σ H Q I h
 refine Zb1 (Qgs I hg hm hv ?_ hn ay)
 exact Zaq (thn (ha pos aa s σ H _ I h) fun us s1 ⟨vs,H1,I1,r1,q1⟩=>hc aa s1 σ H1 vs us Q I1 r1 q1) he aI
end
end L2
namespace HT
open PySem PyProof.Rows
noncomputable def lexLt:List Int→List Int→Bool
 | [],[]=>false
 | [],_::_=>true
 | _::_,[]=>false
 | x::xs,y::ys=>if x=y then lexLt xs ys else decide (x<y)
section
open PySem.SeqAt
open PySem.AutoSeq1 (wpAny_loadPart')
open PySem.MeetsSeq PySem.MeetsSeq2 PySem.MeetsSeq3
end
section
variable {prog:Fu} {w:Ft} {A:Fv} {E:Fx→Fy→Prop} {s:Fy}
theorem cat_tup {t b:Fw} {vs ws:List Fx} {Q:Fx→Fy→Prop} (ht:IsTup s.heap t vs.toArray) (hb:IsTup s.heap b ws.toArray) (hv:vs≠[])
  (h1:ws=[]→Q (.ref t) s) (h2:ws≠[]→Q (.ref s.heap.objs.size) { s with heap:=s.heap.push { cls:=.type "tuple",data:=.seq (vs++ws).toArray } })
  (aU:vs.length+ws.length≤sizeLine):wpAny (model prog w) A (binaryOp .Add (.ref t) (.ref b)) Q E s:=by
 obtain ⟨⟨cls,dd,data,sl⟩,ho,hc,n,hd⟩:=id ht
 obtain ⟨⟨cR,aW,data2,aV⟩,aB,bJ,n2,bH⟩:=id hb
 simp only at hc hd bJ bH
 subst hc hd bJ bH
 have e:vs.toArray++ws.toArray=(vs++ws).toArray:=by simp
 by_cases hw:ws=[]
 ·exact Zea ⟨_,ho,rfl⟩ ⟨_,aB,rfl⟩ Zdb Zd5 Zcj Zce (Zca _ _)
   (tuple_addW1 t b vs.toArray ws.toArray n n2 dd aW sl aV (by simpa using hv) (by simp [hw])) ⟨ho,aB,h1 hw⟩
 ·refine Zea ⟨_,ho,rfl⟩ ⟨_,aB,rfl⟩ Zdb Zd5 Zcj Zce (Zca _ _)
   (tuple_addW2 t b vs.toArray ws.toArray n n2 dd aW sl aV (by simpa using hv) (by simpa using hw) (by rw [Zu,Zu];exact aU)) ⟨ho,aB,?_⟩
  rw [e]
  exact h2 hw
noncomputable def sIx (n d:Nat):Option Int→Nat
 | none=>d
 | some v=>if v<0 then (v+(n:Int)).toNat else min v.toNat n
theorem sIx_none (n d:Nat):sIx n d none=d:=rfl
theorem sIx_nat (n d k:Nat):sIx n d (some (k:Int))=min k n:=by
 show (if (k:Int)<0 then ((k:Int)+(n:Int)).toNat else min (k:Int).toNat n)=min k n
 rw [Zg (by omega),Int.toNat_natCast]
theorem sIx_le (n d:Nat) (hd:d≤n) (o:Option Int):sIx n d o≤n:=by
 cases o with
 | none=>exact hd
 | some v =>
  show (if v<0 then (v+(n:Int)).toNat else min v.toNat n)≤n
  by_cases hv:v<0
  ·rw [Zf hv];omega
  ·rw [Zg hv];exact Nat.min_le_right _ _
theorem clip_eq (v:Int) (n d:Nat):(if v<0 then max (v+(n:Int)) 0 else min v (n:Int))=((sIx n d (some v):Nat):Int):=by
 show (if v<0 then max (v+(n:Int)) 0 else min v (n:Int))=(((if v<0 then (v+(n:Int)).toNat else min v.toNat n):Nat):Int)
 by_cases hv:v<0
 ·simp only [Zf hv];omega
 ·simp only [Zg hv];omega
theorem adjust_gen (lo hi:Option Int) (n:Nat):Builtin.Slice.sliceAdjust lo hi 1 (n:Int)=(((sIx n 0 lo:Nat):Int),((sIx n n hi:Nat):Int)):=by
 have h1:¬ ((1:Int)<0):=by omega
 unfold Builtin.Slice.sliceAdjust
 simp only [h1,Za0]
 refine Prod.ext ?_ ?_
 ·cases lo with
  | none=>rfl
  | some v=>exact clip_eq v n 0
 ·cases hi with
  | none=>rfl
  | some v=>exact clip_eq v n n
theorem places_gen (i j:Nat):Builtin.Slice.slicePlaces (i:Int) (j:Int) 1=j-i:=by
 unfold Builtin.Slice.slicePlaces
 have h1:(1:Int)>0:=by omega
 simp only [h1,Zl,Int.ediv_one]
 split <;> omega
theorem slicePart_ {v:Fx} {o:Option Int} {Q:Option Int→Fy→Prop} (p:IsPart v o) (h:Q o s):wpAny (model prog w) A (Builtin.Slice.slicePartIndex v) Q E s:=by
 cases p with
 | none=>exact slicePart_none h
 | int i t=>exact slicePart_int h
theorem sliceApplied_gen {sl:Fw} {vl vu:Fx} {lo hi:Option Int} {n:Nat} {Q:Int×Int×Nat→Fy→Prop} (hs:s.heap.IsSliceOf sl vl vu .none) (pl:IsPart vl lo) (pu:IsPart vu hi)
  (h:Q (((sIx n 0 lo:Nat):Int),1,sIx n n hi-sIx n 0 lo) s):wpAny (model prog w) A (Builtin.Slice.sliceApplied (.ref sl) (pure (n:Int))) Q E s:=by
 obtain ⟨os,bA,dm,bY⟩:=id hs
 unfold Builtin.Slice.sliceApplied Builtin.Slice.sliceFields
 refine Za (Za (Zaa bA bY (x:=vl) rfl (Za (Zaa bA bY (x:=vu) rfl (Za (Zaa bA bY (x:=.none) rfl (Zi ?_)))))))
 refine Za (slicePart_none ?_)
 show wpAny _ _ (if ((1:Int)==0)=true then _ else _) _ _ s
 rw [Zg (by decide)]
 refine Za (slicePart_ pl (Za (slicePart_ pu (Za (Zi ?_)))))
 show wpAny _ _ (match Builtin.Slice.sliceAdjust lo hi 1 (n:Int) with | (lo,hi)=>pure (lo,(1:Int),Builtin.Slice.slicePlaces lo hi 1)) _ _ s
 rw [adjust_gen lo hi n]
 show wpAny _ _ (pure (((sIx n 0 lo:Nat):Int),(1:Int),Builtin.Slice.slicePlaces ((sIx n 0 lo:Nat):Int) ((sIx n n hi:Nat):Int) 1)) _ _ s
 rw [places_gen]
 exact Zi h
theorem pick_gen (xs:Array Fx) (i k:Nat):((List.range k).filterMap fun (m:Nat)=>xs[((i:Int)+(m:Int)*1).toNat]?).toArray=((xs.toList.drop i).take k).toArray:=by
 have e:(fun (m:Nat)=>xs[((i:Int)+(m:Int)*1).toNat]?)=fun m=>xs[i+m]?:=by
  funext m
  have:((i:Int)+(m:Int)*1).toNat=i+m:=by omega
  rw [this]
 rw [e]
 have:=pick_run xs i k
 rw [List.filterMap_map] at this
 have e2:((fun x=>xs[x]?) ∘ fun x=>i+x)=fun m=>xs[i+m]?:=rfl
 rw [e2] at this
 rw [this]
theorem getItem_tuple_cut {t sl:Fw} {items:Array Fx} {vl vu:Fx} {lo hi:Option Int} {Q:Fx→Fy→Prop} (ht:IsTup s.heap t items) (hs:s.heap.IsSliceOf sl vl vu .none) (pl:IsPart vl lo) (pu:IsPart vu hi)
  (hw:¬ (sIx items.size 0 lo=0∧sIx items.size items.size hi=items.size))
  (h:Q (.ref s.heap.objs.size) { s with heap:=s.heap.push { cls:=.type "tuple",data:=.seq ((items.toList.drop (sIx items.size 0 lo)).take (sIx items.size items.size hi-sIx items.size 0 lo)).toArray } })
  (aU:items.size≤sizeLine):wpAny (model prog w) A (getItem (.ref t) (.ref sl)) Q E s:=by
 have a9:sizeOk (.seq ((items.toList.drop (sIx items.size 0 lo)).take (sIx items.size items.size hi-sIx items.size 0 lo)).toArray):=by
  show ((items.toList.drop (sIx items.size 0 lo)).take (sIx items.size items.size hi-sIx items.size 0 lo)).toArray.size≤sizeLine
  rw [Zu,Za4,Zbc,Zbf]
  omega
 have hj:sIx items.size items.size hi≤items.size:=sIx_le _ _ (Zk _) hi
 obtain ⟨os,bA,dm,bY⟩:=id hs
 have dQ:s.TypeIs (.ref sl) "slice" := ⟨os,bA,dm⟩
 unfold getItem
 try with_reducible refine Zbt ?_
 first | refine Za (Zi ?_) | skip
 refine Za (Zc6 ht.typeIs (by decide) ?_)
 refine Za (Zai (name:=Str.ofString "__getitem__") ht.typeIs Z0
  (Za7 Z0 ht.typeIs Zcs ?_ (Zc0 _ _)))
 show wpAny _ _ (Builtin.Tuple.tupleItemsOf (.ref t) >>= _) _ _ s
 refine Za (Zd6 ht ?_)
 refine Za (Zdk dQ ?_)
 rw [Zf (by decide)]
 refine Za (sliceApplied_gen hs pl pu ?_)
 have dH:¬ ((((sIx items.size 0 lo:Nat):Int)==0&&(1:Int)==1&&(sIx items.size items.size hi-sIx items.size 0 lo)==items.size)=true):=by
  intro q
  rw [Zt,Zt] at q
  have q1:((sIx items.size 0 lo:Nat):Int)=0:=eq_of_beq q.1.1
  have q2:sIx items.size items.size hi-sIx items.size 0 lo=items.size:=eq_of_beq q.2
  exact hw ⟨by omega,by omega⟩
 show wpAny _ _ (if (((sIx items.size 0 lo:Nat):Int)==0&&(1:Int)==1&&(sIx items.size items.size hi-sIx items.size 0 lo)==items.size)=true then _ else _) _ _ s
 rw [Zg dH,pick_gen]
 first
  | exact Za (m:=Builtin.Tuple.tupleExact _) (Zac (Zi ⟨_,rfl,Zi h⟩) a9)
  | exact Za (m:=Builtin.Tuple.tupleExact _) (Zac (Za (Zi (Zi ⟨_,rfl,Zi h⟩))) a9)
  | exact Za (Za (m:=Builtin.Tuple.tupleExact _) (Zac (Zi (Zi ⟨_,rfl,Zi h⟩)) a9))
  | exact Za (Za (m:=Builtin.Tuple.tupleExact _) (Zac (Zi ⟨_,rfl,Zi h⟩) a9))
end
end HT
namespace L2
open PySem PySem.Spec PyProof.Rows
abbrev TO:=St→Hp→(Option Int→Hp→Prop)→Prop
noncomputable def PO (X:Cx) (e:Option Fr) (t:TO):Prop :=
 ∀ (aa:List (Fw×Obj)) (s:Fy) (σ:St) (H:Hp) (Q:Option Int→Hp→Prop),Inv X aa σ H s→t σ H Q →
  wpAny (model X.prog X.w) X.A (evalPart e X.env) (fun u s'=>∃ o H',Inv X aa σ H' s'∧IsPart u o∧Q o H') X.xe s
abbrev Qtq:TO:=fun _ H Q=>Q none H
abbrev Qtr (t:TE):TO:=fun σ H Q=>t σ H fun x H1=>∃ i,x=.int i∧Q (some i) H1
theorem Qr4 {ns:List Int}:∀ {us:List Fx},Vals (ns.map V.int) us→IntsAre us ns:=by
 induction ns with
 | nil=>intro us r;rw [Zde] at r;cases r;exact .nil
 | cons n ns ih =>
  intro us r
  rw [Z6] at r
  cases r with
  | cons r1 r2 =>
   obtain ⟨t,e⟩:=r1
   subst e
   exact .cons n t (ih r2)
section
variable {X:Cx} {e:Fr} {te:TE} {lo hi:Option Fr} {tl th:TO} {pos p2:Pos}
theorem Q1q:PO X none Qtq:=by
 intro aa s σ H Q I h
 rw [Zd7]
 exact Zi ⟨none,H,I,.none,h⟩
theorem Q1r (h:PE X e te):PO X (some e) (Qtr te):=by
 intro aa s σ H Q I hw
 rw [evalPart_some]
 refine thn (h aa s σ H _ I hw) fun u s1 ⟨x,H1,I1,r1,q1⟩=>?_
 obtain ⟨i,rfl,q⟩:=q1
 obtain ⟨t,rfl⟩:=r1
 exact ⟨some i,H1,I1,.int i t,q⟩
noncomputable def SlR (X:Cx) (r:V→Option Int→Option Int→Hp→VK→Prop):Prop :=
 ∀ (aa:List (Fw×Obj)) (s:Fy) (σ:St) (H:Hp) (x:V) (v vl vu:Fx) (lo hi:Option Int) (sl:Fw) (Q:VK),Inv X aa σ H s→RelV x v→s.heap.IsSliceOf sl vl vu .none→IsPart vl lo→IsPart vu hi→r x lo hi H Q →
  ∃ T id,typeLookup (.type T) "__getitem__" = pure (some (.builtin id))∧s.TypeIs v T∧wpAny (model X.prog X.w) X.A (getItem v (.ref sl)) (EP X aa σ Q) X.xe s
theorem SlR.or {r r':V→Option Int→Option Int→Hp→VK→Prop} (h:SlR X r) (h':SlR X r'):SlR X (fun x lo hi H Q=>r x lo hi H Q∨r' x lo hi H Q):=by
 intro aa s σ H x v vl vu lo hi sl Q I rx hs pl pu q
 rcases q with q | q
 ·exact h aa s σ H x v vl vu lo hi sl Q I rx hs pl pu q
 ·exact h' aa s σ H x v vl vu lo hi sl Q I rx hs pl pu q
noncomputable abbrev tSl (r:V→Option Int→Option Int→Hp→VK→Prop) (te:TE) (tl th:TO):TE:=fun σ H Q=>te σ H fun x H1=>tl σ H1 fun l H2=>th σ H2 fun u H3=>r x l u H3 Q
theorem Qxj {r:V→Option Int→Option Int→Hp→VK→Prop} (hr:SlR X r) (he:PE X e te) (hl:PO X lo tl) (hu:PO X hi th):PE X (.Subscript e (.Slice lo hi none p2) pos) (tSl r te tl th):=by
 intro aa s σ H Q I h
 refine Subscript_ (thn (he aa s σ H _ I h) fun v s1 ⟨x,H1,I1,r1,q1⟩=>?_)
 refine wpAny_Slice (thn (hl aa s1 σ H1 _ I1 q1) fun vl s2 ⟨l,H2,I2,pl,q2⟩=>thn (hu aa s2 σ H2 _ I2 q2) fun vu s3 ⟨u,H3,I3,pu,q3⟩=>?_)
 rw [Zd7]
 refine Zi ?_
 have I4:Inv X aa σ H3 { s3 with heap:=s3.heap.push { cls:=.type "slice",data:=.fields #[vl,vu,.none] } }:=I3.kept (t':=s3.toks) fun b ob q=>Zb _ q
 obtain ⟨T,id,hT,ht,hg⟩:=hr aa { s3 with heap:=s3.heap.push { cls:=.type "slice",data:=.fields #[vl,vu,.none] } } σ H3 x v vl vu l u s3.heap.objs.size Q I4 r1 (Heap.IsSliceOf.new ..) pl pu q3
 show wpAny (model X.prog X.w) X.A (subscriptTail e (.Slice lo hi none p2) v (.ref s3.heap.objs.size)) (EP X aa σ Q) X.xe { s3 with heap:=s3.heap.push { cls:=.type "slice",data:=.fields #[vl,vu,.none] } }
 exact tail_any (ops:=[.ref s3.heap.objs.size,v]) ht hT hg (by with_unfolding_all rfl)
noncomputable def Qgt (xs:List V) (lo hi:Option Int):List V:=(xs.drop (HT.sIx xs.length 0 lo)).take (HT.sIx xs.length xs.length hi-HT.sIx xs.length 0 lo)
theorem Qgu (xs:List V) (lo hi:Option Int):(Qgt xs lo hi).length≤xs.length:=by
 unfold Qgt
 rw [Za4,Zbc]
 omega
noncomputable def rSlT (K:Fz):V→Option Int→Option Int→Hp→VK→Prop:=fun x lo hi H Q=>∃ a xs,x=.ref a∧SqT K H a xs ∧
 ¬ (HT.sIx xs.length 0 lo=0∧HT.sIx xs.length xs.length hi=xs.length)∧∀ p,H p=none→Q (.ref p) (upd H p (.tup (Qgt xs lo hi)))
theorem Q6v:SlR X (rSlT X.K):=by
 intro aa s σ H x v vl vu lo hi sl Q I rx hs pl pu h
 obtain ⟨a,xs,rfl,hx,hw,q⟩:=h
 cases rx
 obtain ⟨ac,r,ht,hz⟩:=I.tuple hx
 have aj:ac.toArray.size=xs.length:=by rw [Zu];exact r.length.symm
 refine ⟨"tuple",_,Z0.lookup,ht.typeIs,?_⟩
 refine HT.getItem_tuple_cut ht hs pl pu (by rw [aj];exact hw) ?_ (by rw [aj];exact hz)
 rw [aj]
 refine ⟨.ref s.heap.objs.size,_,I.laid (t':=s.toks) (o:=.tup (Qgt xs lo hi)) (fun b ob q=>Zb _ q) (Zk _) ?_,rfl,q _ (I.hok.fresh (Zk _))⟩
 exact ⟨Zao (Qgu xs lo hi) hz,_,(r.drop (HT.sIx xs.length 0 lo)).take (HT.sIx xs.length xs.length hi-HT.sIx xs.length 0 lo),IsTupD.new _ _⟩
noncomputable def Qaav (K:Fz):R2:=fun x y H Q=>∃ a b xs ys,x=.ref a∧y=.ref b∧SqT K H a xs∧SqT K H b ys∧xs≠[]∧xs.length+ys.length≤sizeLine ∧
 (ys=[]→Q (.ref a) H)∧(ys≠[]→∀ p,H p=none→Q (.ref p) (upd H p (.tup (xs++ys))))
theorem Vals.nil_iff {xs:List V} {us:List Fx} (r:Vals xs us):us=[]↔xs=[]:=by
 cases r with
 | nil=>simp
 | cons _ _=>simp
theorem Q1s:OpR X (binaryOp .Add) (Qaav X.K):=by
 intro aa s σ H x y v u Q I rx ry h
 obtain ⟨a,b,xs,ys,rfl,rfl,ha,hb,hx,hz,q1,q2⟩:=h
 cases rx
 cases ry
 obtain ⟨ac,r1,p1,_⟩:=I.tuple ha
 obtain ⟨ap,r2,p2,_⟩:=I.tuple hb
 refine HT.cat_tup p1 p2 (fun z=>hx (r1.nil_iff.mp z)) (fun z=>⟨.ref a,H,I,rfl,q1 (r2.nil_iff.mp z)⟩) (fun z=>?_) (by rw [←r1.length,←r2.length];exact hz)
 refine ⟨.ref s.heap.objs.size,_,I.laid (t':=s.toks) (o:=.tup (xs++ys)) (fun b ob q=>Zb _ q) (Zk _) ?_,rfl,q2 (fun w=>z (r2.nil_iff.mpr w)) _ (I.hok.fresh (Zk _))⟩
 exact ⟨by rw [Zo];exact hz,_,r1.append r2,IsTupD.new _ _⟩
end
noncomputable def ixN (n:Nat) (i:Int):Option Nat:=if 0≤i then (if i<n then some i.toNat else none) else if -(n:Int)≤i then some (i+n).toNat else none
def atI {α:Type} (xs:List α) (i:Int):Option α:=(ixN xs.length i).bind fun j=>xs[j]?
theorem Qts {n:Nat} {i:Int} {j:Nat} (h:ixN n i=some j):seqIndex? i n=some j∧j<n ∧ -(n:Int)≤i∧i<n:=by
 unfold ixN at h
 by_cases h0:0≤i
 ·rw [Zf h0] at h
  by_cases h1:i<n
  ·rw [Zf h1] at h
   have e:i.toNat=j:=Zr h
   exact ⟨by rw [seqIndex_of h0 h1,e],by omega,by omega,h1⟩
  ·rw [Zg h1] at h;cases h
 ·rw [Zg h0] at h
  by_cases h1:-(n:Int)≤i
  ·rw [Zf h1] at h
   have e:(i+n).toNat=j:=Zr h
   exact ⟨by rw [seqIndex_neg (by omega) h1,e],by omega,h1,by omega⟩
  ·rw [Zg h1] at h;cases h
theorem Qot {α:Type} {xs:List α} {i:Int} {v:α} (h:atI xs i=some v):∃ j,seqIndex? i xs.length=some j∧xs[j]?=some v∧j<xs.length ∧ -(xs.length:Int)≤i∧i<xs.length:=by
 unfold atI at h
 cases e:ixN xs.length i with
 | none=>rw [e] at h;cases h
 | some j =>
  rw [e] at h
  obtain ⟨h1,h2,h3,h4⟩:=Qts e
  exact ⟨j,h1,h,h2,h3,h4⟩
theorem Qf3 {α:Type} {xs:List α} {j:Nat} {v:α} (h:xs[j]?=some v):atI xs (j:Int)=some v:=by
 have hj:j<xs.length:=(List.getElem?_eq_some_iff.mp h).1
 have e:ixN xs.length (j:Int)=some j:=by
  unfold ixN
  rw [Zf (by omega),Zf (by omega)];simp
 unfold atI;rw [e];exact h
def Qlb (b:Fr):Prop:=∀ o i,subscripted b false o i=operate [o,i] (getItem o i)
noncomputable def IxR (X:Cx) (r:R2):Prop :=
 ∀ (value aE:Fr) (aa:List (Fw×Obj)) (s:Fy) (σ:St) (H:Hp) (x y:V) (v u:Fx) (Q:VK),Inv X aa σ H s→RelV x v→RelV y u→r x y H Q →
  subscripted aE false v u=operate [v,u] (getItem v u)→wpAny (model X.prog X.w) X.A (subscriptTail value aE v u) (EP X aa σ Q) X.xe s
noncomputable def MtR (X:Cx) (id:String) (r:V→List V→Hp→VK→Prop):Prop :=
 ∀ (aa:List (Fw×Obj)) (s:Fy) (σ:St) (H:Hp) (x:V) (xs:List V) (v:Fx) (us:List Fx) (Q:VK),Inv X aa σ H s→RelV x v→Vals xs us→r x xs H Q →
  wpAny (model X.prog X.w) X.A (call (.builtin id) (v::us)) (EP X aa σ Q) X.xe s
section
variable {X:Cx} {a b:Fr} {ta tb:TE} {pos:Pos}
theorem IxR.or {r r':R2} (h:IxR X r) (h':IxR X r'):IxR X (fun x y H Q=>r x y H Q∨r' x y H Q):=by
 intro value aE aa s σ H x y v u Q I rx ry q hs
 rcases q with q | q
 ·exact h value aE aa s σ H x y v u Q I rx ry q hs
 ·exact h' value aE aa s σ H x y v u Q I rx ry q hs
theorem Qaaw {r:R2} (hr:IxR X r) (ha:PE X a ta) (hb:PE X b tb) (hs:Qlb b):PE X (.Subscript a b pos) (tOp r ta tb):=by
 intro aa s σ H Q I h
 exact Subscript_ (Q6k ha hb I h fun v u s2 x y H2 I2 rx ry q=>hr a b aa s2 σ H2 x y v u Q I2 rx ry q (hs _ _))
noncomputable def rIxL (K:Fz):R2:=fun x y H Q=>∃ p xs i v,x=.ref p∧y=.int i∧SqL K H p xs∧atI xs i=some v∧Q v H
noncomputable def rIxT (K:Fz):R2:=fun x y H Q=>∃ p xs i v,x=.ref p∧y=.int i∧SqT K H p xs∧atI xs i=some v∧Q v H
noncomputable def rIxS:R2:=fun x y H Q=>∃ z i c,x=.str z∧y=.int i∧z.length≤sizeLine∧atI z.cps.toList i=some c∧Q (.str ⟨#[c]⟩) H
theorem Q1t:IxR X (rIxL X.K):=by
 intro value aE aa s σ H x y v u Q I rx ry h hs
 obtain ⟨p,xs,i,z,rfl,rfl,hq,he,q⟩:=h
 cases rx
 obtain ⟨t,rfl⟩:=ry
 obtain ⟨ac,r,pl,hz⟩:=I.list hq
 obtain ⟨j,h1,h2,h3,h4,h5⟩:=Qot he
 obtain ⟨w,ew,dU⟩:=r.get h2
 have hl:=r.length
 have hn:=Qlo
 have fin:EP X aa σ Q w s:=⟨z,H,I,dU,q⟩
 by_cases h0:0≤i
 ·have hj:i.toNat=j:=by
   rw [seqIndex_of h0 h5] at h1
   exact Zr h1
  exact item_listR pl.isList h0 (by omega) (by rw [hj];simpa using ew) fin hs
 ·have hj:(i+(ac.toArray.size:Int)).toNat=j:=by
   rw [seqIndex_neg (by omega) h4] at h1
   rw [Zu,←hl]
   exact Zr h1
  exact Zds (x:=w) pl.isList.typeIs slot_list_getitem.lookup
   (wpAny_getItem_list_neg (Q:=fun r s'=>r=w∧EP X aa σ Q r s') pl.isList (by omega) (by rw [Zu] <;> omega) (by omega) (by rw [hj];simpa using ew) ⟨rfl,fin⟩) hs
theorem Q6w:IxR X (rIxT X.K):=by
 intro value aE aa s σ H x y v u Q I rx ry h hs
 obtain ⟨p,xs,i,z,rfl,rfl,hq,he,q⟩:=h
 cases rx
 obtain ⟨t,rfl⟩:=ry
 obtain ⟨ac,r,pl,hz⟩:=I.tuple hq
 obtain ⟨j,h1,h2,h3,h4,h5⟩:=Qot he
 obtain ⟨w,ew,dU⟩:=r.get h2
 have hl:=r.length
 have hn:=Qlo
 have fin:EP X aa σ Q w s:=⟨z,H,I,dU,q⟩
 exact Zds (x:=w) pl.typeIs slot_tuple_getitem.lookup
  (getItem_tuple (j:=j) (Q:=fun r s'=>r=w∧EP X aa σ Q r s') pl (by omega) (by omega) (by rw [Zu,←hl];exact h1) (by simpa using ew) ⟨rfl,fin⟩) hs
theorem Q6x:IxR X rIxS:=by
 intro value aE aa s σ H x y v u Q I rx ry h hs
 obtain ⟨z,i,c,rfl,rfl,hz,he,q⟩:=h
 obtain ⟨t,rfl⟩:=rx
 obtain ⟨t',rfl⟩:=ry
 obtain ⟨j,h1,h2,h3,h4,h5⟩:=Qot he
 have hl:z.cps.toList.length=z.length:=by simp [Str.length]
 rw [hl] at h1 h4 h5
 have hn:=Qlo
 exact tail_any (typeIs_str s z t) slot_str_getitem.lookup (getItem_str (c:=c) (by
  have e1:decide (i < -(2^63:Int))=false:=Zx (by omega)
  have e2:decide (i≥2^63)=false:=Zx (by omega)
  rw [e1,e2,Bool.or_false]) (by rw [h1];simpa using h2) ⟨.str ⟨#[c]⟩,H,I.tok _,⟨_,rfl⟩,q⟩) hs
def rIx (K:Fz):R2:=fun x y H Q=>rIxL K x y H Q∨rIxT K x y H Q∨rIxS x y H Q
theorem Q6y:IxR X (rIx X.K):=Q1t.or (Q6w.or Q6x)
theorem Qr5 (ac:List Fx) (n j:Nat) (u:Fx):Obj.mapSeq (·.setIfInBounds j u) { cls:=.type "list",data:=.seq ac.toArray n }={ cls:=.type "list",data:=.seq (ac.set j u).toArray n }:=by
 simp [Obj.mapSeq]
theorem Inv.lst {aa:List (Fw×Obj)} {σ:St} {H:Hp} {s:Fy} {p:Fw} {xs:List V} (I:Inv X aa σ H s) (h:H p=some (.lst xs)) :
  ∃ (ac:List Fx) (n:Nat),Vals xs ac∧s.heap.get? p=some { cls:=.type "list",data:=.seq ac.toArray n }∧xs.length≤sizeLine:=by
 obtain ⟨z,ac,n,r,e⟩:=I.hok p _ h
 exact ⟨ac,n,r,e,z⟩
theorem Inv.lstUpd {aa:List (Fw×Obj)} {σ:St} {H:Hp} {s:Fy} {p:Fw} {xs ys:List V} {ac its':List Fx} {n n':Nat} {f:Obj→Obj} (I:Inv X aa σ H s) (h:H p=some (.lst xs))
  (ho:s.heap.get? p=some { cls:=.type "list",data:=.seq ac.toArray n }) (hf:f { cls:=.type "list",data:=.seq ac.toArray n }={ cls:=.type "list",data:=.seq its'.toArray n' }) (r:Vals ys its') (hz:ys.length≤sizeLine) (t:Nat) :
  Inv X aa σ (upd H p (.lst ys)) { s with heap:=s.heap.update p f,toks:=t }:=by
 have e:(s.heap.update p f).get? p=some { cls:=.type "list",data:=.seq its'.toArray n' }:=by
  rw [Zbl f ho (by rw [hf] <;> rfl),hf]
 refine I.write (x:=p) (e:=p) (by rw [h];trivial) (.inl rfl) (fun b u hb q=>(Zau _ _ (Zcf hb)).trans q) ⟨_,e⟩ ?_
 exact ⟨hz,its',n',r,e⟩
noncomputable def Qtt:V→V→V→Hp→(Hp→Prop)→Prop:=fun o i v H Q=>∃ p xs k j,o=.ref p∧i=.int k∧H p=some (.lst xs)∧ixN xs.length k=some j∧Q (upd H p (.lst (xs.set j v)))
theorem Qxk:PSet X Qtt:=by
 intro aa s σ H o i v ov iv u Q I ro ri rv h
 obtain ⟨p,xs,k,j,rfl,rfl,hp,hj,q⟩:=h
 cases ro
 obtain ⟨t,rfl⟩:=ri
 obtain ⟨ac,n,r,ho,hz⟩:=I.lst hp
 obtain ⟨h1,h2,h3,h4⟩:=Qts hj
 have hl:=r.length
 have hn:=Qlo
 have I':Inv X aa σ (upd H p (.lst (xs.set j v))) { s with heap:=s.heap.update p (Obj.mapSeq (·.setIfInBounds j u)) } :=
  I.lstUpd hp ho (Qr5 ac n j u) (r.set rv j) (by rw [Zby];exact hz) s.toks
 by_cases h0:0≤k
 ·have hk:k.toNat=j:=by
   rw [seqIndex_of h0 h4] at h1
   exact Zr h1
  exact PySem.W.ki_setAt ho h0 (by omega) (by rw [Zu,←hl];exact h4) (by rw [hk];exact ⟨_,I',q⟩)
 ·have hk:(k+(ac.toArray.size:Int)).toNat=j:=by
   rw [seqIndex_neg (by omega) h3] at h1
   rw [Zu,←hl]
   exact Zr h1
  exact PySem.W.ki_setBack ho (by omega) (by rw [Zu,←hl];exact h3) (by omega) (by rw [hk];exact ⟨_,I',q⟩)
theorem Qou (lo hi:Option Int) (n:Nat):(sliceBounds lo hi none n).1=((HT.sIx n 0 lo:Nat):Int)∧(sliceBounds lo hi none n).2.1=((HT.sIx n n hi:Nat):Int)∧(sliceBounds lo hi none n).2.2=1:=by
 refine ⟨?_,?_,rfl⟩
 ·cases lo with
  | none=>simp [sliceBounds,HT.sIx]
  | some i =>
   simp only [sliceBounds,HT.sIx,Option.getD_none,show (1:Int)>0 by decide,Zl]
   by_cases h:i<0
   ·simp only [h,Zl] <;> omega
   ·simp only [h,Za0] <;> omega
 ·cases hi with
  | none=>simp [sliceBounds,HT.sIx]
  | some i =>
   simp only [sliceBounds,HT.sIx,Option.getD_none,show (1:Int)>0 by decide,Zl]
   by_cases h:i<0
   ·simp only [h,Zl] <;> omega
   ·simp only [h,Za0] <;> omega
theorem Qm8 (ac:List Fx) (lo hi:Option Int):slicePick ac.toArray lo hi none=((ac.drop (HT.sIx ac.length 0 lo)).take (HT.sIx ac.length ac.length hi-HT.sIx ac.length 0 lo)).toArray:=by
 obtain ⟨h1,h2,h3⟩:=Qou lo hi ac.toArray.size
 unfold slicePick
 rw [h1,h2,h3]
 simp only [sliceRange_one,pick_run,Zu] <;> rfl
noncomputable def rSlL (K:Fz):V→Option Int→Option Int→Hp→VK→Prop:=fun x lo hi H Q=>∃ a xs,x=.ref a∧SqL K H a xs∧∀ p,H p=none→Q (.ref p) (upd H p (.lst (Qgt xs lo hi)))
theorem Q1u:SlR X (rSlL X.K):=by
 intro aa s σ H x v vl vu lo hi sl Q I rx hs pl pu h
 obtain ⟨a,xs,rfl,hx,q⟩:=h
 cases rx
 obtain ⟨ac,r,ht,hz⟩:=I.list hx
 have aj:=r.length
 refine ⟨"list",_,slot_list_getitem.lookup,ht.isList.typeIs,?_⟩
 refine wpAny_getItem_list_slice ht.isList hs pl pu .none (by simp) ?_ (by rw [Zu] <;> omega)
 rw [Qm8,←aj]
 refine ⟨.ref s.heap.objs.size,_,I.laid (t':=s.toks) (o:=.lst (Qgt xs lo hi)) (fun b ob q=>Zb _ q) (Zk _) ?_,rfl,q _ (I.hok.fresh (Zk _))⟩
 exact ⟨Zao (Qgu xs lo hi) hz,_,0,(r.drop (HT.sIx xs.length 0 lo)).take (HT.sIx xs.length xs.length hi-HT.sIx xs.length 0 lo),Zn _ rfl⟩
theorem Qov:CallR X (.builtin "len") (fun xs H Q=>∃ p ys,xs=[.ref p]∧(SqL X.K H p ys∨SqT X.K H p ys)∧Q (.int ys.length) H):=by
 intro aa s σ H xs us Q I r h
 obtain ⟨p,ys,rfl,hq,q⟩:=h
 obtain ⟨u,rfl,rx⟩:=Qkp r
 cases rx
 have hn:=Qlo
 rcases hq with hq | hq
 ·obtain ⟨ac,r',pl,hz⟩:=I.list hq
  have aj:=r'.length
  exact Calls.call_len_list pl.isList (by simp only [Zu] <;> omega) ⟨.int ys.length,H,I.tok _,⟨s.toks+1,by rw [Zu,aj]⟩,q⟩
 ·obtain ⟨ac,r',pl,hz⟩:=I.tuple hq
  have aj:=r'.length
  exact len_tuple pl (by simp only [Zu] <;> omega) ⟨.int ys.length,H,I.tok _,⟨s.toks+1,by rw [Zu,aj]⟩,q⟩
theorem CallR.or {f:Fx} {r r':List V→Hp→VK→Prop} (h:CallR X f r) (h':CallR X f r'):CallR X f (fun xs H Q=>r xs H Q∨r' xs H Q):=by
 intro aa s σ H xs us Q I rs q
 rcases q with q | q
 ·exact h aa s σ H xs us Q I rs q
 ·exact h' aa s σ H xs us Q I rs q
theorem Qow:CallR X (.type "list") (fun xs H Q=>∃ p ys,xs=[.ref p]∧(SqL X.K H p ys∨SqT X.K H p ys)∧∀ l,H l=none→Q (.ref l) (upd H l (.lst ys))):=by
 intro aa s σ H xs us Q I r h
 obtain ⟨p,ys,rfl,hq,q⟩:=h
 obtain ⟨u,rfl,rx⟩:=Qkp r
 cases rx
 have fin:∀ (ac:List Fx),Vals ys ac→ys.length≤sizeLine→∀ (h':Fq) (c':Nat),(∀ b o',s.heap.get? b=some o'→h'.get? b=some o') →
   h'.get? s.heap.objs.size=some { cls:=.type "list",dict:=none,data:=.seq ac.toArray c',slots:=#[] }→EP X aa σ Q (.ref s.heap.objs.size) { s with heap:=h' }:=fun ac r' hz h' c' kp e =>
  ⟨.ref s.heap.objs.size,_,I.laid (t':=s.toks) kp (Zk _) (show ObjOk X.prog X.w _ h' _ (.lst ys) from ⟨hz,ac,c',r',e⟩),rfl,q _ (I.hok.fresh (Zk _))⟩
 rcases hq with hq | hq
 ·obtain ⟨ac,r',pl,hz⟩:=I.list hq
  have aj:=r'.length
  obtain ⟨o,ho,hc,n,hd⟩:=pl.isList
  exact call_list_seq p (.inl rfl) ho hc hd (fun h' c' kp e=>fin ac r' hz h' c' kp e) (by simp only [Zu] <;> omega)
 ·obtain ⟨ac,r',pl,hz⟩:=I.tuple hq
  have aj:=r'.length
  obtain ⟨o,ho,hc,n,hd⟩:=pl
  exact call_list_seq p (.inr rfl) ho hc hd (fun h' c' kp e=>fin ac r' hz h' c' kp e) (by simp only [Zu] <;> omega)
theorem Qm9:CallR X (.type "tuple") (fun xs H Q=>∃ p ys,xs=[.ref p]∧((SqL X.K H p ys∧∀ l,H l=none→Q (.ref l) (upd H l (.tup ys)))∨(SqT X.K H p ys∧Q (.ref p) H))):=by
 intro aa s σ H xs us Q I r h
 obtain ⟨p,ys,rfl,h⟩:=h
 obtain ⟨u,rfl,rx⟩:=Qkp r
 cases rx
 rcases h with ⟨hq,q⟩ | ⟨hq,q⟩
 ·obtain ⟨ac,r',pl,hz⟩:=I.list hq
  have aj:=r'.length
  refine call_tuple_list pl.isList (fun h' kp=>?_) (by simp only [Zu] <;> omega)
  have I1:Inv X aa σ H { s with heap:=h' }:=I.kept (t':=s.toks) kp
  have I2:Inv X aa σ (upd H h'.objs.size (.tup ys)) { s with heap:=h'.push { cls:=.type "tuple",data:=.seq ac.toArray } } :=
   I1.laid (t':=s.toks) (fun b o e=>Zb _ e) (Zk _) (show ObjOk X.prog X.w _ _ _ (.tup ys) from ⟨hz,ac,r',IsTupD.new _ _⟩)
  exact ⟨.ref h'.objs.size,_,I2,rfl,q _ (I1.hok.fresh (Zk _))⟩
 ·obtain ⟨ac,r',pl,hz⟩:=I.tuple hq
  exact call_tuple_same pl ⟨.ref p,H,I,rfl,q⟩
noncomputable def tyV (K:Fz) (T:String) (x:V) (H:Hp):Prop:=match x with
 | .str _=>T = "str"
 | .int _=>T = "int"
 | .ref p=>(T = "list" ∧ ∃ xs,SqL K H p xs)∨(T = "tuple" ∧ ∃ o,K.lookup p=some o∧o.cls=.type "tuple" ∧ o.dict=none) ∨
   (T = "dict" ∧ ((∃ ag,H p=some (.dK ag))∨∃ ag,H p=some (.dT ag)))∨(T = "set" ∧ ∃ S n,H p=some (.set S n))
 | _=>False
theorem Q6z {aa:List (Fw×Obj)} {σ:St} {H:Hp} {s:Fy} {T:String} {x:V} {v:Fx} (I:Inv X aa σ H s) (r:RelV x v) (ty:tyV X.K T x H) :
  s.TypeIs v T∧∀ a,v=.ref a→∃ ob,s.heap.get? a=some ob∧ob.dict=none:=by
 cases x with
 | str z =>
  obtain ⟨t,rfl⟩:=r
  cases (show T = "str" from ty)
  exact ⟨typeIs_str s z t,fun _ e=>nomatch e⟩
 | int i =>
  obtain ⟨t,rfl⟩:=r
  cases (show T = "int" from ty)
  exact ⟨Zdh s i t,fun _ e=>nomatch e⟩
 | ref p =>
  cases r
  rcases ty with ⟨rfl,xs,hq⟩ | ⟨rfl,o,hk,hc,hd⟩ | ⟨rfl,hk⟩ | ⟨rfl,S,n,hk⟩
  ·obtain ⟨ac,_,pl,_⟩:=I.list hq
   refine ⟨pl.isList.typeIs,fun a e=>?_⟩
   cases e
   obtain ⟨o,n,e,c,hd,_⟩:=pl
   exact ⟨o,e,hd⟩
  ·refine ⟨⟨o,I.kIn p o hk,hc⟩,fun a e=>?_⟩
   cases e
   exact ⟨o,I.kIn _ o hk,hd⟩
  ·have z:∃ o,s.heap.get? p=some o∧o.ExactDict:=by
    rcases hk with ⟨ag,hk⟩ | ⟨ag,hk⟩
    ·obtain ⟨_,_,_,_,o,_,_,e,ex,_⟩:=I.hok p _ hk
     exact ⟨o,e,ex⟩
    ·obtain ⟨_,_,_,_,o,_,_,e,ex,_⟩:=I.hok p _ hk
     exact ⟨o,e,ex⟩
   obtain ⟨o,e,ex⟩:=z
   refine ⟨⟨o,e,ex.1⟩,fun a e2=>?_⟩
   cases e2
   exact ⟨o,e,ex.2.1⟩
  ·obtain ⟨o,_,_,_,e,ex,_⟩:=I.hok p _ hk
   refine ⟨⟨o,e,ex.1⟩,fun a e2=>?_⟩
   cases e2
   exact ⟨o,e,ex.2.1⟩
 | _=>exact Zef ty
noncomputable abbrev tBM (K:Fz) (T:String) (r:V→List V→Hp→VK→Prop) (to:TE) (t:TA):TE:=fun σ H Q=>to σ H fun x H1=>tyV K T x H1∧t σ H1 fun xs H2=>r x xs H2 Q
variable {o e:Fr} {es:List Fr} {to:TE} {t:TA} {name:Str} {a7 ah:Pos} {T id:String} {r:V→List V→Hp→VK→Prop}
theorem Qaa1 (pa:PlainAttrs T) (slot:Slot T name id) (eJ:typeOf (.builtin id)=pure (.type "method_descriptor")) (hm:MtR X id r) (ho:PE X o to) (ha:PA X (e::es) t)
  (bg:attributeBase o name X.env (eval o X.env)=eval o X.env:=by rfl)
  (bI:((backTo ah (starEach (e::es) X.env)).all (fun x=>!x.1)&&(backToKw ah (keywordEach [] X.env)).all (fun x=>x.1.isSome)
   && decide ((e::es).length+([]:List Keyword).length+(if ([]:List Keyword).isEmpty then 0 else 1)<30))=true:=by rfl)
  (bh:(a7.endLine==ah.line)=true:=by rfl) (hs:starEach (e::es) X.env=(false,eval e X.env)::starEach es X.env:=by rfl) (aL:(backTo ah (starEach es X.env)).any (·.1)=false:=by rfl) :
  PE X (.Call (.Attribute o name a7) (e::es) [] ah) (tBM X.K T r to t):=by
 intro aa s σ H Q I h
 refine wpAny_Call_method_late bg bI bh rfl (thn (ho aa s σ H _ I h) fun v s1 ⟨x,H1,I1,r1,ty,q1⟩=>?_)
 obtain ⟨h1,h2⟩:=Q6z I1 r1 ty
 refine ⟨T,id,pa,slot,eJ,h1,h2,?_⟩
 have hA:=ha ah aa s1 σ H1 _ I1 q1
 rw [hs] at hA ⊢
 refine Calls.callWith_builtin (by show (false||(backTo ah (starEach es X.env)).any (·.1))=false;rw [aL] <;> rfl) (Calls.evalArgs_plain ?_)
 exact thn hA fun us s2 ⟨vs,H2,I2,r2,q2⟩=>hm aa s2 σ H2 x vs v us Q I2 r1 r2 q2
end
noncomputable def MtM (X:Cx) (id:String) (r:V→List V→Hp→VK→Prop):Prop :=
 ∀ (aa:List (Fw×Obj)) (s:Fy) (σ:St) (H:Hp) (x:V) (xs:List V) (v:Fx) (us:List Fx) (Q:VK),Inv X aa σ H s→RelV x v→Vals xs us→r x xs H Q →
  wpAny (model X.prog X.w) X.A (call (.builtin id) (v::us)) (EP X aa σ Q) X.xe s
theorem Vals.one:∀ {x:V} {us:List Fx},Vals [x] us→∃ u,us=[u]∧RelV x u
 | _,_,.cons r .nil=>⟨_,rfl,r⟩
theorem Vals.reverse {xs:List V} {us:List Fx} (h:Vals xs us):Vals xs.reverse us.reverse:=by
 induction h with
 | nil=>exact .nil
 | cons r t ih=>rw [Zdl,Zdl];exact Vals.append ih (.cons r .nil)
theorem Vals.rep {xs:List V} {us:List Fx} (h:Vals xs us):∀ k:Nat,Vals (List.replicate k xs).flatten (List.replicate k us).flatten
 | 0=>.nil
 | k+1=>by
  rw [Za2,Za2,List.flatten_cons,List.flatten_cons]
  exact Vals.append h (Vals.rep h k)
theorem Qjr (ac:List Fx):∀ (k:Nat) (acc:List Fx),
  List.foldl (fun x1 x2=>x1++x2) acc.toArray (List.replicate k ac.toArray)=(acc++(List.replicate k ac).flatten).toArray
 | 0,acc=>by simp
 | k+1,acc=>by
  have e:acc.toArray++ac.toArray=(acc++ac).toArray:=by simp
  have e2:(acc++ac)++(List.replicate k ac).flatten=acc++(List.replicate (k+1) ac).flatten:=by
   rw [Za2,List.flatten_cons,Zdm]
  rw [←e2,←Qjr ac k (acc++ac),←e,Za2,Zd9]
section
variable {X:Cx} {aa:List (Fw×Obj)} {σ:St} {H:Hp} {s:Fy} {l b:Fw} {xs ys zs:List V}
theorem Inv.lset {ac its':List Fx} {n:Nat} {f:Array Fx→Array Fx} {t':Nat} (I:Inv X aa σ H s) (hH:H l=some (.lst xs))
  (e:s.heap.get? l=some { cls:=.type "list",data:=.seq ac.toArray n }) (hf:f ac.toArray=its'.toArray) (hv:Vals ys its') (hz:ys.length≤sizeLine) :
  Inv X aa σ (upd H l (.lst ys)) { s with heap:=s.heap.update l (Obj.mapSeq f),toks:=t' }:=by
 have q:=PySem.IsL.update e f
 rw [hf] at q
 refine I.write (x:=l) (e:=l) (by rw [hH];exact trivial) (.inl rfl) (fun b' u hb hu=>(Zau s.heap (Obj.mapSeq f) (Zcf hb)).trans hu) ⟨_,q⟩ ?_
 exact ⟨hz,its',_,hv,q⟩
theorem Inv.lnew {ac:List Fx} {t':Nat} (I:Inv X aa σ H s) (hv:Vals ys ac) (hz:ys.length≤sizeLine) :
  Inv X aa σ (upd H s.heap.objs.size (.lst ys)) { s with heap:=s.heap.push { cls:=.type "list",data:=.seq ac.toArray },toks:=t' } :=
 I.laid (fun _ _ q=>Zb _ q) (Zk _) ⟨hz,ac,0,hv,Zn _ rfl⟩
theorem Inv.fresh (I:Inv X aa σ H s):H s.heap.objs.size=none:=I.hok.fresh (Zk _)
theorem Inv.lstM (I:Inv X aa σ H s) (hH:H l=some (.lst xs)):xs.length≤sizeLine∧∃ (ac:List Fx) (n:Nat),Vals xs ac∧xs.length=ac.length∧s.heap.get? l=some { cls:=.type "list",data:=.seq ac.toArray n }:=by
 obtain ⟨z,ac,n,r,e⟩:=I.hok l _ hH
 exact ⟨z,ac,n,r,r.length,e⟩
theorem Qp9 {n:Nat} (h:n≤sizeLine):Builtin.List.listTooLong n=false:=by
 unfold Builtin.List.listTooLong
 exact Zx (by omega)
end
section
variable {X:Cx}
noncomputable def Qin:V→List V→Hp→VK→Prop:=fun x vs H Q=>∃ l xs y,x=.ref l∧vs=[y]∧H l=some (.lst xs)∧xs.length<sizeLine∧Q .non (upd H l (.lst (xs++[y])))
theorem Qjs:MtM X "list.append" Qin:=by
 intro aa s σ H x vs v us Q I rx rv h
 obtain ⟨l,xs,y,rfl,rfl,hH,hz,q⟩:=h
 cases rx
 obtain ⟨u,rfl,ru⟩:=rv.one
 obtain ⟨z,ac,n,r,hl,e⟩:=I.lstM hH
 refine Zbd F.slot_list_append ⟨_,e,rfl⟩ F.entry_list_append (F.args_list_append_2 _ _) (PySem.list_append l ac.toArray n u (by rw [Zu];omega)) ⟨e,?_⟩
 refine ⟨.non,_,I.lset (its':=ac++[u]) hH e (by simp) (r.append (.cons ru .nil)) ?_,rfl,q⟩
 rw [Zo,Z4]
 omega
noncomputable def Q1v:V→List V→Hp→VK→Prop:=fun x vs H Q=>∃ l b xs zs,x=.ref l∧vs=[.ref b]∧H l=some (.lst xs)∧H b=some (.lst zs)∧xs.length+zs.length≤sizeLine∧Q .non (upd H l (.lst (xs++zs)))
theorem mt_extend:MtM X "list.extend" Q1v:=by
 intro aa s σ H x vs v us Q I rx rv h
 obtain ⟨l,b,xs,zs,rfl,rfl,hH,hB,hz,q⟩:=h
 cases rx
 obtain ⟨u,rfl,ru⟩:=rv.one
 cases ru
 obtain ⟨z,ac,n,r,hl,e⟩:=I.lstM hH
 obtain ⟨z2,ap,n2,r2,dg,e2⟩:=I.lstM hB
 have aU:ac.toArray.size+ap.toArray.size≤sizeLine:=by rw [Zu,Zu];omega
 have bO:¬ (!ac.toArray.isEmpty&&Builtin.List.listTooLong (ac.toArray.size+ap.toArray.size))=true:=by
  rw [Qp9 aU,Zd3]
  exact Zm
 refine Zbd F.slot_list_extend ⟨_,e,rfl⟩ F.entry_list_extend (F.args_list_extend_2 _ _)
  (AutoSeq1.list_extend_list_list_0 l ac.toArray n b ap.toArray n2 bO (by rw [Zu];omega) (by omega)) ⟨e,e2,?_⟩
 refine ⟨.non,_,I.lset (its':=ac++ap) hH e (by simp) (r.append r2) ?_,rfl,q⟩
 rw [Zo]
 omega
noncomputable def rCat:R2:=fun x y H Q=>∃ l b xs zs,x=.ref l∧y=.ref b∧H l=some (.lst xs)∧H b=some (.lst zs)∧xs.length+zs.length≤sizeLine∧∀ p,H p=none→Q (.ref p) (upd H p (.lst (xs++zs)))
theorem Q60:OpR X (binaryOp .Add) rCat:=by
 intro aa s σ H x y v u Q I rx ry h
 obtain ⟨l,b,xs,zs,rfl,rfl,hH,hB,hz,q⟩:=h
 cases rx
 cases ry
 obtain ⟨z,ac,n,r,hl,e⟩:=I.lstM hH
 obtain ⟨z2,ap,n2,r2,dg,e2⟩:=I.lstM hB
 refine PySem.P.add_list e e2 ?_ (by rw [Zu,Zu];omega)
 have ea:ac.toArray++ap.toArray=(ac++ap).toArray:=by simp
 rw [ea]
 exact ⟨.ref _,_,I.lnew (t':=s.toks) (r.append r2) (by rw [Zo];omega),rfl,q _ I.fresh⟩
noncomputable def rRep:R2:=fun x y H Q=>∃ l k xs,x=.ref l∧y=.int k∧H l=some (.lst xs) ∧ -(2^63)≤k∧k<2^63∧xs.length*k.toNat≤sizeLine ∧
 ∀ p,H p=none→Q (.ref p) (upd H p (.lst (List.replicate k.toNat xs).flatten))
theorem Qio {α:Type} (xs:List α) (k:Nat):(List.replicate k xs).flatten.length=k*xs.length:=by
 induction k with
 | zero=>simp
 | succ k ih=>rw [Za2,List.flatten_cons,Zo,ih,Nat.succ_mul,Nat.add_comm]
theorem Q61:OpR X (binaryOp .Mult) rRep:=by
 intro aa s σ H x y v u Q I rx ry h
 obtain ⟨l,k,xs,rfl,rfl,hH,h1,h2,hz,q⟩:=h
 cases rx
 obtain ⟨t,rfl⟩:=ry
 obtain ⟨z,ac,n,r,hl,e⟩:=I.lstM hH
 have aj:ac.toArray.size*k.toNat≤sizeLine:=by rw [Zu,←hl];exact hz
 have aP:¬ ac.toArray.size*k.toNat>(2^63-1) / 8:=by
  have:(sizeLine:Nat)≤(2^63-1) / 8:=by decide
  omega
 have fP:¬ (!Builtin.List.listFitsIndex k)=true:=by
  rw [fitsIndex_both h1 h2]
  exact Zm
 have bO:¬ Builtin.List.listTooLong (ac.toArray.size*k.toNat)=true:=by
  rw [Qp9 aj]
  exact Zm
 have cx:List.foldl (fun x1 x2=>x1++x2) #[] (List.replicate (if ac.toArray.isEmpty=true then 0 else k.toNat) ac.toArray)=(List.replicate k.toNat ac).flatten.toArray:=by
  have f0:∀ m:Nat,List.foldl (fun x1 x2=>x1++x2) #[] (List.replicate m ac.toArray)=(List.replicate m ac).flatten.toArray:=fun m=>by
   have:=Qjr ac m []
   rw [List.nil_append] at this
   exact this
  rw [f0]
  cases ac with
  | nil=>simp
  | cons a r'=>rw [Zg (by simp)]
 refine Zc5 (T := "list") (U := "int") (by decide) ⟨_,e,rfl⟩ (fun s'=>Zdh s' k t) noFill_list_mul F.fills_int_mul F.slot_int_rmul repeat_list F.slot_int_index.lookup
  (Zbd F.slot_int_rmul (Zdh s k t) F.entry_int_rmul (F.args_int_rmul_2 _ _) (int___rmul___int_list k t l ac.toArray n)
   ⟨e,rfl,⟨_,e,rfl⟩,Zbd F.slot_list_mul ⟨_,e,rfl⟩ F.entry_list_mul (F.args_list_mul_2 _ _) (AutoListH.list___mul___list_int_3 l ac.toArray n k t fP aP bO) ⟨e,?_⟩⟩)
 rw [cx]
 exact ⟨.ref _,_,I.lnew (t':=s.toks) (r.rep k.toNat) (by rw [Qio,Zbz];exact hz),rfl,q _ I.fresh⟩
end
section
variable {prog:Fu} {w:Ft} {A:Fv} {E:Fx→Fy→Prop} {s:Fy}
end
section
variable {X:Cx}
end
end L2
namespace Att
open PySem PySem.W PySem.Calls PyProof.Rows
theorem ints_of_wellAll {P:Params} {h:Fq}:∀ (ns:List Int) (vs:List Fx),WellAll P h vs (ns.map WData.int)→IntsAre vs ns:=by
 intro ns
 induction ns with
 | nil =>
  intro vs w
  rw [Zde] at w
  cases w
  exact .nil
 | cons n ns ih =>
  intro vs w
  rw [Z6] at w
  cases w with
  | cons a b =>
   cases a
   exact .cons _ _ (ih _ b)
theorem script_of {l:OpenLaw} {n:Nat} (hn:l.most=some n) {P:Params} {h:Fq} {args:List WData} {cU:List Fx}
  (cc:l.row.toRowW.claim.pre args=true) (gu:WellAll P h cU args) :
  ∃ a vs ns,cU=[Value.ref a]∧args=[WData.list (ns.map WData.int)]∧h.get? a=some { cls:=.type "list",data:=.seq vs.toArray }∧IntsAre vs ns∧ns.length≤n:=by
 have kg:WShape.hasAll [] args [.list .int]=true:=(pre_splitW cc).1
 have hc:l.pre.holds [] { args:=args }=true:=(pre_splitW cc).2
 obtain ⟨d,r,rfl,h1,h2⟩:=hasAllW_cons kg
 obtain rfl:=hasAllW_nil h2
 obtain ⟨xs,rfl,h3⟩:=hasW_list h1
 obtain ⟨ns,rfl⟩:=items_int h3
 have aj:ns.length≤n:=by
  unfold OpenLaw.pre at hc
  have h4:(WTm.not (.lt (.lit (.int (n:Int))) (.len (.arg 0)))).holds [] { args:=[.list (ns.map .int)] }=true:=by
   have h4:=(holds_andW hc).1
   rw [hn] at h4
   exact h4
  have h5:=condW_of h4 (w_not (w_lt w_lit (w_len_list (w_arg rfl))))
  rw [Zd] at h5
  refine Nat.le_of_not_lt fun q=>?_
  have q':(n:Int)<((ns.length:Nat):Int):=by omega
  first
   | (rw [Zbh q'] at h5;exact absurd h5 (by decide))
   | (simp at h5;omega)
 cases gu with
 | cons w1 w2 =>
  cases w2
  cases w1 with
  | list ho b9=>exact ⟨_,_,ns,rfl,rfl,ho,ints_of_wellAll ns _ b9,aj⟩
theorem post_true (l:OpenLaw) (args:List WData):l.row.toRowW.claim.post args (.bool true) args=true :=
 postW_of (r:=l.row.toRowW) (X:=(true==true))
  (show WShape.has [] (.bool true) .bool=true by first | rfl | decide | simp [WShape.has,WShape.arms,WShape.armsAll])
  (show (WTm.eq .res (.lit (.bool true))).value [] { args:=args,res:=some (.bool true),after:=args }=some (.bool (true==true)) from w_eq_bool (w_res rfl) w_lit) rfl
theorem attach_call {l:OpenLaw} {n:Nat} {q:Fu} {aS:List Str} {XP:(Str→Option Fx)→Fq→Prop} {YP:Ft→Fq→Prop} {d:DefRec}
  (hn:l.most=some n) (dD:d.params.defaults=[])
  (call:∀ (w:Ft) (s₀ s₁:Fy) (mg mb:Str→Option Fx) (fa:Fw) (o:Obj) (pm cd az:Fx) (a:Fw) (vs:List Fx) (ns:List Int),
   Ground q aS [] XP w s₀ mg mb s₁.heap→YP w s₁.heap →
   s₁.heap.get? fa=some o→o.data=.func (docDef d.name d.params d.body d.scope pm cd az)→s₁.heap.CodeRec cd d.name→mg d.name=some (.ref fa) →
   s₁.heap.get? a=some { cls:=.type "list",data:=.seq vs.toArray }→IntsAre vs ns→ns.length≤n→s₁.gens = #[] →
   codeAny (model l.prog w) callerA (.call (.ref fa) ⟨[.ref a],[]⟩) (fun r s'=>r=.ok (.ret (.bool true))∧OldK s₁.heap s'.heap∧s'.os=s₁.os∧AllBare s'.gens) s₁) :
  WalkO q aS XP YP l.row.toRowW d [] (fun f vs=>PySem.call f vs):=by
 intro w s₀ s₁ mg mb G Y fa o pm cd az dV kV ho hd aF hD gp hg args cU as cc jC kC gu kI
 obtain rfl:dV=.none:=Dflts.none hD dD
 obtain rfl:kV=.none:=Dflts.noKw hD
 obtain ⟨a,vs,ns,rfl,rfl,cX,bF,aj⟩:=script_of hn cc gu
 refine enter_call (Zcw (call w s₀ s₁ mg mb fa o pm cd az a vs ns G Y ho (fd_plain hd) aF gp cX bF aj hg) fun r s' hq=>?_)
 obtain ⟨rfl,h2,h3,h4⟩:=hq
 exact ⟨.inl ⟨.bool true,.bool true,[],rfl,fun _=>rfl,.bool true,post_true l _,fun _=>⟨List.Pairwise.nil,fun _ hm=>(nomatch hm)⟩⟩,h2,h3,h4⟩
section
variable {prog:Fu} {w:Ft} {A:Fv} {E:Fx→Fy→Prop} {s:Fy} {K:Frag}
end
end Att
namespace L2
open PySem PySem.Spec PyProof.Rows
theorem Qnu:∀ {vs:List Fx} {ns:List Int},IntsAre vs ns→Vals (ns.map V.int) vs
 | _,_,.nil=>.nil
 | _,_,.cons n t h=>.cons ⟨t,rfl⟩ (Qnu h)
def Q1w (H:Hp):Prop:=∀ b,H b=none∨∃ o xs,H b=some (.frz o (.lst xs))
theorem Qxl {P:Fu} {w:Ft} {K:Fz} {mg mb:Str→Option Fx} {CX:CXT} {k:Nat} {fa a:Fw} {fd:FuncData} {x:Str} {sp:Sp} {s₁:Fy} {vs:List Fx} {ns:List Int}
  (KX:K.In s₁.heap) (bQ:s₁.heap.Ns mainGlobals mg) (hb:s₁.heap.Ns builtinsNs mb) (jt:∀ x:Str,x ≠ "__name__" → mb x=bootBuiltins x) (gj:s₁.heap.NoLimit) (hg:s₁.gens = #[])
  (ha:s₁.heap.get? a=some { cls:=.type "list",data:=.seq vs.toArray }) (hi:IntsAre vs ns) (hl:ns.length≤sizeLine) (hr:Room k callerA)
  (F:∀ base:Fq,K.In base→base.Ns mainGlobals mg→FnOk P w K mg base CX k fa fd [x] sp) (dW:∀ (s:Fy) (u:Fx),BindsTo s fd ⟨[u],[]⟩ [(x,u)])
  (aZ:∀ H:Hp,Q1w H→SqL K H a (ns.map V.int)→sp [.ref a] H (fun v _=>v=.bl true) fun _ _ _=>False)
  (dI:∀ H e s',CX [] H s₁ (fun _ _ _=>False) e s'→False)
  (jM:∃ bm ob,mg "__builtins__" = some (.ref bm)∧bm≠builtinsNs∧s₁.heap.get? bm=some ob∧ob.cls=.type "module" ∧ ob.dict=some builtinsNs∧ob.data=.plain) (hT:∀ a q,¬ Qwz K a q) :
  codeAny (model P w) callerA (.call (.ref fa) ⟨[.ref a],[]⟩) (fun r s'=>r=.ok (.ret (.bool true))∧OldK s₁.heap s'.heap∧s'.os=s₁.os∧AllBare s'.gens) s₁:=by
 have rv:=Qnu hi
 have fB:=hi.length
 -- from an abstract heap in which nothing but the script may be aA
 have dN:∀ H:Hp,Q1w H→SqL K H a (ns.map V.int)→HOk P w H s₁.heap→(∀ b,H b≠none→b=a)→(H a≠none→K.lookup a=none) →
   codeAny (model P w) callerA (.call (.ref fa) ⟨[.ref a],[]⟩) (fun r s'=>r=.ok (.ret (.bool true))∧OldK s₁.heap s'.heap∧s'.os=s₁.os∧AllBare s'.gens) s₁:=by
  intro H hO hS hok hA hK
  have aT:∀ {b:Fw} {o:Obj},s₁.heap.get? b=some o→H b=none→(Qor s₁.heap H).get? b=some o:=fun e n=>Qwy e n
  have cw:∀ {b:Fw} {o:Obj} {es:Array DictEntry} {ep:Nat},s₁.heap.get? b=some o→o.data=.dict es ep→H b=none:=fun {b o es ep} e d=>by
   cases q:H b with
   | none=>rfl
   | some u =>
    have e':b=a:=hA b (by rw [q];simp)
    subst e'
    rw [ha] at e;cases e
    have d':Data.seq vs.toArray _=Data.dict es ep:=d
    cases d'
  have jh:∀ {b:Fw} {o:Obj},s₁.heap.get? b=some o→o.data=.plain→H b=none:=fun {b o} e d=>by
   cases q:H b with
   | none=>rfl
   | some u =>
    have e':b=a:=hA b (by rw [q];simp)
    subst e'
    rw [ha] at e;cases e
    cases (show Data.seq vs.toArray _=Data.plain from d)
  have eL:∀ {b:Fw} {m:Str→Option Fx},s₁.heap.Ns b m→(Qor s₁.heap H).Ns b m:=fun {b m} ⟨o,es,ep,e,d,r⟩=>⟨o,es,ep,aT e (cw e d),d,r⟩
  have gR:K.In (Qor s₁.heap H):=fun b o e=>aT (KX b o e) (by
   cases q:H b with
   | none=>rfl
   | some u =>
    have e':b=a:=hA b (by rw [q];simp)
    subst e'
    rw [hK (by rw [q];simp)] at e;cases e)
  have hM:Mod K mg (Qor s₁.heap H):=⟨gR,eL bQ,⟨mb,eL hb,jt⟩,let ⟨mc,h1,h2⟩:=gj;⟨mc,eL h1,h2⟩,let ⟨bm,ob,b1,b2,b3,b4,b5,b6⟩:=jM;⟨bm,ob,b1,b2,aT b3 (jh b3 b6),b4,b5,b6⟩⟩
  have e0:Env0 P w K mg (Qor s₁.heap H) callerA [] s₁ H:=⟨rfl,hM,fun b o e=>Q09 e,Zeb (Qve _ _),trivial,⟨fun b hb=>absurd (show b∈([]:List Fw) from hb) (by simp),fun a q z=>(hT a q z).elim⟩,hok,.of_eq hg⟩
  refine Zcw ((F _ gR (eL bQ)).run callerA [] s₁ H ⟨[.ref a],[]⟩ [.ref a] [.ref a] _ _ hr e0 (dW s₁ (.ref a)) (.cons rfl .nil) (aZ H hO hS)) fun r s' h=>?_
  cases r with
  | error e=>exact (dI H e s' h).elim
  | ok fl =>
   cases fl with
   | next=>exact Zef h
   | brk=>exact Zef h
   | cont=>exact Zef h
   | ret u =>
    obtain ⟨v,H',os,bare,un,fN,r',q⟩:=h
    have q':v=.bl true:=q
    subst q'
    obtain rfl:u=Value.bool true:=r'
    refine ⟨rfl,OldK.of_keep fun b o e=>?_,os,bare⟩
    cases q:H b with
    | none=>exact un.keep b o e q (by intro z;exact absurd (show b∈([]:List Fw) from z) (by simp)) (by simp)
    | some u =>
     rcases hO b with z | ⟨ob,xs,z⟩
     ·rw [q] at z;cases z
     ·have z2:=un.frzs b ob _ z
      obtain ⟨e1,_⟩:=hok b _ z
      obtain ⟨e2,_⟩:=fN b _ z2
      rw [e] at e1;cases e1
      exact e2
 cases hk:K.lookup a with
 | some o =>
  -- the script is one of the module's own objects
  have e:=KX a o hk
  rw [ha] at e
  cases e
  refine dN (fun _=>none) (fun _=>.inl rfl) (.inr ⟨_,vs.toArray,_,hk,rfl,rfl,rfl,by rw [Zu,fB];exact hl,by simpa using rv⟩) (fun b u z=>by have z':(none:Option HO)=some u:=z;cases z') (fun b z=>absurd rfl z) fun z=>absurd rfl z
 | none =>
  refine dN (fun b=>if b=a then some (.frz { cls:=.type "list",data:=.seq vs.toArray } (.lst (ns.map V.int))) else none) (fun b=>?_) (.inl (.inr ⟨{ cls:=.type "list",data:=.seq vs.toArray },Zf rfl⟩)) (fun b u z=>?_) (fun b z=>?_) fun _=>hk
  ·by_cases hb:b=a
   ·exact .inr ⟨_,_,Zf hb⟩
   ·exact .inl (Zg hb)
  ·by_cases hb:b=a
   ·have z':=(Zf hb).symm.trans z
    cases z'
    subst hb
    exact ⟨ha,by rw [Zd];exact hl,vs,_,rv,ha⟩
   ·have z':=(Zg hb).symm.trans z
    cases z'
  ·by_cases hb:b=a
   ·exact hb
   ·exact absurd (Zg hb) z
abbrev KOf {K:Fz} {h:Fq} (_:K.In h):Fz:=K
theorem Q1x {l:PySem.W.OpenLaw} {n k:Nat} {q:Fu} {aS:List Str} {XP:(Str→Option Fx)→Fq→Prop} {YP:Ft→Fq→Prop} {d:DefRec} {K:Params→Fz} {CX:Ft→CXT} {sp:Ft→Sp} {x:Str}
  (hn:l.most=some n) (fv:n≤sizeLine) (dD:d.params.defaults=[]) (hr:Room k callerA)
  (hY:∀ (w:Ft) (h:Fq),YP w h→(K w.params).In h)
  (F:∀ (w:Ft) (mg:Str→Option Fx) (fa:Fw) (h:Fq),(K w.params).In h→h.Ns mainGlobals mg→mg d.name=some (.ref fa) →
   ∃ fd:FuncData,(∀ (s:Fy) (u:Fx),BindsTo s fd ⟨[u],[]⟩ [(x,u)]) ∧
    ∀ base:Fq,(K w.params).In base→base.Ns mainGlobals mg→FnOk l.prog w (K w.params) mg base (CX w) k fa fd [x] (sp w))
  (aZ:∀ (w:Ft) (H:Hp) (a:Fw) (ns:List Int),ns.length≤n→Q1w H→SqL (K w.params) H a (ns.map V.int)→sp w [.ref a] H (fun v _=>v=.bl true) fun _ _ _=>False)
  (dI:∀ (w:Ft) (H:Hp) (s:Fy) (e:Fx) (s':Fy),CX w [] H s (fun _ _ _=>False) e s'→False) (hT:∀ (w:Ft) a q,¬ Qwz (K w.params) a q) :
  PySem.W.WalkO q aS XP YP l.row.toRowW d [] (fun f vs=>PySem.call f vs):=by
 refine Att.attach_call hn dD fun w s₀ s₁ mg mb fa o pm cd az a vs ns G Y ho hd aF gp cX bF aj hg=>?_
 have KX:=hY w _ Y
 obtain ⟨fd,hb,hF⟩:=F w mg fa _ KX G.T.g gp
 exact Qxl KX G.T.g G.T.b G.T.builtins G.T.nolimit hg cX bF (Zao aj fv) hr hF hb (fun H hO hS=>aZ w H a ns aj hO hS) (fun H e s'=>dI w H s₁ e s') G.T.bmain (hT w)
theorem Qxm {l:PySem.W.OpenLaw} {n k:Nat} {q:Fu} {aS:List Str} {XP:(Str→Option Fx)→Fq→Prop} {YP:Ft→Fq→Prop} {d:DefRec} {K:Params→Fz} {CX:CXT} {sp:Fz→Sp} {x:Str}
  (hn:l.most=some n) (fv:n≤sizeLine) (dD:d.params.defaults=[]) (hr:Room k callerA)
  (hY:∀ (w:Ft) (h:Fq),YP w h→(K w.params).In h)
  (F:∀ (w:Ft) (mg:Str→Option Fx) (fa:Fw) (h:Fq),(K w.params).In h→h.Ns mainGlobals mg→mg d.name=some (.ref fa) →
   ∃ fd:FuncData,(∀ (s:Fy) (u:Fx),BindsTo s fd ⟨[u],[]⟩ [(x,u)]) ∧
    ∀ base:Fq,(K w.params).In base→base.Ns mainGlobals mg→FnOk l.prog w (K w.params) mg base CX k fa fd [x] (sp (K w.params)))
  (aZ:∀ (K:Fz) (H:Hp) (a:Fw) (ns:List Int),ns.length≤n→Q1w H→SqL K H a (ns.map V.int)→sp K [.ref a] H (fun v _=>v=.bl true) fun _ _ _=>False)
  (dI:∀ (H:Hp) (s:Fy) (e:Fx) (s':Fy),CX [] H s (fun _ _ _=>False) e s'→False) (hT:∀ (w:Ft) a q,¬ Qwz (K w.params) a q) :
  PySem.W.WalkO q aS XP YP l.row.toRowW d [] (fun f vs=>PySem.call f vs) :=
 Q1x (K:=K) (CX:=fun _=>CX) (sp:=fun w=>sp (K w.params)) hn fv dD hr hY F (fun w H a ns h1 h2 h3=>aZ (K w.params) H a ns h1 h2 h3) (fun _ H s e s'=>dI H s e s') hT
noncomputable def Qel (s:Fs):Arguments:=match s with
 | .FunctionDef _ a _ _ _ _ _ _ _ _=>a
 | _=>{ posonlyargs:=[],args:=[],vararg:=none,kwonlyargs:=[],kw_defaults:=[],kwarg:=none,defaults:=[] }
def Qbi (s:Fs):List Fs:=match s with
 | .FunctionDef _ _ b _ _ _ _ _ _ _=>b
 | _=>[]
noncomputable def Qg (s:Fs):Scope:=match s with
 | .FunctionDef _ _ _ _ _ _ sc _ _ _=>sc
 | _=>{ kind:=.function,names:=[],isGenerator:=false,isCoroutine:=false }
abbrev CX0:CXT:=fun _ _ _ _ _ _=>False
abbrev E0:XK:=fun _ _ _=>False
theorem Qaa4 {X:Cx}:Qr3 CX0 X E0:=fun _ _ _ _ _ _ _ h=>h.elim
structure Fun (K:Fz) (x qual:Str) (st:Fs) (f:Fw) (fd:FuncData):Prop where
 ex:∃ (oc:Fx) (od:Option Fw) (kV az pm:Fx) (an:Option Fw) (ae ct:Fx) (aQ:Array (Option Fx)),
  fd=PySem.W.fnOf x qual (Qel st) (Qbi st) (Qg st) .none kV az pm an ae ct∧K.lookup f=some ⟨oc,od,.func fd,aQ⟩∧PySem.W.codeIn K ae qual=true
 kp:PySem.W.keepIn K (.ref f)=true
section
variable {P:Fu} {w:Ft} {K:Fz} {mg:Str→Option Fx} {base:Fq}
theorem Fun.ok {x qual:Str} {st:Fs} {f:Fw} {fd:FuncData} {N ps:List Str} {k:Nat} {sp:Sp} (F:Fun K x qual st f fd) (S:FnScope N ps (Qg st)) (len:∀ vs H Q E,sp vs H Q E→vs.length=ps.length)
  (av:∀ (ae:Fx) (A:Fv) (outer:List Env) (s:Fy) (H:Hp) (vs:List V) (Q:VK) (E:XK),Room k (A.deeper (envOfC qual (Qg st) s.heap.objs.size f ae))→sp vs H Q E →
   ∃ t,PSs (Qhu (fun _=>true) CX0 P w K mg base N qual (Qg st) f ae A outer s H E).nox (Qbi st) t∧t { nx:=fun _ H'=>Q .non H',rt:=Q } (Qbl N vs) H):FnOk P w K mg base CX0 (k+1) f fd ps sp:=by
 obtain ⟨oc,od,kV,az,pm,an,ae,ct,aQ,rfl,lk,aF⟩:=F.ex
 refine Q4q (g:=fun _=>true) lk aF S len fun A outer s H vs Q E hr aZ=>?_
 obtain ⟨t,h,q⟩:=av ae A outer s H vs Q E hr aZ
 exact ⟨t,h.nox,q⟩
theorem Fun.binds {x qual:Str} {st:Fs} {f:Fw} {fd:FuncData} {ps:List Str} (F:Fun K x qual st f fd)
  (h:∀ (kV az pm:Fx) (an:Option Fw) (ae ct:Fx) (us:List Fx),us.length=ps.length→bindArgs (PySem.W.fnOf x qual (Qel st) (Qbi st) (Qg st) .none kV az pm an ae ct) ⟨us,[]⟩=pure (ps.zip us)):Binds K fd ps []:=by
 obtain ⟨oc,od,kV,az,pm,an,ae,ct,aQ,rfl,lk,aF⟩:=F.ex
 exact .all (h kV az pm an ae ct)
theorem Q62 {x qual:Str} {st:Fs} {f:Fw} {oc:Fx} {od an:Option Fw} {aQ:Array (Option Fx)} {kV az pm ae ct:Fx} (l:K.lookup f=some ⟨oc,od,.func (PySem.W.fnOf x qual (Qel st) (Qbi st) (Qg st) .none kV az pm an ae ct),aQ⟩)
  (c:PySem.W.codeIn K ae qual=true) (k:PySem.W.keepIn K (.ref f)=true):Fun K x qual st f (PySem.W.fnOf x qual (Qel st) (Qbi st) (Qg st) .none kV az pm an ae ct):=⟨⟨oc,od,kV,az,pm,an,ae,ct,aQ,rfl,l,c⟩,k⟩
end
section
variable {X:Cx}
theorem pv (i:Nat) {x:Str} {pos:Pos} (hN:X.N[i]?=some x:=by rfl) (hv:Vis X.env.scope x:=by first | exact Or.inl rfl | exact Or.inr (Or.inl rfl) | exact Or.inr (Or.inr rfl)) (hd:(x==("__debug__" : Str))=false:=by decide)
  (aF:(x==("__classdict__" : Str))=false:=by decide):PE X (.Name x pos) (Qos i):=Q5y hN hv hd aF
end
theorem Q63 {A B:Prop} (h:B):if false=true then A else B:=by
 rw [Zg Zm]
 exact h
theorem ite2 {c A B:Prop} [Decidable c] (h1:c→A) (h2:¬ c→B):if c then A else B:=by
 by_cases h:c
 ·rw [Zf h]
  exact h1 h
 ·rw [Zg h]
  exact h2 h
def Same (H H':Hp):Prop:=∀ b o,H b=some o→H' b=some o
theorem Same.refl (H:Hp):Same H H:=fun _ _ h=>h
theorem Same.trans {H H1 H2:Hp} (a:Same H H1) (b:Same H1 H2):Same H H2:=fun c o h=>b c o (a c o h)
theorem Same.free {H H':Hp} (e:Same H H') {l:Fw} (h:H' l=Option.none):H l=Option.none:=by
 cases q:H l with
 | none=>rfl
 | some o =>
  rw [e l o q] at h
  cases h
theorem Same.seq {K:Fz} {H H':Hp} {a:Fw} {xs:List V} (e:Same H H') (h:SqL K H a xs):SqL K H' a xs:=by
 rcases h with (h | ⟨o,h⟩) | h
 ·exact .inl (.inl (e _ _ h))
 ·exact .inl (.inr ⟨o,e _ _ h⟩)
 ·exact .inr h
structure LamT where
 qual:Str
 params:Arguments
 body:Fr
 scope:Scope
 caps:List Str
 ps:List Str
def Qxn:List (Nat×LamT):=[]
section
variable {κ:Type} [DecidableEq κ]
noncomputable def Qqa (ag:List (κ×V)) (k:κ) (v:V):List (κ×V) :=
 if (ag.any fun kv=>decide (kv.1=k))=true then ag.map (fun kv=>if kv.1=k then (kv.1,v) else kv) else ag++[(k,v)]
theorem Qqb (ag:List (κ×V)) (k:κ) (v:V):(Qqa ag k v).length≤ag.length+1:=by
 unfold Qqa
 split
 ·rw [Zd];omega
 ·rw [Zo,Ze,Zp];omega
theorem RelO.isSome_eq {o:Option V} {u:Option Fx} (r:RelO o u):o.isSome=u.isSome:=by
 cases o with
 | none=>cases u with
  | none=>rfl
  | some _=>exact (show False from r).elim
 | some _=>cases u with
  | none=>exact (show False from r).elim
  | some _=>rfl
theorem KV.any {ag:List (κ×V)} {vs:List (κ×Fx)} (r:KV ag vs) (k:κ):(ag.any fun kv=>decide (kv.1=k))=vs.any fun kv=>decide (kv.1=k):=by
 unfold KV at r
 induction r with
 | nil=>rfl
 | cons h t ih=>rw [Zdz,Zdz,ih,h.1]
theorem KV.repl {ag:List (κ×V)} {vs:List (κ×Fx)} (r:KV ag vs) (k:κ) {y:V} {u:Fx} (ry:RelV y u) :
  KV (ag.map fun kv=>if kv.1=k then (kv.1,y) else kv) (vs.map fun kv=>if kv.1=k then (kv.1,u) else kv):=by
 unfold KV at r ⊢
 induction r with
 | nil=>exact .nil
 | @cons p q ps qs h t ih =>
  rw [Z6,Z6]
  refine .cons ?_ ih
  obtain ⟨h1,h2⟩:=h
  by_cases e:p.1=k
  ·rw [Zf e,Zf (h1.symm.trans e)];exact ⟨h1,ry⟩
  ·rw [Zg e,Zg (fun z=>e (h1.trans z))];exact ⟨h1,h2⟩
theorem KV.put {ag:List (κ×V)} {vs:List (κ×Fx)} (r:KV ag vs) (k:κ) {y:V} {u:Fx} (ry:RelV y u):KV (Qqa ag k y) (stored vs k u):=by
 unfold Qqa stored
 rw [r.any k]
 by_cases e:(vs.any fun kv=>decide (kv.1=k))=true
 ·rw [Zf e,Zf e];exact r.repl k ry
 ·rw [Zg e,Zg e];exact Paired.snoc r ⟨rfl,ry⟩
end
theorem Qaa5 {P:Fu} {w:Ft} {k:Key} {u:Fx} (r:RelV (kV k) u):(Qdy P w).is k u=true:=by
 cases k with
 | inl i=>obtain ⟨t,e⟩:=(show ∃ t,u=Value.int i t from r);subst e;exact Qp5 P w i t
 | inr x=>obtain ⟨t,e⟩:=(show ∃ t,u=Value.str x t from r);subst e;exact Qp6 P w x t
section
variable {P:Fu} {w:Ft} {H:Hp} {h:Fq} {a:Fw}
theorem Qaa6 {u:HO} (ok:HOk P w H h) (e:Rd H a u):ObjOk P w H h a u:=e.ok ok
theorem Qaa7 {ag:List (Key×V)} (ok:HOk P w H h) (e:Rd H a (.dK ag)):ag.length≤sizeLine∧(a==sysModules)=false∧∃ vs,KV ag vs∧h.DictOf (Qdy P w) a vs :=
 show ObjOk P w H h a (.dK ag) from Qaa6 ok e
theorem Qaa8 {ag:List (Key×V)} (ok:HOk P w H h) (e:H a=some (.dK ag)):ag.length≤sizeLine∧(a==sysModules)=false∧∃ vs,KV ag vs∧h.DictOf (Qdy P w) a vs:=Qaa7 ok (.inl e)
end
section
variable {X:Cx} {aa:List (Fw×Obj)} {σ:St} {H:Hp} {s:Fy} {a:Fw} {y v:V} {u r:Fx} {o:Option V} {A:Fv} {E:Fx→Fy→Prop}
theorem Inv.big (I:Inv X aa σ H s):sysModules<s.heap.objs.size:=by
 have h:mainGlobals<s.heap.objs.size:=(I.mod.glob.keeps I.bk).lt
 exact Zdn (by decide) h
theorem Q1y {h':Fq} {t':Nat} {ob:HO} (I:Inv X aa σ H s) (mu:Mut (H a)) (hs:Heap.SameBut a s.heap h') (he:∃ q,h'.get? a=some q) (new:ObjOk X.prog X.w (upd H a ob) h' a ob) :
  Inv X aa σ (upd H a ob) { s with heap:=h',toks:=t' } :=
 I.write (x:=a) (e:=a) mu (.inl rfl) (fun b q hb z=>(hs.2 b hb).trans z) he new
theorem Q64 {P:Fu} {w:Ft} {H':Hp} {h':Fq} {ag:List (Key×V)} {vs:List (Key×Fx)} (z:ag.length≤sizeLine) (hd:(a==sysModules)=false) (rel:KV ag vs) (dd:h'.DictOf (Qdy P w) a vs) :
  ObjOk P w H' h' a (.dK ag):=⟨z,hd,vs,rel,dd⟩
end
section
variable {X:Cx} {aa:List (Fw×Obj)} {σ:St} {H:Hp} {s:Fy} {a:Fw} {ag:List (Key×V)} {k:Key} {u:Fx} {A:Fv} {E:Fx→Fy→Prop}
end
section
variable {X:Cx} {o i e value:Fr} {pos bR gs:Pos} {td ty tv:TE}
end
theorem Qxo {P:Fu} {w:Ft} {H:Hp} (h:Fq) (hb:sysModules<h.objs.size):ObjOk P w H (h.push { cls:=.type "dict",data:=.dict #[] }) h.objs.size (.dK []) :=
 ⟨Zb7 _,beq_eq_false_iff_ne.mpr (Zcf (Zw hb)),[],.nil,Heap.DictOf.new h⟩
section
variable {X:Cx} {pos:Pos}
end
noncomputable def Qr6:List (TE×TE)→St→Hp→(List (V×V)→Hp→Prop)→Prop
 | [],_,H,Q=>Q [] H
 | (tk,tv)::r,σ,H,Q=>tk σ H fun x H1=>tv σ H1 fun y H2=>Qr6 r σ H2 fun ps H3=>Q ((x,y)::ps) H3
abbrev VV:List (V×V)→List (Fx×Fx)→Prop:=Paired fun p q=>RelV p.1 q.1∧RelV p.2 q.2
noncomputable def PPs (X:Cx) (pos:Pos) (bb:List (Option Fr)) (aK:List Fr) (ce:List (TE×TE)):Prop :=
 ∀ (aa:List (Fw×Obj)) (s:Fy) (σ:St) (H:Hp) (Q:List (V×V)→Hp→Prop),Inv X aa σ H s→Qr6 ce σ H Q →
  wpAny (model X.prog X.w) X.A (evalPairs (pairTrees bb aK X.env pos)) (fun vs s'=>∃ ps H',Inv X aa σ H' s'∧VV ps vs∧Q ps H') X.xe s
theorem Q1z {X:Cx} {pos:Pos}:PPs X pos [] [] []:=fun aa s σ H Q I h=>pairTrees_nil_walk ⟨[],H,I,.nil,h⟩
theorem Qxp {X:Cx} {pos:Pos} {k v:Fr} {ks:List (Option Fr)} {vs:List Fr} {tk tv:TE} {ce:List (TE×TE)} (hk:PE X k tk) (hv:PE X v tv) (hr:PPs X pos ks vs ce) :
  PPs X pos (some k::ks) (v::vs) ((tk,tv)::ce):=fun aa s σ H Q I h =>
 pairTrees_cons_walk (thn (hk aa s σ H _ I h) fun u s1 ⟨x,H1,I1,rx,q1⟩=>thn (hv aa s1 σ H1 _ I1 q1) fun w2 s2 ⟨y,H2,I2,ry,q2⟩ =>
  thn (hr aa s2 σ H2 _ I2 q2) fun ws s3 ⟨ps,H3,I3,rel,q3⟩=>⟨(x,y)::ps,H3,I3,.cons ⟨rx,ry⟩ rel,q3⟩)
def Qjt (ag aY:List (Key×V)):List (Key×V):=aY.foldl (fun acc kv=>Qqa acc kv.1 kv.2) ag
theorem KV.merge:∀ {aY:List (Key×V)} {rs:List (Key×Fx)} {ag:List (Key×V)} {vs:List (Key×Fx)},KV aY rs→KV ag vs→KV (Qjt ag aY) (merged vs rs):=by
 intro aY rs ag vs r
 unfold KV at r
 induction r generalizing ag vs with
 | nil=>intro q;exact q
 | @cons p q ps qs h t ih =>
  intro r0
  have e:KV (Qqa ag p.1 p.2) (stored vs q.1 q.2):=by
   have:=r0.put p.1 h.2
   rw [←h.1];exact this
  exact ih e
theorem Qhw:∀ (aY ag:List (Key×V)),(Qjt ag aY).length≤ag.length+aY.length
 | [],ag=>by show ag.length≤ag.length+0;omega
 | p::r,ag=>by
  have h1:=Qhw r (Qqa ag p.1 p.2)
  have h2:=Qqb ag p.1 p.2
  show (Qjt (Qqa ag p.1 p.2) r).length≤_
  rw [Ze];omega
theorem Qlp {P:Fu} {w:Ft}:∀ {ag:List (Key×V)} {ws:List (Fx×Fx)},VV (ag.map fun kv=>(kV kv.1,kv.2)) ws→∃ rs,Carries (Qdy P w) ws rs∧KV ag rs
 | [],_,r=>by rw [Zde] at r;cases r;exact ⟨[],True.intro,.nil⟩
 | p::ag,_,r=>by
  rw [Z6] at r
  cases r with
  | @cons a b as bs h t =>
   obtain ⟨rs,c,q⟩:=Qlp (P:=P) (w:=w) t
   obtain ⟨b1,b2⟩:=b
   exact ⟨(p.1,b2)::rs,⟨Qaa5 h.1,rfl,c⟩,.cons ⟨rfl,h.2⟩ q⟩
noncomputable def Qaa9 (ce:List (TE×TE)):TE:=fun σ H Q=>∀ p,H p=none→Qr6 ce σ (upd H p (.dK [])) fun ps H2=>H2 p=some (.dK [])∧∃ ag:List (Key×V),ps=ag.map (fun kv=>(kV kv.1,kv.2))∧ag.length≤15∧Q (.ref p) (upd H2 p (.dK (Qjt [] ag)))
theorem Q10 {X:Cx} {pos:Pos} {bb:List (Option Fr)} {aK:List Fr} {ce:List (TE×TE)} (h:PPs X pos bb aK ce) (b9:bb.all (·.isSome)=true) (hl:bb.length=aK.length) (h0:bb≠[])
  (jL:bb.length≤15):PE X (.Dict bb aK pos) (Qaa9 ce):=by
 intro aa s σ H Q I q
 have hn:=I.hok.fresh (Zk s.heap.objs.size)
 have I1:=I.laid (a:=s.heap.objs.size) (o:=.dK []) (h':=s.heap.push { cls:=.type "dict",data:=.dict #[] }) (t':=s.toks) (fun _ _ q=>Zb _ q) (Zk _) (Qxo s.heap I.big)
 refine wpAny_Dict_walk (knd:=Qdy X.prog X.w) b9 hl h0 jL (thn (h aa _ σ _ _ I1 (q _ hn)) fun ws s2 ⟨ps,H2,I2,rel,e,ag,ep,lk,q2⟩=>?_)
 subst ep
 obtain ⟨rs,c,rk⟩:=Qlp (P:=X.prog) (w:=X.w) rel
 obtain ⟨z,hd,ij,r0,dd⟩:=Qaa8 I2.hok e
 cases r0
 refine ⟨rs,c,dd,fun h' io hs=>⟨.ref s.heap.objs.size,_,?_,rfl,q2⟩⟩
 have hz:(Qjt [] ag).length≤sizeLine:=by
  have h1:=Qhw ag []
  rw [Zp] at h1
  rw [Zbo];omega
 have he:∃ q,h'.get? s.heap.objs.size=some q:=let ⟨q,_,_,hq,_⟩:=io;⟨q,hq⟩
 exact Q1y I2 (by rw [e];exact True.intro) hs he (Q64 hz hd (rk.merge .nil) io)
structure M1 (X:Cx) (o:Fr) (m:Str) (a7:Pos) (e:Fr) (ah:Pos):Prop where
 base:attributeBase o m X.env (eval o X.env)=eval o X.env
 few:((backTo ah (starEach [e] X.env)).all (fun x=>!x.1)&&(backToKw ah (keywordEach [] X.env)).all (fun x=>x.1.isSome)
  && decide (([e]:List Fr).length+([]:List Keyword).length+(if ([]:List Keyword).isEmpty then 0 else 1)<30))=true
 line:(a7.endLine==ah.line)=true
 trees:backTo ah (starEach [e] X.env)=[(false,eval e X.env)]
structure M2 (X:Cx) (o:Fr) (m:Str) (a7:Pos) (e f:Fr) (ah:Pos):Prop where
 base:attributeBase o m X.env (eval o X.env)=eval o X.env
 few:((backTo ah (starEach [e,f] X.env)).all (fun x=>!x.1)&&(backToKw ah (keywordEach [] X.env)).all (fun x=>x.1.isSome)
  && decide (([e,f]:List Fr).length+([]:List Keyword).length+(if ([]:List Keyword).isEmpty then 0 else 1)<30))=true
 line:(a7.endLine==ah.line)=true
 trees:backTo ah (starEach [e,f] X.env)=[(false,eval e X.env),(false,eval f X.env)]
section
variable {X:Cx} {aa:List (Fw×Obj)} {σ:St} {H:Hp} {s:Fy} {a:Fw} {y d:V} {u r:Fx} {o:Option V} {A:Fv} {E:Fx→Fy→Prop}
end
section
variable {X:Cx} {o e f:Fr} {a7 ah:Pos} {td ty tx:TE}
end
section
variable {X:Cx} {aa:List (Fw×Obj)} {σ:St} {H:Hp} {s:Fy} {a:Fw} {ag:List (Key×V)} {A:Fv} {E:Fx→Fy→Prop}
end
section
variable {X:Cx} {aa:List (Fw×Obj)} {σ:St} {H:Hp} {s:Fy} {a:Fw} {y:V} {u:Fx} {A:Fv} {E:Fx→Fy→Prop}
end
noncomputable def Qip (env:Env):List (Str×NameKind)→List (Str×Fw)→List (Str×Fw)
 | [],acc=>acc
 | (n,k)::r,acc=>if k==.free then Qip env r ((n,(env.cells.lookup n).getD 0)::acc) else Qip env r acc
theorem Qh5 {env:Env}:∀ (names:List (Str×NameKind)) (acc:List (Str×Fw)),(∀ x∈names,x.2=.free→∃ c,env.cells.lookup x.1=some c) →
  (forIn names acc (fun (x:Str×NameKind) (cs:List (Str×Fw))=>(if (x.2==.free)=true then do let a ← cellOf env x.1;pure (ForInStep.yield ((x.1,a)::cs)) else pure (ForInStep.yield cs):Sem (ForInStep (List (Str×Fw))))))=(pure (Qip env names acc):Sem (List (Str×Fw)))
 | [],acc,_=>by rw [Zed];rfl
 | (n,k)::r,acc,h=>by
  have hr:∀ x∈r,x.2=.free→∃ c,env.cells.lookup x.1=some c:=fun x hx=>h x (Z5 _ hx)
  rw [List.forIn_cons]
  unfold Qip
  by_cases hk:(k==NameKind.free)=true
  ·obtain ⟨c,hc⟩:=h (n,k) Zaj (by simpa using hk)
   have cT:env.cells.lookup n=some c:=hc
   rw [Zf hk]
   simp only [hk,Zl,cellOf,cT,pure_bind,Zbx]
   exact Qh5 r _ hr
  ·rw [Zg hk]
   simp only [hk,Za0,pure_bind,Zb2]
   exact Qh5 r _ hr
theorem Qlq {env:Env} {scope:Scope} (h:∀ x∈scope.names,x.2=.free→∃ c,env.cells.lookup x.1=some c):closureFor scope env=pure (Qip env scope.names []):=by
 have q:=Qh5 (env:=env) scope.names [] h
 unfold closureFor
 simp only [bind_pure_comp] at q ⊢
 have e:(fun (x:Str×NameKind) (r:List (Str×Fw))=>(if (x.2==NameKind.free)=true then (fun a=>ForInStep.yield ((x.1,a)::r)) <$> cellOf env x.1 else pure (ForInStep.yield r):Sem (ForInStep (List (Str×Fw)))))=(fun (x:Str×NameKind) (cs:List (Str×Fw))=>(match x with | (name,kind)=>if (kind==NameKind.free)=true then (fun a=>ForInStep.yield ((name,a)::cs)) <$> cellOf env name else pure (ForInStep.yield cs):Sem (ForInStep (List (Str×Fw))))):=by
  funext x cs
  obtain ⟨n,k⟩:=x
  rfl
 rw [e] at q
 simpa using q
theorem Qcm {env:Env} {x:Str} {c:Fw}:∀ (names:List (Str×NameKind)) (acc:List (Str×Fw)),(∀ y∈names,y.2=.free→∃ c,env.cells.lookup y.1=some c)→(Qip env names acc).lookup x=some c →
  acc.lookup x=some c∨env.cells.lookup x=some c
 | [],acc,_,h=>.inl h
 | (n,k)::r,acc,hf,h=>by
  have hr:∀ x∈r,x.2=.free→∃ c,env.cells.lookup x.1=some c:=fun x hx=>hf x (Z5 _ hx)
  unfold Qip at h
  by_cases hk:(k==NameKind.free)=true
  ·rw [Zf hk] at h
   obtain ⟨d,hd⟩:=hf (n,k) Zaj (by simpa using hk)
   have eV:env.cells.lookup n=some d:=hd
   rcases Qcm r _ hr h with q | q
   ·rw [List.lookup_cons,eV] at q
    by_cases hx:(x==n)=true
    ·rw [hx] at q
     have e:x=n:=by simpa using hx
     subst e
     simp only [Zbx] at q
     exact .inr (eV.trans q)
    ·have bC:(x==n)=false:=by simpa using hx
     rw [bC] at q
     exact .inl q
   ·exact .inr q
  ·rw [Zg hk] at h
   exact Qcm r _ hr h
theorem Qiq {env:Env} {x:Str}:∀ (names:List (Str×NameKind)) (acc:List (Str×Fw)),((x,NameKind.free)∈names∨∃ c,acc.lookup x=some c)→∃ c,(Qip env names acc).lookup x=some c
 | [],acc,h=>by
  rcases h with h | h
  ·cases h
  ·exact h
 | (n,k)::r,acc,h=>by
  unfold Qip
  by_cases hk:(k==NameKind.free)=true
  ·rw [Zf hk]
   refine Qiq r _ ?_
   by_cases hx:(x==n)=true
   ·exact .inr ⟨_,by rw [List.lookup_cons,hx]⟩
   ·have bC:(x==n)=false:=by simpa using hx
    rcases h with h | ⟨c,h⟩
    ·rcases Z9.mp h with e | h
     ·cases e;simp at hx
     ·exact .inl h
    ·exact .inr ⟨c,by rw [List.lookup_cons,bC];exact h⟩
  ·rw [Zg hk]
   refine Qiq r _ ?_
   rcases h with h | h
   ·rcases Z9.mp h with e | h
    ·cases e;simp at hk
    ·exact .inl h
   ·exact .inr h
theorem Qct {x:Str} {c:Fw}:∀ (names:List (Str×NameKind)) (n:Nat) (acc:List (Str×Fw)),(cellsFrom n names acc).lookup x=some c→acc.lookup x=some c∨(n≤c∧(x,NameKind.cell)∈names)
 | [],_,_,h=>.inl h
 | (y,k)::r,n,acc,h=>by
  unfold cellsFrom at h
  by_cases hk:(k==NameKind.cell)=true
  ·rw [Zf hk] at h
   have dL:k=.cell:=by simpa using hk
   rcases Qct r _ _ h with q | ⟨q1,q2⟩
   ·rw [List.lookup_cons] at q
    by_cases hx:(x==y)=true
    ·rw [hx] at q
     cases q
     exact .inr ⟨Zk _,by rw [show x=y by simpa using hx,dL];exact Zaj⟩
    ·rw [show (x==y)=false by simpa using hx] at q
     exact .inl q
   ·exact .inr ⟨by omega,Z5 _ q2⟩
  ·rw [Zg hk] at h
   rcases Qct r _ _ h with q | ⟨q1,q2⟩
   ·exact .inl q
   ·exact .inr ⟨q1,Z5 _ q2⟩
theorem Qdz {x:Str} {c:Fw}:∀ (names:List (Str×NameKind)) (n:Nat) (acc:List (Str×Fw)),(x,NameKind.cell)∈names→(cellsFrom n names acc).lookup x=some c→n≤c
 | [],_,_,h,_=>by cases h
 | (y,k)::r,n,acc,hm,h=>by
  unfold cellsFrom at h
  by_cases hk:(k==NameKind.cell)=true
  ·rw [Zf hk] at h
   by_cases hx:(x==y)=true
   ·rcases Qct r _ _ h with q | ⟨q1,q2⟩
    ·rw [List.lookup_cons,hx] at q
     cases q
     exact Zk _
    ·omega
   ·rcases Z9.mp hm with e | hm
    ·cases e;simp at hx
    ·have:=Qdz r _ _ hm h
     omega
  ·rw [Zg hk] at h
   rcases Z9.mp hm with e | hm
   ·cases e;simp at hk
   ·exact Qdz r _ _ hm h
theorem Qfi:∀ (names:List (Str×NameKind)) (n:Nat) (acc:List (Str×Fw)),(∀ x c,acc.lookup x=some c→c<n)→(∀ x y c,acc.lookup x=some c→acc.lookup y=some c→x=y) →
  ∀ x y c,(cellsFrom n names acc).lookup x=some c→(cellsFrom n names acc).lookup y=some c→x=y
 | [],_,_,_,hi=>hi
 | (z,k)::r,n,acc,hb,hi=>by
  unfold cellsFrom
  by_cases hk:(k==NameKind.cell)=true
  ·rw [Zf hk]
   refine Qfi r (n+1) _ (fun x c h=>?_) (fun x y c h1 h2=>?_)
   ·rw [List.lookup_cons] at h
    by_cases hx:(x==z)=true
    ·rw [hx] at h;cases h;exact Zdc _
    ·rw [show (x==z)=false by simpa using hx] at h
     exact Zbr (hb x c h)
   ·rw [List.lookup_cons] at h1 h2
    by_cases hx:(x==z)=true
    ·rw [hx] at h1;cases h1
     by_cases hy:(y==z)=true
     ·rw [show x=z by simpa using hx,show y=z by simpa using hy]
     ·rw [show (y==z)=false by simpa using hy] at h2
      exact absurd (hb y n h2) (Zas _)
    ·rw [show (x==z)=false by simpa using hx] at h1
     by_cases hy:(y==z)=true
     ·rw [hy] at h2;cases h2
      exact absurd (hb x n h1) (Zas _)
     ·rw [show (y==z)=false by simpa using hy] at h2
      exact hi x y c h1 h2
  ·rw [Zg hk]
   exact Qfi r n acc hb hi
theorem Qdr {names:List (Str×NameKind)}:∀ (names:List (Str×NameKind)) (h:Fq) (acc:List (Str×Fw)),(∀ x c,acc.lookup x=some c→∃ v,h.IsCell c v)→∀ x c,(cellsFrom h.objs.size names acc).lookup x=some c→∃ v,(pushCells h names).IsCell c v
 | [],_,_,hi=>hi
 | (z,k)::r,h,acc,hi=>by
  unfold cellsFrom pushCells
  by_cases hk:(k==NameKind.cell)=true
  ·rw [Zf hk,Zf hk]
   have q:=Qdr (names:=names) r (h.push { cls:=.type "cell",data:=.cell none }) ((z,h.objs.size)::acc) (fun x c hx=>by
    rw [List.lookup_cons] at hx
    by_cases hz:(x==z)=true
    ·rw [hz] at hx;cases hx
     exact ⟨none,⟨_,Zn _ rfl,rfl⟩⟩
    ·rw [show (x==z)=false by simpa using hz] at hx
     obtain ⟨v,w⟩:=hi x c hx
     exact ⟨v,w.keeps fun b o e=>Zb _ e⟩)
   rwa [Zaw] at q
  ·rw [Zg hk,Zg hk]
   exact Qdr (names:=names) r h acc hi
theorem Qkq {M:Model} {A:Fv} {E:Fx→Fy→Prop} {s:Fy} {scope:Scope} {globals:Fw} {cl:List (Str×Fw)} {qual:Str} {env:Env} {Q:Env→Fy→Prop}
  (hQ:Q { scope:=scope,locals:=s.heap.objs.size,globals:=globals,cells:=cellsFrom (s.heap.objs.size+1) scope.names cl,qual:=qual,func:=none,code:=env.code,frame:=env.frame,builtins:=env.builtins } { s with heap:=pushCells (s.heap.push { cls:=.type "dict",data:=.dict #[] }) scope.names }) :
  wpAny M A (newFunctionEnv scope globals cl [] qual none .none (some env)) Q E s:=by
 simp only [newFunctionEnv,Option.isSome_some,Zl]
 refine Za (wpAny_alloc ?_)
 refine Za (wpAny_layCells _ (fun name kind cells=>by cases hkc:kind==NameKind.cell <;> simp [hkc]) _ _ _ _ ?_)
 rw [show ({ s with heap:=s.heap.push { cls:=.type "dict",data:=.dict #[] } }:Fy).heap.objs.size=s.heap.objs.size+1 from Zaw ..]
 simp only [Zed,pure_bind]
 exact Zi hQ
theorem Qir {prog:Fu} {w:Ft} {A:Fv} {R:Result→Fy→Prop} {s:Fy} {elt aD af:Fr} {a8:List Fr} {scope:Scope} {pos:Pos} {it acc:Fx} {env:Env} (I:Nat→Fy→Prop)
  (aO:∀ n s,I n s→wpAny (model prog w) A (pyNext it) (fun r s1=>match r with
   | none=>R (.ok .next) s1
   | some v=>wpAny (model prog w) A (letOwnedTupleGo aD it v) (fun _ gJ=>wpAny (model prog w) A (assign aD env v) (fun _ s2 =>
     wpAny (model prog w) A (forIn a8 true fun c r=>if r=true then do let ok ← isTrue c env (eval c env);pure (ForInStep.yield ok) else pure (ForInStep.yield r)) (fun ok s3 =>
      if ok=true then wpAny (model prog w) A (eval elt env) (fun x s4 =>
       wpAny (model prog w) A (call (.builtin "list.append") [acc,x]) (fun _ s5=>∃ m,m<n∧I m s5) (fun _ _=>False) s4) (fun _ _=>False) s3
      else ∃ m,m<n∧I m s3) (fun _ _=>False) s2) (fun _ _=>False) gJ) (fun _ _=>False) s1) (fun _ _=>False) s)
  (n:Nat) (h:I n s) :
  codeAny (model prog w) A (.compLoop (.ListComp elt [⟨aD,af,a8,0⟩] scope pos) 0 it acc env) R s:=by
 refine codeAny_loop rfl I (fun n s hI=>?_) n h
 show wpAny _ A ((compTurn (.ListComp elt [⟨aD,af,a8,0⟩] scope pos) 0 it acc env).onRaise (fun x=>do noteFrame x env;theTreesLotGoes x)) _ _ s
 refine wpAny_noted ?_
 rw [compTurn_list]
 refine Za (Zc8 (Za (Za1 (aO n s hI) (fun r s1 h1=>?_) fun _ _ h'=>h'.elim)))
 cases r with
 | none=>exact Zi h1
 | some v =>
  refine Za (Za1 h1 (fun _ gJ cW=>Za (Za1 cW (fun _ s2 h2=>Za (Za1 h2 (fun ok s3 h3=>?_) fun _ _ h'=>h'.elim)) fun _ _ h'=>h'.elim)) fun _ _ h'=>h'.elim)
  cases ok with
  | false=>exact Zi ⟨rfl,h3⟩
  | true =>
   exact Za (Za (Za1 h3 (fun x s4 h4=>Za (Za1 h4 (fun _ s5 h5=>Zi (Zi ⟨rfl,h5⟩)) fun _ _ h'=>h'.elim)) fun _ _ h'=>h'.elim))
noncomputable def Qac (X:Cx) (scope:Scope) (N:List Str) (s:Fy) (H:Hp) (fp:List Fw):Cx where
 prog:=X.prog
 w:=X.w
 K:=X.K
 mg:=X.mg
 base:=X.base
 A:=X.A
 N:=N
 s₀:=s
 H₀:=H
 env:={ scope:=relabel scope X.env,locals:=s.heap.objs.size,globals:=X.env.globals,cells:=cellsFrom (s.heap.objs.size+1) scope.names (Qip X.env scope.names []),qual:=X.env.qual,func:=none,code:=X.env.code,frame:=X.env.frame,builtins:=X.env.builtins }
 outer:=X.stack
 stack:=X.stack
 ex:=fp
 fn:=fun x=>decide ((x,NameKind.cell)∈scope.names)
 calm:=X.calm
 pn:=[]
 xe:=fun _ _=>False
noncomputable def Qfq (js:List (Option Nat)) (σ:St):St:=js.map fun o=>match o with | none=>none | some j=>(σ[j]?).join
noncomputable def Qis (X:Cx) (scope:Scope) (N:List Str) (js:List (Option Nat)):Bool :=
 (N.length==js.length)&&(N.zip js).all fun p=>match p.2 with
  | none=>true
  | some j=>X.N[j]?==some p.1&&(scope.names.lookup p.1==some .free&&(X.env.scope.names.lookup p.1==some .cell||X.env.scope.names.lookup p.1==some .free))
noncomputable def scOk (X:Cx) (scope:Scope):Bool :=
 scope.names.all fun p=>(p.2 != .free||(X.env.scope.names.lookup p.1==some .cell||X.env.scope.names.lookup p.1==some .free))&&scope.names.lookup p.1==some p.2
section
variable {X:Cx} {aa:List (Fw×Obj)} {σ:St} {H:Hp} {s:Fy} {scope:Scope}
theorem scOk.get (h:scOk X scope=true) {p:Str×NameKind} (hp:p∈scope.names):(p.2=.free→X.env.scope.names.lookup p.1=some .cell∨X.env.scope.names.lookup p.1=some .free)∧scope.names.lookup p.1=some p.2:=by
 have q:=Zah.mp h p hp
 rw [Zt] at q
 refine ⟨fun e=>?_,by simpa using q.2⟩
 have q1:=q.1
 rw [e] at q1
 simpa using q1
theorem scOk.cells (I:Inv X aa σ H s) (h:scOk X scope=true):∀ x∈scope.names,x.2=.free→∃ c,X.env.cells.lookup x.1=some c:=fun x hx e=>I.ok.has x.1 ((scOk.get h hx).1 e)
theorem scOk.one (h:scOk X scope=true) {x:Str} {k j:NameKind} (e:(x,k)∈scope.names) (e':(x,j)∈scope.names):k=j:=by
 have q1:=(scOk.get h e).2
 have q2:=(scOk.get h e').2
 exact Zr (q1.symm.trans q2)
theorem Qju (I:Inv X aa σ H s) (h:scOk X scope=true) {n:Nat} {x:Str} {c:Fw} (e:(cellsFrom n scope.names (Qip X.env scope.names [])).lookup x=some c):X.env.cells.lookup x=some c∨(n≤c∧(x,NameKind.cell)∈scope.names):=by
 rcases Qct _ _ _ e with q | q
 ·rcases Qcm _ _ (scOk.cells I h) q with z | z
  ·cases z
  ·exact .inl z
 ·exact .inr q
theorem Qdf {env:Env} {x:Str} {k:NameKind}:∀ {names:List (Str×NameKind)},(names.map fun (n,k)=>if (k==NameKind.free&&env.scope.kind==.function&&env.kindOf n==some .cell) then (n,NameKind.cell) else (n,k)).lookup x=some k →
  names.lookup x=some k∨(k=.cell∧names.lookup x=some .free)
 | [],h=>by cases h
 | (n,j)::r,h=>by
  rw [Z6] at h
  replace h:List.lookup x ((if (j==NameKind.free&&env.scope.kind==.function&&env.kindOf n==some .cell)=true then (n,NameKind.cell) else (n,j))::_)=some k:=h
  by_cases hc:(j==NameKind.free&&env.scope.kind==.function&&env.kindOf n==some .cell)=true
  ·rw [Zf hc,List.lookup_cons] at h
   rw [List.lookup_cons]
   by_cases hx:(x==n)=true
   ·rw [hx] at h ⊢
    cases h
    simp only [Zt] at hc
    exact .inr ⟨rfl,by rw [show j=.free by simpa using hc.1.1]⟩
   ·rw [show (x==n)=false by simpa using hx] at h ⊢
    exact Qdf h
  ·rw [Zg hc,List.lookup_cons] at h
   rw [List.lookup_cons]
   by_cases hx:(x==n)=true
   ·rw [hx] at h ⊢
    exact .inl h
   ·rw [show (x==n)=false by simpa using hx] at h ⊢
    exact Qdf h
theorem Qf4 {env:Env} {x:Str}:∀ {names:List (Str×NameKind)},names.lookup x=some .free →
  (names.map fun (n,k)=>if (k==NameKind.free&&env.scope.kind==.function&&env.kindOf n==some .cell) then (n,NameKind.cell) else (n,k)).lookup x=some .cell ∨
  (names.map fun (n,k)=>if (k==NameKind.free&&env.scope.kind==.function&&env.kindOf n==some .cell) then (n,NameKind.cell) else (n,k)).lookup x=some .free
 | [],h=>by cases h
 | (n,j)::r,h=>by
  rw [Z6]
  show List.lookup x ((if (j==NameKind.free&&env.scope.kind==.function&&env.kindOf n==some .cell)=true then (n,NameKind.cell) else (n,j))::_)=some .cell∨List.lookup x ((if (j==NameKind.free&&env.scope.kind==.function&&env.kindOf n==some .cell)=true then (n,NameKind.cell) else (n,j))::_)=some .free
  rw [List.lookup_cons] at h
  by_cases hx:(x==n)=true
  ·rw [hx] at h
   cases h
   by_cases hc:(NameKind.free==NameKind.free&&env.scope.kind==.function&&env.kindOf n==some .cell)=true
   ·rw [Zf hc,List.lookup_cons,hx];exact .inl rfl
   ·rw [Zg hc,List.lookup_cons,hx];exact .inr rfl
  ·rw [show (x==n)=false by simpa using hx] at h
   by_cases hc:(j==NameKind.free&&env.scope.kind==.function&&env.kindOf n==some .cell)=true
   ·rw [Zf hc,List.lookup_cons,show (x==n)=false by simpa using hx];exact Qf4 h
   ·rw [Zg hc,List.lookup_cons,show (x==n)=false by simpa using hx];exact Qf4 h
theorem Q11 {N:List Str} {fp:List Fw} (I:Inv X aa σ H s) (hk:scope.kind=.function) (h:scOk X scope=true) (hf:∀ b∈fp,Qgp X aa H b) (ho:∀ b∈fp,∃ o,s.heap.get? b=some o∧∀ v,o.data≠.cell v):(Qac X scope N s H fp).Ok where
 mod:=I.ok.mod
 kind:=hk
 glob:=I.ok.glob
 blt:=I.ok.blt
 above:=Zk _
 inj:=fun x y c h1 h2=>Qfi _ _ _ (fun z c hz=>by
   rcases Qcm _ _ (scOk.cells I h) hz with q | q
   ·cases q
   ·obtain ⟨v,w⟩:=I.cell z c q
    exact Zbr w.lt) (fun y z c h1 h2=>by
   rcases Qcm _ _ (scOk.cells I h) h1 with q | q
   ·cases q
   ·rcases Qcm _ _ (scOk.cells I h) h2 with q' | q'
    ·cases q'
    ·exact I.ok.inj y z c q q') x y c h1 h2
 has:=fun x hx=>by
  have ck:(x,NameKind.cell)∈scope.names∨(x,NameKind.free)∈scope.names:=by
   rcases hx with hx | hx
   ·rcases Qdf hx with q | ⟨_,q⟩
    ·exact .inl (Z2 q)
    ·exact .inr (Z2 q)
   ·rcases Qdf hx with q | ⟨q,_⟩
    ·exact .inr (Z2 q)
    ·cases q
  rcases ck with q | q
  ·have e:scope.names.lookup x=some .cell:=(scOk.get h q).2
   exact Za9.mp (Za3 scope.names _ _ (.inl e))
  ·obtain ⟨c,hc⟩:=Qiq (env:=X.env) scope.names [] (.inl q)
   exact Za9.mp (Za3 scope.names _ _ (.inr (by rw [hc];rfl)))
 cab:=fun x c hx hc=>Zc7 (Qdz _ _ _ (of_decide_eq_true hx) hc)
 hd:=I.ok.hd
 frames:=I.ok.frames
 stk:=.inl rfl
 exf:=fun b hb=>by
  obtain ⟨o,e,d⟩:=ho b hb
  refine ⟨Zw (Zj e),fun x c hc z=>?_⟩
  rcases Qju I h hc with q | ⟨q,_⟩
  ·exact (hf b hb).2.2.2.2.1 x c q z
  ·rw [z] at q
   exact absurd (Zs (Zj e) (Zc7 q)) (Zas _)
 bs:=I.bs
 bsz:=Zao I.ok.bsz I.sz
 noex:=fun b o e hb=>by
  rcases (hf b hb).2.2.2.1 with q | q
  ·exact I.ok.noex b o e q
  ·exact absurd (Zs (Zj e) (Zao I.ok.bsz q)) (Zas _)
 exfs:=fun b hb hs=>by
  rcases Z9.mp (I.stkSub b hs) with q | q
  ·exact (hf b hb).2.1 q
  ·exact (hf b hb).2.2.1 q
 funs:=I.stack
 frf:=⟨I.stkFree,I.tab⟩
theorem Qqc {N:List Str} {js:List (Option Nat)} {fp:List Fw} (I:Inv X aa σ H s) (hk:scope.kind=.function) (h:scOk X scope=true) (hc:Qis X scope N js=true) (hf:∀ b∈fp,Qgp X aa H b) (ho:∀ b∈fp,∃ o,s.heap.get? b=some o∧∀ v,o.data≠.cell v) :
  Inv (Qac X scope N s H fp) [] (Qfq js σ) H { s with heap:=pushCells (s.heap.push { cls:=.type "dict",data:=.dict #[] }) scope.names }:=by
 have kp:∀ b o,s.heap.get? b=some o→(pushCells (s.heap.push { cls:=.type "dict",data:=.dict #[] }) scope.names).get? b=some o:=fun b o e=>Zcr _ _ _ _ (Zb _ e)
 have aP:N.length=js.length∧∀ p∈N.zip js,∀ j,p.2=some j→X.N[j]?=some p.1∧scope.names.lookup p.1=some .free∧(X.env.scope.names.lookup p.1=some .cell∨X.env.scope.names.lookup p.1=some .free):=by
  unfold Qis at hc
  rw [Zt] at hc
  refine ⟨by simpa using hc.1,fun p hp j e=>?_⟩
  have q:=Zah.mp hc.2 p hp
  rw [e] at q
  simpa using q
 refine ⟨Q11 I hk h hf ho,rfl,I.bare,Un.kept kp,?_,fun x c e=>?_,I.hok.fresh (Zk _),fun x c e=>?_,fun p hp=>absurd (show p∈([]:List (Fw×Obj)) from hp) (by simp),I.hok.kept kp,?_⟩
 ·refine ⟨fun _=>none,(Heap.Ns.new s.heap (.type "dict")).keeps (Zcr _ _),fun i x v h1 h2 h3=>?_⟩
  obtain ⟨o,ja,aB⟩:∃ o,js[i]?=some o∧(match o with | none=>none | some j=>(σ[j]?).join)=some v:=by
   unfold Qfq at h2
   rw [Zab] at h2
   cases e:js[i]? with
   | none=>rw [e] at h2;cases h2
   | some o=>rw [e] at h2;exact ⟨o,rfl,Zr h2⟩
  cases o with
  | none=>cases aB
  | some j =>
   have hz:(x,some j)∈N.zip js:=Z1 (i:=i) (by rw [List.getElem?_zip_eq_some];exact ⟨h1,ja⟩)
   obtain ⟨q1,q2,q3⟩:=aP.2 _ hz j rfl
   have hσ:σ[j]?=some (some v):=by
    have aB:(σ[j]?).join=some v:=aB
    cases e:σ[j]? with
    | none=>rw [e] at aB;cases aB
    | some w=>rw [e] at aB;exact congrArg some aB
   obtain ⟨m,hn,hl⟩:=I.loc
   obtain ⟨u,r,l⟩:=hl j x v q1 hσ (by rcases q3 with z | z;exact .inr (.inl z);exact .inr (.inr z))
   refine ⟨u,r,.inr ⟨Qf4 q2,?_⟩⟩
   have fin:∀ c,X.env.cells.lookup x=some c→s.heap.IsCell c (some u)→∃ c,(cellsFrom (s.heap.objs.size+1) scope.names (Qip X.env scope.names [])).lookup x=some c∧(pushCells (s.heap.push { cls:=.type "dict",data:=.dict #[] }) scope.names).IsCell c (some u):=fun c hc hv=>by
    obtain ⟨d,hd⟩:=Qiq (env:=X.env) scope.names [] (.inl (Z2 q2))
    obtain ⟨c',cT⟩:=Za9.mp (Za3 scope.names (s.heap.objs.size+1) (Qip X.env scope.names []) (.inr (by rw [hd];rfl)))
    refine ⟨c',cT,?_⟩
    rcases Qju I h cT with z | ⟨_,z⟩
    ·rw [hc] at z;cases z
     exact hv.keeps kp
    ·have:=scOk.one h z (Z2 q2)
     cases this
   rcases l with ⟨hk,_⟩ | ⟨_,c,hc,hv⟩
   ·have hk:X.env.scope.names.lookup x=some .local:=hk
    rcases q3 with z | z <;> (rw [z] at hk;cases hk)
   ·exact fin c hc hv
 ·have q:=Qdr (names:=[]) scope.names (s.heap.push { cls:=.type "dict",data:=.dict #[] }) (Qip X.env scope.names []) (fun y d hd=>by
   rcases Qcm _ _ (scOk.cells I h) hd with z | z
   ·cases z
   ·obtain ⟨v,w⟩:=I.cell y d z
    exact ⟨v,w.keeps fun b o e=>Zb _ e⟩)
  rw [Zaw] at q
  exact q x c e
 ·rcases Qju I h e with q | ⟨q,_⟩
  ·rcases I.freeC x c q with z | ⟨_,z⟩
   ·exact .inl z
   ·refine .inr ⟨?_,z⟩
    show decide ((x,NameKind.cell)∈scope.names)=false
    refine Zx fun hx=>?_
    have h1:=Qdz _ _ _ hx e
    obtain ⟨v,w⟩:=I.cell x c q
    exact absurd (Zs (Zbr w.lt) h1) (Zas _)
  ·exact .inl (I.hok.fresh (Zc7 q))
 ·show (Qfq js σ).length=N.length
  unfold Qfq
  rw [Zd,aP.1]
end
noncomputable def Qaba (J:It) (l:Fw) (σ:St) (H1:Hp) (g:TG) (tc:TT) (te:TE) (Q:VK):Prop:=∃ W:Nat→Nat→List V→St→Hp→Prop,
 (∃ m,W 0 m [] σ (upd H1 l (.lst [])))∧∀ i m ys σ2 H2,W i m ys σ2 H2 →
  (J.stop i H2∧Q (.ref l) H2) ∨
  (J.go i H2∧∀ x H3,J.yld i H2 x H3→g x σ2 H3 fun σ4 H4=>tc σ4 H4 fun b H5 =>
   if b=true then te σ4 H5 fun y H6=>H6 l=some (.lst ys)∧ys.length<sizeLine∧∃ m',m'<m∧W (i+1) m' (ys++[y]) σ4 (upd H6 l (.lst (ys++[y])))
   else ∃ m',m'<m∧W (i+1) m' ys σ4 H5)
noncomputable abbrev Qqd (wi:TI) (js:List (Option Nat)) (g:TG) (tc:TT) (te:TE):TE:=fun σ H Q=>wi σ H fun J H1=>∀ l,H1 l=none→Qaba J l (Qfq js σ) H1 g tc te Q
noncomputable def PTs (X:Cx) (a8:List Fr) (t:TT):Prop :=
 ∀ (aa:List (Fw×Obj)) (s:Fy) (σ:St) (H:Hp) (Q:Bool→Hp→Prop),Inv X aa σ H s→t σ H Q →
  wpAny (model X.prog X.w) X.A (forIn a8 true fun c r=>if r=true then do let ok ← isTrue c X.env (eval c X.env);pure (ForInStep.yield ok) else pure (ForInStep.yield r)) (TP X aa σ Q) X.xe s
abbrev tYes:TT:=fun _ H Q=>Q true H
theorem Q12 {X:Cx}:PTs X [] tYes:=fun aa s σ H Q I h=>wpAny_tests_nil ⟨H,I,h⟩
theorem Q13 {X:Cx} {c:Fr} {t:TT} (h:PT X c t):PTs X [c] t:=fun aa s σ H Q I q=>wpAny_tests_one (h aa s σ H Q I q)
theorem Qxq {X:Cx} {tg elt af:Fr} {a8:List Fr} {scope:Scope} {pos:Pos} {N:List Str} {js:List (Option Nat)} {wi:TI} {g:TG} {tc:TT} {te:TE} (aq:X.calm=true)
  (hi:PI X tg af wi) (hg:∀ s H fp,PG (Qac X scope N s H fp) tg g) (hc:∀ s H fp,PTs (Qac X scope N s H fp) a8 tc) (he:∀ s H fp,PE (Qac X scope N s H fp) elt te)
  (hk:scope.kind=.function:=by rfl) (h1:scOk X scope=true:=by rfl) (h2:Qis X scope N js=true:=by rfl)
  (hs:∀ x,foldedSetIterable af X.env x=pure x:=by intro _;rfl):PE X (.ListComp elt [⟨tg,af,a8,0⟩] scope pos) (Qqd wi js g tc te):=by
 intro aa s σ H Q I h
 rw [eval_ListComp]
 refine Zc9 (use:=none) rfl hs (Qlq (scOk.cells I h1)) hk (fun x hx hl=>by rw [(scOk.get h1 hx).2,hl]) ?_
 refine thn (hi aa s σ H _ I h) fun v s1 cW=>thn cW fun ff s2 gA=>?_
 obtain ⟨it,fp,tn,J,H2,e,I2,T,cm,f2,q⟩:=gA
 subst e
 refine Zac ?_
 have hl:H2 s2.heap.objs.size=none:=I2.hok.fresh (Zk _)
 obtain ⟨W,⟨m0,w0⟩,aO⟩:=q _ hl
 have I3:Inv X aa σ (upd H2 s2.heap.objs.size (.lst [])) { s2 with heap:=s2.heap.push { cls:=.type "list",data:=.seq ([]:List Fx).toArray } }:=I2.lnew (t':=s2.toks) (ys:=[]) .nil (Zb7 _)
 generalize cO:({ s2 with heap:=s2.heap.push { cls:=.type "list",data:=.seq ([]:List Fx).toArray } }:Fy)=s3 at I3
 generalize hH3:upd H2 s2.heap.objs.size (.lst [])=H3 at I3 w0
 generalize fe:s2.heap.objs.size=l at aO hH3 hl
 have dE:∀ b o,s2.heap.get? b=some o→s3.heap.get? b=some o:=fun b o e=>by rw [←cO];exact Zb _ e
 have fG:∀ b∈fp,∃ o,s3.heap.get? b=some o∧∀ v,o.data≠.cell v:=fun b hb=>by
  obtain ⟨o,e,d⟩:=T.obj _ _ cm b hb
  exact ⟨o,dE b o e,d⟩
 have f3:∀ b∈fp,Qgp X aa H3 b:=fun b hb=>by
  obtain ⟨o,e,d⟩:=T.obj _ _ cm b hb
  refine ⟨?_,(f2 b hb).2⟩
  rw [←hH3,Q7 (Zw (by rw [←fe];exact Zj e))]
  exact (f2 b hb).1
 refine Qkq ?_
 have I4:=Qqc (N:=N) (js:=js) I3 hk h1 h2 f3 fG
 have cz:tn 0 (pushCells (s3.heap.push { cls:=.type "dict",data:=.dict #[] }) scope.names):=T.keep _ _ _ cm fun b hb o e=>Zcr _ _ _ _ (Zb _ (dE b o e))
 have fj:∀ b∈fp,H3 b=none:=fun b hb=>(f3 b hb).1
 have cS:∀ {H':Hp},(∀ b∈fp,H' b=none)→∀ b∈fp,Qgp (Qac X scope N s3 H3 fp) [] H' b:=fun hn b hb=>by
  have ok:=I4.ok
  refine ⟨hn b hb,(ok.exf b hb).1,ok.exfs b hb,.inl hb,(ok.exf b hb).2,fun p hp=>absurd (show p∈([]:List (Fw×Obj)) from hp) (by simp)⟩
 -- the block's end
 have fin:∀ {σ':St} {H':Hp} {s':Fy},Inv (Qac X scope N s3 H3 fp) [] σ' H' s'→Q (.ref l) H'→compPost (model X.prog X.w) X.A X.xe none (EP X aa σ Q) (.ref l) s3.heap.objs.size (.ok .next) s':=fun {σ' H' s'} I' q'=>by
  obtain ⟨m,hn,_⟩:=id I'.loc
  refine ⟨m,hn,fun h' bG=>⟨.ref l,H',?_,rfl,q'⟩⟩
  have bx:H' s3.heap.objs.size=none:=I'.free
  refine I3.call' (s':={ s' with heap:=h' }) (ch:=fp) I'.os ⟨fun b o e n hb hx=>?_,fun b o e n hb hx=>?_,I'.base.free,fun b o e hx=>?_,I'.base.tups,I'.base.frzs,I'.base.tbls⟩ (fun b u e=>?_) I'.bare (fun b hb=>⟨(f3 b hb).2.2.2.1,(f3 b hb).2.1,(f3 b hb).2.2.2.2.1,(f3 b hb).2.2.2.2.2⟩)
  ·exact (bG.2 b (Zw (Zj e))).trans (I'.base.keep b o e n hb hx)
  ·obtain ⟨sl,z⟩:=I'.base.slot b o e n hb hx
   exact ⟨sl,(bG.2 b (Zw (Zj e))).trans z⟩
  ·obtain ⟨o',z⟩:=I'.base.there b o e hx
   exact ⟨o',(bG.2 b (Zw (Zj e))).trans z⟩
  ·refine (I'.hok b u e).stay (fun c w' hc z=>(bG.2 c ?_).trans z) (fun _ z=>z) fun _ _ z=>z
   rintro rfl
   rcases hc with rfl | hc
   ·rw [bx] at e;cases e
   ·rw [bx] at hc;cases hc
 have loop:codeAny (model X.prog X.w) X.A (.compLoop (.ListComp elt [⟨tg,af,a8,0⟩] scope pos) 0 (.ref it) (.ref l) (Qac X scope N s3 H3 fp).env) (compPost (model X.prog X.w) X.A X.xe none (EP X aa σ Q) (.ref l) s3.heap.objs.size)
   { s3 with heap:=pushCells (s3.heap.push { cls:=.type "dict",data:=.dict #[] }) scope.names }:=by
  refine Qir (fun n s'=>∃ i ys σ' H',Inv (Qac X scope N s3 H3 fp) [] σ' H' s'∧tn i s'.heap∧(∀ b∈fp,H' b=none)∧W i n ys σ' H') ?_ m0 ⟨0,[],Qfq js σ,H3,I4,cz,fj,w0⟩
  rintro n s5 ⟨i,ys,σ5,H5,I5,cq,db,w5⟩
  rcases aO i n ys σ5 H5 w5 with ⟨stop,qn⟩ | ⟨go,step⟩
  ·refine thn (T.done (Qac X scope N s3 H3 fp) rfl rfl rfl aq i [] s5 σ5 H5 _ I5 (cS db) cq stop) fun r s6 ⟨hr,I6⟩=>?_
   subst hr
   exact fin I6 qn
  ·refine thn (T.item (Qac X scope N s3 H3 fp) rfl rfl rfl aq i [] s5 σ5 H5 _ I5 (cS db) cq go) fun r s6 ⟨u,hr,h6⟩=>?_
   subst hr
   refine thn h6 fun _ s7 ⟨x,H7,I7,r7,y7,st7,fr7⟩=>?_
   have I7':=I7.pinned (cS fr7) (T.obj _ _ st7)
   have again:∀ {σ8:St} {H8:Hp} {s8:Fy} {df:List V},Inv (Qac X scope N s3 H3 fp) ([]++Qjo fp s7.heap) σ8 H8 s8→(∃ m',m'<n∧W (i+1) m' df σ8 H8) →
     ∃ m,m<n∧∃ i ys σ' H',Inv (Qac X scope N s3 H3 fp) [] σ' H' s8∧tn i s8.heap∧(∀ b∈fp,H' b=none)∧W i m ys σ' H':=fun {σ8 H8 s8 df} I8 ⟨m',hm,w8⟩=>by
    refine ⟨m',hm,i+1,df,σ8,H8,I8.unpinned,T.keep _ _ _ st7 fun b hb o e=>(I8.pin (b,o) (Zz _ (Zz _ (Qc5 hb e)))).1,fun b hb=>?_,w8⟩
    obtain ⟨o,e,d⟩:=T.obj _ _ st7 b hb
    exact (I8.pin (b,o) (Zz _ (Zz _ (Qc5 hb e)))).2.1
   refine thn (hg s3 H3 fp _ s7 σ5 H7 x u _ I7' r7 (step x H7 y7)) fun _ s8 ⟨σ8,H8,I8,q8⟩=>?_
   refine thn (hc s3 H3 fp _ s8 σ8 H8 _ I8 q8) fun ok s9 ⟨H9,I9,q9⟩=>?_
   cases ok with
   | false =>
    rw [Zg Zm] at q9 ⊢
    exact again I9 q9
   | true =>
    rw [Zf rfl] at q9 ⊢
    refine thn (he s3 H3 fp _ s9 σ8 H9 _ I9 q9) fun y gC ⟨vy,H10,I10,eP,a10,z10,q10⟩=>?_
    refine thn (Qjs (X:=Qac X scope N s3 H3 fp) _ gC σ8 H10 (.ref l) [vy] (.ref l) [y] (fun _ H'=>∃ m',m'<n∧W (i+1) m' (ys++[vy]) σ8 H') I10 rfl (.cons eP .nil) ⟨l,ys,vy,rfl,rfl,a10,z10,q10⟩) fun _ jl ⟨_,H11,I11,_,q11⟩=>?_
    exact again I11 q11
 first
  | exact Zb4 loop (T.self _ 0 _ _ _ cz loop)
  | (rw [← cO] at loop cz
     exact Zb4 loop (T.self _ 0 _ _ _ cz loop))
section
variable {X:Cx}
theorem Qqe:CallR X (.builtin "isinstance") (fun xs H Q=>∃ x T t b,xs=[x,.ty T]∧TyOf X.K H x t∧PySem.W.kitOne X.K t (.type T)=some b∧Q (.bl b) H):=by
 intro aa s σ H xs us Q I r h
 obtain ⟨x,T,t,b,rfl,ty,e,q⟩:=h
 obtain ⟨u,w',rfl,rx,ry⟩:=Qp8 r
 obtain rfl:w'=Value.type T:=ry
 exact Qvn I rx ty e fun tk=>⟨.bl b,H,I.tok _,rfl,q⟩
def Qqf:V→Bool
 | .bl b=>b
 | .int i=>i != 0
 | _=>false
def Qqg:V→Bool
 | .bl _=>true
 | .int _=>true
 | .non=>true
 | _=>false
theorem Qxr {A:Fv} {s:Fy} {x:V} {v:Fx} {Q:Bool→Fy→Prop} {E:Fx→Fy→Prop} (r:RelV x v) (f:Qqg x=true) (h:Q (Qqf x) s):wpAny (model X.prog X.w) A (truthy v) Q E s:=by
 cases x with
 | bl b=>cases r;exact Zbq h
 | int i=>obtain ⟨t,rfl⟩:=r;exact truthy_int h
 | non=>cases r;exact truthy_none h
 | _=>exact absurd (show false=true from f) Zm
theorem Qr7 {α:Type} (f:α→Bool) (d:α) (xs:List α):((List.range xs.length).all fun i=>f (xs.getD i d))=xs.all f:=by
 rw [Zcd,Zah,Zah]
 constructor
 ·intro h x hx
  obtain ⟨i,hi,rfl⟩:=List.getElem_of_mem hx
  have:=h i (Zb9.mpr hi)
  rwa [Zh,Zc hi,Zbx] at this
 ·intro h i hi
  have hi:=Zb9.mp hi
  rw [Zh,Zc hi,Zbx]
  exact h _ (Zco hi)
theorem Qxs (hc:X.calm=true):CallR X (.builtin "all") (fun xs H Q=>∃ p ys,xs=[.ref p]∧SqL X.K H p ys∧ys.all Qqg=true∧Q (.bl (ys.all Qqf)) H):=by
 intro aa s σ H xs us Q I r h
 obtain ⟨p,ys,rfl,hq,hf,q⟩:=h
 obtain ⟨u,rfl,rx⟩:=Qkp r
 cases rx
 obtain ⟨ac,r',pl,hz⟩:=I.list hq
 have aN:p<s.heap.objs.size:=by obtain ⟨_,e,_⟩:=pl.isList;exact Zj e
 have aj:=r'.length
 refine call_all_walk (Zbs pl.isList ?_)
 refine ⟨s.heap.objs.size,[s.heap.objs.size,p],[s.heap.objs.size],ac.toArray.size,_,_,fun i=>Qqf (ys.getD i .non),rfl,Walks.list (A:=X.A.in1) (I.ok.hd hc) _ p (Zw aN) ac.toArray,
  ⟨⟨_,Zn _ rfl,rfl,rfl⟩,pl.isList.push _⟩,fun i v s' Q' E' hP hQ=>?_,fun h' tk hk=>?_⟩
 ·have hi:ac[i]?=some v:=by simpa using hP
  have hy:∃ y,ys[i]?=some y:=by
   have:=(List.getElem?_eq_some_iff.mp hi).1
   exact ⟨ys[i],Zc (by omega)⟩
  obtain ⟨y,hy⟩:=hy
  obtain ⟨v',i8,rv⟩:=r'.get hy
  rw [hi] at i8;cases i8
  refine Qxr (X:=X) rv (Zah.mp hf y (Z1 hy)) ?_
  have hQ:Q' (Qqf (ys.getD i V.non)) s':=hQ
  rw [Zh,hy,Zbx] at hQ
  exact hQ
 ·rw [Zu,←aj,Qr7]
  exact ⟨.bl _,H,I.kept fun b x e=>hk b x (fun hm=>by rw [Zv.mp hm] at e;exact Zas _ (Zj e)) (Zb _ e),rfl,q⟩
theorem Qvq (hc:X.calm=true):CallR X (.builtin "max") (fun xs H Q=>∃ (p:Fw) (ns:List Int),xs=[.ref p]∧SqL X.K H p (ns.map V.int)∧ns≠[]∧∀ M,M∈ns→(∀ a∈ns,a≤M)→Q (.int M) H):=by
 intro aa s σ H xs us Q I r h
 obtain ⟨p,ns,rfl,hq,aH,q⟩:=h
 obtain ⟨u,rfl,rx⟩:=Qkp r
 cases rx
 obtain ⟨ac,r',pl,hz⟩:=I.list hq
 have hi:IntsAre ac ns:=Qr4 r'
 obtain ⟨xs,e⟩:=hi.allInts.items
 have bQ:ns=xs.toList.map (·.1):=by rw [←hi.numsOf,←nums_intItems,←e]
 have aU:0<xs.size:=by
  have h3:0<ns.length:=List.length_pos_iff.mpr aH
  rw [bQ,Zd,Zbf] at h3;exact h3
 have hl:=pl.isList
 rw [e] at hl
 refine max_intList (I.ok.hd hc) hl aU fun v h' tk hv hk=>?_
 obtain ⟨t,rfl⟩:=intItems_at hv
 obtain ⟨h1,h2⟩:=argBest_gt (numAt xs) (xs.size-1)
 refine ⟨.int _,H,I.kept hk,⟨t,rfl⟩,q _ ?_ fun a ha=>?_⟩
 ·rw [bQ,numAt_eq];exact getD_mem (by rw [Zd,Zbf];omega)
 ·rw [bQ] at ha
  obtain ⟨j,hj,rfl⟩:=mem_getD ha
  rw [Zd,Zbf] at hj
  rw [←numAt_eq];exact h2 j (by omega)
end
open PySem.AutoSeq1 (wpAny_loadPart')
theorem Same.upd {H:Hp} {a:Fw} {o:HO} (h:H a=none):Same H (upd H a o):=fun b u e=>by rw [Q7 (Qbk e h)];exact e
theorem Qk6 (r:Fw) (a b x:Int) (t u v z:Tok) :
  Meets (Builtin.«range.__contains__» ⟨[.ref r,.int x z],[]⟩) (fun _ R s=>s.heap.get? r=some { cls:=.type "range",data:=.fields #[.int a t,.int b u,.int 1 v] }∧R (.ok (.ret (.bool (Builtin.Range.rangePlace? a b 1 x).isSome))) s) :=
 .of_wp fun prog w A R s h=>by
  obtain ⟨hp,g,d,tk,os⟩:=s;obtain ⟨hl,h⟩:=h
  wp_walk using wpAny_loadPart' hl
  exact ⟨_,rfl,h⟩
theorem Qr8 (l:Fw) (items:Array Fx) (n:Nat) (x:Int) (u:Tok) (dd:Option Fw) (sl:Array (Option Fx)) (h0:¬ (x < -(2^63)||x≥2^63)=true) (h1:¬ (items.isEmpty||x==1)=true) (h2:¬ (x≤0||items.isEmpty)=true) (h3:¬ items.size*x>(2^63-1) / 8) (h4:¬ Builtin.Tuple.tupleTooMany (items.size*x)=true)
  (hz:(List.foldl (fun x1 x2=>x1++x2) #[] (List.replicate x.toNat items)).size≤sizeLine) :
  Meets (Builtin.«tuple.__mul__» ⟨[.ref l,.int x u],[]⟩) (fun _ R s=>s.heap.get? l=some { cls:=.type "tuple",dict:=dd,data:=.seq items n,slots:=sl }∧R (.ok (.ret (Value.ref s.heap.objs.size))) { s with heap:=s.heap.push { cls:=Value.type "tuple",data:=Data.seq (List.foldl (fun x1 x2=>x1++x2) #[] (List.replicate x.toNat items)) },toks:=s.toks }) :=
 .of_wp fun prog w A R s h=>by
  obtain ⟨hp,g,d,tk,os⟩:=s;obtain ⟨hl,h⟩:=h;have f1:=AutoSeq1.idx_int
  wp_walk using wpAny_loadPart' hl
  rw [Zg h0]
  wp_walk using wpAny_loadPart' hl
  rw [Zg h3]
  wp_walk using wpAny_loadPart' hl
  exact ⟨_,rfl,h⟩
theorem Qqh (l:Fw) (items:Array Fx) (n:Nat) (x:Int) (u:Tok) (dd:Option Fw) (sl:Array (Option Fx)) (h0:¬ (x < -(2^63)||x≥2^63)=true) (h1:(items.isEmpty||x==1)=true) :
  Meets (Builtin.«tuple.__mul__» ⟨[.ref l,.int x u],[]⟩) (fun _ R s=>s.heap.get? l=some { cls:=.type "tuple",dict:=dd,data:=.seq items n,slots:=sl }∧R (.ok (.ret (Value.ref l))) s) :=
 .of_wp fun prog w A R s h=>by
  obtain ⟨hp,g,d,tk,os⟩:=s;obtain ⟨hl,h⟩:=h;have f1:=AutoSeq1.idx_int
  wp_walk using wpAny_loadPart' hl
  rw [Zg h0]
  wp_walk using wpAny_loadPart' hl
  exact ⟨_,rfl,h⟩
theorem Qlr (a:Int) (t:Tok) (l:Fw) (items:Array Fx) (n:Nat) (dd:Option Fw) (sl:Array (Option Fx)) :
  Meets (Builtin.«int.__rmul__» ⟨[.int a t,.ref l],[]⟩) (fun _ R s=>s.heap.get? l=some { cls:=.type "tuple",dict:=dd,data:=.seq items n,slots:=sl }∧R (.ok (.ret Value.notImplemented)) s) :=
 .of_wp fun prog w A R s h=>by obtain ⟨hp,g,d,tk,os⟩:=s;obtain ⟨hl,h⟩:=h;wp_walk;exact ⟨_,rfl,h⟩
theorem Qjv:fillsNumberSlot (.type "tuple") "mul" = pure false :=
 PySem.fillsNumberSlot_seq (id := "tuple.__mul__") (r:=some (.builtin "tuple.__rmul__")) F.slot_tuple_mul.lookup (by decide +kernel) F.slot_tuple_rmul.lookup (by decide +kernel)
theorem Qox:seqRepeat? (.type "tuple")=pure (some (.builtin "tuple.__mul__")):=by
 unfold seqRepeat?
 rw [PySem.seqSlot_of (T := "tuple") (name := "__mul__") (id := "tuple.__mul__") F.slot_tuple_mul.lookup (by decide +kernel),PySem.seqSlot_of (T := "tuple") (name := "__rmul__") (id := "tuple.__rmul__") F.slot_tuple_rmul.lookup (by decide +kernel)]
 rfl
section
variable {X:Cx}
theorem Qoy:CallR X (.type "range") (fun xs H Q=>∃ i j:Int,xs=[.int i,.int j]∧∀ p,H p=none→Q (.ref p) (upd H p (.rng i j))):=by
 intro aa s σ H xs us Q I r h
 obtain ⟨i,j,rfl,q⟩:=h
 obtain ⟨u,w',rfl,⟨t,rfl⟩,⟨t',rfl⟩⟩:=Qp8 r
 refine call_range_2 ⟨.ref s.heap.objs.size,_,I.laid (o:=.rng i j) (fun b o e=>Zb _ e) (Zk _) ?_,rfl,q _ I.fresh⟩
 exact ⟨_,_,_,Zn _ rfl⟩
theorem Qvr (a b x:Int):(Builtin.Range.rangePlace? a b 1 x).isSome=decide (a≤x∧x<b):=by
 unfold Builtin.Range.rangePlace?
 simp only [show (1:Int)>0 by decide,Zl,Int.emod_one,beq_self_eq_true,Zy]
 by_cases h:a≤x∧x<b
 ·rw [Zbh h,Zf (by simp [h.1,h.2])];rfl
 ·rw [Zx h,Zg (by simpa using h)];rfl
noncomputable def rInR (neg:Bool):R2:=fun x y H Q=>∃ i p a b,x=.int i∧y=.ref p∧H p=some (.rng a b)∧Q (.bl (if neg then !decide (a≤i∧i<b) else decide (a≤i∧i<b))) H
theorem Qvs:OpR X (compareOp .NotIn) (rInR true):=by
 intro aa s σ H x y v u Q I rx ry h
 obtain ⟨i,p,a,b,rfl,rfl,hp,q⟩:=h
 obtain ⟨t,rfl⟩:=rx
 cases ry
 obtain ⟨t1,t2,t3,e⟩:=I.hok p _ hp
 refine PySem.SeqRoads2.notIn_meets ⟨_,e,rfl⟩ F.slot_range_contains F.entry_range_contains (F.args_range_contains_2 _ _) (Qk6 p a b i t1 t2 t3 t) ⟨e,_,rfl,?_⟩
 rw [Qvr]
 exact ⟨.bl _,H,I,rfl,q⟩
noncomputable def Q4r (K:Fz):R2:=fun x y H Q=>∃ a b xs ys,x=.ref a∧y=.ref b∧H a=some (.tup xs)∧H b=some (.tup ys)∧xs.length+ys.length≤sizeLine∧∀ p H',Same H H'→H' p=some (.tup (xs++ys))→(p=a∨p=b∨H p=none)→Q (.ref p) H'
theorem Q14:OpR X (binaryOp .Add) (Q4r X.K):=by
 intro aa s σ H x y v u Q I rx ry h
 obtain ⟨a,b,xs,ys,rfl,rfl,ha,hb,hz,q⟩:=h
 by_cases hx:xs=[]
 ·cases rx
  cases ry
  subst hx
  obtain ⟨ac,r1,⟨⟨cls,dd,data,sl⟩,e1,hc,n,hd⟩,_⟩:=I.tuple (SqT.of ha)
  obtain ⟨ap,r2,⟨⟨cR,aW,data2,aV⟩,e2,bJ,n2,bH⟩,_⟩:=I.tuple (SqT.of hb)
  simp only at hc hd bJ bH
  subst hc hd bJ bH
  cases r1
  exact Zea ⟨_,e1,rfl⟩ ⟨_,e2,rfl⟩ Zdb Zd5 Zcj Zce (Zca _ _)
   (tuple_addW0 a b _ _ n n2 dd aW sl aV rfl) ⟨e1,e2,⟨.ref b,H,I,rfl,q b H (Same.refl H) hb (.inr (.inl rfl))⟩⟩
 ·refine Q1s aa s σ H _ _ v u Q I rx ry ⟨a,b,xs,ys,rfl,rfl,SqT.of ha,SqT.of hb,hx,hz,fun e=>q a H (Same.refl H) (by rw [ha,e,Za6]) (.inl rfl),fun _ p hp=>q p _ (Same.upd hp) Qn (.inr (.inr hp))⟩
noncomputable def rSlS (K:Fz):V→Option Int→Option Int→Hp→VK→Prop:=fun x lo hi H Q=>∃ a xs,x=.ref a∧H a=some (.tup xs)∧∀ p H',Same H H'→H' p=some (.tup (Qgt xs lo hi))→(p=a∨H p=none)→Q (.ref p) H'
theorem Q15:SlR X (rSlS X.K):=by
 intro aa s σ H x v vl vu lo hi sl Q I rx hs pl pu h
 obtain ⟨a,xs,rfl,hx,q⟩:=h
 by_cases hw:HT.sIx xs.length 0 lo=0∧HT.sIx xs.length xs.length hi=xs.length
 ·cases rx
  obtain ⟨ac,r,ht,hz⟩:=I.tuple (SqT.of (K:=X.K) hx)
  have aj:ac.toArray.size=xs.length:=by rw [Zu];exact r.length.symm
  refine ⟨"tuple",_,Z0.lookup,ht.typeIs,?_⟩
  have fU:Qgt xs lo hi=xs:=by
   unfold Qgt
   rw [hw.1,hw.2,List.drop_zero,Nat.sub_zero,List.take_length]
  obtain ⟨os,bA,dm,bY⟩:=id hs
  have dQ:s.TypeIs (.ref sl) "slice" := ⟨os,bA,dm⟩
  unfold getItem
  try with_reducible refine Zbt ?_
  first | refine Za (Zi ?_) | skip
  refine Za (Zc6 ht.typeIs (by decide) ?_)
  refine Za (Zai (name:=Str.ofString "__getitem__") ht.typeIs Z0
   (Za7 Z0 ht.typeIs Zcs ?_ (Zc0 _ _)))
  show wpAny _ _ (Builtin.Tuple.tupleItemsOf (.ref a) >>= _) _ _ s
  refine Za (Zd6 ht ?_)
  refine Za (Zdk dQ ?_)
  rw [Zf (by decide)]
  refine Za (HT.sliceApplied_gen hs pl pu ?_)
  rw [aj,hw.1,hw.2]
  show wpAny _ _ (if ((((0:Nat):Int)==0&&(1:Int)==1&&(xs.length-0)==xs.length)=true) then _ else _) _ _ s
  rw [Zf (by simp)]
  have fin:EP X aa σ Q (.ref a) s:=⟨.ref a,H,I,rfl,q a H (Same.refl H) (by rw [fU];exact hx) (.inl rfl)⟩
  refine Za (Za (Zdk ht.typeIs (Zi ?_)))
  rw [Zf (by decide)]
  exact Za (Zdg (Zi ⟨_,rfl,Zi fin⟩))
 ·exact Q6v aa s σ H _ v vl vu lo hi sl Q I rx hs pl pu ⟨a,xs,rfl,SqT.of hx,hw,fun p hp=>q p _ (Same.upd hp) Qn (.inr hp)⟩
end
open PySem.AutoSeq1 (wpAny_loadPart')
section
variable {X:Cx}
noncomputable def Q4s:R2:=fun x y H Q=>∃ a k xs,x=.ref a∧y=.int k∧H a=some (.tup xs)∧xs≠[]∧1≤k∧k<2^31∧xs.length*k.toNat≤sizeLine∧∀ p H',Same H H'→H' p=some (.tup (List.replicate k.toNat xs).flatten)→(p=a∨H p=none)→Q (.ref p) H'
theorem Q16:OpR X (binaryOp .Mult) Q4s:=by
 intro aa s σ H x y v u Q I rx ry h
 obtain ⟨a,k,xs,rfl,rfl,hH,aH,h1,h2,hz,q⟩:=h
 cases rx
 obtain ⟨t,rfl⟩:=ry
 obtain ⟨ac,r,⟨⟨cls,dd,data,sl⟩,e,hc,n,hd⟩,_⟩:=I.tuple (SqT.of (K:=X.K) hH)
 simp only at hc hd
 subst hc hd
 have hl:=r.length
 have jc:ac≠[]:=fun z=>aH (r.nil_iff.mp z)
 have ir:ac.toArray.isEmpty=false:=by
  cases ac with
  | nil=>exact absurd rfl jc
  | cons _ _=>rfl
 have h0:¬ (decide (k < -(2^63))||decide (k≥2^63))=true:=by
  simp only [Zb5,Zav]
  omega
 refine Zc5 (T := "tuple") (U := "int") (by decide) ⟨_,e,rfl⟩ (fun s'=>Zdh s' k t) Qjv F.fills_int_mul F.slot_int_rmul Qox F.slot_int_index.lookup
  (Zbd F.slot_int_rmul (Zdh s k t) F.entry_int_rmul (F.args_int_rmul_2 _ _) (Qlr k t a ac.toArray n dd sl) ⟨e,rfl,⟨_,e,rfl⟩,?_⟩)
 by_cases hk:k=1
 ·subst hk
  refine Zbd F.slot_tuple_mul ⟨_,e,rfl⟩ F.entry_tuple_mul (F.args_tuple_mul_2 _ _) (Qqh a ac.toArray n 1 t dd sl h0 (by simp)) ⟨e,?_⟩
  exact ⟨.ref a,H,I,rfl,q a H (Same.refl H) (by rw [hH];simp) (.inl rfl)⟩
 ·have aj:ac.toArray.size*k.toNat≤sizeLine:=by rw [Zu,←hl];exact hz
  have iD:(ac.toArray.size:Int)*k=((ac.toArray.size*k.toNat:Nat):Int):=by
   rw [Int.natCast_mul,Int.toNat_of_nonneg (by omega)]
  have hs:sizeLine=16777216:=Zbo
  have cx:List.foldl (fun x1 x2=>x1++x2) #[] (List.replicate k.toNat ac.toArray)=(List.replicate k.toNat ac).flatten.toArray:=by
   have:=Qjr ac k.toNat []
   rw [List.nil_append] at this
   exact this
  refine Zbd F.slot_tuple_mul ⟨_,e,rfl⟩ F.entry_tuple_mul (F.args_tuple_mul_2 _ _) (Qr8 a ac.toArray n k t dd sl h0 (by rw [ir];simpa using hk) (by rw [ir];simp;omega)
   (by rw [iD];omega) (by rw [iD];unfold Builtin.Tuple.tupleTooMany;rw [Zav];omega) (by rw [cx,Zu,Qio,←hl,Zbz];exact hz)) ⟨e,?_⟩
  rw [cx]
  have I2:Inv X aa σ (upd H s.heap.objs.size (.tup (List.replicate k.toNat xs).flatten)) { s with heap:=s.heap.push { cls:=.type "tuple",data:=.seq (List.replicate k.toNat ac).flatten.toArray },toks:=s.toks } :=
   I.laid (fun b o e=>Zb _ e) (Zk _) ⟨by rw [Qio,Zbz];exact hz,_,r.rep k.toNat,IsTupD.new _ _⟩
  exact ⟨.ref _,_,I2,rfl,q _ _ (Same.upd I.fresh) Qn (.inr I.fresh)⟩
theorem Qqi (n:Nat):Builtin.Slice.slicePlaces ((n:Int)-1) (-1) (-1)=n:=by
 unfold Builtin.Slice.slicePlaces
 rw [Zg (by decide)]
 by_cases h:(n:Int)-1 > -1
 ·rw [Zf h]
  simp only [Int.neg_neg,Int.ediv_one]
  omega
 ·rw [Zg h]
  omega
theorem Qhx {α β:Type} {f:α→Option β} {g:α→β}:∀ (l:List α),(∀ m∈l,f m=some (g m))→l.filterMap f=l.map g
 | [],_=>rfl
 | m::r,h=>by
  rw [List.filterMap_cons,h m Zaj,Z6,Qhx r fun z hz=>h z (Z5 _ hz)]
theorem Qit {prog:Fu} {w:Ft} {A:Fv} {E:Fx→Fy→Prop} {s:Fy} {sl:Fw} {t:Tok} {n:Nat} {Q:Int×Int×Nat→Fy→Prop} (hs:s.heap.IsSliceOf sl .none .none (.int (-1) t))
  (h:Q ((n:Int)-1,-1,n) s):wpAny (model prog w) A (Builtin.Slice.sliceApplied (.ref sl) (pure (n:Int))) Q E s:=by
 obtain ⟨os,bA,dm,bY⟩:=id hs
 unfold Builtin.Slice.sliceApplied Builtin.Slice.sliceFields
 refine Za (Za (Zaa bA bY (x:=.none) rfl (Za (Zaa bA bY (x:=.none) rfl (Za (Zaa bA bY (x:=.int (-1) t) rfl (Zi ?_)))))))
 refine Za (HT.slicePart_ (.int (-1) t) ?_)
 show wpAny _ _ (if ((-1:Int)==0)=true then _ else _) _ _ s
 rw [Zg (by decide)]
 refine Za (HT.slicePart_ .none (Za (HT.slicePart_ .none (Za (Zi ?_)))))
 show wpAny _ _ (pure (((n:Int)-1),(-1:Int),Builtin.Slice.slicePlaces ((n:Int)-1) (-1) (-1))) _ _ s
 rw [Qqi]
 exact Zi h
theorem Qvt (xs:List Fx):((List.range xs.length).filterMap fun (m:Nat)=>xs.toArray[(((xs.length:Int)-1)+(m:Int)*(-1)).toNat]?).toArray=xs.reverse.toArray:=by
 congr 1
 apply List.ext_getElem?
 intro i
 have e:(List.range xs.length).filterMap (fun (m:Nat)=>xs.toArray[(((xs.length:Int)-1)+(m:Int)*(-1)).toNat]?)=(List.range xs.length).map (fun m=>xs.getD (xs.length-1-m) .none):=by
  apply Qhx
  intro m hm
  have hm:=Zb9.mp hm
  have q:(((xs.length:Int)-1)+(m:Int)*(-1)).toNat=xs.length-1-m:=by omega
  rw [q]
  simp only [List.getElem?_toArray,Function.comp]
  rw [Zh,Zc (by omega)]
  rfl
 rw [e]
 by_cases hi:i<xs.length
 ·rw [Zab,List.getElem?_range hi,List.getElem?_reverse hi]
  simp only [Option.map_some]
  rw [Zh,Zc (by omega)]
  rfl
 ·rw [Zbg (by simp;omega),Zbg (by simp;omega)]
noncomputable def RevT (x:V) (H2:Hp) (Q:VK):Prop:=∃ a xs,x=.ref a∧H2 a=some (.tup xs)∧∀ p H',Same H2 H'→H' p=some (.tup xs.reverse)→Q (.ref p) H'
noncomputable abbrev tRev (te ts:TE):TE:=fun σ H Q=>te σ H fun x H1=>ts σ H1 fun y H2=>y=.int (-1)∧RevT x H2 Q
theorem Q65 {e st:Fr} {te ts:TE} {pos p2:Pos} (he:PE X e te) (bn:PE X st ts):PE X (.Subscript e (.Slice none none (some st) p2) pos) (tRev te ts):=by
 intro aa s σ H Q I h
 refine Subscript_ (thn (he aa s σ H _ I h) fun v s1 ⟨x,H1,I1,r1,q1⟩=>?_)
 refine wpAny_Slice ?_
 rw [Zd7]
 refine Zi (Zi ?_)
 rw [evalPart_some]
 refine thn (bn aa s1 σ H1 _ I1 q1) fun vs s3 ⟨y,H3,I3,r3,q3⟩=>?_
 obtain ⟨rfl,a,xs,rfl,hx,q⟩:=q3
 obtain ⟨t,rfl⟩:=r3
 cases r1
 have I4:Inv X aa σ H3 { s3 with heap:=s3.heap.push { cls:=.type "slice",data:=.fields #[.none,.none,.int (-1) t] } }:=I3.kept (t':=s3.toks) fun b ob q=>Zb _ q
 generalize hs4:({ s3 with heap:=s3.heap.push { cls:=.type "slice",data:=.fields #[.none,.none,.int (-1) t] } }:Fy)=s4 at I4
 have hs:s4.heap.IsSliceOf s3.heap.objs.size .none .none (.int (-1) t):=by rw [←hs4];exact Heap.IsSliceOf.new ..
 obtain ⟨ac,r,ht,hz⟩:=I4.tuple (SqT.of (K:=X.K) hx)
 have aj:ac.length=xs.length:=r.length.symm
 have hg:wpAny (model X.prog X.w) X.A (getItem (.ref a) (.ref s3.heap.objs.size)) (EP X aa σ Q) X.xe s4:=by
  obtain ⟨os,bA,dm,bY⟩:=id hs
  have dQ:s4.TypeIs (.ref s3.heap.objs.size) "slice" := ⟨os,bA,dm⟩
  unfold getItem
  try with_reducible refine Zbt ?_
  first | refine Za (Zi ?_) | skip
  refine Za (Zc6 ht.typeIs (by decide) ?_)
  refine Za (Zai (name:=Str.ofString "__getitem__") ht.typeIs Z0
   (Za7 Z0 ht.typeIs Zcs ?_ (Zc0 _ _)))
  show wpAny _ _ (Builtin.Tuple.tupleItemsOf (.ref a) >>= _) _ _ s4
  refine Za (Zd6 ht ?_)
  refine Za (Zdk dQ ?_)
  rw [Zf (by decide)]
  rw [show ((ac.toArray.size:Nat):Int)=(ac.length:Int) by rw [Zu]]
  refine Za (Qit hs ?_)
  have dH:¬ ((((ac.length:Int)-1)==0&&(-1:Int)==1&&ac.length==ac.toArray.size)=true):=by simp
  show wpAny _ _ (if ((((ac.length:Int)-1)==0&&(-1:Int)==1&&ac.length==ac.toArray.size)=true) then _ else _) _ _ s4
  rw [Zg dH,Qvt]
  have fin:EP X aa σ Q (.ref s4.heap.objs.size) { s4 with heap:=s4.heap.push { cls:=.type "tuple",data:=.seq ac.reverse.toArray } }:=by
   refine ⟨.ref s4.heap.objs.size,_,I4.laid (t':=s4.toks) (o:=.tup xs.reverse) (fun b ob q=>Zb _ q) (Zk _) ?_,rfl,q _ _ (Same.upd I4.fresh) Qn⟩
   exact ⟨by rw [List.length_reverse];exact hz,_,r.reverse,IsTupD.new _ _⟩
  have a9:sizeOk (.seq ac.reverse.toArray):=by
   show ac.reverse.toArray.size≤sizeLine
   rw [Zu,List.length_reverse,aj]
   exact hz
  first
   | exact Za (m:=Builtin.Tuple.tupleExact _) (Zac (Zi ⟨_,rfl,Zi fin⟩) a9)
   | exact Za (m:=Builtin.Tuple.tupleExact _) (Zac (Za (Zi (Zi ⟨_,rfl,Zi fin⟩))) a9)
   | exact Za (Za (m:=Builtin.Tuple.tupleExact _) (Zac (Zi (Zi ⟨_,rfl,Zi fin⟩)) a9))
   | exact Za (Za (m:=Builtin.Tuple.tupleExact _) (Zac (Zi ⟨_,rfl,Zi fin⟩) a9))
 rw [←hs4] at hg ht ⊢
 exact tail_any (ops:=[.ref a,.ref s3.heap.objs.size]) ht.typeIs Z0.lookup hg (by with_unfolding_all rfl)
theorem Qvu {j:Int} (h0:0<j) (h:j<2^64):j.natAbs.log2<9000:=by
 have h1:j.natAbs≠0:=by omega
 have h2:j.natAbs.log2<64:=(Nat.log2_lt h1).mpr (by omega)
 omega
def CDv (i j:Int):Prop:=0<j∧j<2^64
theorem Qxt:CallR X (.builtin "divmod") (fun xs H Q=>∃ i j,xs=[.int i,.int j]∧CDv i j∧∀ p,H p=none→Q (.ref p) (upd H p (.tup [.int (i / j),.int (i%j)]))):=by
 intro aa s σ H xs us Q I r h
 obtain ⟨i,j,rfl,⟨h1,h2⟩,q⟩:=h
 obtain ⟨u,w',rfl,⟨t,rfl⟩,⟨t',rfl⟩⟩:=Qp8 r
 refine divmod_int (by omega) ?_ (.inl (Zda (Qvu h1 h2)))
 rw [Int.fdiv_eq_ediv_of_nonneg i (by omega),Int.fmod_eq_emod_of_nonneg i (by omega)]
 have hn:H s.heap.objs.size=none:=I.hok.fresh (Zk _)
 refine ⟨.ref s.heap.objs.size,_,?_,rfl,q _ hn⟩
 refine I.laid (fun b o e=>Zb _ e) (Zk _) ⟨by simp only [Ze,Zp];rw [Zbo];decide,[.int (i / j) s.toks,.int (i%j) (s.toks+1)],.cons ⟨_,rfl⟩ (.cons ⟨_,rfl⟩ .nil),?_⟩
 exact ⟨_,Zn s.heap rfl,rfl,0,rfl,rfl⟩
noncomputable def Qnv (K:Fz):R2:=fun x y H Q=>(rI0 fun i j=>.int (i+j)) x y H Q∨rCat x y H Q∨Q4r K x y H Q
theorem uAdd:OpR X (binaryOp .Add) (Qnv X.K):=Q6n.or (Q60.or Q14)
def Q4t:R2:=fun x y H Q=>(rI CMul fun i j=>.int (i*j)) x y H Q∨rRep x y H Q∨Q4s x y H Q
theorem uMul:OpR X (binaryOp .Mult) Q4t:=Q6p.or (Q61.or Q16)
noncomputable abbrev Q17 (K:Fz) (tl:TE):TI:=fun σ H R=>tl σ H fun x H1=>∃ a,x=.ref a∧(((∃ xs,SqL K H1 a xs)∧R (Itl K a) H1)∨((∃ xs,SqT K H1 a xs)∧R (Itt K a) H1))
theorem Q66 {tg l:Fr} {tl:TE} (hl:PE X l tl):PI X tg l (Q17 X.K tl):=by
 intro aa s σ H R I h
 refine thn (hl aa s σ H _ I h) fun v s1 ⟨x,H1,I1,r1,q1⟩=>?_
 obtain ⟨a,e,q⟩:=q1
 subst e
 cases r1
 rcases q with ⟨⟨xs,hq⟩,q⟩ | ⟨⟨xs,hq⟩,q⟩
 ·obtain ⟨ac,rv,p,hz⟩:=I1.list hq
  refine Zbs p.isList ?_
  refine ⟨s1.heap.objs.size,[s1.heap.objs.size],_,_,H1,rfl,I1.kept (t':=s1.toks) fun b o e=>Zb _ e,Qvg a _,⟨_,Zn _ rfl,rfl,rfl⟩,fun b hb=>?_,q⟩
  have e:b=s1.heap.objs.size:=by simpa using hb
  subst e
  exact I1.fpOk (Zk _) (I1.hok.fresh (Zk _))
 ·obtain ⟨ac,rv,p,hz⟩:=I1.tuple hq
  refine Zay (show s1.heap.IsTuple a ac.toArray from p) ?_
  refine ⟨s1.heap.objs.size,[s1.heap.objs.size],_,_,H1,rfl,I1.kept (t':=s1.toks) fun b o e=>Zb _ e,Qr0 a _,⟨_,Zn _ rfl,rfl,rfl⟩,fun b hb=>?_,q⟩
  have e:b=s1.heap.objs.size:=by simpa using hb
  subst e
  exact I1.fpOk (Zk _) (I1.hok.fresh (Zk _))
noncomputable def Qxu (K:Fz):V→Option Int→Option Int→Hp→VK→Prop:=fun x lo hi H Q=>rSlL K x lo hi H Q∨rSlS K x lo hi H Q
theorem uSl:SlR X (Qxu X.K):=Q1u.or Q15
end
structure Dfn (K:Fz) (mg:Str→Option Fx) (x:Str) (st:Fs):Prop where
 ex:∃ f fd,Fun K x x st f fd∧mg x=some (.ref f)
noncomputable def Has (P:Fu) (w:Ft) (K:Fz) (mg:Str→Option Fx) (base:Fq) (x:Str) (ps:List Str) (k:Nat) (sp:Sp):Prop :=
 ∃ f fd,PySem.W.keepIn K (.ref f)=true∧mg x=some (.ref f)∧Binds K fd ps []∧FnOk P w K mg base CX0 k f fd ps sp
noncomputable def Qai (x:Str) (st:Fs) (ps:List Str):Prop:=∀ (kV az pm:Fx) (an:Option Fw) (ae ct:Fx) (us:List Fx),us.length=ps.length→bindArgs (PySem.W.fnOf x x (Qel st) (Qbi st) (Qg st) .none kV az pm an ae ct) ⟨us,[]⟩=pure (ps.zip us)
section
variable {P:Fu} {w:Ft} {K:Fz} {mg:Str→Option Fx} {base:Fq}
theorem Q67 {x:Str} {st:Fs} {N ps:List Str} {k:Nat} {sp:Sp} (d:Dfn K mg x st) (S:FnScope N ps (Qg st)) (bd:Qai x st ps) (len:∀ vs H Q E,sp vs H Q E→vs.length=ps.length)
  (av:∀ (f:Fw) (ae:Fx) (A:Fv) (outer:List Env) (s:Fy) (H:Hp) (vs:List V) (Q:VK) (E:XK),Room k (A.deeper (envOfC x (Qg st) s.heap.objs.size f ae))→sp vs H Q E →
   ∃ t,PSs (Qhu (fun _=>true) CX0 P w K mg base N x (Qg st) f ae A outer s H E).nox (Qbi st) t∧t { nx:=fun _ H'=>Q .non H',rt:=Q } (Qbl N vs) H):Has P w K mg base x ps (k+1) sp:=by
 obtain ⟨f,fd,F,m⟩:=d.ex
 exact ⟨f,fd,F.kp,m,F.binds bd,F.ok S len fun ae A outer s H vs Q E hr hs=>av f ae A outer s H vs Q E hr hs⟩
end
theorem Qxv {X:Cx} {x:Str} {ps:List Str} {k:Nat} {sp:Sp} {e:Fr} {es:List Fr} {t:TA} {p pos:Pos} (h:Has X.prog X.w X.K X.mg X.base x ps k sp) (hr:Room k X.A) (ha:PA X (e::es) t) (hg:Gl X x:=by rfl)
  (ay:(x==("__debug__" : Str))=false:=by decide) (he:starEach (e::es) X.env=(false,eval e X.env)::starEach es X.env:=by rfl) (aI:(backTo pos (starEach es X.env)).any (·.1)=false:=by rfl) :
  PE X (.Call (.Name x p) (e::es) [] pos) (Qnr sp [] E0 t):=by
 obtain ⟨f,fd,kp,m,b,F⟩:=h
 exact Q1p F hr hg m kp b .nil Qaa4 ha ay he aI
inductive T where
 | non | bl (b:Bool) | int (i:Int) | str (x:Str) | tup (ts:List T) | lst (ts:List T) | dct (ks:List Key) (ts:List T) | dtt (ks:List (List Int)) (ts:List T) | clo (k:Nat) (ts:List T)
def kIs (ks:List Int):List Key:=ks.map Sum.inl
noncomputable def CellsAt (H:Hp):List Fw→List V→Prop
 | [],vs=>vs=[]
 | c::cs,vs=>∃ v r oc u w,vs=v::r∧H c=some (.frz oc w)∧oc.data=.cell (some u)∧RelV v u∧CellsAt H cs r
noncomputable def CloAt (H:Hp) (f:Fw) (l:LamT) (us:List V):Prop:=∃ cs c' pm dG,cs.Nodup∧cs.length=l.caps.length∧H f=some (.frz (PySem.W.kla_obj "<lambda>" l.qual l.params l.body l.scope (l.caps.zip cs) pm c' dG) (.own f))∧H c'=some (.cod l.qual)∧CellsAt H cs us
theorem CellsAt.mono {H H':Hp} (h:Same H H'):∀ {cs:List Fw} {vs:List V},CellsAt H cs vs→CellsAt H' cs vs
 | [],_,r=>r
 | c::cs,_,r=>by
  obtain ⟨v,w,oc,u,w',e,a,b,d,q⟩:=r
  exact ⟨v,w,oc,u,w',e,h _ _ a,b,d,CellsAt.mono h q⟩
theorem CloAt.mono {H H':Hp} (h:Same H H') {f:Fw} {l:LamT} {us:List V} (r:CloAt H f l us):CloAt H' f l us:=by
 obtain ⟨cs,c',pm,dG,a,b,c,d,e⟩:=r
 exact ⟨cs,c',pm,dG,a,b,h _ _ c,h _ _ d,e.mono h⟩
mutual
noncomputable def Is (H:Hp):V→T→Prop
 | v,.non=>v=.non
 | v,.bl b=>v=.bl b
 | v,.int i=>v=.int i
 | v,.str x=>v=.str x
 | v,.tup ts=>ts.length≤100000∧∃ a vs,v=.ref a∧H a=some (.tup vs)∧IsL H vs ts
 | v,.lst ts=>ts.length≤100000∧∃ a vs,v=.ref a∧H a=some (.lst vs)∧IsL H vs ts
 | v,.dct ks ts=>∃ a vs,v=.ref a∧H a=some (.dK (ks.zip vs))∧ks.length=vs.length∧IsL H vs ts
 | v,.dtt ks ts=>ks.length≤100000∧∃ a vs,v=.ref a∧H a=some (.dT ((ks.map kIs).zip vs))∧ks.length=vs.length∧IsL H vs ts
 | v,.clo k ts=>∃ f us l,v=.ref f∧Qxn.lookup k=some l∧CloAt H f l us∧IsL H us ts
noncomputable def IsL (H:Hp):List V→List T→Prop
 | vs,[]=>vs=[]
 | vs,t::ts=>∃ v r,vs=v::r∧Is H v t∧IsL H r ts
end
mutual
theorem Is.mono {H H':Hp} (h:Same H H'):∀ {v:V} {t:T},Is H v t→Is H' v t
 | v,.non,r=>by unfold Is at r ⊢;exact r
 | v,.bl b,r=>by unfold Is at r ⊢;exact r
 | v,.int i,r=>by unfold Is at r ⊢;exact r
 | v,.str x,r=>by unfold Is at r ⊢;exact r
 | v,.tup ts,r=>by
  unfold Is at r ⊢
  obtain ⟨z,a,vs,e,ha,q⟩:=r
  exact ⟨z,a,vs,e,h _ _ ha,IsL.mono h q⟩
 | v,.lst ts,r=>by
  unfold Is at r ⊢
  obtain ⟨z,a,vs,e,ha,q⟩:=r
  exact ⟨z,a,vs,e,h _ _ ha,IsL.mono h q⟩
 | v,.dct ks ts,r=>by
  unfold Is at r ⊢
  obtain ⟨a,vs,e,ha,l,q⟩:=r
  exact ⟨a,vs,e,h _ _ ha,l,IsL.mono h q⟩
 | v,.dtt ks ts,r=>by
  unfold Is at r ⊢
  obtain ⟨z,a,vs,e,ha,l,q⟩:=r
  exact ⟨z,a,vs,e,h _ _ ha,l,IsL.mono h q⟩
 | v,.clo l ts,r=>by
  unfold Is at r ⊢
  obtain ⟨f,us,l,e,k,c,q⟩:=r
  exact ⟨f,us,l,e,k,c.mono h,IsL.mono h q⟩
theorem IsL.mono {H H':Hp} (h:Same H H'):∀ {vs:List V} {ts:List T},IsL H vs ts→IsL H' vs ts
 | vs,[],r=>by unfold IsL at r ⊢;exact r
 | vs,t::ts,r=>by
  unfold IsL at r ⊢
  obtain ⟨v,w,e,a,b⟩:=r
  exact ⟨v,w,e,Is.mono h a,IsL.mono h b⟩
end
theorem IsL.nil {H:Hp}:IsL H [] []:=by unfold IsL;rfl
theorem IsL.cons {H:Hp} {v:V} {t:T} {vs:List V} {ts:List T} (a:Is H v t) (b:IsL H vs ts):IsL H (v::vs) (t::ts):=by unfold IsL;exact ⟨v,vs,rfl,a,b⟩
theorem IsL.cons_inv {H:Hp} {vs:List V} {t:T} {ts:List T} (r:IsL H vs (t::ts)):∃ v w,vs=v::w∧Is H v t∧IsL H w ts:=by unfold IsL at r;exact r
theorem IsL.nil_inv {H:Hp} {vs:List V} (r:IsL H vs []):vs=[]:=by unfold IsL at r;exact r
theorem IsL.length {H:Hp}:∀ {ts:List T} {vs:List V},IsL H vs ts→vs.length=ts.length
 | [],vs,r=>by rw [r.nil_inv];rfl
 | t::ts,vs,r=>by
  obtain ⟨v,w,rfl,_,q⟩:=r.cons_inv
  rw [Ze,Ze,q.length]
theorem IsL.get {H:Hp}:∀ {ts:List T} {vs:List V} {i:Nat} {v:V},IsL H vs ts→vs[i]?=some v→∃ t,ts[i]?=some t∧Is H v t
 | [],vs,i,v,r,e=>by rw [r.nil_inv] at e;simp at e
 | t::ts,vs,0,v,r,e=>by
  obtain ⟨x,w,rfl,a,q⟩:=r.cons_inv
  rw [Zaf] at e ⊢
  cases e
  exact ⟨t,rfl,a⟩
 | t::ts,vs,i+1,v,r,e=>by
  obtain ⟨x,w,rfl,a,q⟩:=r.cons_inv
  rw [Zq] at e ⊢
  exact IsL.get q e
theorem IsL.getT {H:Hp}:∀ {ts:List T} {vs:List V} {i:Nat} {t:T},IsL H vs ts→ts[i]?=some t→∃ v,vs[i]?=some v∧Is H v t
 | [],vs,i,v,r,e=>by simp at e
 | t::ts,vs,0,v,r,e=>by
  obtain ⟨x,w,rfl,a,q⟩:=r.cons_inv
  rw [Zaf] at e ⊢
  cases e
  exact ⟨x,rfl,a⟩
 | t::ts,vs,i+1,v,r,e=>by
  obtain ⟨x,w,rfl,a,q⟩:=r.cons_inv
  rw [Zq] at e ⊢
  exact IsL.getT q e
theorem IsL.append {H:Hp}:∀ {ts us:List T} {vs ws:List V},IsL H vs ts→IsL H ws us→IsL H (vs++ws) (ts++us)
 | [],us,vs,ws,r,q=>by rw [r.nil_inv];exact q
 | t::ts,us,vs,ws,r,q=>by
  obtain ⟨x,w,rfl,a,r⟩:=r.cons_inv
  exact .cons a (r.append q)
theorem IsL.take {H:Hp}:∀ {ts:List T} {vs:List V} (n:Nat),IsL H vs ts→IsL H (vs.take n) (ts.take n)
 | _,_,0,_=>by rw [List.take_zero,List.take_zero];exact .nil
 | [],vs,n+1,r=>by rw [r.nil_inv];exact .nil
 | t::ts,vs,n+1,r=>by
  obtain ⟨x,w,rfl,a,r⟩:=r.cons_inv
  exact .cons a (r.take n)
theorem IsL.drop {H:Hp}:∀ {ts:List T} {vs:List V} (n:Nat),IsL H vs ts→IsL H (vs.drop n) (ts.drop n)
 | _,_,0,r=>r
 | [],vs,n+1,r=>by rw [r.nil_inv];exact .nil
 | t::ts,vs,n+1,r=>by
  obtain ⟨x,w,rfl,a,r⟩:=r.cons_inv
  exact r.drop n
theorem IsL.reverse {H:Hp}:∀ {ts:List T} {vs:List V},IsL H vs ts→IsL H vs.reverse ts.reverse
 | [],vs,r=>by rw [r.nil_inv];exact .nil
 | t::ts,vs,r=>by
  obtain ⟨x,w,rfl,a,r⟩:=r.cons_inv
  rw [Zdl,Zdl]
  exact r.reverse.append (.cons a .nil)
theorem IsL.flat {H:Hp}:∀ (k:Nat) {ts:List T} {vs:List V},IsL H vs ts→IsL H (List.replicate k vs).flatten (List.replicate k ts).flatten
 | 0,ts,vs,r=>by simpa using IsL.nil
 | k+1,ts,vs,r=>by
  rw [Za2,Za2,List.flatten_cons,List.flatten_cons]
  exact r.append (IsL.flat k r)
theorem IsL.one {H:Hp} {v:V} {t:T} (a:Is H v t):IsL H [v] [t]:=.cons a .nil
theorem Is.int {H:Hp} {i:Int}:Is H (.int i) (.int i):=by unfold Is;rfl
theorem Is.bl {H:Hp} {b:Bool}:Is H (.bl b) (.bl b):=by unfold Is;rfl
theorem Is.non {H:Hp}:Is H .non .non:=by unfold Is;rfl
theorem Is.str {H:Hp} {x:Str}:Is H (.str x) (.str x):=by unfold Is;rfl
theorem Is.tup {H:Hp} {a:Fw} {vs:List V} {ts:List T} (h:H a=some (.tup vs)) (r:IsL H vs ts) (z:ts.length≤100000):Is H (.ref a) (.tup ts):=by unfold Is;exact ⟨z,a,vs,rfl,h,r⟩
theorem Is.lst {H:Hp} {a:Fw} {vs:List V} {ts:List T} (h:H a=some (.lst vs)) (r:IsL H vs ts) (z:ts.length≤100000):Is H (.ref a) (.lst ts):=by unfold Is;exact ⟨z,a,vs,rfl,h,r⟩
theorem Is.int_inv {H:Hp} {v:V} {i:Int} (r:Is H v (.int i)):v=.int i:=by unfold Is at r;exact r
theorem Is.tup_inv {H:Hp} {v:V} {ts:List T} (r:Is H v (.tup ts)):∃ a vs,v=.ref a∧H a=some (.tup vs)∧IsL H vs ts:=by unfold Is at r;exact r.2
theorem Is.tup_len {H:Hp} {v:V} {ts:List T} (r:Is H v (.tup ts)):ts.length≤100000:=by unfold Is at r;exact r.1
theorem Is.lst_len {H:Hp} {v:V} {ts:List T} (r:Is H v (.lst ts)):ts.length≤100000:=by unfold Is at r;exact r.1
theorem Is.lst_inv {H:Hp} {v:V} {ts:List T} (r:Is H v (.lst ts)):∃ a vs,v=.ref a∧H a=some (.lst vs)∧IsL H vs ts:=by unfold Is at r;exact r.2
theorem IsL.ints {H:Hp}:∀ (ns:List Int),IsL H (ns.map V.int) (ns.map T.int)
 | []=>.nil
 | n::ns=>.cons Is.int (IsL.ints ns)
theorem IsL.ints_inv {H:Hp}:∀ {ns:List Int} {vs:List V},IsL H vs (ns.map T.int)→vs=ns.map V.int
 | [],vs,r=>r.nil_inv
 | n::ns,vs,r=>by
  obtain ⟨x,w,rfl,a,r⟩:=r.cons_inv
  rw [a.int_inv,r.ints_inv]
  rfl
theorem Qc6 {n:Nat} (h:n≤100000):n≤sizeLine:=by rw [Zbo];omega
def del (H:Hp) (p:Fw):Hp:=fun b=>if b=p then none else H b
noncomputable def tyT:T→String
 | .non => "NoneType" | .bl _ => "bool" | .int _ => "int" | .str _ => "str" | .tup _ => "tuple" | .lst _ => "list" | .dct _ _ => "dict" | .dtt _ _ => "dict" | .clo _ _ => "function"
def Qdg:T→Bool
 | .clo _ _=>true
 | _=>false
theorem Is.tyOf {K:Fz} {H:Hp} {v:V} {t:T} (r:Is H v t) (hc:Qdg t=false):TyOf K H v (.type (tyT t)):=by
 cases t with
 | non=>unfold Is at r;subst r;exact .non
 | bl b=>unfold Is at r;subst r;exact .bl b
 | int i=>unfold Is at r;subst r;exact .int i
 | str x=>unfold Is at r;subst r;exact .str x
 | tup ts=>obtain ⟨a,vs,rfl,h,_⟩:=r.tup_inv;exact .tup h
 | lst ts=>obtain ⟨a,vs,rfl,h,_⟩:=r.lst_inv;exact .lst h
 | dct ks ts=>unfold Is at r;obtain ⟨a,vs,rfl,h,_⟩:=r;exact .dK h
 | dtt ks ts=>unfold Is at r;obtain ⟨_,a,vs,rfl,h,_⟩:=r;exact .dT h
 | clo l ts=>cases hc
def Qnw (a c:String):Bool:=a==c||(a == "bool" && c == "int")
theorem Q18 (K:Fz):∀ a∈["NoneType","bool","int","str","tuple","list","dict"],∀ c∈["int","bool","tuple","list","dict","str"],PySem.W.kitOne K (.type a) (.type c)=some (Qnw a c):=by
 intro a ha c hc
 simp only [Z9,Zaz,Zbu] at ha hc
 rcases ha with rfl | rfl | rfl | rfl | rfl | rfl | rfl <;> rcases hc with rfl | rfl | rfl | rfl | rfl | rfl <;> rfl
theorem Qvv {X:Cx}:CallR X (.builtin "isinstance") (fun xs H Q=>∃ x c t,xs=[x,.ty c]∧Is H x t∧Qdg t=false∧c∈["int","bool","tuple","list","dict","str"]∧Q (.bl (Qnw (tyT t) c)) H):=by
 intro aa s σ H xs us Q I r h
 obtain ⟨x,c,t,e,ty,nc,hc,q⟩:=h
 refine Qqe aa s σ H xs us Q I r ⟨x,c,_,_,e,ty.tyOf nc,Q18 X.K (tyT t) ?_ c hc,q⟩
 cases t <;> first | (cases nc;done) | simp [tyT]
def Qo:Fr→Bool
 | .Starred _ _=>false
 | _=>true
theorem Qah {e:Fr} {es:List Fr} {env:Env} (h:Qo e=true):starEach (e::es) env=(false,eval e env)::starEach es env:=by
 cases e <;> first | rfl | exact absurd h Zm
theorem paC {X:Cx} {e:Fr} {es:List Fr} {te:TE} {t:TA} (ha:PE X e te) (hr:PA X es t) (hs:Qo e=true:=by rfl):PA X (e::es) (Qil te t):=Q1o ha hr (Qah hs)
def frp (H H':Hp):Hp:=fun b=>if (H b).isSome=true then none else H' b
theorem Qhd {H H':Hp} {b:Fw} {o:HO} (h:H b=none) (e:H' b=some o):frp H H' b=some o:=by unfold frp;rw [h];exact e
theorem Qgv {H H':Hp} {b:Fw} {o:HO} (e:frp H H' b=some o):H b=none∧H' b=some o:=by
 unfold frp at e
 by_cases h:(H b).isSome=true
 ·rw [Zf h] at e;cases e
 ·rw [Zg h] at e
  refine ⟨?_,e⟩
  cases q:H b with
  | none=>rfl
  | some u=>rw [q] at h;simp at h
theorem Qjw {H H1 H2:Hp} (h:Same H1 H2):Same (frp H H1) (frp H H2):=fun b o e=>by
 obtain ⟨a,c⟩:=Qgv e
 exact Qhd a (h b o c)
theorem Qxw {H H1 H2:Hp} (h:Same H H1):Same (frp H1 H2) (frp H H2):=fun b o e=>by
 obtain ⟨a,c⟩:=Qgv e
 exact Qhd (h.free a) c
abbrev tTh (t:T):TE:=fun _ H Q=>∀ v H',Same H H'→Is (frp H H') v t→Q v H'
abbrev Qoz (ts:List T):TA:=fun _ H Q=>∀ vs H',Same H H'→IsL (frp H H') vs ts→Q vs H'
section
variable {X:Cx} {e a b:Fr} {es:List Fr} {t:T} {ts:List T} {pos:Pos}
theorem PE.weak {te i0:TE} (h:PE X e te) (q:∀ σ H Q,i0 σ H Q→te σ H Q):PE X e i0:=fun aa s σ H Q I hq=>h aa s σ H Q I (q _ _ _ hq)
theorem PA.weak {ta iK:TA} (h:PA X es ta) (q:∀ σ H Q,iK σ H Q→ta σ H Q):PA X es iK:=fun pos aa s σ H Q I hq=>h pos aa s σ H Q I (q _ _ _ hq)
theorem Q19 {i j pos}:PE X (.Constant (.int i) j pos) (tTh (.int i)):=Qw1.weak fun _ H _ q=>q _ H (Same.refl H) Is.int
theorem Q68 {x j pos}:PE X (.Constant (.str x) j pos) (tTh (.str x)):=Qrz.weak fun _ H _ q=>q _ H (Same.refl H) Is.str
theorem Q2a:PA X [] (Qoz []):=Qxf.weak fun _ H _ q=>q [] H (Same.refl H) .nil
theorem Qxx (ha:PE X e (tTh t)) (hr:PA X es (Qoz ts)) (hs:Qo e=true:=by rfl):PA X (e::es) (Qoz (t::ts)) :=
 (paC ha hr hs).weak fun σ H Q q v H1 s1 r1 vs H2 s2 r2=>q (v::vs) H2 (s1.trans s2) (.cons (r1.mono (Qjw s2)) (r2.mono (Qxw s1)))
theorem th_tup {x1} (h:PA X es (Qoz ts)) (hz:Nat.ble ts.length 1000=true:=by rfl):PE X (.Tuple es x1 pos) (tTh (.tup ts)) :=
 (Qxg h).weak fun σ H Q q vs H1 s1 r1=>by
  have hl:=r1.length
  have hz:=Zdy hz
  refine ⟨by rw [hl,Zbo];omega,fun p hp=>q _ _ (s1.trans (Same.upd hp)) (.tup (Qhd (s1.free hp) Qn) (r1.mono (Qjw (Same.upd hp))) (by omega))⟩
theorem Q69 (h:PA X es (Qoz ts)) (hz:Nat.ble ts.length 1000=true:=by rfl):PE X (.List es pos) (tTh (.lst ts)) :=
 (Qxh h).weak fun σ H Q q vs H1 s1 r1=>by
  have hl:=r1.length
  have hz:=Zdy hz
  refine ⟨by rw [hl,Zbo];omega,fun p hp=>q _ _ (s1.trans (Same.upd hp)) (.lst (Qhd (s1.free hp) Qn) (r1.mono (Qjw (Same.upd hp))) (by omega))⟩
theorem Qxy {k:Str} {j p2 pos} (h:PE X e (tTh t)):PE X (.Dict [some (.Constant (.str k) j p2)] [e] pos) (tTh (.dct [Sum.inr k] [t])) :=
 (Q10 (Qxp Qrz h Q1z) rfl rfl (by simp) (by simp)).weak fun σ H Q q p hp=>by
  intro v H1 s1 r1
  have e1:H1 p=some (.dK []):=s1 p _ Qn
  have s0:Same H H1:=Same.trans (Same.upd hp) s1
  refine ⟨e1,[(Sum.inr k,v)],rfl,by simp,?_⟩
  have e2:Qjt [] [((Sum.inr k:Key),v)]=[((Sum.inr k:Key),v)]:=rfl
  rw [e2]
  have s2:Same H (upd H1 p (.dK [((Sum.inr k:Key),v)])):=fun b o eb=>by
   have:b≠p:=Qbk eb hp
   rw [Q7 this]
   exact s0 b o eb
  refine q _ _ s2 ?_
  unfold Is
  refine ⟨p,[v],rfl,Qhd hp Qn,rfl,.one (r1.mono ?_)⟩
  intro b o eb
  obtain ⟨a1,a2⟩:=Qgv eb
  have nb:b≠p:=fun z=>by rw [z,Qn] at a1;cases a1
  rw [Q7 nb] at a1
  exact Qhd a1 (by rw [Q7 nb];exact a2)
end
structure Wk (J:It) (xs:List V) (P:Hp→Prop):Prop where
 go:∀ i H,i<xs.length→P H→J.go i H
 yld:∀ i H x H',i<xs.length→P H→J.yld i H x H'→H'=H∧xs[i]?=some x
 stop:∀ i H,xs.length≤i→P H→J.stop i H
 mono:∀ H H',Same H H'→P H→P H'
section
variable {X:Cx}
noncomputable def Q7a (K:Fz):List V→Hp→VK→Prop:=fun xs H Q=>∃ p ys,xs=[.ref p]∧(SqL K H p ys∨SqT K H p ys)∧Q (.int ys.length) H
theorem kLen (K:Fz) (hK:X.K=K):CallR X (.builtin "len") (Q7a K):=by subst hK;exact Qov
noncomputable def Q7b (K:Fz):List V→Hp→VK→Prop:=fun xs H Q=>∃ p ys,xs=[.ref p]∧SqL K H p ys∧ys.all Qqg=true∧Q (.bl (ys.all Qqf)) H
theorem kAll (K:Fz) (hK:X.K=K) (hc:X.calm=true):CallR X (.builtin "all") (Q7b K):=by subst hK;exact Qxs hc
noncomputable def Qxz (K:Fz):List V→Hp→VK→Prop:=fun xs H Q=>∃ (p:Fw) (ns:List Int),xs=[.ref p]∧SqL K H p (ns.map V.int)∧ns≠[]∧∀ M,M∈ns→(∀ a∈ns,a≤M)→Q (.int M) H
theorem Qabg (K:Fz) (hK:X.K=K) (hc:X.calm=true):CallR X (.builtin "max") (Qxz K):=by subst hK;exact Qvq hc
noncomputable def Qo0 (K:Fz):List V→Hp→VK→Prop:=fun xs H Q=>∃ p ys,xs=[.ref p]∧(SqL K H p ys∨SqT K H p ys)∧∀ l,H l=none→Q (.ref l) (upd H l (.lst ys))
theorem Q2b (K:Fz) (hK:X.K=K):CallR X (.type "list") (Qo0 K):=by subst hK;exact Qow
noncomputable def Qr9 (K:Fz):List V→Hp→VK→Prop:=fun xs H Q=>∃ p ys,xs=[.ref p]∧((SqL K H p ys∧∀ l,H l=none→Q (.ref l) (upd H l (.tup ys)))∨(SqT K H p ys∧Q (.ref p) H))
theorem Q7c (K:Fz) (hK:X.K=K):CallR X (.type "tuple") (Qr9 K):=by subst hK;exact Qm9
noncomputable def Q4u:List V→Hp→VK→Prop:=fun xs H Q=>∃ x c t,xs=[x,.ty c]∧Is H x t∧Qdg t=false∧c∈["int","bool","tuple","list","dict","str"]∧Q (.bl (Qnw (tyT t) c)) H
theorem Qabh:CallR X (.builtin "isinstance") Q4u:=Qvv
theorem kAdd (K:Fz) (hK:X.K=K):OpR X (binaryOp .Add) (Qnv K):=by subst hK;exact uAdd
theorem kIx (K:Fz) (hK:X.K=K):IxR X (rIx K):=by subst hK;exact Q6y
theorem kSl (K:Fz) (hK:X.K=K):SlR X (Qxu K):=by subst hK;exact uSl
theorem kSeq (K:Fz) (hK:X.K=K) {tg l:Fr} {tl:TE} (hl:PE X l tl):PI X tg l (Q17 K tl):=by subst hK;exact Q66 hl
theorem kTup (K:Fz) (hK:X.K=K) {es:List Fr} {k:Nat} {t:TGs} {n:Nat} {pos:Pos} (hc:X.calm=true) (h:PGs X es t)
  (hn:(assignEach es X.env).length=n:=by rfl) (bn:(assignEach es X.env).findIdx? (·.1)=none:=by rfl):PG X (.Tuple es k pos) (Q1i K n t):=by subst hK;exact Q6c hc h hn bn
theorem kBm (K:Fz) (hK:X.K=K) {T:String} {o e:Fr} {es:List Fr} {to:TE} {t:TA} {name:Str} {a7 ah:Pos} {id:String} {r:V→List V→Hp→VK→Prop} (pa:PlainAttrs T) (slot:Slot T name id) (eJ:typeOf (.builtin id)=pure (.type "method_descriptor")) (hm:MtR X id r) (ho:PE X o to) (ha:PA X (e::es) t)
  (bg:attributeBase o name X.env (eval o X.env)=eval o X.env:=by rfl)
  (bI:((backTo ah (starEach (e::es) X.env)).all (fun x=>!x.1)&&(backToKw ah (keywordEach [] X.env)).all (fun x=>x.1.isSome)
   && decide ((e::es).length+([]:List Keyword).length+(if ([]:List Keyword).isEmpty then 0 else 1)<30))=true:=by rfl)
  (bh:(a7.endLine==ah.line)=true:=by rfl) (hs:starEach (e::es) X.env=(false,eval e X.env)::starEach es X.env:=by rfl) (aL:(backTo ah (starEach es X.env)).any (·.1)=false:=by rfl) :
  PE X (.Call (.Attribute o name a7) (e::es) [] ah) (tBM K T r to t):=by
 subst hK
 exact Qaa1 pa slot eJ hm ho ha bg bI bh hs aL
end
def Tups (H H':Hp):Prop:=∀ a xs,H a=some (.tup xs)→H' a=some (.tup xs)
noncomputable def MkT (xs:List V) (H:Hp) (Q:VK):Prop:=xs.length≤sizeLine∧∀ p,H p=none→Q (.ref p) (upd H p (.tup xs))
noncomputable def MkL (xs:List V) (H:Hp) (Q:VK):Prop:=xs.length≤sizeLine∧∀ p,H p=none→Q (.ref p) (upd H p (.lst xs))
abbrev Qabi (t:TA):TE:=fun σ H Q=>t σ H fun xs H1=>MkT xs H1 Q
abbrev Q4v (t:TA):TE:=fun σ H Q=>t σ H fun xs H1=>MkL xs H1 Q
structure QE (X:Cx) (e:Fr) (t:TE):Prop where
 h:PE X e t
structure QT (X:Cx) (e:Fr) (t:TT):Prop where
 h:PT X e t
structure QW (X:Cx) (e:Fr) (t:TT):Prop where
 h:PW X e t
structure QA (X:Cx) (es:List Fr) (t:TA):Prop where
 h:PA X es t
structure QS (X:Cx) (st:Fs) (t:TS):Prop where
 h:PS X st t
structure QB (X:Cx) (st:List Fs) (t:TS):Prop where
 h:PSs X st t
structure QI (X:Cx) (tg it:Fr) (t:TI):Prop where
 h:PI X tg it t
structure QG (X:Cx) (tg:Fr) (t:TG):Prop where
 h:PG X tg t
structure QGs (X:Cx) (tg:List Fr) (t:TGs):Prop where
 h:PGs X tg t
structure QC (X:Cx) (a8:List Fr) (t:TT):Prop where
 h:PTs X a8 t
structure QO (X:Cx) (e:Option Fr) (t:TO):Prop where
 h:PO X e t
structure QOp (X:Cx) (f:Fx→Fx→Sem Fx) (r:R2):Prop where
 h:OpR X f r
structure QUn (X:Cx) (f:Fx→Sem Fx) (r:V→Hp→VK→Prop):Prop where
 h:UnR X f r
structure QCl (X:Cx) (f:Fx) (r:List V→Hp→VK→Prop):Prop where
 h:CallR X f r
structure QIx (X:Cx) (r:R2):Prop where
 h:IxR X r
structure QSl (X:Cx) (r:V→Option Int→Option Int→Hp→VK→Prop):Prop where
 h:SlR X r
structure QMt (X:Cx) (id:String) (r:V→List V→Hp→VK→Prop):Prop where
 h:MtR X id r
section
variable {X:Cx} {e a b:Fr} {es rest:List Fr} {te ta tb:TE} {t:TA} {tt uu tA cr:TT} {pos p p2:Pos} {x:Str}
theorem Qc7 (i:Nat) (hN:X.N[i]?=some x:=by rfl) (hv:Vis X.env.scope x:=by first | exact Or.inl rfl | exact Or.inr (Or.inl rfl) | exact Or.inr (Or.inr rfl)) (hd:(x==("__debug__" : Str))=false:=by decide)
  (aF:(x==("__classdict__" : Str))=false:=by decide):QE X (.Name x pos) (Qos i):=⟨pv i hN hv hd aF⟩
theorem Qkr {i j}:QE X (.Constant (.int i) j pos) (tC (.int i)):=⟨Qw1⟩
theorem Q2c {b j}:QE X (.Constant (.bool b) j pos) (tC (.bl b)):=⟨Qaah⟩
theorem Qabj {j}:QE X (.Constant .none j pos) (tC .non):=⟨Q5z⟩
theorem Q4w {x j}:QE X (.Constant (.str x) j pos) (tC (.str x)):=⟨Qrz⟩
theorem Q7d {v:V} (h:∃ u,X.mg x=some u∧RelV v u) (hg:Gl X x:=by rfl) (hd:(x==("__debug__" : Str))=false:=by decide):QE X (.Name x pos) (tC v):=by
 obtain ⟨u,m,r⟩:=h
 exact ⟨Qtk hg m r hd⟩
theorem Qo1 (T:String) (hm:X.mg x=none) (hv:bootBuiltins x=some (.type T)) (hg:Gl X x:=by rfl) (hn:x ≠ "__name__" := by decide) (hd:(x==("__debug__" : Str))=false:=by decide):QE X (.Name x pos) (tC (.ty T)):=⟨Q1b (v:=.ty T) hg hm hv rfl hn hd⟩
theorem Q2d {op:Operator} {r:R2} (ho:QOp X (binaryOp op) r) (ha:QE X a ta) (hb:QE X b tb):QE X (.BinOp a op b pos) (tOp r ta tb):=⟨Qaan ho.h ha.h hb.h⟩
theorem Q7e {op:UnaryOp} {r:V→Hp→VK→Prop} (ho:QUn X (unaryOp op) r) (ha:QE X a ta):QE X (.UnaryOp op a pos) (tUn r ta):=⟨Qaao ho.h ha.h⟩
theorem Qabk (ha:QE X a ta):QE X (.UnaryOp .Not a pos) (Q4m ta):=⟨Q56 ha.h⟩
theorem Qabl {op} (ha:QE X a ta):QE X (.BoolOp op [a] pos) ta:=⟨Q54 ha.h⟩
theorem Qabm (ha:QE X a ta) (hb:QE X (.BoolOp .And (b::rest) pos) tb):QE X (.BoolOp .And (a::b::rest) pos) (Q4l ta tb):=⟨Q55 ha.h hb.h⟩
theorem Qabn {op:CmpOp} {r:R2} (ho:QOp X (compareOp op) r) (ha:QE X a ta) (hb:QE X b tb) (hm:behindInMarks op b=false):QE X (.Compare a [op] [b] pos) (tOp r ta tb):=⟨Q1l ho.h ha.h hb.h hm⟩
theorem Qo2 {op:CmpOp} {r:R2} (ho:QOp X (compareOp op) r) (ha:QE X a ta) (hb:QE X b tb) (hm:behindInMarks op b=false):QT X (.Compare a [op] [b] pos) (Q4p (tOp r ta tb)):=⟨Q1m ho.h ha.h hb.h hm⟩
theorem Qx0 (ha:QE X e te) (he:∀ whole,isTrue e X.env whole=(do let v ← whole;standAt e.pos;holding [v] (truthy v)):=by intro _;rfl):QT X e (tB te):=⟨Q50 ha.h he⟩
theorem Qx1 (ha:QT X a tA):QT X (.UnaryOp .Not a pos) (tNot tA):=⟨Q53 ha.h⟩
theorem q_wt (ha:QW X e tA):QT X e tA:=⟨ha.h.pt⟩
theorem Q2e (ha:QT X a tA):QW X (.BoolOp .And [a] pos) tA:=⟨Q1c ha.h⟩
theorem Qx2 (ha:QT X a tA):QW X (.BoolOp .Or [a] pos) tA:=⟨Q51 ha.h⟩
theorem Q7f (ha:QT X a tA) (hb:QW X (.BoolOp .And (b::rest) pos) cr):QW X (.BoolOp .And (a::b::rest) pos) (tAnd tA cr):=⟨Q52 ha.h hb.h⟩
theorem Q4x (ha:QT X a tA) (hb:QW X (.BoolOp .Or (b::rest) pos) cr):QW X (.BoolOp .Or (a::b::rest) pos) (tOr tA cr):=⟨Qaak ha.h hb.h⟩
theorem Qbg:QA X [] Qr2:=⟨Qxf⟩
theorem Qr (ha:QE X e te) (hr:QA X es t) (hs:Qo e=true:=by rfl):QA X (e::es) (Qil te t):=⟨paC ha.h hr.h hs⟩
theorem Qabp {x1} (h:QA X es t):QE X (.Tuple es x1 pos) (Qabi t):=⟨Qxg h.h⟩
theorem Qqj (h:QA X es t):QE X (.List es pos) (Q4v t):=⟨Qxh h.h⟩
variable {ts:List T} {u:T}
theorem Qabq {i j}:QE X (.Constant (.int i) j pos) (tTh (.int i)):=⟨Q19⟩
theorem Qhy {x j}:QE X (.Constant (.str x) j pos) (tTh (.str x)):=⟨Q68⟩
theorem Qabr:QA X [] (Qoz []):=⟨Q2a⟩
theorem Qfj (ha:QE X e (tTh u)) (hr:QA X es (Qoz ts)) (hs:Qo e=true:=by rfl):QA X (e::es) (Qoz (u::ts)):=⟨Qxx ha.h hr.h hs⟩
theorem Qabs (h:QA X es (Qoz ts)) (hz:Nat.ble ts.length 1000=true:=by rfl):QE X (.List es pos) (tTh (.lst ts)):=⟨Q69 h.h hz⟩
theorem Q2f {k:Str} {j} (h:QE X e (tTh u)):QE X (.Dict [some (.Constant (.str k) j p2)] [e] pos) (tTh (.dct [Sum.inr k] [u])):=⟨Qxy h.h⟩
theorem q_fn {ps:List Str} {k:Nat} {sp:Sp} (h:Has X.prog X.w X.K X.mg X.base x ps k sp) (hr:Room k X.A) (ha:QA X (e::es) t) (hg:Gl X x:=by rfl)
  (ay:(x==("__debug__" : Str))=false:=by decide) (he:Qo e=true:=by rfl) (aI:(backTo pos (starEach es X.env)).any (·.1)=false:=by rfl):QE X (.Call (.Name x p) (e::es) [] pos) (Qnr sp [] E0 t):=⟨Qxv h hr ha.h hg ay (Qah he) aI⟩
theorem Qiu {id:String} {r:List V→Hp→VK→Prop} (hc:QCl X (.builtin id) r) (hm:X.mg x=none) (hv:bootBuiltins x=some (.builtin id)) (ha:QA X (e::es) t) (hg:Gl X x:=by rfl) (hn:x ≠ "__name__" := by decide) (ay:(x==("__debug__" : Str))=false:=by decide)
  (he:Qo e=true:=by rfl) (aI:(backTo pos (starEach es X.env)).any (·.1)=false:=by rfl):QE X (.Call (.Name x p) (e::es) [] pos) (tCB r t):=⟨Qxi hc.h hg hm hv ha.h hn ay (Qah he) aI⟩
theorem Q4y {T:String} {r:List V→Hp→VK→Prop} (hc:QCl X (.type T) r) (hm:X.mg x=none) (hv:bootBuiltins x=some (.type T)) (ha:QA X (e::es) t) (hg:Gl X x:=by rfl) (hn:x ≠ "__name__" := by decide) (ay:(x==("__debug__" : Str))=false:=by decide)
  (he:Qo e=true:=by rfl) (aI:(backTo pos (starEach es X.env)).any (·.1)=false:=by rfl):QE X (.Call (.Name x p) (e::es) [] pos) (tCB r t):=⟨Qvp hc.h hg hm hv ha.h hn ay (Qah he) aI⟩
theorem Qsa (K:Fz) (hK:X.K=K) {T:String} {o:Fr} {to:TE} {name:Str} {a7 ah:Pos} {id:String} {r:V→List V→Hp→VK→Prop} (pa:PlainAttrs T) (slot:Slot T name id) (eJ:typeOf (.builtin id)=pure (.type "method_descriptor")) (hm:QMt X id r) (ho:QE X o to) (ha:QA X (e::es) t)
  (bg:attributeBase o name X.env (eval o X.env)=eval o X.env:=by rfl)
  (bI:((backTo ah (starEach (e::es) X.env)).all (fun x=>!x.1)&&(backToKw ah (keywordEach [] X.env)).all (fun x=>x.1.isSome)
   && decide ((e::es).length+([]:List Keyword).length+(if ([]:List Keyword).isEmpty then 0 else 1)<30))=true:=by rfl)
  (bh:(a7.endLine==ah.line)=true:=by rfl) (hs:Qo e=true:=by rfl) (aL:(backTo ah (starEach es X.env)).any (·.1)=false:=by rfl) :
  QE X (.Call (.Attribute o name a7) (e::es) [] ah) (tBM K T r to t):=⟨kBm K hK pa slot eJ hm.h ho.h ha.h bg bI bh (Qah hs) aL⟩
theorem Q7g {r:R2} (hr:QIx X r) (ha:QE X a ta) (hb:QE X b tb) (hs:Qlb b:=by exact fun _ _=>rfl):QE X (.Subscript a b pos) (tOp r ta tb):=⟨Qaaw hr.h ha.h hb.h hs⟩
theorem q_sl {r:V→Option Int→Option Int→Hp→VK→Prop} {lo hi:Option Fr} {tl th:TO} (hr:QSl X r) (he:QE X e te) (hl:QO X lo tl) (hu:QO X hi th):QE X (.Subscript e (.Slice lo hi none p2) pos) (tSl r te tl th):=⟨Qxj hr.h he.h hl.h hu.h⟩
theorem Qabu {st:Fr} {ts:TE} (he:QE X e te) (bn:QE X st ts):QE X (.Subscript e (.Slice none none (some st) p2) pos) (tRev te ts):=⟨Q65 he.h bn.h⟩
theorem q_no:QO X none Qtq:=⟨Q1q⟩
theorem Qsb (h:QE X e te):QO X (some e) (Qtr te):=⟨Q1r h.h⟩
variable {tg:Fr}
theorem Q4z (K:Fz) (hK:X.K=K) (hl:QE X e te):QI X tg e (Q17 K te):=⟨kSeq K hK hl.h⟩
theorem Q7h (hm:X.mg "range" = none) (ha:QA X [a] t) (hg:Gl X "range" := by rfl) (hs:Qo a=true:=by rfl):QI X tg (.Call (.Name "range" p) [a] [] pos) (Q4n t):=⟨Qvh hg hm ha.h (Qah hs)⟩
theorem Q7i (hm:X.mg "range" = none) (ha:QA X [a,b] t) (hg:Gl X "range" := by rfl) (hs:Qo a=true:=by rfl) (ao:Qo b=true:=by rfl):QI X tg (.Call (.Name "range" p) [a,b] [] pos) (Q4o t) :=
 ⟨Qvi hg hm ha.h (by rw [Qah hs,Qah ao];rfl) (Qah ao)⟩
theorem Qam {i:Nat} (hN:X.N.Nodup) (hi:X.N[i]?=some x:=by rfl) (hx:Loc X.env.scope x:=by first | exact Or.inl rfl | exact Or.inr rfl) (hf:X.fn x=true∨X.env.scope.names.lookup x=some .local:=by first | exact .inl rfl | exact .inr rfl | exact .inl (by decide +kernel)):QG X (.Name x pos) (Qgk i):=⟨Q1g hN hi hx hf⟩
theorem Qsc:QGs X [] Q6b:=⟨Q1h⟩
theorem Qhe {es:List Fr} {t:TG} {u:TGs} (h1:QG X e t) (h2:QGs X es u) (hs:(assignEach (e::es) X.env).map (·.2)=assign e X.env::(assignEach es X.env).map (·.2):=by rfl):QGs X (e::es) (Qw6 t u):=⟨Qw7 h1.h h2.h hs⟩
theorem Qsd (K:Fz) (hK:X.K=K) {es:List Fr} {k:Nat} {t:TGs} {n:Nat} (hc:X.calm=true) (h:QGs X es t) (hn:(assignEach es X.env).length=n:=by rfl) (bn:(assignEach es X.env).findIdx? (·.1)=none:=by rfl):QG X (.Tuple es k pos) (Q1i K n t):=⟨kTup K hK hc h.h hn bn⟩
theorem Qx3 {o i:Fr} {to ti:TE} (ho:QE X o to) (hi:QE X i ti)
  (ha:∀ v,assign (.Subscript o i pos) X.env v=(do
   let ov ← holding [v] (eval o X.env)
   let iv ← holding [v,ov] (eval i X.env)
   standAt pos
   holding [v,ov,iv] (setItem ov iv v)
   release [v,ov,iv] []):=by intro _;rfl):QG X (.Subscript o i pos) (Q6d to ti Qtt):=⟨Q6e ho.h hi.h Qxk ha⟩
theorem q_c0:QC X [] tYes:=⟨Q12⟩
theorem q_c1 (h:QT X e tt):QC X [e] tt:=⟨Q13 h.h⟩
theorem Q7j {elt af:Fr} {a8:List Fr} {scope:Scope} (N:List Str) (js:List (Option Nat)) {wi:TI} {g:TG} {tc:TT} (aq:X.calm=true)
  (hi:QI X tg af wi) (hg:∀ s H fp,QG (Qac X scope N s H fp) tg g) (hc:∀ s H fp,QC (Qac X scope N s H fp) a8 tc) (he:∀ s H fp,QE (Qac X scope N s H fp) elt te)
  (hk:scope.kind=.function:=by rfl) (h1:scOk X scope=true:=by rfl) (h2:Qis X scope N js=true:=by rfl)
  (hs:∀ x,foldedSetIterable af X.env x=pure x:=by intro _;rfl):QE X (.ListComp elt [⟨tg,af,a8,0⟩] scope pos) (Qqd wi js g tc te):=⟨Qxq aq hi.h (fun s H fp=>(hg s H fp).h) (fun s H fp=>(hc s H fp).h) (fun s H fp=>(he s H fp).h) hk h1 h2 hs⟩
variable {st:Fs} {cb:List Fs} {t1 t2:TS}
theorem Qo3:QB X [] Qw3:=⟨Q1d⟩
theorem Qem (h1:QS X st t1) (h2:QB X cb t2):QB X (st::cb) (Qw4 t1 t2):=⟨Qw5 h1.h h2.h⟩
theorem Qh6 (h1:QS X st t1):QB X [st] t1:=⟨Q1e h1.h⟩
theorem Qjx (he:QE X e te) (hs:swapsWith e none pos.line X.env=pure false:=by rfl):QS X (.Expr e pos) (Qtl te):=⟨Q1f he.h hs⟩
theorem Qnx (he:QE X e te):QS X (.Return (some e) pos) (Q57 te):=⟨Q58 he.h⟩
theorem Qtu {c:Fr} {bs cs:List Fs} (hc:QT X c tt) (ha:QB X bs t1) (hb:QB X cs t2):QS X (.If c bs cs pos) (Q59 tt t1 t2):=⟨Qaal hc.h ha.h hb.h⟩
theorem Q40 {af:Fr} {body:List Fs} {wi:TI} {g:TG} (hp:PassesOwn (model X.prog X.w) X.A X.env X.xe) (hc:X.calm=true) (hi:QI X tg af wi) (hg:QG X tg g) (hb:QB X body t1)
  (hs:∀ x,foldedSetIterable af X.env x=pure x:=by intro _;rfl):QS X (.For tg af body [] pos) (Qxa wi g t1):=⟨Q6j hp hc hi.h hg.h hb.h hs⟩
theorem Qan {i:Nat} (hN:X.N.Nodup) (he:QE X e te) (hi:X.N[i]?=some x:=by rfl) (hx:Loc X.env.scope x:=by first | exact Or.inl rfl | exact Or.inr rfl) (hs:swapsWith e (some (.Name x p2)) pos.line X.env=pure false:=by rfl) (hf:X.fn x=true∨X.env.scope.names.lookup x=some .local:=by first | exact .inl rfl | exact .inr rfl) :
  QS X (.Assign [.Name x p2] e pos) (Qm7 te (Qgk i)):=⟨Q6g hN hi hx he.h hs hf⟩
theorem Qx4 {g:TG} (he:QE X e te) (hg:QG X tg g) (hs:swapsWithSole [tg] e pos.line X.env=pure false:=by rfl) (hw:swappedStores [tg] e X.env=pure none:=by rfl)
  (h1:(assignEach [tg] X.env).map (·.2)=[assign tg X.env]:=by rfl):QS X (.Assign [tg] e pos) (Qm7 te g):=⟨Q6f he.h hg.h hs hw h1⟩
theorem Qx5 (i j:Nat) {y:Str} {px py pt:Pos} {kt k2 pt2} (hN:X.N.Nodup) (cy:i≠j) (ha:QA X [a,b] t) (hi:X.N[i]?=some x:=by rfl) (hj:X.N[j]?=some y:=by rfl)
  (hx:X.env.scope.names.lookup x=some .local:=by rfl) (hy:X.env.scope.names.lookup y=some .local:=by rfl) (hc:X.calm=true:=by rfl)
  (hw:swappedStores [.Tuple [.Name x px,.Name y py] kt pt] (.Tuple [a,b] k2 pt2) X.env=pure (some [x,y]):=by rfl)
  (hs:swapsWithSole [.Tuple [.Name x px,.Name y py] kt pt] (.Tuple [a,b] k2 pt2) pos.line X.env=pure false:=by rfl) :
  QS X (.Assign [.Tuple [.Name x px,.Name y py] kt pt] (.Tuple [a,b] k2 pt2) pos) (Q6h i j t):=⟨Q6i hc hN hi hj cy hx hy ha.h hw hs⟩
theorem Q2g {c:Fr} {body:List Fs} (hp:PassesOwn (model X.prog X.w) X.A X.env X.xe) (hc:QT X c tt) (hb:QB X body t1):QS X (.While c body [] pos) (Qw8 tt t1):=⟨Qw9 hp hc.h hb.h⟩
theorem Qtv (K:Fz) (hK:X.K=K):QOp X (binaryOp .Add) (Qnv K):=⟨kAdd K hK⟩
theorem Qabv:QOp X (binaryOp .Sub) (rI0 fun i j=>.int (i-j)):=⟨Q6o⟩
theorem Qabw:QOp X (binaryOp .Pow) (rI Q6m fun i j=>.int (i^j.toNat)):=⟨Q6q⟩
theorem Qx6:QUn X (unaryOp .USub) (rU fun i=>.int (-i)):=⟨Q6r⟩
theorem o_eq:QOp X (compareOp .Eq) rEq:=⟨Qaaq⟩
theorem o_ne:QOp X (compareOp .NotEq) rNe:=⟨Qaar⟩
theorem o_lt:QOp X (compareOp .Lt) (rI0 fun i j=>.bl (decide (i<j))):=⟨Qaas⟩
theorem o_gt:QOp X (compareOp .Gt) (rI0 fun i j=>.bl (decide (j<i))):=⟨Qaat⟩
theorem o_ge:QOp X (compareOp .GtE) (rI0 fun i j=>.bl (decide (j≤i))):=⟨Qaau⟩
def rIsN:R2:=fun x y H Q=>y=.non∧Q (.bl (decide (x=.non))) H
def Q41:R2:=fun x y H Q=>y=.non∧Q (.bl (!decide (x=.non))) H
theorem Qab0:QOp X (compareOp .Is) rIsN:=⟨Q6t⟩
theorem Q7k:QOp X (compareOp .IsNot) Q41:=⟨Q1k⟩
theorem Qx7:QOp X (compareOp .NotIn) (rInR true):=⟨Qvs⟩
theorem Q7l (K:Fz) (hK:X.K=K):QIx X (rIx K):=⟨kIx K hK⟩
theorem o_sl (K:Fz) (hK:X.K=K):QSl X (Qxu K):=⟨kSl K hK⟩
theorem Qgw:QMt X "list.append" Qin:=⟨Qjs⟩
theorem Q7m:QCl X (.builtin "isinstance") Q4u:=⟨Qabh⟩
theorem Qd5 (K:Fz) (hK:X.K=K):QCl X (.builtin "len") (Q7a K):=⟨kLen K hK⟩
theorem Qx8 (K:Fz) (hK:X.K=K) (hc:X.calm=true:=by rfl):QCl X (.builtin "all") (Q7b K):=⟨kAll K hK hc⟩
theorem Q7n (K:Fz) (hK:X.K=K) (hc:X.calm=true:=by rfl):QCl X (.builtin "max") (Qxz K):=⟨Qabg K hK hc⟩
noncomputable def Q42:List V→Hp→VK→Prop:=fun xs H Q=>∃ i j,xs=[.int i,.int j]∧Q (.int (if j>i then j else i)) H
theorem Q7o (hc:X.calm=true:=by rfl):QCl X (.builtin "max") Q42:=⟨Qvk hc⟩
def rAbs:List V→Hp→VK→Prop:=fun xs H Q=>∃ i,xs=[.int i]∧Q (.int (if i<0 then -i else i)) H
theorem Qab3:QCl X (.builtin "abs") rAbs:=⟨Qxe⟩
noncomputable def rDvm:List V→Hp→VK→Prop:=fun xs H Q=>∃ i j,xs=[.int i,.int j]∧CDv i j∧∀ p,H p=none→Q (.ref p) (upd H p (.tup [.int (i / j),.int (i%j)]))
theorem Qab5:QCl X (.builtin "divmod") rDvm:=⟨Qxt⟩
noncomputable def Q43:List V→Hp→VK→Prop:=fun xs H Q=>(∃ i,xs=[.int i]∧Q (.int i) H)∨∃ k,xs=[.bl k]∧Q (.int (if k then 1 else 0)) H
theorem Q7p:QCl X (.type "int") Q43:=⟨Qvl⟩
theorem Qls (K:Fz) (hK:X.K=K):QCl X (.type "list") (Qo0 K):=⟨Q2b K hK⟩
theorem Qhf (K:Fz) (hK:X.K=K):QCl X (.type "tuple") (Qr9 K):=⟨Q7c K hK⟩
noncomputable def Q2h:List V→Hp→VK→Prop:=fun xs H Q=>∃ i j:Int,xs=[.int i,.int j]∧∀ p,H p=none→Q (.ref p) (upd H p (.rng i j))
theorem Qx9:QCl X (.type "range") Q2h:=⟨Qoy⟩
end
section
variable {P:Fu} {w:Ft} {K:Fz} {mg:Str→Option Fx} {base:Fq}
theorem Qab6 {x:Str} {st:Fs} {N ps:List Str} {k:Nat} {sp:Sp} (d:Dfn K mg x st) (S:FnScope N ps (Qg st)) (bd:Qai x st ps) (len:∀ vs H Q E,sp vs H Q E→vs.length=ps.length)
  (av:∀ (f:Fw) (ae:Fx) (A:Fv) (outer:List Env) (s:Fy) (H:Hp) (vs:List V) (Q:VK) (E:XK),Room k (A.deeper (envOfC x (Qg st) s.heap.objs.size f ae))→sp vs H Q E →
   ∃ t,QB (Qhu (fun _=>true) CX0 P w K mg base N x (Qg st) f ae A outer s H E).nox (Qbi st) t∧t { nx:=fun _ H'=>Q .non H',rt:=Q } (Qbl N vs) H):Has P w K mg base x ps (k+1) sp :=
 Q67 d S bd len fun f ae A outer s H vs Q E hr hs=>let ⟨t,a,b⟩:=av f ae A outer s H vs Q E hr hs;⟨t,a.h,b⟩
end
def Q2i (hi:Int) (n:Nat):It:=⟨fun i _=>i<n,fun i H x H'=>H'=H∧x=.int (hi-i),fun i _=>n≤i⟩
theorem Qvw {P:Fu} {w:Ft} {K:Fz} {tg:Fr} (it:Fw) (lo:Int) (n:Nat):Turn P w K tg (Q2i lo n) [it] it (fun i h=>IsRangeIter h it (lo+(i:Nat)*(-1)) ((n:Int)-(i:Nat)) (-1)) where
 mem:=by simp
 obj:=fun i h st b hb=>by
  have e:b=it:=by simpa using hb
  subst e
  exact ⟨_,st,fun v z=>by
   have z':Data.fields _=Data.cell v:=z
   cases z'⟩
 keep:=fun i h h' st k=>k it (by simp) _ st
 item:=by
  intro X hP hw hK hc i aa s σ H E I hf st hg
  subst hP hw hK
  obtain ⟨f0,f1,f2,f3,f4,f5⟩:=hf it (by simp)
  have W:=Walks.range (prog:=X.prog) (w:=X.w) (I.ok.hd hc) it lo (-1) n
  refine W.item i s _ _ hg st fun v h' tk hv bN kk=>?_
  obtain ⟨t,rfl⟩:=hv
  have I1:Inv X aa σ H { s with heap:=h',toks:=tk }:=I.turned (fun b o hb e=>kk b o (by simpa using hb) e) f0 f1 f3 f4 f5
  refine ⟨_,rfl,Qtm (s:={ s with heap:=h',toks:=tk }) (n := "range_iterator") bN rfl rfl (by decide) ⟨.int (lo-i),H,I1,⟨t,?_⟩,⟨rfl,rfl⟩,bN,fun b hb=>(hf b hb).1⟩⟩
  rw [Int.mul_neg,Int.mul_one,Int.sub_eq_add_neg]
 done:=by
  intro X hP hw hK hc i aa s σ H E I hf st hg
  subst hP hw hK
  obtain ⟨f0,f1,f2,f3,f4,f5⟩:=hf it (by simp)
  exact Zdq (I.ok.hd hc) st (by have:n≤i:=hg;omega) fun h' eb=>⟨rfl,I.turned (t':=s.toks) (fun b o hb e=>eb b o hb e) f0 f1 f3 f4 f5⟩
 self:=fun _ _ _ _ _ st h=>Zdr st h
section
variable {X:Cx} {tg:Fr}
theorem Q2j {aa:List (Fw×Obj)} {σ:St} {H:Hp} {s:Fy} {R:It→Hp→Prop} {E:Fx→Fy→Prop} {lo hi:Int} {t u v:Tok} {tk:Nat} (I:Inv X aa σ H s) (h1:-(2^62)≤lo) (h2:lo<2^62) (h3:-(2^62)≤hi) (h4:hi<2^62)
  (q:R (Q2i lo (lo-hi).toNat) H):wpAny (model X.prog X.w) X.A (pyIter (.ref s.heap.objs.size)) (PIE X aa σ tg R) E { s with heap:=s.heap.push { cls:=.type "range",data:=.fields #[.int lo t,.int hi u,.int (-1) v] },toks:=tk }:=by
 refine wpAny_pyIter_range (IsRange.new ..) (PySem.W.small_down h1 h2 h3 h4) ?_
 have I1:Inv X aa σ H { s with heap:=s.heap.push { cls:=.type "range",data:=.fields #[.int lo t,.int hi u,.int (-1) v] },toks:=tk }:=I.kept fun b o e=>Zb _ e
 refine ⟨(s.heap.push { cls:=.type "range",data:=.fields #[.int lo t,.int hi u,.int (-1) v] }).objs.size,[(s.heap.push { cls:=.type "range",data:=.fields #[.int lo t,.int hi u,.int (-1) v] }).objs.size],_,_,H,rfl,
  I1.kept (t':=tk) fun b o e=>Zb _ e,Qvw _ lo (lo-hi).toNat,?_,fun b hb=>?_,q⟩
 ·have e1:lo+((0:Nat):Int)*(-1)=lo:=by simp
  have e2:(((lo-hi).toNat:Nat):Int)-((0:Nat):Int)=Builtin.Range.rangeSize lo hi (-1):=by rw [PySem.W.rangeSize_downNat];omega
  show IsRangeIter _ _ (lo+((0:Nat):Int)*(-1)) ((((lo-hi).toNat:Nat):Int)-((0:Nat):Int)) (-1)
  rw [e1,e2]
  exact Zn _ rfl
 ·have e:b=(s.heap.push { cls:=.type "range",data:=.fields #[.int lo t,.int hi u,.int (-1) v] }).objs.size:=by simpa using hb
  subst e
  exact I1.fpOk (Zk _) (I1.hok.fresh (Zk _))
noncomputable def Q44 (ta:TA):TI:=fun σ H R=>ta σ H fun vs H1=>∃ i j:Int,vs=[.int i,.int j,.int (-1)]∧(-(2^62)≤i∧i<2^62 ∧ -(2^62)≤j∧j<2^62)∧R (Q2i i (i-j).toNat) H1
theorem Qvx {a b d:Fr} {ta:TA} {p pos:Pos} (hg:Gl X "range") (hm:X.mg "range" = none) (ha:PA X [a,b,d] ta) (hs:starEach [a,b,d] X.env=[(false,eval a X.env),(false,eval b X.env),(false,eval d X.env)]:=by rfl) (ao:starEach [b,d] X.env=[(false,eval b X.env),(false,eval d X.env)]:=by rfl) :
  PI X tg (.Call (.Name "range" p) [a,b,d] [] pos) (Q44 ta):=by
 intro aa s σ H R I h
 refine Call_ (Qgs I hg hm boot_range (Zaq (thn (ha pos aa s σ H _ I h) fun us s1 ⟨vs,H1,I1,r1,q1⟩=>?_) (by rw [hs,ao]) (by rw [ao];rfl)))
 obtain ⟨i,j,e,⟨q1,q2,q3,q4⟩,q⟩:=q1
 subst e
 cases r1 with
 | cons r rr =>
  cases rr with
  | cons r' rr =>
   cases rr with
   | cons r'' rr =>
    cases rr
    obtain ⟨t,rfl⟩:=r
    obtain ⟨t',rfl⟩:=r'
    obtain ⟨kF,rfl⟩:=r''
    refine PySem.call_range_3 (by decide) (Q2j I1 q1 q2 q3 q4 q) (Or.inl (PyProof.noPylong_small (by omega)))
theorem Q7q {a b d:Fr} {t:TA} {p pos:Pos} (hm:X.mg "range" = none) (ha:QA X [a,b,d] t) (hg:Gl X "range" := by rfl) (hs:Qo a=true:=by rfl) (ao:Qo b=true:=by rfl) (cO:Qo d=true:=by rfl):QI X tg (.Call (.Name "range" p) [a,b,d] [] pos) (Q44 t) :=
 ⟨Qvx hg hm ha.h (by rw [Qah hs,Qah ao,Qah cO];rfl) (by rw [Qah ao,Qah cO];rfl)⟩
end
open Classical in
def dls (H:Hp) (S:Fw→Prop):Hp:=fun b=>if S b then none else H b
theorem Qby {H:Hp} {S:Fw→Prop} {b:Fw} (h:¬ S b):dls H S b=H b:=by unfold dls;rw [Zg h]
theorem Qs {H:Hp} {S:Fw→Prop} {b:Fw} {o:HO} (e:dls H S b=some o):¬ S b∧H b=some o:=by
 unfold dls at e
 by_cases h:S b
 ·rw [Zf h] at e;cases e
 ·rw [Zg h] at e;exact ⟨h,e⟩
theorem Qya (H:Hp) (S:Fw→Prop):Same (dls H S) H:=fun b o e=>(Qs e).2
theorem Qau {S:Fw→Prop} {H H':Hp} (s:Same H H'):Same (dls H S) (dls H' S):=fun b o e=>by
 obtain ⟨n,e⟩:=Qs e
 rw [Qby n];exact s b o e
theorem Qc2 {S S':Fw→Prop} {H:Hp} (h:∀ b,S b→S' b):Same (dls H S') (dls H S):=fun b o e=>by
 obtain ⟨n,e⟩:=Qs e
 rw [Qby fun z=>n (h b z)];exact e
def Q7r:HO→Bool
 | .lst _=>true
 | .dT _=>true
 | _=>false
def Pen (H:Hp) (S:Fw→Prop):Prop:=∀ b,S b→∃ o,H b=some o∧Q7r o=true
theorem Pen.mono {H H':Hp} {S:Fw→Prop} (h:Pen H S) (s:Same H H'):Pen H' S:=fun b hb=>by
 obtain ⟨xs,e,p⟩:=h b hb
 exact ⟨xs,s _ _ e,p⟩
theorem Pen.new {H:Hp} {S:Fw→Prop} {q:Fw} (h:Pen H S) (hq:H q=none):¬ S q:=fun z=>by
 obtain ⟨xs,e,_⟩:=h q z
 rw [hq] at e;cases e
theorem Qyb {H:Hp} {S:Fw→Prop} (h:Pen H S):Tups H (dls H S):=fun a ys e=>by
 rw [Qby fun z=>by
  obtain ⟨xs,e',p⟩:=h a z
  rw [e] at e';cases e';cases p]
 exact e
section
variable {K:Fz} {H:Hp} {S:Fw→Prop} {x y:V} {ts us:List T} {Q:VK}
theorem Qvy {H':Hp} {a:Fw} {vs:List V} (hp:Pen H' S) (e:H' a=some (.tup vs)):dls H' S a=some (.tup vs):=Qyb hp a vs e
theorem Qd0 {a:Fw} {vs:List V} (hp:Pen H S) (e:H a=some (.tup vs)) (r:IsL (dls H S) vs ts) (z:ts.length≤100000):Is (dls H S) (.ref a) (.tup ts):=.tup (Qvy hp e) r z
noncomputable def Qce (ts:List T) (lo hi:Option Int):List T:=(ts.drop (HT.sIx ts.length 0 lo)).take (HT.sIx ts.length ts.length hi-HT.sIx ts.length 0 lo)
theorem Qdh (ts:List T) (lo hi:Option Int):(Qce ts lo hi).length≤ts.length:=by
 unfold Qce
 rw [Za4,Zbc]
 omega
theorem IsL.cut {D:Hp} {vs:List V} (r:IsL D vs ts) (lo hi:Option Int):IsL D (Qgt vs lo hi) (Qce ts lo hi):=by
 unfold Qgt Qce
 rw [r.length]
 exact (r.drop _).take _
theorem Qyc {lo hi:Option Int} (hp:Pen H S) (it:Is (dls H S) x (.tup ts)) (k:∀ y H',Same H H'→Is (dls H' S) y (.tup (Qce ts lo hi))→Q y H'):Qxu K x lo hi H Q:=by
 obtain ⟨a,vs,rfl,ha,r⟩:=it.tup_inv
 refine .inr ⟨a,vs,rfl,(Qs ha).2,fun q H' s' e' _=>k _ H' s' (Qd0 (hp.mono s') e' ((r.cut lo hi).mono (Qau s')) ?_)⟩
 have:=Qdh ts lo hi
 have:=it.tup_len
 omega
theorem Q7s (hp:Pen H S) (ix:Is (dls H S) x (.tup ts)) (iy:Is (dls H S) y (.tup us)) (hz:ts.length+us.length≤100000) (k:∀ z H',Same H H'→Is (dls H' S) z (.tup (ts++us))→Q z H'):Qnv K x y H Q:=by
 obtain ⟨a,vs,rfl,ha,r⟩:=ix.tup_inv
 obtain ⟨b,ws,rfl,hb,r2⟩:=iy.tup_inv
 refine .inr (.inr ⟨a,b,vs,ws,rfl,rfl,(Qs ha).2,(Qs hb).2,Qc6 (by rw [r.length,r2.length];exact hz),fun q H' s' e' _=>k _ H' s' (Qd0 (hp.mono s') e' ((r.append r2).mono (Qau s')) (by rw [Zo];exact hz))⟩)
theorem Q7t {vs:List V} (hp:Pen H S) (r:IsL (dls H S) vs ts) (hz:ts.length≤100000) (k:∀ z H',Same H H'→Is (dls H' S) z (.tup ts)→Q z H'):MkT vs H Q :=
 ⟨Qc6 (by rw [r.length];exact hz),fun q hq=>k _ _ (Same.upd hq) (Qd0 (hp.mono (Same.upd hq)) Qn (r.mono (Qau (Same.upd hq))) hz)⟩
theorem Q7u {vs:List V} (hp:Pen H S) (r:IsL (dls H S) vs ts) (hz:ts.length≤100000) (k:∀ l H',Same H H'→H l=none→H' l=some (.lst vs)→Is (dls H' S) (.ref l) (.lst ts)→Q (.ref l) H'):MkL vs H Q :=
 ⟨Qc6 (by rw [r.length];exact hz),fun q hq=>k _ _ (Same.upd hq) hq Qn (.lst (by rw [Qby (hp.new hq),Qn]) (r.mono (Qau (Same.upd hq))) hz)⟩
theorem Q7v (hp:Pen H S) (it:Is (dls H S) x (.tup ts)) (k:∀ z H',Same H H'→Is (dls H' S) z (.tup ts.reverse)→Q z H'):RevT x H Q:=by
 obtain ⟨a,vs,rfl,ha,r⟩:=it.tup_inv
 exact ⟨a,vs,rfl,(Qs ha).2,fun q H' s' e'=>k _ _ s' (Qd0 (hp.mono s') e' (r.reverse.mono (Qau s')) (by rw [List.length_reverse];exact it.tup_len))⟩
theorem Q7w {t:T} {v:V} {H':Hp} (hp:Pen H S) (r:Is (frp H H') v t):Is (dls H' S) v t:=by
 refine r.mono fun b o e=>?_
 obtain ⟨a,c⟩:=Qgv e
 rw [Qby fun z=>by
  obtain ⟨xs,e',_⟩:=hp b z
  rw [a] at e';cases e']
 exact c
def Sm (D:Hp) (x:V):Prop:=∃ t,Is D x t
end
structure Raw (fs:List Fw) (g:Fq) (H:Hp) (h h':Fq):Prop where
 keep:∀ b o,h.get? b=some o→((∃ u,g.get? b=some u)∨H b≠none)→b∉fs→h'.get? b=some o
 slot:∀ b o,h.get? b=some o→((∃ u,g.get? b=some u)∨H b≠none)→∃ sl,h'.get? b=some { o with slots:=sl }
 size:h.objs.size≤h'.objs.size
theorem Raw.refl (fs:List Fw) (g:Fq) (H:Hp) (h:Fq):Raw fs g H h h:=⟨fun _ _ e _ _=>e,fun _ o e _=>⟨o.slots,e⟩,Zk _⟩
theorem Raw.trans {fs:List Fw} {g:Fq} {H:Hp} {h h1 h2:Fq} (a:Raw fs g H h h1) (b:Raw fs g H h1 h2):Raw fs g H h h2 where
 keep:=fun c o e p q=>b.keep c o (a.keep c o e p q) p q
 slot:=fun c o e p=>by
  obtain ⟨sl,e1⟩:=a.slot c o e p
  obtain ⟨bV,e2⟩:=b.slot c _ e1 p
  exact ⟨bV,e2⟩
 size:=Zao a.size b.size
noncomputable def XObj (H:Hp) (h:Fq) (g:Fq) (e:Fw) (cls:Fx) (dx:Option Fw):Prop :=
 g.get? e=none∧H e=none∧∃ oe vs,h.get? e=some oe∧oe.cls=cls∧oe.dict=dx∧oe.data=.fields vs∧1<vs.size ∧
  (vs[1]?=some .none∨∃ T oT ts,vs[1]?=some (.ref T)∧T≠e∧g.get? T=none∧H T=none∧h.get? T=some oT∧oT.data=.fields ts∧3<ts.size)
section
variable {M:Model} {A:Fv} {E:Fx→Fy→Prop} {s:Fy} {H:Hp} {g:Fq} {e L:Fw} {cls:Fx} {dx:Option Fw} {env:Env} {outer:List Env} {base:Fq} {Q:Unit→Fy→Prop}
theorem Qo4 {fs:List Fw} {h:Fq} {a:Fw} {f:Obj→Obj} (ha:g.get? a=none) (hH:H a=none):Raw fs g H h (h.update a f):=by
 have ne:∀ b,((∃ u,g.get? b=some u)∨H b≠none)→a≠b:=fun b p z=>by
  subst z
  rcases p with p | p
  ·obtain ⟨u,q⟩:=p
   rw [ha] at q;cases q
  ·exact p hH
 refine ⟨fun b o e p _=>?_,fun b o e p=>⟨o.slots,?_⟩,?_⟩
 ·rw [Zau _ _ (ne b p)];exact e
 ·rw [Zau _ _ (ne b p)];exact e
 ·exact Zeb (by rw [Heap.size_update])
theorem Qyd {fs:List Fw} {h:Fq} {o:Obj}:Raw fs g H h (h.push o) :=
 ⟨fun _ _ e _ _=>Zb _ e,fun _ u e _=>⟨u.slots,Zb _ e⟩,by rw [Zaw];omega⟩
theorem Qvz {fs:List Fw} {h h':Fq} (x:Heap.SlotsOnly fs h h'):Raw fs g H h h' :=
 ⟨fun b o e _ q=>(x.2.1 b q).trans e,fun b o e _=>x.2.2 b o e,Zeb x.1.symm⟩
theorem Qny {ii:Fx} {nx:Bool} (bx:A.frames=some (env::outer)) (hl:s.heap.FunFrames base (env::outer)) (hf:env.frame=some L) (fresh:∀ b,s.heap.objs.size≤b→H b=none) (hn:∀ b o,g.get? b=some o→b<s.heap.objs.size)
  (X:XObj H s.heap g e cls dx) (h:∀ h',XObj H h' g e cls dx→Raw (frs (env::outer)) g H s.heap h'→Q () { s with heap:=h' }) :
  wpAny M A (do let a ← frameOf env;let pl ← entryPlaceOf L nx;let b ← EntryCells.newEntry ii a .none (rawInt L) .none pl;setField (.ref e) 1 b) Q E s:=by
 obtain ⟨aH,cF,oe,vs,he,hc,bX,hd,aU,_⟩:=X
 have nofr:e∉frs (env::outer):=fun hm=>by
  obtain ⟨_,o,ho,gi⟩:=hl.mem hm
  rw [he] at ho;cases ho;exact gi vs hd
 refine Za (wpAny_frameOf_fun bx hl hf fun h1 gD=>Za (wpAny_entryPlaceOf fun pl aI=>?_))
 unfold EntryCells.newEntry newFields
 refine Za (Zac ?_ (aI.sizeOk5 _ _ _ _ _))
 have ca:h1.get? e=some oe:=(gD.2.1 e nofr).trans he
 have jV:h1.objs.size=s.heap.objs.size:=gD.1
 generalize hob:({ cls:=.type "traceback",dict:=none,data:=.fields ([ii,.ref L,.none,rawInt L,.none]++(if pl.isEmpty then List.replicate 6 Value.none else pl)).toArray }:Obj)=ob
 have bD:(h1.push ob).get? e=some oe:=Zb _ ca
 have cN:h1.objs.size≠e:=Zcg (Zj ca)
 have dd:=Zb3 hd (·.setIfInBounds 1 (Value.ref h1.objs.size))
 refine Zch bD hd aU (h _ ?_ (((Qvz gD).trans Qyd).trans (Qo4 aH cF)))
 refine ⟨aH,cF,_,_,Zbl _ bD (Zb6 dd),(Obj.cls_mapFields _ _).trans hc,?_,dd,by simpa using aU,.inr ⟨h1.objs.size,ob,_,by simp [aU],cN,?_,fresh _ (by omega),?_,by rw [←hob],?_⟩⟩
 ·rw [←bX]
  cases oe
  subst hd
  rfl
 ·cases z:g.get? h1.objs.size with
  | none=>rfl
  | some o=>exact absurd (hn _ _ z) (by rw [jV];exact Zas _)
 ·rw [Zau _ _ (Zcf cN)]
  exact Zn h1 (by rw [←hob];rfl)
 ·simp only [Zu,Zo,Ze,Zp]
  omega
theorem Qqk (bx:A.frames=some (env::outer)) (hl:s.heap.FunFrames base (env::outer)) (hf:env.frame=some L) (fresh:∀ b,s.heap.objs.size≤b→H b=none) (hn:∀ b o,g.get? b=some o→b<s.heap.objs.size)
  (X:XObj H s.heap g e cls dx) (h:∀ h',XObj H h' g e cls dx→Raw (frs (env::outer)) g H s.heap h'→Q () { s with heap:=h' }) :
  wpAny M A (noteFrame (.ref e) env) Q E s:=by
 obtain ⟨aH,cF,oe,vs,he,hc,bX,hd,aU,h1⟩:=id X
 unfold noteFrame
 simp only [hf]
 rcases h1 with h1 | ⟨T,oT,ts,h1,cN,eB,dF,hT,cQ,h3⟩
 ·refine Za (Zaa he hd h1 ?_)
  rw [Zg (by decide)]
  exact Qny bx hl hf fresh hn X h
 ·refine Za (Zaa he hd h1 ?_)
  rw [Zf (by simp)]
  refine Za (Zaa hT cQ (Array.getElem?_eq_getElem h3) ?_)
  by_cases hz:(ts[3]==rawInt L)=true
  ·rw [Zf hz]
   exact Zi (h _ X (Raw.refl _ _ _ _))
  ·rw [Zg hz]
   refine Za (Zch hT cQ h3 ?_)
   have fJ:Raw (frs (env::outer)) g H s.heap (s.heap.update T (Obj.mapFields (·.setIfInBounds 3 Value.none))):=Qo4 eB dF
   have dA:∀ b,b≠T→(s.heap.update T (Obj.mapFields (·.setIfInBounds 3 Value.none))).get? b=s.heap.get? b:=fun b hb=>Zau _ _ (Zcf hb)
   have dT:=Zb3 cQ (·.setIfInBounds 3 Value.none)
   refine Qny (s:={ s with heap:=s.heap.update T (Obj.mapFields (·.setIfInBounds 3 Value.none)) }) bx (hl.of_keeps fun b o hb gi=>⟨o,(dA b ?_).trans hb,rfl⟩) hf (fun b hb=>fresh b (Zao fJ.size hb)) (fun b o q=>Zs (hn b o q) fJ.size)
    ⟨aH,cF,oe,vs,(dA e (Zcf cN)).trans he,hc,bX,hd,aU,.inr ⟨T,_,_,h1,cN,eB,dF,Zbl _ hT (Zb6 dT),dT,by simpa using h3⟩⟩ fun h' x r=>h h' x (fJ.trans r)
   intro z
   rw [z,hT] at hb
   cases hb
   exact gi ts cQ
theorem Qh7 {fs:List Fw} (X:XObj H s.heap g e cls dx) (h:∀ h',XObj H h' g e cls dx→Raw fs g H s.heap h'→Q () { s with heap:=h' }):wpAny M A (setFlight (.ref e) none) Q E s:=by
 obtain ⟨aH,cF,oe,vs,he,hc,bX,hd,aU,h1⟩:=id X
 unfold setFlight
 rcases h1 with h1 | ⟨T,oT,ts,h1,cN,eB,dF,hT,cQ,h3⟩
 ·refine Za (Zaa he hd h1 ?_)
  rw [Zg (by decide)]
  exact Zi (h _ X (Raw.refl _ _ _ _))
 ·refine Za (Zaa he hd h1 ?_)
  rw [Zf (by simp)]
  have dT:=Zb3 cQ (·.setIfInBounds 3 Value.none)
  refine Zch hT cQ h3 (h _ ⟨aH,cF,oe,vs,?_,hc,bX,hd,aU,.inr ⟨T,_,_,h1,cN,eB,dF,Zbl _ hT (Zb6 dT),dT,by simpa using h3⟩⟩ (Qo4 eB dF))
  rw [Zau _ _ cN]
  exact he
theorem Qv0 (bx:A.frames=some (env::outer)) (hl:s.heap.FunFrames base (env::outer)) (hf:env.frame=some L) (fresh:∀ b,s.heap.objs.size≤b→H b=none) (hn:∀ b o,g.get? b=some o→b<s.heap.objs.size)
  (X:XObj H s.heap g e cls dx) (h:∀ h',XObj H h' g e cls dx→Raw (frs (env::outer)) g H s.heap h'→Q () { s with heap:=h' }) :
  wpAny M A (leaving env (.ref e)) Q E s:=by
 unfold leaving
 exact Za (Qqk bx hl hf fresh hn X fun h1 x1 r1=>Qh7 x1 fun h2 x2 r2=>h h2 x2 (r1.trans r2))
end
noncomputable def CXE (P:Fu) (w:Ft):CXT:=fun outer H s E e s'=>∃ a cls dx H',e=.ref a∧s'.os=s.os∧AllBare s'.gens∧Un (frs outer) [] H H' s.heap s'.heap∧HOk P w H' s'.heap∧XObj H' s'.heap s.heap a cls dx∧E cls dx H'
abbrev XR:=Fx→Option Fw→St→Hp→Prop
noncomputable def Qgl (X:Cx) (R:XR):Prop:=∀ (aa:List (Fw×Obj)) (σ:St) (H:Hp) (s:Fy) (e:Fx) (s':Fy),Inv X aa σ H s→CXE X.prog X.w X.stack H s (fun cls dx H'=>R cls dx σ H') e s'→X.xe e s'
section
variable {P:Fu} {w:Ft} {H H0:Hp} {h h' h0 g:Fq} {fs eS:List Fw}
theorem Raw.hok (r:Raw fs g H h h') (ok:HOk P w H h) (hf:∀ b∈fs,H b=none):HOk P w H h':=fun a o e=>by
 have ht:∀ b u,H b=some u→((∃ u,g.get? b=some u)∨H b≠none)∧b∉fs:=fun b u q=>⟨.inr (by rw [q];simp),fun z=>by rw [hf b z] at q;cases q⟩
 refine (ok a o e).stay (fun b u hb q=>?_) (fun _ q=>q) fun _ _ q=>q
 rcases hb with rfl | hb
 ·exact r.keep _ u q (ht _ _ e).1 (ht _ _ e).2
 ·exact r.keep _ u q (ht _ _ hb).1 (ht _ _ hb).2
theorem Raw.un (r:Raw eS g H h h') (u:Un fs [] H0 H h0 h) (hg:∀ b o,h0.get? b=some o→∃ v,g.get? b=some v) (hs:∀ b∈eS,b∈fs∨h0.objs.size≤b):Un fs [] H0 H h0 h' where
 keep:=fun b o e n hb hx=>r.keep b o (u.keep b o e n hb hx) (.inl (hg b o e)) fun z=>by
  rcases hs b z with z | z
  ·exact hb z
  ·exact absurd (Zs (Zj e) z) (Zas _)
 slot:=fun b o e n hb hx=>by
  obtain ⟨sl,q⟩:=u.slot b o e n hb hx
  obtain ⟨bV,q'⟩:=r.slot b _ q (.inl (hg b o e))
  exact ⟨bV,q'⟩
 free:=u.free
 there:=fun b o e hx=>by
  obtain ⟨o',q⟩:=u.there b o e hx
  obtain ⟨bV,q'⟩:=r.slot b _ q (.inl (hg b o e))
  exact ⟨_,q'⟩
 tups:=u.tups
 frzs:=u.frzs
 tbls:=u.tbls
theorem XObj.mono {e:Fw} {cls:Fx} {dx:Option Fw} {g':Fq} (x:XObj H h g e cls dx) (hg:∀ b o,g'.get? b=some o→∃ v,g.get? b=some v):XObj H h g' e cls dx:=by
 have nn:∀ b,g.get? b=none→g'.get? b=none:=fun b q=>by
  cases z:g'.get? b with
  | none=>rfl
  | some o =>
   obtain ⟨v,q'⟩:=hg b o z
   rw [q] at q';cases q'
 obtain ⟨h1,h2,oe,vs,a1,a2,a3,a4,a5,a6⟩:=x
 refine ⟨nn _ h1,h2,oe,vs,a1,a2,a3,a4,a5,a6.imp (fun z=>z) fun ⟨T,oT,ts,b1,b2,b3,b4⟩=>⟨T,oT,ts,b1,b2,nn _ b3,b4⟩⟩
end
section
variable {X:Cx} {aa:List (Fw×Obj)} {σ:St} {H H':Hp} {s s':Fy} {e:Fw} {cls:Fx} {dx:Option Fw}
theorem Inv.thrown (I:Inv X aa σ H s) (os:s'.os=s.os) (bare:AllBare s'.gens) (un:Un (frs X.stack) [] H H' s.heap s'.heap) (hok:HOk X.prog X.w H' s'.heap):Inv X aa σ H' s' :=
 I.call' (ch:=[]) os un hok bare fun b z=>absurd z (by simp)
end
theorem Qab7 {g:Str→Bool} {P:Fu} {w:Ft} {K:Fz} {mg:Str→Option Fx} {base:Fq} {N:List Str} {qual:Str} {scope:Scope} {f:Fw} {cd:Fx} {A:Fv} {outer:List Env} {s0:Fy} {H0:Hp} {E:XK} :
  Qgl (Qhu g (CXE P w) P w K mg base N qual scope f cd A outer s0 H0 E) (fun cls dx _ H=>E cls dx H):=by
 intro aa σ H s e s' I h
 obtain ⟨a,cls,dx,H',rfl,os,bare,un,hok,xo,hE⟩:=h
 have J:=I.thrown os bare un hok
 show wpAny _ _ (leaving _ _) _ _ _
 refine Qv0 (base:=base) (outer:=outer) J.ok.frames J.stack rfl (fun b hb=>J.hok.fresh hb) (fun b o q=>?_) xo fun h' x' r'=>?_
 ·obtain ⟨o',q'⟩:=un.there b o q (by simp)
  exact Zj q'
 ·have hg:∀ b o,s0.heap.get? b=some o→∃ v,s.heap.get? b=some v:=fun b o q=>I.base.there b o q (by intro z;exact absurd (show b∈([]:List Fw) from z) (by simp))
  refine ⟨a,cls,dx,H',rfl,J.os,J.bare,r'.un J.base hg (fun b hb=>?_),r'.hok hok J.stkFree,x'.mono hg,hE⟩
  rcases Z9.mp (J.stkSub b hb) with z | z
  ·rw [z];exact .inr J.ok.above
  ·exact .inl z
noncomputable def Qse (K:Fz) (mg:Str→Option Fx) (x:Str) (ae:Fx):Prop:=∃ f oc od fd aQ,mg x=some (.ref f)∧K.lookup f=some ⟨oc,od,.func fd,aQ⟩∧fd.code=ae
noncomputable def HasE (P:Fu) (w:Ft) (K:Fz) (mg:Str→Option Fx) (base:Fq) (x:Str) (ps:List Str) (k:Nat) (sp:Sp):Prop :=
 ∃ f fd,PySem.W.keepIn K (.ref f)=true∧mg x=some (.ref f)∧Binds K fd ps []∧FnOk P w K mg base (CXE P w) k f fd ps sp
section
variable {P:Fu} {w:Ft} {K:Fz} {mg:Str→Option Fx} {base:Fq}
theorem Q7x {g:Str→Bool} {x:Str} {st:Fs} {N ps:List Str} {k:Nat} {sp:Sp} (d:Dfn K mg x st) (S:FnScope N ps (Qg st)) (bd:Qai x st ps) (len:∀ vs H Q E,sp vs H Q E→vs.length=ps.length)
  (av:∀ (X:Cx) (f:Fw) (ae:Fx) (A:Fv) (outer:List Env) (s:Fy) (H:Hp) (vs:List V) (Q:VK) (E:XK),X=Qhu g (CXE P w) P w K mg base N x (Qg st) f ae A outer s H E→Qse K mg x ae→Qgl (Qhu g (CXE P w) P w K mg base N x (Qg st) f ae A outer s H E) (fun cls dx _ H=>E cls dx H) →
   Room k (A.deeper (envOfC x (Qg st) s.heap.objs.size f ae))→sp vs H Q E →
   ∃ t,QB (Qhu g (CXE P w) P w K mg base N x (Qg st) f ae A outer s H E) (Qbi st) t∧t { nx:=fun _ H'=>Q .non H',rt:=Q } (Qbl N vs) H):HasE P w K mg base x ps (k+1) sp:=by
 obtain ⟨f,fd,F,m⟩:=d.ex
 refine ⟨f,fd,F.kp,m,F.binds bd,?_⟩
 obtain ⟨oc,od,kV,az,pm,an,ae,ct,aQ,rfl,lk,aF⟩:=F.ex
 refine Q4q (g:=g) lk aF S len fun A outer s H vs Q E hr aZ=>?_
 obtain ⟨t,h,q⟩:=av _ f ae A outer s H vs Q E rfl ⟨f,_,_,_,_,m,lk,rfl⟩ Qab7 hr aZ
 exact ⟨t,h.h,q⟩
theorem HasE.mono {x:Str} {ps:List Str} {j k:Nat} {sp:Sp} (h:HasE P w K mg base x ps j sp) (hj:j≤k):HasE P w K mg base x ps k sp:=by
 obtain ⟨f,fd,a,b,c,d⟩:=h
 exact ⟨f,fd,a,b,c,d.mono hj⟩
end
noncomputable abbrev Qye (sp:Sp) (R:XR) (t:TA):TE:=fun σ H Q=>t σ H fun vs H1=>sp vs H1 Q (fun cls dx H2=>R cls dx σ H2)
section
variable {X:Cx} {x:Str} {ps:List Str} {k:Nat} {sp:Sp} {e:Fr} {es:List Fr} {t:TA} {p pos ah np:Pos} {R:XR}
theorem Qab8 (h:HasE X.prog X.w X.K X.mg X.base x ps k sp) (pz:Qgl X R) (hr:Room k X.A) (ha:QA X (e::es) t) (hg:Gl X x:=by rfl)
  (ay:(x==("__debug__" : Str))=false:=by decide) (he:starEach (e::es) X.env=(false,eval e X.env)::starEach es X.env:=by rfl) (aI:(backTo pos (starEach es X.env)).any (·.1)=false:=by rfl) :
  QE X (.Call (.Name x p) (e::es) [] pos) (Qye sp R t):=by
 obtain ⟨f,fd,kp,m,b,F⟩:=h
 refine ⟨fun aa s σ H Q I hq=>?_⟩
 refine Zb1 (Qhc I hg m ?_ ay)
 refine Zcz (h₀:=X.base) I.ok.mod.kin kp (thn (ha.h pos aa s σ H _ I hq) fun us s1 ⟨vs,H1,I1,r,q⟩=>⟨I1.kIn,?_⟩) he aI
 have hl:(us++[]).length=ps.length:=by rw [Za6,←r.length];exact F.len _ _ _ _ q
 have r2:Vals vs (us++[]):=by rw [Za6];exact r
 refine Zd8 (Zcw (F.run X.A X.stack s1 H1 ⟨us,[]⟩ (us++[]) vs Q _ hr I1.env0 (b s1 us I1.kIn hl) r2 q) fun rr s' bu=>?_)
 cases rr with
 | error ev=>exact pz aa σ H1 s1 ev s' I1 bu
 | ok fl =>
  cases fl with
  | ret u=>exact I1.after bu
  | next=>exact Zef bu
  | brk=>exact Zef bu
  | cont=>exact Zef bu
theorem q_sx {st:Fs} {t:TS} (h:QS X.nox st t):QS X st t:=⟨fun aa s σ H D I hw=>Za1 (h.h aa s σ H D (I.wish _) hw) (fun _ _ q=>q.unwish) fun _ _ z=>Zef z⟩
end
theorem Qyf {K:Fz} {h:Fq} {C:Fw} {bj:List Fx} {ax:String} (X:K.In h) (q:PySem.W.excIn K C bj ax=true) :
  ∃ bm N nm qn bs hdct sn sub ab col dd k0 k1 k2 k3 k5 mN,h.get? C=some (excClassObj nm qn C N bs bm hdct sn sub ab col dd k0 k1 k2 k3 k5 ax)∧h.Ns N mN∧mN "__init__" = none∧OwnTail h bj bm:=by
 unfold PySem.W.excIn at q
 split at q
 ·rename_i d0 c0 sl0 look
  split at q
  ·rename_i C' bm a0 a1 a2 a3 fE a5 eqm eqs
   simp only [Zt,Zdi,Bool.not_eq_true'] at q
   obtain ⟨⟨⟨⟨⟨rfl,rfl⟩,q1⟩,q2⟩,q3⟩,q4⟩:=q
   obtain ⟨nm,bs,mro,ns,qn,hd,sn,sub,ab,col,del⟩:=c0
   dsimp only at eqm q1 q3 q4
   subst eqm q1
   obtain ⟨kJ⟩:=sl0
   simp only at eqs
   subst eqs
   exact ⟨bm,ns,nm,qn,bs,hd,sn,sub,ab,col,d0,a0,a1,a2,a3,a5,_,X _ _ look,.of_isNs (PySem.W.isNs_of_in X q3),PySem.W.nsMap_none_of_in X q3 q4,PySem.W.tail_of_in X q2⟩
  ·cases q
 ·cases q
section
variable {X:Cx} {x:Str} {e:Fr} {es:List Fr} {t:TA} {pos ah np:Pos} {R:XR} {C:Fw} {B ax dq:String} {bj:List Fx}
theorem Q2k (pz:Qgl X R) (hc:X.calm=true) (F:ExcBaseFacts B ax dq bj) (hC:PySem.W.excIn X.K C bj ax=true) (hm:X.mg x=some (.ref C)) (ha:QA X (e::es) t) (hg:Gl X x:=by rfl)
  (ay:(x==("__debug__" : Str))=false:=by decide) (he:starEach (e::es) X.env=(false,eval e X.env)::starEach es X.env:=by rfl) (aI:(backTo ah (starEach es X.env)).any (·.1)=false:=by rfl) :
  QS X (.Raise (some (.Call (.Name x np) (e::es) [] ah)) none pos) (fun _ σ H=>t σ H fun vs H1=>vs.length≤sizeLine∧R (.ref C) none σ H1):=by
 refine ⟨fun aa s σ H D I hw=>?_⟩
 obtain ⟨bm,N,nm,qn,bs,hdct,sn,sub,ab,col,dd,k0,k1,k2,k3,k5,mN,oC,oN,ni,TL⟩:=Qyf I.ok.mod.kin hC
 refine wpAny_Raise_call_subT (C:=C) (nm:=nm) (q:=qn) (N:=N) (bs:=bs) (bm:=bm) (hdct:=hdct) (sn:=sn) (sub:=sub) (ab:=ab) (col:=col) (dd:=dd) (k0:=k0) (k1:=k1) (k2:=k2) (k3:=k3) (k5:=k5) F (mN:=mN) (TL.hasType F.hasBase) (I.ok.hd hc) ?_ ni (Qhc I hg hm ⟨rfl,?_⟩ ay)
 ·rw [he]
  show (false||(backTo ah (starEach es X.env)).any (·.1))=false
  rw [aI];rfl
 ·have h2:=ha.h ah aa s σ H _ I hw
  rw [he] at h2 ⊢
  refine Calls.evalArgs_plain (Za1 h2 (fun us s2 ⟨vs,H1,I1,r,z,q⟩=>⟨rfl,by rw [←r.length];exact z,I1.bk _ _ oC,oN.keeps I1.bk,TL.keeps I1.bk,fun h' ea dM=>?_⟩) fun _ _ y=>y)
  have cF:H1 ea=none:=by
   cases z2:H1 ea with
   | none=>rfl
   | some o =>
    have:=I1.hok.lt z2
    have hk:∃ o',s2.heap.get? ea=some o':=by
     have ok:=I1.hok ea o z2
     cases o with
     | lst xs=>obtain ⟨_,_,_,_,e1⟩:=ok;exact ⟨_,e1⟩
     | tup xs=>obtain ⟨_,_,_,o,e1,_⟩:=ok;exact ⟨_,e1⟩
     | dK ag=>obtain ⟨_,_,_,_,o,_,_,e1,_⟩:=ok;exact ⟨_,e1⟩
     | dT ag=>obtain ⟨_,_,_,_,o,_,_,e1,_⟩:=ok;exact ⟨_,e1⟩
     | set S n=>obtain ⟨o,_,_,_,e1,_⟩:=ok;exact ⟨_,e1⟩
     | ins C dx fs=>obtain ⟨_,_,_,e1,_⟩:=ok;exact ⟨_,e1⟩
     | own y=>exact ok
     | xd fs=>obtain ⟨_,⟨_,_,_,e1,_⟩,_⟩:=ok;exact ⟨_,e1⟩
     | rng lo hi=>obtain ⟨_,_,_,e1⟩:=ok;exact ⟨_,e1⟩
     | frz ob u=>exact ⟨_,ok.1⟩
     | cod q=>obtain ⟨_,_,_,_,ec,e1,_⟩:=ok;cases ec;exact ⟨_,e1⟩
     | tbl q=>obtain ⟨_,e1,_⟩:=ok;exact ⟨_,e1⟩
     | _=>first | exact ok.2.1 | exact ⟨_,ok⟩ | (obtain ⟨_,e1,_⟩:=ok;exact ⟨_,e1⟩)
    obtain ⟨o',e1⟩:=hk
    rw [dM.new] at e1;cases e1
  obtain ⟨tt,ht,_,_⟩:=dM.there
  exact pz aa σ H1 s2 (.ref ea) { s2 with heap:=h' } I1 ⟨ea,.ref C,none,H1,rfl,rfl,I1.bare,Un.kept dM.keeps,I1.hok.kept dM.keeps,⟨dM.new,cF,_,_,ht,rfl,rfl,rfl,by simp,.inl rfl⟩,q⟩
end
structure RoomH (k:Nat) (A:Fv):Prop where
 dp:A.depth+3*k+5<recursionLimit
 un:A.units+16*k+200<cLine
theorem RoomH.deeper {k:Nat} {A:Fv} (r:RoomH (k+1) A) (env:Env):RoomH k (A.deeper env) :=
 ⟨by have:=r.dp;show A.depth+1+3*k+5<_;omega,by have:=r.un;show A.units+3+16*k+200<_;omega⟩
theorem RoomH.depth {k:Nat} {A:Fv} (r:RoomH k A):A.depth<recursionLimit:=by have:=r.dp;omega
theorem Room.mark {k:Nat} {A:Fv} (r:Room k A) (h:Option Fx):RoomH k (A.mark h):=⟨r.dp,r.un⟩
structure FnOkH (P:Fu) (w:Ft) (K:Fz) (mg:Str→Option Fx) (base:Fq) (CX:CXT) (k:Nat) (f:Fw) (fd:FuncData) (ps:List Str) (sp:Sp):Prop where
 len:∀ vs H Q E,sp vs H Q E→vs.length=ps.length
 run:∀ (A:Fv) (outer:List Env) (s:Fy) (H:Hp) (args:Args) (us:List Fx) (vs:List V) (Q:VK) (E:XK),RoomH k A→Env0 P w K mg base A outer s H→BindsTo s fd args (ps.zip us)→Vals vs us→sp vs H Q E →
  codeAny (model P w) A (.call (.ref f) args) (CR CX outer P w H s Q E) s
noncomputable def Qnz (CX:CXT) (P:Fu) (w:Ft) (K:Fz) (mg:Str→Option Fx) (base:Fq) (N:List Str) (qual:Str) (scope:Scope) (f:Fw) (cd:Fx) (A:Fv) (outer:List Env) (s:Fy) (H:Hp) (E:XK):Cx where
 prog:=P
 w:=w
 K:=K
 mg:=mg
 base:=base
 A:=A.deeper (envOfC qual scope s.heap.objs.size f cd)
 N:=N
 s₀:=s
 H₀:=H
 env:=envOfC qual scope s.heap.objs.size f cd
 outer:=outer
 stack:=envOfC qual scope s.heap.objs.size f cd::outer
 ex:=[]
 calm:=false
 fn:=fun _=>true
 pn:=[]
 xe:=fun e s'=>wpAny (model P w) (A.deeper (envOfC qual scope s.heap.objs.size f cd)) (leaving (envOfC qual scope s.heap.objs.size f cd) e) (fun _ de=>CX outer H s E e de) (fun e' de=>CX outer H s E e' de) s'
theorem Qsf {CX:CXT} {P:Fu} {w:Ft} {K:Fz} {mg:Str→Option Fx} {base:Fq} {N ps:List Str} {qual:Str} {scope:Scope} {f:Fw} {cd:Fx} {A:Fv} {outer:List Env} {s s1:Fy} {H:Hp} {E:XK} {us:List Fx} {vs:List V}
  (S:FnScope N ps scope) (e0:Env0 P w K mg base A outer s H) (hl:vs.length=ps.length) (r:Vals vs us)
  (x:InCallC s s.heap.objs.size (bindL (envOfC qual scope s.heap.objs.size f cd).kindOf (ps.zip us) fun _=>none) (cellsFrom (s.heap.objs.size+1) scope.names []) (bindC (envOfC qual scope s.heap.objs.size f cd).kindOf (ps.zip us) fun _=>none) s1) :
  Inv (Qnz CX P w K mg base N qual scope f cd A outer s H E) [] (Qbl N vs) H s1:=by
 have aI:ps.length≤N.length:=by have:=congrArg List.length S.pre;rw [Za4] at this;omega
 obtain ⟨h1,tk,rfl,hk⟩:=x.done
 have cw:∀ b:Fw,b∉(Qnz CX P w K mg base N qual scope f cd A outer s H E).ex:=fun b z=>absurd (show b∈([]:List Fw) from z) (by simp)
 refine ⟨⟨e0.mod,S.kind,rfl,rfl,Zk _,fun y z c h1 h2=>?_,fun y hy=>?_,fun y c _ h=>?_,fun z=>(Zm z).elim,Around.frames_deeper e0.frames,.inr ⟨rfl,rfl⟩,fun b z=>absurd z (cw b),e0.bs,e0.bsz,fun b _ _=>cw b,fun b z=>absurd z (cw b),e0.funs,e0.frf⟩,
  rfl,e0.bare,Un.kept hk,⟨_,x.toInCall.ns,fun i y v h1 h2 h3=>?_⟩,fun y c h=>⟨_,x.cell y c h⟩,e0.hok.fresh (Zk _),fun y c h=>?_,fun p hp=>absurd (show p∈([]:List (Fw×Obj)) from hp) (by simp),e0.hok.kept hk,?_⟩
 ·exact name_of_addr x.apart (Z2 h1) (Z2 h2)
 ·have hy:scope.names.lookup y=some .cell∨scope.names.lookup y=some .free:=hy
  rcases hy with hy | hy
  ·exact Qim hy
  ·exact absurd rfl (S.nofree _ (Z2 hy))
 ·exact Zcv (x.above y c (Z2 h))
 ·have hi:i<vs.length:=by
   unfold Qbl at h2
   by_cases hi:i<vs.length
   ·exact hi
   ·rw [Za5 (by simpa using hi),Zbj] at h2
    split at h2 <;> cases h2
  have ha:vs[i]?=some v:=by
   unfold Qbl at h2
   rw [List.getElem?_append_left (by simpa using hi),Zab] at h2
   cases e:vs[i]? with
   | none=>rw [e] at h2;cases h2
   | some a=>rw [e] at h2;cases h2;rfl
  obtain ⟨u,hu,rv⟩:=r.get ha
  have hp:ps[i]?=some y:=by
   rw [←S.pre,List.getElem?_take_of_lt (by omega)];exact h1
  have dP:ps.Nodup:=by rw [←S.pre];exact S.nd.sublist (List.take_sublist _ _)
  refine ⟨u,rv,?_⟩
  rcases S.par y (Z1 hp) with k | k
  ·exact .inl ⟨k,Qjp dP hp hu k⟩
  ·obtain ⟨c,e⟩:=Qim (n:=s.heap.objs.size+1) k
   refine .inr ⟨.inl k,c,e,?_⟩
   have q:=x.cell y c e
   rw [Qjq dP hp hu (by show scope.names.lookup y≠_;rw [k];decide)] at q
   exact q
 ·exact .inl (e0.hok.fresh (Zcv (x.above y c (Z2 h))))
 ·unfold Qbl
  show _=N.length
  rw [Zo,Zd,Zag]
  omega
theorem Q7y {CX:CXT} {P:Fu} {w:Ft} {K:Fz} {mg:Str→Option Fx} {base:Fq} {k:Nat} {f:Fw} {name qual:Str} {params:Arguments} {body:List Fs} {scope:Scope} {dV kV az pm ae ct oc:Fx} {an od:Option Fw}
  {aQ:Array (Option Fx)} {N ps:List Str} {sp:Sp} (lk:K.lookup f=some ⟨oc,od,.func (PySem.W.fnOf name qual params body scope dV kV az pm an ae ct),aQ⟩) (aF:PySem.W.codeIn K ae qual=true) (S:FnScope N ps scope)
  (len:∀ vs H Q E,sp vs H Q E→vs.length=ps.length)
  (av:∀ (A:Fv) (outer:List Env) (s:Fy) (H:Hp) (vs:List V) (Q:VK) (E:XK),RoomH k (A.deeper (envOfC qual scope s.heap.objs.size f ae))→sp vs H Q E →
   ∃ t,PSs (Qnz CX P w K mg base N qual scope f ae A outer s H E) body t∧t { nx:=fun _ H'=>Q .non H',rt:=Q } (Qbl N vs) H) :
  FnOkH P w K mg base CX (k+1) f (PySem.W.fnOf name qual params body scope dV kV az pm an ae ct) ps sp:=by
 refine ⟨len,fun A outer s H args us vs Q E hr e0 hb r aZ=>?_⟩
 have hl:=len _ _ _ _ aZ
 have KX:K.In s.heap:=e0.mod.kin.keeps fun b o e=>(e0.bs b o e).1
 have f8:s.heap.NoLimit:=e0.mod.nolimit.keeps fun b o e=>(e0.bs b o e).1
 have bK:∀ y∈ps.zip us,scope.names.lookup y.1=some .local∨(scope.names.lookup y.1=some .cell∧((cellsFrom (s.heap.objs.size+1) scope.names []).lookup y.1).isSome=true):=fun ⟨n,v⟩ hy=>by
  rcases S.par n (List.of_mem_zip hy).1 with q | q
  ·exact .inl q
  ·exact .inr ⟨q,Za3 _ _ _ (.inl q)⟩
 refine Zdx hr.depth (KX _ _ lk) rfl S.co S.gen rfl (PySem.W.codeRec_of KX aF) (hb _ _ _ _ ?_)
 refine Zc3 S.kind bK fun env he s1 x=>?_
 subst he
 refine ⟨f8.keeps x.toInCall.keep,codeAny_func ?_⟩
 obtain ⟨t,ht,hq⟩:=av A outer s H vs Q E (hr.deeper _) aZ
 have I:Inv (Qnz CX P w K mg base N qual scope f ae A outer s H E) [] (Qbl N vs) H s1:=Qsf S e0 hl r x
 refine Za1 (ht [] s1 (Qbl N vs) H _ I hq) (fun fl s' hs=>?_) fun e s' hs=>hs
 have fin:∀ {σ':St} {H':Hp} {v:V} {u:Fx},Inv (Qnz CX P w K mg base N qual scope f ae A outer s H E) [] σ' H' s'→RelV v u→Q v H'→CE outer P w H s Q u s' :=
  fun {σ' H' v u} J rv q=>⟨v,H',J.os,J.bare,J.base,J.hok,rv,q⟩
 cases fl with
 | ret u =>
  obtain ⟨v,σ',H',J,rv,q⟩:=hs
  exact fin J rv q
 | next =>
  obtain ⟨σ',H',J,q⟩:=hs
  exact fin (v:=V.non) (u:=Value.none) J rfl q
 | brk =>
  obtain ⟨_,_,_,q⟩:=hs
  exact Zef q
 | cont =>
  obtain ⟨_,_,_,q⟩:=hs
  exact Zef q
section
variable {X:Cx} {aa p2:List (Fw×Obj)} {σ σ0:St} {H H0:Hp} {s s0:Fy} {h':Fq} {R:XR}
theorem Inv.ns_in (I:Inv X aa σ H s):∃ o,s.heap.get? X.env.locals=some o:=by
 obtain ⟨m,⟨o,_,_,ho,_⟩,_⟩:=I.loc
 exact ⟨o,ho⟩
theorem Inv.cell_in (I:Inv X aa σ H s) {x:Str} {c:Fw} (e:X.env.cells.lookup x=some c):∃ o,s.heap.get? c=some o:=by
 obtain ⟨v,o,ho,_⟩:=I.cell x c e
 exact ⟨o,ho⟩
theorem Inv.old_in (I:Inv X aa σ H s) {b:Fw} {o:Obj} (e:X.s₀.heap.get? b=some o) (hx:b∉X.ex):∃ v,s.heap.get? b=some v:=I.base.there b o e hx
theorem Inv.raw (I:Inv X aa σ H s) (I0:Inv X aa σ0 H0 s0) (r:Raw (frs X.stack) s0.heap H s.heap h'):Inv X aa σ H { s with heap:=h' }:=by
 have sub:∀ b,b∉X.fs→b≠X.env.locals→b∉frs X.stack:=fun b h1 h2 z=>(Z9.mp (I.stkSub b z)).elim h2 h1
 have bf:∀ x c v,X.env.cells.lookup x=some c→s.heap.IsCell c v→h'.IsCell c v:=fun x c v e ⟨o,ho,hd⟩=>by
  obtain ⟨sl,q⟩:=r.slot c o ho (.inl (I0.cell_in e))
  exact ⟨_,q,hd⟩
 refine ⟨I.ok,I.os,I.bare,⟨fun b o e n hb hx=>?_,fun b o e n hb hx=>?_,I.base.free,fun b o e hx=>?_,I.base.tups,I.base.frzs,I.base.tbls⟩,?_,fun x c e=>?_,I.free,I.freeC,fun p hp=>?_,r.hok I.hok I.stkFree,I.len⟩
 ·refine r.keep b o (I.base.keep b o e n hb hx) (.inl (I0.old_in e hx)) (sub b hb ?_)
  exact Zw (Zs (Zj e) I.ok.above)
 ·obtain ⟨sl,q⟩:=I.base.slot b o e n hb hx
  obtain ⟨bV,q'⟩:=r.slot b _ q (.inl (I0.old_in e hx))
  exact ⟨bV,q'⟩
 ·obtain ⟨o',q⟩:=I.base.there b o e hx
  obtain ⟨bV,q'⟩:=r.slot b _ q (.inl (I0.old_in e hx))
  exact ⟨_,q'⟩
 ·obtain ⟨m,⟨o,es,ep,ho,rest⟩,hl⟩:=I.loc
  obtain ⟨sl,q⟩:=r.slot _ o ho (.inl I0.ns_in)
  refine ⟨m,⟨_,es,ep,q,rest⟩,fun i x v e1 e2 e3=>?_⟩
  obtain ⟨u,rv,l⟩:=hl i x v e1 e2 e3
  refine ⟨u,rv,?_⟩
  rcases l with l | ⟨k,c,e,z⟩
  ·exact .inl l
  ·exact .inr ⟨k,c,e,bf x c _ e z⟩
 ·obtain ⟨v,z⟩:=I.cell x c e
  exact ⟨v,bf x c v e z⟩
 ·obtain ⟨e,n,ne,nf,d⟩:=I.pin p hp
  exact ⟨r.keep p.1 p.2 e (.inl ⟨_,(I0.pin p hp).1⟩) (sub _ nf ne),n,ne,nf,d⟩
noncomputable def Qsg (a:Fw) (cls:Fx) (dx:Option Fw):HO:=.ext fun h=>∃ o vs,h.get? a=some o∧o.cls=cls∧o.dict=dx∧o.data=.fields vs
theorem Inv.track {a:Fw} {cls:Fx} {dx:Option Fw} (I:Inv X aa σ H s) (I0:Inv X aa σ0 H0 s0) (x:XObj H s.heap s0.heap a cls dx):Inv X aa σ (upd H a (Qsg a cls dx)) s:=by
 obtain ⟨hn,hH,oe,vs,he,hc,bX,hd,_⟩:=x
 have ne:∀ b o,s0.heap.get? b=some o→b≠a:=fun b o e z=>by rw [z,hn] at e;cases e
 have dC:∀ b u,H b=some u→b≠a:=fun b u e z=>by rw [z,hH] at e;cases e
 obtain ⟨oL,hL⟩:=I0.ns_in
 refine ⟨I.ok,I.os,I.bare,⟨I.base.keep,I.base.slot,fun b o e n hx=>?_,I.base.there,fun b xs e=>?_,fun b o u e=>?_,fun b ps e=>?_⟩,I.loc,I.cell,?_,fun x c e=>?_,fun p hp=>?_,fun b u e=>?_,I.len⟩
 ·obtain ⟨v,q⟩:=I0.old_in e hx
  rw [Q7 (ne _ _ q)]
  exact I.base.free b o e n hx
 ·have q:=I.base.tups b xs e
  rw [Q7 (dC _ _ q)];exact q
 ·have q:=I.base.frzs b o u e
  rw [Q7 (dC _ _ q)];exact q
 ·have q:=I.base.tbls b ps e
  rw [Q7 (dC _ _ q)];exact q
 ·rw [Q7 (ne _ _ hL)];exact I.free
 ·obtain ⟨o,q⟩:=I0.cell_in e
  rw [Q7 (ne _ _ q)];exact I.freeC x c e
 ·obtain ⟨e,n,r⟩:=I.pin p hp
  exact ⟨e,by rw [Q7 (ne _ _ (I0.pin p hp).1)];exact n,r⟩
 ·by_cases hb:b=a
  ·subst hb
   rw [Qn] at e
   cases e
   refine ⟨⟨oe,vs,he,hc,bX,hd⟩,⟨oe,he⟩,fun h1 h2 ⟨o,dw,q,r1,r2,r3⟩ k=>⟨o,dw,k o q,r1,r2,r3⟩⟩
  ·rw [Q7 hb] at e
   exact (I.hok b u e).stay (fun _ _ _ q=>q) (fun c q=>by rw [Q7 (dC _ _ q)];exact q) (fun c xs q=>by rw [Q7 (dC _ _ q)];exact q) fun c xs q=>by rw [Q7 (dC _ _ q)];exact q
noncomputable def Qlt (X:Cx) (aa:List (Fw×Obj)) (R:XR):Cx:={ X with
 pn:=X.pn++aa
 xe:=fun e s'=>∃ a cls dx σ' H' H1 s1,e=.ref a∧Inv X aa σ' H1 s1∧Inv X aa σ' H' s'∧XObj H' s'.heap s1.heap a cls dx∧(∀ b o,s1.heap.get? b=some o→b<s'.heap.objs.size)∧R cls dx σ' H' }
theorem Inv.toTry (I:Inv X aa σ H s):Inv (Qlt X aa R) [] σ H s :=
 ⟨⟨I.ok.mod,I.ok.kind,I.ok.glob,I.ok.blt,I.ok.above,I.ok.inj,I.ok.has,I.ok.cab,I.ok.hd,I.ok.frames,I.ok.stk,I.ok.exf,I.ok.bs,I.ok.bsz,I.ok.noex,I.ok.exfs,I.ok.funs,I.ok.frf⟩,
  I.os,I.bare,I.base,I.loc,I.cell,I.free,I.freeC,fun p hp=>I.pin p (by rw [Za6] at hp;exact hp),I.hok,I.len⟩
theorem Inv.ofTry (I:Inv (Qlt X aa R) p2 σ H s):Inv X aa σ H s :=
 ⟨⟨I.ok.mod,I.ok.kind,I.ok.glob,I.ok.blt,I.ok.above,I.ok.inj,I.ok.has,I.ok.cab,I.ok.hd,I.ok.frames,I.ok.stk,I.ok.exf,I.ok.bs,I.ok.bsz,I.ok.noex,I.ok.exfs,I.ok.funs,I.ok.frf⟩,
  I.os,I.bare,I.base,I.loc,I.cell,I.free,I.freeC,fun p hp=>I.pin p (Zax _ hp),I.hok,I.len⟩
theorem Q2l:Qgl (Qlt X aa R) R:=by
 intro p2 σ H s e s' I h
 obtain ⟨a,cls,dx,H',rfl,os,bare,un,hok,xo,hR⟩:=h
 have J:=I.thrown os bare un hok
 refine ⟨a,cls,dx,σ,H',H,s,rfl,I.ofTry,J.ofTry,xo,fun b o q=>?_,hR⟩
 obtain ⟨o',q'⟩:=un.there b o q (by simp)
 exact Zj q'
noncomputable def Qlu (X:Cx) (aa:List (Fw×Obj)) (e:Fw):Cx:={ X with A:=X.A.mark (some (.ref e)),calm:=false,pn:=X.pn++aa,xe:=fun _ _=>False }
theorem Inv.toHan {e:Fw} (I:Inv X aa σ H s):Inv (Qlu X aa e) [] σ H s :=
 ⟨⟨I.ok.mod,I.ok.kind,I.ok.glob,I.ok.blt,I.ok.above,I.ok.inj,I.ok.has,I.ok.cab,fun z=>(Zm z).elim,I.ok.frames,I.ok.stk,I.ok.exf,I.ok.bs,I.ok.bsz,I.ok.noex,I.ok.exfs,I.ok.funs,I.ok.frf⟩,
  I.os,I.bare,I.base,I.loc,I.cell,I.free,I.freeC,fun p hp=>I.pin p (by rw [Za6] at hp;exact hp),I.hok,I.len⟩
theorem Inv.ofHan {e:Fw} (I:Inv (Qlu X aa e) p2 σ H s) (ok:X.Ok):Inv X aa σ H s :=
 ⟨ok,I.os,I.bare,I.base,I.loc,I.cell,I.free,I.freeC,fun p hp=>I.pin p (Zax _ hp),I.hok,I.len⟩
end
section
variable {X:Cx} {aa:List (Fw×Obj)} {σ:St} {H:Hp} {s:Fy} {M:Model} {A:Fv} {E:Fx→Fy→Prop} {Q:Unit→Fy→Prop} {i:Nat} {x:Str} {v:V}
theorem Qv1 (I:Inv X aa σ H s) (hN:X.N.Nodup) (hi:X.N[i]?=some x) (hl:X.env.scope.names.lookup x=some .local) (hv:σ[i]?=some (some v)) (h:∀ s',Inv X aa (σ.set i none) H s'→Q () s'):wpAny M A (unbindName X.env x) Q E s:=by
 obtain ⟨m,hn,hm⟩:=id I.loc
 have bE:(X.env.scope.kind==.class||(X.env.scope.kind==.module&&X.env.locals != X.env.globals))=false:=by rw [I.ok.kind];rfl
 obtain ⟨u,_,lk⟩:=hm i x v hi hv (.inl hl)
 have mv:m x=some u:=by
  rcases lk with ⟨_,e⟩ | ⟨k,_⟩
  ·exact e
  ·rcases k with k | k
   ·have k:X.env.scope.names.lookup x=some .cell:=k
    rw [hl] at k;cases k
   ·have k:X.env.scope.names.lookup x=some .free:=k
    rw [hl] at k;cases k
 obtain ⟨oL,_,_,iq,_⟩:=id hn
 refine wpAny_unbindName_local hl hn mv bE fun h' u' dO hs=>h _ ?_
 have dA:∀ b o,X.s₀.heap.get? b=some o→h'.get? b=s.heap.get? b:=fun b o e=>hs.2 b (Zw (Zs (Zj e) I.ok.above))
 have aA:HOk X.prog X.w H h':=fun b ob e=>by
  refine (I.hok b ob e).stay (fun c w' hc q=>(hs.2 c ?_).trans q) (fun _ q=>q) fun _ _ q=>q
  rintro rfl
  rcases hc with rfl | hc
  ·rw [I.free] at e;cases e
  ·rw [I.free] at hc;cases hc
 refine ⟨I.ok,I.os,I.bare,⟨fun b o e n hb hx=>(dA b o e).trans (I.base.keep b o e n hb hx),fun b o e n hb hx=>?_,I.base.free,fun b o e hx=>?_,I.base.tups,I.base.frzs,I.base.tbls⟩,⟨_,dO,fun j y v' e1 e2 e3=>?_⟩,fun y c e=>?_,I.free,I.freeC,fun p hp=>?_,aA,by simpa using I.len⟩
 ·obtain ⟨sl,e1⟩:=I.base.slot b o e n hb hx
  exact ⟨sl,(dA b o e).trans e1⟩
 ·obtain ⟨o',e1⟩:=I.base.there b o e hx
  exact ⟨o',(dA b o e).trans e1⟩
 ·have hj:j≠i:=fun z=>by
   have aN:i<σ.length:=(List.getElem?_eq_some_iff.mp hv).1
   rw [z,Zbp aN] at e2
   cases e2
  rw [Zcb (Zcf hj)] at e2
  obtain ⟨u2,r2,q⟩:=hm j y v' e1 e2 e3
  refine ⟨u2,r2,?_⟩
  rcases q with ⟨k,e⟩ | ⟨k,c,e,z⟩
  ·refine .inl ⟨k,?_⟩
   have:y≠x:=fun e=>hj (Qln hN e1 (e ▸ hi))
   simp [this,e]
  ·exact .inr ⟨k,c,e,z.sameBut hs (I.cne y c e)⟩
 ·obtain ⟨w',z⟩:=I.cell y c e
  exact ⟨w',z.sameBut hs (I.cne y c e)⟩
 ·obtain ⟨e,n,ne,nf,d⟩:=I.pin p hp
  exact ⟨(hs.2 p.1 ne).trans e,n,ne,nf,d⟩
end
theorem Qsh {K:Fz} {M:Model} {A:Fv} {E:Fx→Fy→Prop} {h:Fq} {g:Array GenState} {d:Drawn} {t:Nat} {os:OsState} {e C0 C1:Fw} {oe:Obj} {bj:List Fx} {ax:String} {Q:Bool→Fy→Prop} (X:K.In h)
  (q0:PySem.W.excIn K C0 bj ax=true) (hb:bj.contains (.type "BaseException")=true) (q1:PySem.W.mroIn K C1 (.ref C0)=some true) (he:h.get? e=some oe) (bE:oe.cls=.ref C1) (hq:Q true ⟨h,g,d,t,os⟩) :
  wpAny M A (excMatches (.ref e) (.ref C0)) Q E ⟨h,g,d,t,os⟩:=by
 obtain ⟨bm,N,nm,qn,bs,hdct,sn,sub,ab,col,dd,k0,k1,k2,k3,k5,mN,oC,oN,ni,TL⟩:=Qyf X q0
 have cB:(Value.ref C0::bm).contains (.type "BaseException")=true:=by rw [List.contains_cons,TL.hasType hb,Bool.or_true]
 have L1:=PySem.W.looks_mroIn (M:=M) X q1
 have f:=tc_notTuple
 unfold excMatches
 repeat (first | (with_reducible refine wpAny_loadPart_at he ?_;rw [bE]) | with_reducible refine wpAny_loadPart_at oC ?_ | with_reducible refine L1.at ?_ | (with_reducible refine wpAny_isSubtype_exc oC ?_;rw [cB]) | wp_step)
 exact hq
noncomputable def tTry (i:Nat) (K:Fz) (C0:Fw) (tb:XR→TS) (th:TS):TS:=fun D σ H=>∃ R:XR,tb R D σ H∧∀ cls dx σ' H' a,R cls dx σ' H'→H' a=none→σ'.length=σ.length →
 (∃ C1,cls=.ref C1∧PySem.W.mroIn K C1 (.ref C0)=some true)∧th { nx:=fun σ2 H2=>D.nx (σ2.set i none) H2,rt:=D.rt,bk:=fun σ2 H2=>D.bk (σ2.set i none) H2,ct:=fun σ2 H2=>D.ct (σ2.set i none) H2 } (σ'.set i (some (.ref a))) (upd H' a (Qsg a cls dx))
section
variable {X:Cx} {body aM:List Fs} {b0:Fs} {x n:Str} {np bz pos:Pos} {tb:XR→TS} {th:TS} {i:Nat} {C0:Fw} {bj:List Fx} {ax:String}
theorem Qacb (hb:∀ (aa:List (Fw×Obj)) (R:XR),Qgl (Qlt X aa R) R→QB (Qlt X aa R) body (tb R)) (hs:∀ (aa:List (Fw×Obj)) (e:Fw),QB (Qlu X aa e) (b0::aM) th)
  (hN:X.N.Nodup) (hC:PySem.W.excIn X.K C0 bj ax=true) (hB:bj.contains (.type "BaseException")=true) (hm:X.mg x=some (.ref C0)) (hi:X.N[i]?=some n:=by rfl) (hl:X.env.scope.names.lookup n=some .local:=by rfl) (hg:Gl X x:=by rfl)
  (bn:∃ env outer L,X.stack=env::outer∧X.env=env∧env.frame=some L:=by exact ⟨_,_,_,rfl,rfl,rfl⟩)
  (ay:(x==("__debug__" : Str))=false:=by decide):QS X (.Try body [.ExceptHandler (some (.Name x np)) (some n) (b0::aM) bz] [] [] pos) (tTry i X.K C0 tb th):=by
 refine ⟨fun aa s σ H D I hw=>?_⟩
 obtain ⟨R,jW,jz⟩:=hw
 obtain ⟨env0,outer,L,bw,eC,jg⟩:=bn
 have cC:=(hb aa R Q2l).h [] s σ H D I.toTry jW
 refine wpAny_Try_except (Za1 cC (fun f s1 q=>?_) fun ev s1 q=>?_)
 ·have q':SP X aa D f s1:=by
   cases f with
   | next=>obtain ⟨σ',H',J,z⟩:=q;exact ⟨σ',H',J.ofTry,z⟩
   | brk=>obtain ⟨σ',H',J,z⟩:=q;exact ⟨σ',H',J.ofTry,z⟩
   | cont=>obtain ⟨σ',H',J,z⟩:=q;exact ⟨σ',H',J.ofTry,z⟩
   | ret u=>obtain ⟨v,σ',H',J,r,z⟩:=q;exact ⟨v,σ',H',J.ofTry,r,z⟩
  cases f with
  | next=>exact Zcc q'
  | brk=>exact q'
  | cont=>exact q'
  | ret u=>exact q'
 ·obtain ⟨a,cls,dx,σ',H',H1,s2,rfl,I0,J,xo,aN,hR⟩:=q
  have jA:X.A.frames=some (env0::outer):=by rw [J.ok.frames,bw]
  have iB:s1.heap.FunFrames X.base (env0::outer):=by rw [←bw];exact J.stack
  rw [←bw] at iB
  rw [eC]
  refine Qqk (base:=X.base) (outer:=outer) jA (by rw [←bw];exact iB) jg (fun b hb=>J.hok.fresh hb) aN xo fun h3 x3 r3=>?_
  rw [←bw] at r3
  have J3:=J.raw I0 r3
  refine Qh7 (s:={ s1 with heap:=h3 }) (fs:=frs X.stack) x3 fun h4 x4 r4=>?_
  have J4:=J3.raw I0 r4
  obtain ⟨⟨C1,rfl,fm⟩,cY⟩:=jz cls dx σ' H' a hR x4.2.1 (J.len.trans I.len.symm)
  obtain ⟨hn,hH,oe,vs,he,hc,bX,hd,_⟩:=id x4
  rw [←eC]
  have ld:∀ (E':Fx→Fy→Prop) (Q':Fx→Fy→Prop),Q' (.ref C0) { s1 with heap:=h4 }→wpAny (model X.prog X.w) (X.A.mark (some (.ref a))) (eval (.Name x np) X.env) Q' E' { s1 with heap:=h4 }:=fun E' Q' hq=>Qhc (X:=Qlu X aa a) (J4.toHan) hg hm hq ay
  refine wpAny_handleBy_cons (codeAny_handlers_test (ld _ _ (Qsh (h:=h4) J4.kIn hC hB fm he hc ?_))) (by intro z;cases z)
  refine codeAny_handlers_suite_as ?_
  refine Qh7 (s:={ s1 with heap:=h4 }) (fs:=frs X.stack) x4 fun h5 x5 r5=>?_
  have J5:=J4.raw I0 r5
  have J6:=J5.track I0 x5
  refine Qfp (X:=Qlu X aa a) J6.toHan hN hi (.inl hl) (v:=.ref a) rfl (fun s6 I6=>?_) (.inr hl)
  refine Za1 ((hs aa a).h [] s6 _ _ _ I6 cY) (fun f s7 q7=>?_) fun _ _ z=>Zef z
  have fin:∀ {σ7:St} {H7:Hp} {P:Prop},Inv (Qlu X aa a) [] σ7 H7 s7→(∀ s9,Inv X aa (σ7.set i none) H7 s9→SP X aa D f s9) →
    wpAny (model X.prog X.w) X.A (do bindName X.env n .none;unbindBehindTheSuite X.env n bz) (fun _ s9=>SP X aa D f s9) X.xe s7:=fun {σ7 H7 P} I7 k=>by
   have K7:=I7.ofHan I.ok
   have aj:i<σ7.length:=by
    rw [K7.len]
    exact (List.getElem?_eq_some_iff.mp hi).1
   refine Za (Zd2 (Qfp K7 hN hi (.inl hl) (v:=.non) rfl (fun s8 I8=>?_) (.inr hl)))
   unfold unbindBehindTheSuite
   refine Zcl (Qv1 I8 hN hi hl (v:=.non) (Zbp aj) fun s9 I9=>k s9 ?_)
   rw [set_set] at I9
   exact I9
  cases f with
  | next =>
   obtain ⟨σ7,H7,I7,z⟩:=q7
   exact fin (P:=True) I7 fun s9 I9=>⟨_,_,I9,z⟩
  | brk =>
   obtain ⟨σ7,H7,I7,z⟩:=q7
   exact fin (P:=True) I7 fun s9 I9=>⟨_,_,I9,z⟩
  | cont =>
   obtain ⟨σ7,H7,I7,z⟩:=q7
   exact fin (P:=True) I7 fun s9 I9=>⟨_,_,I9,z⟩
  | ret u =>
   obtain ⟨v,σ7,H7,I7,r,z⟩:=q7
   exact fin (P:=True) I7 fun s9 I9=>⟨v,_,_,I9,r,z⟩
end
end L2
namespace PySem.SeqAt
open PySem PySem.Spec PyProof PyProof.Rows
theorem sub_tuple_dict:isSubtype (.type "tuple") (.type "dict")=pure false:=by rw [Zd4];kernel_rfl
theorem sub_dict_tuple:isSubtype (.type "dict") (.type "tuple")=pure false:=by rw [Zd4];kernel_rfl
theorem sub_dict_dict:isSubtype (.type "dict") (.type "dict")=pure true:=by rw [Zd4];kernel_rfl
theorem dict_ne_declines_tuple (l b:Fw) (da:Data) (au:Array Fx) (n2:Nat) (dd aW:Option Fw) (sl aV:Array (Option Fx)) :
  Meets (Builtin.«dict.__ne__» ⟨[.ref l,.ref b],[]⟩) (fun _ R s=>s.heap.get? l=some { cls:=.type "dict",dict:=dd,data:=da,slots:=sl }∧s.heap.get? b=some { cls:=.type "tuple",dict:=aW,data:=.seq au n2,slots:=aV }∧R (.ok (.ret .notImplemented)) s) :=
 .of_wp fun prog w A R s h=>by obtain ⟨hp,g,d,tk,os⟩:=s;obtain ⟨hl,hb,h⟩:=h;have f1:=sub_tuple_dict;have f2:=sub_dict_dict;wp_walk using wpAny_loadPart' hl,wpAny_loadPart' hb;exact ⟨_,rfl,h⟩
theorem tuple_ne_declines_dict (l b:Fw) (da:Data) (items:Array Fx) (n:Nat) (dd aW:Option Fw) (sl aV:Array (Option Fx)) :
  Meets (Builtin.«tuple.__ne__» ⟨[.ref l,.ref b],[]⟩) (fun _ R s=>s.heap.get? l=some { cls:=.type "tuple",dict:=dd,data:=.seq items n,slots:=sl }∧s.heap.get? b=some { cls:=.type "dict",dict:=aW,data:=da,slots:=aV }∧R (.ok (.ret .notImplemented)) s) :=
 .of_wp fun prog w A R s h=>by obtain ⟨hp,g,d,tk,os⟩:=s;obtain ⟨hl,hb,h⟩:=h;have f1:=sub_dict_tuple;wp_walk using wpAny_loadPart' hl,wpAny_loadPart' hb;exact ⟨_,rfl,h⟩
theorem dict_eq_declines_tuple (l b:Fw) (da:Data) (au:Array Fx) (n2:Nat) (dd aW:Option Fw) (sl aV:Array (Option Fx)) :
  Meets (Builtin.«dict.__eq__» ⟨[.ref l,.ref b],[]⟩) (fun _ R s=>s.heap.get? l=some { cls:=.type "dict",dict:=dd,data:=da,slots:=sl }∧s.heap.get? b=some { cls:=.type "tuple",dict:=aW,data:=.seq au n2,slots:=aV }∧R (.ok (.ret .notImplemented)) s) :=
 .of_wp fun prog w A R s h=>by obtain ⟨hp,g,d,tk,os⟩:=s;obtain ⟨hl,hb,h⟩:=h;have f1:=sub_tuple_dict;have f2:=sub_dict_dict;wp_walk using wpAny_loadPart' hl,wpAny_loadPart' hb;exact ⟨_,rfl,h⟩
theorem tuple_eq_declines_dict (l b:Fw) (da:Data) (items:Array Fx) (n:Nat) (dd aW:Option Fw) (sl aV:Array (Option Fx)) :
  Meets (Builtin.«tuple.__eq__» ⟨[.ref l,.ref b],[]⟩) (fun _ R s=>s.heap.get? l=some { cls:=.type "tuple",dict:=dd,data:=.seq items n,slots:=sl }∧s.heap.get? b=some { cls:=.type "dict",dict:=aW,data:=da,slots:=aV }∧R (.ok (.ret .notImplemented)) s) :=
 .of_wp fun prog w A R s h=>by obtain ⟨hp,g,d,tk,os⟩:=s;obtain ⟨hl,hb,h⟩:=h;have f1:=sub_dict_tuple;wp_walk using wpAny_loadPart' hl,wpAny_loadPart' hb;exact ⟨_,rfl,h⟩
section
variable {A:Fv} {s:Fy}
theorem RcNeAt.dict_tuple {l b:Fw} {o:Obj} {au:Array Fx} (ho:s.heap.get? l=some o) (hc:o.cls=.type "dict") (hb:s.heap.IsTuple b au) (hu:A.units<cLine):RcNeAt A s (.ref l) (.ref b) true:=fun prog w E Q h=>by
 obtain ⟨⟨cR,aW,data2,aV⟩,aB,bJ,n2,bH⟩:=id hb
 obtain ⟨cls,dd,data,sl⟩:=o
 simp only at hc bJ bH
 subst hc bJ bH
 have aH:l≠b:=fun z=>by subst z;rw [ho] at aB;have e:(Value.type "dict")=.type "tuple" := congrArg (·.cls) (Zr aB);exact absurd e (by decide)
 exact (rc_ne_decline_or (k:=false) ⟨_,ho,rfl⟩ ⟨_,aB,rfl⟩ (by decide) sub_tuple_dict F.slot_dict_ne F.slot_tuple_ne_refl
  (fun _ hq=>Zbd F.slot_dict_ne ⟨_,ho,rfl⟩ F.entry_dict_ne (F.args_dict_ne_2 _ _) (dict_ne_declines_tuple l b data au n2 dd aW sl aV) ⟨ho,aB,hq⟩)
  (fun _ hq=>Zbd F.slot_tuple_ne_refl ⟨_,aB,rfl⟩ F.entry_tuple_ne (F.args_tuple_ne_2 _ _) (tuple_ne_declines_dict b l data au n2 aW dd aV sl) ⟨aB,ho,hq⟩)
  (fun _ hq=>Zdt aH ho aB (by simp) hq) (.inr hu) h)
theorem RcAt.dict_tuple {l b:Fw} {o:Obj} {au:Array Fx} (ho:s.heap.get? l=some o) (hc:o.cls=.type "dict") (hb:s.heap.IsTuple b au) (hu:A.units<cLine):RcAt A s (.ref l) (.ref b) false:=fun prog w E Q h=>by
 obtain ⟨⟨cR,aW,data2,aV⟩,aB,bJ,n2,bH⟩:=id hb
 obtain ⟨cls,dd,data,sl⟩:=o
 simp only at hc bJ bH
 subst hc bJ bH
 have aH:l≠b:=fun z=>by subst z;rw [ho] at aB;have e:(Value.type "dict")=.type "tuple" := congrArg (·.cls) (Zr aB);exact absurd e (by decide)
 exact (rc_eq_decline_or (k:=false) ⟨_,ho,rfl⟩ ⟨_,aB,rfl⟩ (by decide) sub_tuple_dict F.slot_dict_eq F.slot_tuple_eq_refl
  (fun _ hq=>Zbd F.slot_dict_eq ⟨_,ho,rfl⟩ F.entry_dict_eq (F.args_dict_eq_2 _ _) (dict_eq_declines_tuple l b data au n2 dd aW sl aV) ⟨ho,aB,hq⟩)
  (fun _ hq=>Zbd F.slot_tuple_eq_refl ⟨_,aB,rfl⟩ F.entry_tuple_eq (F.args_tuple_eq_2 _ _) (tuple_eq_declines_dict b l data au n2 aW dd aV sl) ⟨aB,ho,hq⟩)
  (fun _ hq=>Zdt aH ho aB (by simp) hq) (.inr hu) h)
end
end PySem.SeqAt
namespace L2
open PySem PySem.Spec PyProof.Rows
mutual
noncomputable def eqT:T→T→Bool
 | .non,.non=>true
 | .bl a,.bl b=>a==b
 | .int a,.int b=>a==b
 | .bl a,.int b=>(if a then 1 else 0)==b
 | .int a,.bl b=>a==(if b then 1 else 0)
 | .str a,.str b=>a==b
 | .tup a,.tup b=>eqL a b
 | .lst a,.lst b=>eqL a b
 | _,_=>false
noncomputable def eqL:List T→List T→Bool
 | [],[]=>true
 | x::xs,y::ys=>eqT x y&&eqL xs ys
 | _,_=>false
end
noncomputable def Qt:Nat→T→Bool
 | _,.non=>true
 | _,.bl _=>true
 | _,.int _=>true
 | _,.str _=>true
 | n+1,.tup ts=>ts.all (Qt n)
 | n+1,.lst ts=>ts.all (Qt n)
 | _,_=>false
theorem Qtw:eqL [] []=true:=by unfold eqL;rfl
theorem Qlv (x y:T) (xs ys:List T):eqL (x::xs) (y::ys)=(eqT x y&&eqL xs ys):=by rw [eqL]
theorem Qlc:∀ {xs ys:List T},xs.length≠ys.length→eqL xs ys=false
 | [],[],h=>absurd rfl h
 | [],_::_,_=>by unfold eqL;rfl
 | _::_,[],_=>by unfold eqL;rfl
 | x::xs,y::ys,h=>by rw [Qlv,Qlc (xs:=xs) (ys:=ys) (by simpa using h),Zd3]
theorem Qn0:∀ {xs ys:List T} {e:Nat→Bool},(∀ (j:Nat) a b,xs[j]?=some a→ys[j]?=some b→e j=eqT a b)→((List.range (min xs.length ys.length)).all e&&(xs.length==ys.length))=eqL xs ys
 | [],[],e,_=>by rw [Qtw];rfl
 | [],y::ys,e,_=>by rw [Qlc (by simp)];simp
 | x::xs,[],e,_=>by rw [Qlc (by simp)];simp
 | x::xs,y::ys,e,h=>by
  rw [Qlv,←Qn0 (xs:=xs) (ys:=ys) (e:=fun j=>e (j+1)) fun j a b p q=>h (j+1) a b p q,Ze,Ze,Nat.succ_min_succ,List.range_succ_eq_map,Zal,all_map,←h 0 x y rfl rfl,Bool.and_assoc]
  congr 2
  simp
theorem Q45 {H:Hp}:∀ (n:Nat) {v:V} {t t':T},Is H v t→Is H v t'→Qt n t=true→Qt n t'=true→eqT t t'=true:=by
 intro n
 induction n with
 | zero =>
  intro v t t' i j h h'
  cases t <;> first | (simp [Qt] at h;done) | skip
  all_goals (cases t' <;> first | (simp [Qt] at h';done) | skip)
  all_goals (unfold Is at i j;rw [i] at j;first | (cases j;simp [eqT];done) | cases j)
 | succ n ih =>
  intro v t t' i j h h'
  have go:∀ (ts us:List T) (vs:List V),IsL H vs ts→IsL H vs us→ts.all (Qt n)=true→us.all (Qt n)=true→eqL ts us=true:=by
   intro ts
   induction ts with
   | nil =>
    intro us vs q1 q2 _ _
    rw [q1.nil_inv] at q2
    cases us with
    | nil=>exact Qtw
    | cons y ys=>obtain ⟨_,_,z,_⟩:=q2.cons_inv;cases z
   | cons x xs ihx =>
    intro us vs q1 q2 a1 a2
    obtain ⟨v,r,rfl,c1,c2⟩:=q1.cons_inv
    cases us with
    | nil=>have:=q2.nil_inv;cases this
    | cons y ys =>
     obtain ⟨v',r',z,d1,d2⟩:=q2.cons_inv
     cases z
     rw [Zal,Zt] at a1 a2
     rw [Qlv,ihx ys r c2 d2 a1.2 a2.2,Zy]
     exact ih c1 d1 a1.1 a2.1
  cases t with
  | dct _ _=>simp [Qt] at h
  | clo _ _=>simp [Qt] at h
  | dtt _ _=>simp [Qt] at h
  | tup ts =>
   obtain ⟨a,vs,rfl,ha,q⟩:=i.tup_inv
   cases t' with
   | tup us =>
    obtain ⟨a',dw,e,b8,q'⟩:=j.tup_inv
    cases e
    rw [ha] at b8
    cases b8
    rw [eqT]
    exact go ts us vs q q' (by simpa only [Qt] using h) (by simpa only [Qt] using h')
   | lst us =>
    obtain ⟨a',dw,e,b8,q'⟩:=j.lst_inv
    cases e
    rw [ha] at b8
    cases b8
   | dct _ _=>simp [Qt] at h'
   | clo _ _=>simp [Qt] at h'
   | dtt _ _=>simp [Qt] at h'
   | _=>unfold Is at j;cases j
  | lst ts =>
   obtain ⟨a,vs,rfl,ha,q⟩:=i.lst_inv
   cases t' with
   | lst us =>
    obtain ⟨a',dw,e,b8,q'⟩:=j.lst_inv
    cases e
    rw [ha] at b8
    cases b8
    rw [eqT]
    exact go ts us vs q q' (by simpa only [Qt] using h) (by simpa only [Qt] using h')
   | tup us =>
    obtain ⟨a',dw,e,b8,q'⟩:=j.tup_inv
    cases e
    rw [ha] at b8
    cases b8
   | dct _ _=>simp [Qt] at h'
   | clo _ _=>simp [Qt] at h'
   | dtt _ _=>simp [Qt] at h'
   | _=>unfold Is at j;cases j
  | _ =>
   cases t' with
   | dct _ _=>simp [Qt] at h'
   | clo _ _=>simp [Qt] at h'
   | dtt _ _=>simp [Qt] at h'
   | tup us =>
    obtain ⟨a',dw,e,b8,q'⟩:=j.tup_inv
    unfold Is at i
    rw [i] at e;cases e
   | lst us =>
    obtain ⟨a',dw,e,b8,q'⟩:=j.lst_inv
    unfold Is at i
    rw [i] at e;cases e
   | _=>unfold Is at i j;rw [i] at j;first | (cases j;simp [eqT];done) | cases j
inductive Shp (P:Fu) (w:Ft) (H:Hp) (h:Fq):T→Fx→Prop
 | non:Shp P w H h .non .none
 | bl (b):Shp P w H h (.bl b) (.bool b)
 | int (i t):Shp P w H h (.int i) (.int i t)
 | str (x t):Shp P w H h (.str x) (.str x t)
 | tup {a vs ts ac}:Is H (.ref a) (.tup ts)→IsL H vs ts→Vals vs ac→h.IsTuple a ac.toArray→Shp P w H h (.tup ts) (.ref a)
 | lst {a vs ts ac}:Is H (.ref a) (.lst ts)→IsL H vs ts→Vals vs ac→h.IsList a ac.toArray→Shp P w H h (.lst ts) (.ref a)
 | dct {ks ts u}:Shp P w H h (.dct ks ts) u
 | clo {l ts u}:Shp P w H h (.clo l ts) u
 | dtt {ks ts u}:Shp P w H h (.dtt ks ts) u
theorem Is.shp {P:Fu} {w:Ft} {H:Hp} {h:Fq} {v:V} {u:Fx}:∀ {t:T},Is H v t→RelV v u→HOk P w H h→Shp P w H h t u
 | .non,i,r,_=>by unfold Is at i;subst i;cases r;exact .non
 | .bl b,i,r,_=>by unfold Is at i;subst i;cases r;exact .bl b
 | .int n,i,r,_=>by unfold Is at i;subst i;obtain ⟨t,rfl⟩:=r;exact .int n t
 | .str x,i,r,_=>by unfold Is at i;subst i;obtain ⟨t,rfl⟩:=r;exact .str x t
 | .tup ts,i,r,ok=>by
  obtain ⟨a,vs,rfl,ha,q⟩:=i.tup_inv
  cases r
  obtain ⟨_,ac,rv,p⟩:=ok a _ ha
  exact .tup i q rv p.tup
 | .lst ts,i,r,ok=>by
  obtain ⟨a,vs,rfl,ha,q⟩:=i.lst_inv
  cases r
  obtain ⟨_,ac,n,rv,p⟩:=ok a _ ha
  exact .lst i q rv ⟨_,p,rfl,n,rfl⟩
 | .dct ks ts,_,_,_=>.dct
 | .clo l ts,_,_,_=>.clo
 | .dtt ks ts,_,_,_=>.dtt
section
variable {P:Fu} {w:Ft} {H:Hp}
def eAt (ts us:List T) (j:Nat):Bool:=eqT (ts.getD j .non) (us.getD j .non)
theorem Qn1 (ts us:List T):((List.range (min ts.length us.length)).all (eAt ts us)&&(ts.length==us.length))=eqL ts us :=
 Qn0 fun j a b p q=>by unfold eAt;rw [Zh,Zh,p,q];rfl
theorem Qql {s:Fy} {A:Fv} {n:Nat} {ts us:List T} {vs ws:List V} {ac ap:List Fx} (i1:IsL H vs ts) (i2:IsL H ws us) (r1:Vals vs ac) (r2:Vals ws ap) (ok:HOk P w H s.heap) (h1:ts.all (Qt n)=true) (h2:us.all (Qt n)=true)
  (ih:∀ (t t':T) (u u':Fx),Qt n t=true→Qt n t'=true→Shp P w H s.heap t u→Shp P w H s.heap t' u'→SeqAt.EqAt A s u u' (eqT t t')) :
  ∀ (j:Nat) (g1:j<ac.toArray.size) (g2:j<ap.toArray.size),SeqAt.EqAt A s ac.toArray[j] ap.toArray[j] (eAt ts us j):=by
 intro j g1 g2
 have hW:j<ac.length:=by simpa using g1
 have gM:j<ap.length:=by simpa using g2
 have l1:j<vs.length:=by rw [r1.length];exact hW
 have l2:j<ws.length:=by rw [r2.length];exact gM
 obtain ⟨u,hu,ru⟩:=r1.get (Zc l1)
 obtain ⟨u',gU,jN⟩:=r2.get (Zc l2)
 obtain ⟨t,ht,it⟩:=i1.get (Zc l1)
 obtain ⟨t',ia,iZ⟩:=i2.get (Zc l2)
 have e1:ac.toArray[j]=u:=by
  rw [Zc hW] at hu
  simpa using hu
 have e2:ap.toArray[j]=u':=by
  rw [Zc gM] at gU
  simpa using gU
 have e3:eAt ts us j=eqT t t':=by unfold eAt;rw [Zh,Zh,ht,ia];rfl
 rw [e1,e2,e3]
 exact ih t t' u u' (Zah.mp h1 t (Z1 ht)) (Zah.mp h2 t' (Z1 ia)) (it.shp ru ok) (iZ.shp jN ok)
theorem Qiv {ts:List T} {vs:List V} {ac:List Fx} (i:IsL H vs ts) (r:Vals vs ac):ac.toArray.size=ts.length:=by
 rw [Zu,←r.length,i.length]
open SeqAt in
theorem Qyg {s:Fy} {A:Fv} {n:Nat} {ts us:List T} {a b:Fw} {vs ws:List V} {ac ap:List Fx} (i1:IsL H vs ts) (i2:IsL H ws us) (r1:Vals vs ac) (r2:Vals ws ap) (ok:HOk P w H s.heap) (h1:ts.all (Qt n)=true) (h2:us.all (Qt n)=true)
  (hl:s.heap.IsTuple a ac.toArray) (hb:s.heap.IsTuple b ap.toArray) (hu:A.units<cLine) (ih:∀ (t t':T) (u u':Fx),Qt n t=true→Qt n t'=true→Shp P w H s.heap t u→Shp P w H s.heap t' u'→EqAt A.in1 s u u' (eqT t t')) :
  RcAt A s (.ref a) (.ref b) (eqL ts us)∧RcNeAt A s (.ref a) (.ref b) (!eqL ts us):=by
 have ck:=Qql i1 i2 r1 r2 ok h1 h2 ih
 have l1:=Qiv i1 r1
 have l2:=Qiv i2 r2
 have k1:=RcAt.tuples hl hb hu ck
 have k2:=RcNeAt.tuples hl hb hu ck
 rw [l1,l2,Qn1] at k1 k2
 exact ⟨k1,k2⟩
open SeqAt in
theorem Qyh {s:Fy} {A:Fv} {n:Nat} {ts us:List T} {a b:Fw} {vs ws:List V} {ac ap:List Fx} (i1:IsL H vs ts) (i2:IsL H ws us) (r1:Vals vs ac) (r2:Vals ws ap) (ok:HOk P w H s.heap) (h1:ts.all (Qt n)=true) (h2:us.all (Qt n)=true)
  (hl:s.heap.IsList a ac.toArray) (hb:s.heap.IsList b ap.toArray) (hu:A.units<cLine) (ih:∀ (t t':T) (u u':Fx),Qt n t=true→Qt n t'=true→Shp P w H s.heap t u→Shp P w H s.heap t' u'→EqAt A.in1 s u u' (eqT t t')) :
  RcAt A s (.ref a) (.ref b) (eqL ts us)∧RcNeAt A s (.ref a) (.ref b) (!eqL ts us):=by
 have ck:=Qql i1 i2 r1 r2 ok h1 h2 ih
 have l1:=Qiv i1 r1
 have l2:=Qiv i2 r2
 by_cases hz:ts.length=us.length
 ·have k1:=RcAt.lists hl hb (by rw [l1,l2,hz]) hu ck
  have k2:=RcNeAt.lists hl hb (by rw [l1,l2,hz]) hu ck
  have e:=Qn1 ts us
  rw [hz,Zdo,beq_self_eq_true,Zy] at e
  rw [l1,hz,e] at k1 k2
  exact ⟨k1,k2⟩
 ·rw [Qlc hz]
  have cA:(ac.toArray.size != ap.toArray.size)=true:=by rw [l1,l2];simpa using hz
  exact ⟨RcAt.lists_lengths hl hb cA hu,RcNeAt.lists_lengths hl hb cA hu⟩
open SeqAt in
theorem Q7z:∀ (n:Nat) {s:Fy} {A:Fv},HOk P w H s.heap→A.units+n<cLine→∀ (t t':T) (u u':Fx),Qt n t=true→Qt n t'=true→Shp P w H s.heap t u→Shp P w H s.heap t' u'→EqAt A s u u' (eqT t t'):=by
 intro n
 induction n with
 | zero =>
  intro s A ok hu t t' u u' h1 h2 s1 s2
  cases s1 with
  | dct=>simp [Qt] at h1
  | clo=>simp [Qt] at h1
  | dtt=>simp [Qt] at h1
  | tup j1 i1 r1 p1=>simp [Qt] at h1
  | lst j1 i1 r1 p1=>simp [Qt] at h1
  | non =>
   cases s2 with
   | dct=>simp [Qt] at h2
   | clo=>simp [Qt] at h2
   | dtt=>simp [Qt] at h2
   | tup j2 i2 r2 p2=>simp [Qt] at h2
   | lst j2 i2 r2 p2=>simp [Qt] at h2
   | non=>simp only [eqT];exact Zee _
   | bl b=>simp only [eqT];exact EqAt.none_bool  b
   | int i t=>simp only [eqT];exact EqAt.none_int  i t
   | str x t=>simp only [eqT];exact EqAt.none_str  x t
  | bl c =>
   cases s2 with
   | dct=>simp [Qt] at h2
   | clo=>simp [Qt] at h2
   | dtt=>simp [Qt] at h2
   | tup j2 i2 r2 p2=>simp [Qt] at h2
   | lst j2 i2 r2 p2=>simp [Qt] at h2
   | non=>simp only [eqT];exact EqAt.bool_none c
   | bl b=>simp only [eqT];exact EqAt.bool_bool c b
   | int i t=>simp only [eqT];exact EqAt.bool_int c i t
   | str x t=>simp only [eqT];exact EqAt.bool_str c x t
  | int c ct =>
   cases s2 with
   | dct=>simp [Qt] at h2
   | clo=>simp [Qt] at h2
   | dtt=>simp [Qt] at h2
   | tup j2 i2 r2 p2=>simp [Qt] at h2
   | lst j2 i2 r2 p2=>simp [Qt] at h2
   | non=>simp only [eqT];exact EqAt.int_none c ct
   | bl b=>simp only [eqT];exact EqAt.int_bool c ct b
   | int i t=>simp only [eqT];exact EqAt.int_int c ct i t
   | str x t=>simp only [eqT];exact EqAt.int_str c ct x t
  | str c ct =>
   cases s2 with
   | dct=>simp [Qt] at h2
   | clo=>simp [Qt] at h2
   | dtt=>simp [Qt] at h2
   | tup j2 i2 r2 p2=>simp [Qt] at h2
   | lst j2 i2 r2 p2=>simp [Qt] at h2
   | non=>simp only [eqT];exact EqAt.str_none c ct
   | bl b=>simp only [eqT];exact EqAt.str_bool c ct b
   | int i t=>simp only [eqT];exact EqAt.str_int c ct i t
   | str x t=>simp only [eqT];exact EqAt.str_str c ct x t
 | succ n ih =>
  intro s A ok hu t t' u u' h1 h2 s1 s2
  have aR:A.units<cLine:=by omega
  have ie:=ih (s:=s) (A:=A.in1) ok (by show A.units+1+n<cLine;omega)
  cases s1 with
  | dct=>simp [Qt] at h1
  | clo=>simp [Qt] at h1
  | dtt=>simp [Qt] at h1
  | tup j1 i1 r1 p1 =>
   have g1:=h1
   rw [Qt] at g1
   cases s2 with
   | dct=>simp [Qt] at h2
   | clo=>simp [Qt] at h2
   | dtt=>simp [Qt] at h2
   | tup j2 i2 r2 p2 =>
    have g2:=h2
    rw [Qt] at g2
    rename_i a vs ts ac b ws us ap
    by_cases cP:a=b
    ·subst cP
     rw [Q45 (n+1) j1 j2 h1 h2]
     exact Zee _
    ·rw [eqT]
     exact EqAt.of_refs cP (Qyg i1 i2 r1 r2 ok g1 g2 p1 p2 aR ie).1
   | lst j2 i2 r2 p2=>simp only [eqT];exact EqAt.tuple_list p1 p2 aR
   | non=>simp only [eqT];exact EqAt.tuple_none p1 aR
   | bl b=>simp only [eqT];exact EqAt.tuple_bool b p1 aR
   | int i t=>simp only [eqT];exact EqAt.tuple_int i t p1 aR
   | str x t=>simp only [eqT];exact EqAt.tuple_str x t p1 aR
  | lst j1 i1 r1 p1 =>
   have g1:=h1
   rw [Qt] at g1
   cases s2 with
   | dct=>simp [Qt] at h2
   | clo=>simp [Qt] at h2
   | dtt=>simp [Qt] at h2
   | lst j2 i2 r2 p2 =>
    have g2:=h2
    rw [Qt] at g2
    rename_i a vs ts ac b ws us ap
    by_cases cP:a=b
    ·subst cP
     rw [Q45 (n+1) j1 j2 h1 h2]
     exact Zee _
    ·rw [eqT]
     exact EqAt.of_refs cP (Qyh i1 i2 r1 r2 ok g1 g2 p1 p2 aR ie).1
   | tup j2 i2 r2 p2=>simp only [eqT];exact EqAt.list_tuple p1 p2 aR
   | non=>simp only [eqT];exact EqAt.list_none p1 aR
   | bl b=>simp only [eqT];exact EqAt.list_bool b p1 aR
   | int i t=>simp only [eqT];exact EqAt.list_int i t p1 aR
   | str x t=>simp only [eqT];exact EqAt.list_str x t p1 aR
  | non =>
   cases s2 with
   | dct=>simp [Qt] at h2
   | clo=>simp [Qt] at h2
   | dtt=>simp [Qt] at h2
   | tup j2 i2 r2 p2=>simp only [eqT];exact EqAt.none_tuple p2 aR
   | lst j2 i2 r2 p2=>simp only [eqT];exact EqAt.none_list p2 aR
   | non=>simp only [eqT];exact Zee _
   | bl b=>simp only [eqT];exact EqAt.none_bool b
   | int i t=>simp only [eqT];exact EqAt.none_int i t
   | str x t=>simp only [eqT];exact EqAt.none_str x t
  | bl c =>
   cases s2 with
   | dct=>simp [Qt] at h2
   | clo=>simp [Qt] at h2
   | dtt=>simp [Qt] at h2
   | tup j2 i2 r2 p2=>simp only [eqT];exact EqAt.bool_tuple c p2 aR
   | lst j2 i2 r2 p2=>simp only [eqT];exact EqAt.bool_list c p2 aR
   | non=>simp only [eqT];exact EqAt.bool_none c
   | bl b=>simp only [eqT];exact EqAt.bool_bool c b
   | int i t=>simp only [eqT];exact EqAt.bool_int c i t
   | str x t=>simp only [eqT];exact EqAt.bool_str c x t
  | int c ct =>
   cases s2 with
   | dct=>simp [Qt] at h2
   | clo=>simp [Qt] at h2
   | dtt=>simp [Qt] at h2
   | tup j2 i2 r2 p2=>simp only [eqT];exact EqAt.int_tuple c ct p2 aR
   | lst j2 i2 r2 p2=>simp only [eqT];exact EqAt.int_list c ct p2 aR
   | non=>simp only [eqT];exact EqAt.int_none c ct
   | bl b=>simp only [eqT];exact EqAt.int_bool c ct b
   | int i t=>simp only [eqT];exact EqAt.int_int c ct i t
   | str x t=>simp only [eqT];exact EqAt.int_str c ct x t
  | str c ct =>
   cases s2 with
   | dct=>simp [Qt] at h2
   | clo=>simp [Qt] at h2
   | dtt=>simp [Qt] at h2
   | tup j2 i2 r2 p2=>simp only [eqT];exact EqAt.str_tuple c ct p2 aR
   | lst j2 i2 r2 p2=>simp only [eqT];exact EqAt.str_list c ct p2 aR
   | non=>simp only [eqT];exact EqAt.str_none c ct
   | bl b=>simp only [eqT];exact EqAt.str_bool c ct b
   | int i t=>simp only [eqT];exact EqAt.str_int c ct i t
   | str x t=>simp only [eqT];exact EqAt.str_str c ct x t
end
section
variable {X:Cx}
noncomputable def Q2m (neg:Bool):R2:=fun x y H Q=>∃ t t',Is H x t∧Is H y t'∧Qt 50 t=true∧Qt 50 t'=true∧((∃ ts us,t=.tup ts∧t'=.tup us)∨∃ ts us,t=.lst ts∧t'=.lst us)∧Q (.bl (if neg then !eqT t t' else eqT t t')) H
theorem Qn2 (hu:X.A.units+64<cLine) {aa:List (Fw×Obj)} {σ:St} {H:Hp} {s:Fy} (I:Inv X aa σ H s) {x y:V} {v u:Fx} {t t':T} (rx:RelV x v) (ry:RelV y u) (i:Is H x t) (j:Is H y t') (h1:Qt 50 t=true) (h2:Qt 50 t'=true)
  (hk:(∃ ts us,t=.tup ts∧t'=.tup us)∨∃ ts us,t=.lst ts∧t'=.lst us):SeqAt.RcAt X.A s v u (eqT t t')∧SeqAt.RcNeAt X.A s v u (!eqT t t'):=by
 have ih:=Q7z 49 (A:=X.A.in1) (P:=X.prog) (w:=X.w) I.hok (by show X.A.units+1+49<cLine;omega)
 have s1:=i.shp rx I.hok
 have s2:=j.shp ry I.hok
 rcases hk with ⟨ts,us,rfl,rfl⟩ | ⟨ts,us,rfl,rfl⟩
 ·rw [Qt] at h1 h2
  rw [eqT]
  cases s1 with
  | tup j1 i1 r1 p1 =>
   cases s2 with
   | tup j2 i2 r2 p2=>exact Qyg i1 i2 r1 r2 I.hok h1 h2 p1 p2 (by omega) ih
 ·rw [Qt] at h1 h2
  rw [eqT]
  cases s1 with
  | lst j1 i1 r1 p1 =>
   cases s2 with
   | lst j2 i2 r2 p2=>exact Qyh i1 i2 r1 r2 I.hok h1 h2 p1 p2 (by omega) ih
theorem Qacc (hu:X.A.units+64<cLine):QOp X (compareOp .Eq) (Q2m false):=⟨by
 intro aa s σ H x y v u Q I rx ry q
 obtain ⟨t,t',i,j,h1,h2,hk,q⟩:=q
 exact (Qn2 hu I rx ry i j h1 h2 hk).1 _ _ _ _ ⟨.bl _,H,I,rfl,q⟩⟩
theorem Qacd (hu:X.A.units+64<cLine):QOp X (compareOp .NotEq) (Q2m true):=⟨by
 intro aa s σ H x y v u Q I rx ry q
 obtain ⟨t,t',i,j,h1,h2,hk,q⟩:=q
 exact (Qn2 hu I rx ry i j h1 h2 hk).2 _ _ _ _ ⟨.bl _,H,I,rfl,q⟩⟩
noncomputable def Q2n:T→T→Bool
 | .tup _,.non=>true
 | .tup _,.bl _=>true
 | .tup _,.int _=>true
 | .tup _,.str _=>true
 | .tup _,.lst _=>true
 | .non,.tup _=>true
 | .bl _,.tup _=>true
 | .int _,.tup _=>true
 | .str _,.tup _=>true
 | .lst _,.tup _=>true
 | .dct _ _,.tup _=>true
 | _,_=>false
def Q2o (neg:Bool):R2:=fun x y H Q=>∃ t t',Is H x t∧Is H y t'∧Q2n t t'=true∧Q (.bl neg) H
theorem Qqm (hu:X.A.units+64<cLine) {aa:List (Fw×Obj)} {σ:St} {H:Hp} {s:Fy} (I:Inv X aa σ H s) {x y:V} {v u:Fx} {t t':T} (rx:RelV x v) (ry:RelV y u) (i:Is H x t) (j:Is H y t') (hk:Q2n t t'=true):SeqAt.RcAt X.A s v u false∧SeqAt.RcNeAt X.A s v u true:=by
 have s1:=i.shp rx I.hok
 have s2:=j.shp ry I.hok
 have hu:X.A.units<cLine:=by omega
 cases s1 with
 | non =>
  cases s2 with
  | tup _ _ _ p=>exact ⟨SeqAt.RcAt.none_tuple p hu,SeqAt.RcNeAt.none_tuple p hu⟩
  | _=>cases hk
 | bl b =>
  cases s2 with
  | tup _ _ _ p=>exact ⟨SeqAt.RcAt.bool_tuple b p hu,SeqAt.RcNeAt.bool_tuple b p hu⟩
  | _=>cases hk
 | int b c =>
  cases s2 with
  | tup _ _ _ p=>exact ⟨SeqAt.RcAt.int_tuple b c p hu,SeqAt.RcNeAt.int_tuple b c p hu⟩
  | _=>cases hk
 | str b c =>
  cases s2 with
  | tup _ _ _ p=>exact ⟨SeqAt.RcAt.str_tuple b c p hu,SeqAt.RcNeAt.str_tuple b c p hu⟩
  | _=>cases hk
 | tup _ _ _ p =>
  cases s2 with
  | non=>exact ⟨SeqAt.RcAt.tuple_none p hu,SeqAt.RcNeAt.tuple_none p hu⟩
  | bl b=>exact ⟨SeqAt.RcAt.tuple_bool b p hu,SeqAt.RcNeAt.tuple_bool b p hu⟩
  | int b c=>exact ⟨SeqAt.RcAt.tuple_int b c p hu,SeqAt.RcNeAt.tuple_int b c p hu⟩
  | str b c=>exact ⟨SeqAt.RcAt.tuple_str b c p hu,SeqAt.RcNeAt.tuple_str b c p hu⟩
  | lst _ _ _ q=>exact ⟨SeqAt.RcAt.tuple_list p q hu,SeqAt.RcNeAt.tuple_list p q hu⟩
  | _=>cases hk
 | lst _ _ _ p =>
  cases s2 with
  | tup _ _ _ q=>exact ⟨SeqAt.RcAt.list_tuple p q hu,SeqAt.RcNeAt.list_tuple p q hu⟩
  | _=>cases hk
 | dct =>
  cases s2 with
  | tup _ _ _ p =>
   unfold Is at i
   obtain ⟨a,vs,rfl,ha,_⟩:=i
   cases rx
   obtain ⟨_,_,ws,_,ob,es,ep,e,c,_⟩:=(show ObjOk X.prog X.w H s.heap a (.dK _) from I.hok a _ ha)
   exact ⟨SeqAt.RcAt.dict_tuple e c.1 p hu,SeqAt.RcNeAt.dict_tuple e c.1 p hu⟩
  | _=>cases hk
 | _=>cases s2 <;> cases hk
theorem Qace (hu:X.A.units+64<cLine):QOp X (compareOp .Eq) (Q2o false):=⟨by
 intro aa s σ H x y v u Q I rx ry q
 obtain ⟨t,t',i,j,hk,q⟩:=q
 exact (Qqm hu I rx ry i j hk).1 _ _ _ _ ⟨.bl _,H,I,rfl,q⟩⟩
theorem Qacf (hu:X.A.units+64<cLine):QOp X (compareOp .NotEq) (Q2o true):=⟨by
 intro aa s σ H x y v u Q I rx ry q
 obtain ⟨t,t',i,j,hk,q⟩:=q
 exact (Qqm hu I rx ry i j hk).2 _ _ _ _ ⟨.bl _,H,I,rfl,q⟩⟩
end
section
open PySem.W
theorem Qyi {prog:Fu} {w:Ft} {A:Fv} {E:Fx→Fy→Prop} {s:Fy} {K:Frag} {x D:Fw} {ox:Obj} {od:Option Obj} {name:Str} {fill xp:Bool} {Q:Fx→Fy→Prop} {tk:Tok} {r:Fx}
  (X:K.In s.heap) (I:InstAt s.heap x ox D od) (ke:findIn K (.ref D) "__getattribute__" = some (some (.builtin "BaseException.__getattribute__"))) (jk:findIn K (.ref D) "__getattr__" = some none) (bo:mroIn K D (.type "BaseException")=some true)
  (h:∀ (A:Fv) (E:Fx→Fy→Prop) (R:Fx→Fy→Prop),R r s→wpAny (model prog w) A (Builtin.«object.__getattribute__» ⟨[.ref x,.str name tk],[]⟩) (fun fin s'=>∃ v,fin=.done (.ret v)∧R v s') E s) (hh:handedIn r=true) (hq:Q r s) :
  wpAny (model prog w) A (getAttrBy (.ref x) (.str name tk) fill xp) Q E s:=by
 obtain ⟨hp,g,d,t,os⟩:=s
 have L0:=I.type (M:=model prog w)
 have L1:=looks_findIn (M:=model prog w) X ke
 have L2:=looks_findIn (M:=model prog w) X jk
 have L3:=looks_mroIn (M:=model prog w) X bo
 have ne:(onTheHeap (Value.ref D)&&Value.builtin "BaseException.__getattribute__" == Value.builtin "object.__getattribute__")=false:=by
  rw [show (Value.builtin "BaseException.__getattribute__" == Value.builtin "object.__getattribute__")=false from by decide +kernel,Zd3]
 have jQ:=F.excAttr_ValueError.ga.bind (.ref x)
 unfold getAttrBy
 refine Zbt (Za (L0.at (Za (L1.at ?_))))
 show wpAny _ _ (if (onTheHeap (Value.ref D)&&Value.builtin "BaseException.__getattribute__" == Value.builtin "object.__getattribute__")=true then _ else _) _ _ _
 rw [ne,Zg Zm]
 unfold getAttrByItsOwn hookBefore
 rw [show onTheHeap (Value.ref D)=true from rfl,Zf rfl]
 refine Za (L2.at (Za (Zcm (Zbt ?_))))
 unfold callGetattribute
 rw [Zg (by cases xp <;> decide)]
 unfold boundAndCalled
 refine Za (wpAny_of_eq jQ ?_)
 have ku:∀ (A:Fv) (E:Fx→Fy→Prop) (Q:Unit→Fy→Prop),Q () ⟨hp,g,d,t,os⟩→wpAny (model prog w) A (checkBuiltinCall "BaseException.__getattribute__" ⟨[.ref x,.str name tk],[]⟩) Q E ⟨hp,g,d,t,os⟩:=fun A E Q hq=>by
  have k1:builtinKind "BaseException.__getattribute__" = some .slot:=by decide +kernel
  have k2:splitId "BaseException.__getattribute__" = some ("BaseException","__getattribute__"):=by decide +kernel
  have k3:=F.args_bexc_ga (.ref x) (.str name tk)
  simp only [checkBuiltinCall,k1,k2]
  refine Za ?_
  unfold isInstance
  refine Za (L0.at (L3.at ?_))
  repeat wp_step
  exact hq
 refine Zd8 (codeAny_call_builtin F.excAttr_ValueError.ga.plain F.entry_bexc_ga (ku _ _ _ ?_))
 refine Za1 (h _ _ (fun v s'=>v=r∧s'=⟨hp,g,d,t,os⟩) ⟨rfl,rfl⟩) (fun fin s' z=>?_) fun _ _ z=>z
 obtain ⟨v,rfl,rfl,rfl⟩:=z
 exact handed_on hh hq
theorem Qv2 {prog:Fu} {w:Ft} {A:Fv} {E:Fx→Fy→Prop} {s:Fy} {K:Frag} {x D:Fw} {ox:Obj} {od:Option Obj} {Q:Fin→Fy→Prop} {tk:Tok}
  (X:K.In s.heap) (I:InstAt s.heap x ox D od) (hf:findObj K D od "__class__" = some (.bind (.builtin "getset_descriptor.__get__") (.builtin "object.__class__"))) (hm:mroIn K D (.type "object")=some true) (hq:Q (.done (.ret (.ref D))) s) :
  wpAny (model prog w) A (Builtin.«object.__getattribute__» ⟨[.ref x,.str "__class__" tk],[]⟩) Q E s:=by
 obtain ⟨hp,g,d,t,os⟩:=s
 have L0:=I.type (M:=model prog w)
 have L1:=looks_find (M:=model prog w) X I hf
 unfold Builtin.«object.__getattribute__»
 repeat (first | with_reducible refine L0.at ?_ | with_reducible refine L1.at ?_ | wp_step)
 exact class_get (ox:=ox) (od:=od) X I hm (Zi hq)
end
noncomputable def Qv3 (K:Fz) (D:Fw):Bool:=PySem.W.findIn K (.ref D) "__getattribute__" == some (some (.builtin "BaseException.__getattribute__"))&&PySem.W.findIn K (.ref D) "__getattr__" == some none&&PySem.W.mroIn K D (.type "BaseException")==some true&&(PySem.W.clsIn K D).isSome&&PySem.W.findIn K (.ref D) "__class__" == some (some (.builtin "object.__class__")) &&
 PySem.W.specialIn K (.builtin "object.__class__") "__get__" == some (some (.builtin "getset_descriptor.__get__"))&&PySem.W.takesIn K (.builtin "object.__class__")==some true&&PySem.W.mroIn K D (.type "object")==some true
theorem Qqn {K:Fz} {h:Fq} {D:Fw} (X:K.In h) (hc:(PySem.W.clsIn K D).isSome=true):∃ c d cd sl,h.get? D=some ⟨c,d,.cls cd,sl⟩:=by
 unfold PySem.W.clsIn at hc
 split at hc
 ·rename_i c d cd sl look
  exact ⟨c,d,cd,sl,X _ _ look⟩
 ·cases hc
theorem Qyj {K:Fz} {x D:Fw} (hk:Qv3 K D=true):PySem.W.KitX K (.ref x) (.ref D) (fun h=>∃ ox od,PySem.W.InstAt h x ox D od):=by
 unfold Qv3 at hk
 simp only [Zt,Zdi] at hk
 obtain ⟨⟨⟨⟨⟨⟨⟨k1,k7⟩,k8⟩,k2⟩,k3⟩,k4⟩,k5⟩,k6⟩:=hk
 refine ⟨fun _ _ _ ⟨ox,od,I⟩=>I.type,fun M h X _=>?_,fun h tp dd ac n sl X hZ=>?_,fun {prog w A E Q s} X ⟨ox,od,I⟩ k=>?_⟩
 ·obtain ⟨c,d,cd,sl,ho⟩:=Qqn X k2
  intro A' Q' E' s' kp q
  unfold isType loadHead
  exact Za (wpAny_loadPart (kp _ _ ho) (Zi q))
 ·obtain ⟨c,d,cd,bV,ho⟩:=Qqn X k2
  refine Bool.eq_false_iff.mpr fun q=>?_
  have e:D=tp:=Value.ref.inj (Zdi.mp q)
  subst e
  rw [ho] at hZ
  cases hZ
 ·have hf:PySem.W.findObj K D od "__class__" = some (.bind (.builtin "getset_descriptor.__get__") (.builtin "object.__class__")):=by
   obtain ⟨cd,hc⟩:=Za9.mp k2
   unfold PySem.W.findObj
   rw [hc,Option.bind_some,k3,Option.bind_some]
   simp [k4,k5]
  unfold getAttr? getAttrBy?
  refine Za (wpAny_mkText (Za (Zcm (Qyi (s:={ s with toks:=s.toks+1 }) X I k1 k7 k8 (fun A E R hr=>?_) rfl (Zi k)))))
  exact Qv2 (s:={ s with toks:=s.toks+1 }) X I hf k6 ⟨_,rfl,hr⟩
def valC:V→Fx
 | .ref a=>.ref a
 | .ty n=>.type n
 | _=>.none
noncomputable def Qo5 (K:Fz):List V→Hp→VK→Prop:=fun xs H Q=>∃ a C1 dx c b,xs=[.ref a,c]∧H a=some (Qsg a (.ref C1) dx)∧(∀ d,dx=some d→∃ fs,H d=some (.xd fs))∧Qv3 K C1=true∧((∃ C,c=.ref C)∨∃ n,c=.ty n)∧PySem.W.kitOne K (.ref C1) (valC c)=some b∧Q (.bl b) H
section
variable {X:Cx}
theorem Qsi:CallR X (.builtin "isinstance") (Qo5 X.K):=by
 intro aa s σ H xs us Q I r h
 obtain ⟨a,C1,dx,c,b,rfl,ha,bX,hk,hc,e,q⟩:=h
 obtain ⟨u,w',rfl,rx,ry⟩:=Qp8 r
 cases rx
 have ew:w'=valC c:=by
  rcases hc with ⟨C,rfl⟩ | ⟨n,rfl⟩
  ·exact ry
  ·exact ry
 subst ew
 obtain ⟨⟨o,vs,ho,h1,h2,h3⟩,_⟩:=(show ObjOk X.prog X.w H s.heap a (Qsg a (.ref C1) dx) from I.hok a _ ha)
 have gH:∃ od:Option Obj,(dx=none∧od=none)∨∃ d u,dx=some d∧od=some u∧s.heap.get? d=some u:=by
  cases e0:dx with
  | none=>exact ⟨none,.inl ⟨rfl,rfl⟩⟩
  | some d =>
   obtain ⟨fs,hf⟩:=bX d e0
   obtain ⟨mA,⟨od,_,_,e1,_⟩,_⟩:=(show ObjOk X.prog X.w H s.heap d (.xd fs) from I.hok d _ hf)
   exact ⟨some od,.inr ⟨d,od,rfl,rfl,e1⟩⟩
 obtain ⟨od,gH⟩:=gH
 refine Zam (Qyj hk) I.kIn ⟨o,od,ho,h1,?_,?_⟩ e (fun z=>nomatch z) fun tk=>⟨.bl b,H,I.tok _,rfl,q⟩
 ·unfold PySem.W.notCls;rw [h3]
 ·rw [h2]
  rcases gH with ⟨rfl,rfl⟩ | ⟨d,u,rfl,rfl,e1⟩
  ·trivial
  ·exact e1
theorem Qdi (K:Fz) (hK:X.K=K):QCl X (.builtin "isinstance") (Qo5 K):=⟨by subst hK;exact Qsi⟩
noncomputable def Qtx (K:Fz):V→List V→Hp→VK→Prop:=fun x vs H Q=>∃ (l:Fw) (bs:List Bool) (b:Bool),x=.ref l∧vs=[.bl b]∧H l=some (.lst (bs.map V.bl))∧Q (.int (bs.count b:Nat)) H
theorem Qo6:∀ {bs:List Bool} {us:List Fx},Vals (bs.map V.bl) us→us=bs.map Value.bool
 | [],_,.nil=>rfl
 | b::bs,_,.cons r t=>by cases r;rw [Qo6 t];rfl
def isB (b:Bool) (v:Fx):Bool:=match v with
 | .bool c=>c==b
 | _=>false
theorem Qqo (b:Bool):∀ bs:List Bool,(bs.map Value.bool).countP (isB b)=bs.count b
 | []=>rfl
 | c::bs=>by
  rw [Z6,List.countP_cons,Qqo b bs,List.count_cons]
  rfl
theorem Qv4:MtM X "list.count" (Qtx X.K):=by
 intro aa s σ H x vs v us Q I rx rv h
 obtain ⟨l,bs,b,rfl,rfl,hH,q⟩:=h
 cases rx
 obtain ⟨u,rfl,ru⟩:=rv.one
 cases ru
 obtain ⟨z,ac,n,r,hl,e⟩:=I.lstM hH
 have ei:=Qo6 r
 subst ei
 refine Zbd F.slot_list_count ⟨_,e,rfl⟩ F.entry_list_count (F.args_list_count_2 _ _) (SeqAt.list_countAt l _ n none #[] (.bool b) (isB b)) ⟨e,fun y hy=>?_,?_⟩
 ·have hy:y∈bs.map Value.bool:=by simpa using hy
  obtain ⟨c,_,rfl⟩:=Z7.mp hy
  exact SeqAt.EqAt.bool_bool c b
 ·have ec:List.countP (isB b) (bs.map Value.bool).toArray.toList=bs.count b:=by rw [List.toList_toArray];exact Qqo b bs
  rw [ec]
  exact ⟨.int _,H,I.tok _,⟨_,rfl⟩,q⟩
noncomputable def Qty (K:Fz):V→List V→Hp→VK→Prop:=fun x vs H Q=>∃ (l:Fw) (bs:List Bool) (b:Bool) (j:Nat),x=.ref l∧vs=[.bl b]∧H l=some (.lst (bs.map V.bl))∧bs.length≤1000∧bs[j]?=some b∧(∀ m,m<j→bs[m]?≠some b)∧Q (.int (j:Nat)) H
theorem Qv5:MtM X "list.index" (Qty X.K):=by
 intro aa s σ H x vs v us Q I rx rv h
 obtain ⟨l,bs,b,j,rfl,rfl,hH,hz,hj,dH,q⟩:=h
 cases rx
 obtain ⟨u,rfl,ru⟩:=rv.one
 cases ru
 obtain ⟨z,ac,n,r,hl,e⟩:=I.lstM hH
 have ei:=Qo6 r
 subst ei
 have iG:j<bs.length:=(List.getElem?_eq_some_iff.mp hj).1
 refine Zbd F.slot_list_index ⟨_,e,rfl⟩ F.entry_list_index (F.args_list_index_2 _ _) (SeqAt.list_indexAt l _ n none #[] (.bool b) (isB b) j (by simpa using iG) (by omega) ?_ ?_) ⟨e,fun y hy=>?_,⟨.int _,H,I.tok _,⟨_,rfl⟩,q⟩⟩
 ·have e1:bs[j]=b:=by rw [Zc iG] at hj;exact Zr hj
  simp [isB,e1]
 ·intro m hm j6
  have cg:m<bs.length:=by simpa using hm
  have e1:bs[m]≠b:=fun z=>dH m j6 (by rw [Zc cg,z])
  simp [isB,e1]
 ·have hy:y∈bs.map Value.bool:=by simpa using hy
  obtain ⟨c,_,rfl⟩:=Z7.mp hy
  exact SeqAt.EqAt.bool_bool c b
theorem Qyk (K:Fz) (hK:X.K=K):QMt X "list.count" (Qtx K):=⟨by subst hK;exact Qv4⟩
theorem Qyl (K:Fz) (hK:X.K=K):QMt X "list.index" (Qty K):=⟨by subst hK;exact Qv5⟩
end
noncomputable def Q70 (P:Fu) (w:Ft) (K:Fz) (mg:Str→Option Fx) (base:Fq) (x:Str) (ps:List Str) (k:Nat) (sp:Sp):Prop :=
 ∃ f fd,PySem.W.keepIn K (.ref f)=true∧mg x=some (.ref f)∧Binds K fd ps []∧FnOkH P w K mg base CX0 k f fd ps sp
section
variable {P:Fu} {w:Ft} {K:Fz} {mg:Str→Option Fx} {base:Fq}
theorem Q71 {x:Str} {st:Fs} {N ps:List Str} {k:Nat} {sp:Sp} (d:Dfn K mg x st) (S:FnScope N ps (Qg st)) (bd:Qai x st ps) (len:∀ vs H Q E,sp vs H Q E→vs.length=ps.length)
  (av:∀ (f:Fw) (ae:Fx) (A:Fv) (outer:List Env) (s:Fy) (H:Hp) (vs:List V) (Q:VK) (E:XK),RoomH k (A.deeper (envOfC x (Qg st) s.heap.objs.size f ae))→sp vs H Q E →
   ∃ t,QB (Qnz CX0 P w K mg base N x (Qg st) f ae A outer s H E).nox (Qbi st) t∧t { nx:=fun _ H'=>Q .non H',rt:=Q } (Qbl N vs) H):Q70 P w K mg base x ps (k+1) sp:=by
 obtain ⟨f,fd,F,m⟩:=d.ex
 refine ⟨f,fd,F.kp,m,F.binds bd,?_⟩
 obtain ⟨oc,od,kV,az,pm,an,ae,ct,aQ,rfl,lk,aF⟩:=F.ex
 refine Q7y lk aF S len fun A outer s H vs Q E hr aZ=>?_
 obtain ⟨t,h,q⟩:=av f ae A outer s H vs Q E hr aZ
 exact ⟨t,h.h.nox,q⟩
end
section
variable {X:Cx} {x:Str} {ps:List Str} {k:Nat} {sp:Sp} {e:Fr} {es:List Fr} {t:TA} {p pos:Pos}
theorem Qach (h:Q70 X.prog X.w X.K X.mg X.base x ps k sp) (hr:RoomH k X.A) (ha:QA X (e::es) t) (hg:Gl X x:=by rfl)
  (ay:(x==("__debug__" : Str))=false:=by decide) (he:starEach (e::es) X.env=(false,eval e X.env)::starEach es X.env:=by rfl) (aI:(backTo pos (starEach es X.env)).any (·.1)=false:=by rfl) :
  QE X (.Call (.Name x p) (e::es) [] pos) (Qnr sp [] E0 t):=by
 obtain ⟨f,fd,kp,m,b,F⟩:=h
 refine ⟨fun aa s σ H Q I hq=>?_⟩
 refine Zb1 (Qhc I hg m ?_ ay)
 refine Zcz (h₀:=X.base) I.ok.mod.kin kp (thn (ha.h pos aa s σ H _ I hq) fun us s1 ⟨vs,H1,I1,r,q⟩=>⟨I1.kIn,?_⟩) he aI
 have q2:sp vs H1 Q E0:=by
  have q:sp (vs++[]) H1 Q E0:=q
  rw [Za6] at q
  exact q
 have hl:(us++[]).length=ps.length:=by rw [Za6,←r.length];exact F.len _ _ _ _ q2
 have r2:Vals vs (us++[]):=by rw [Za6];exact r
 refine Zd8 (Zcw (F.run X.A X.stack s1 H1 ⟨us,[]⟩ (us++[]) vs Q _ hr I1.env0 (b s1 us I1.kIn hl) r2 q2) fun rr s' bu=>?_)
 cases rr with
 | error ev=>exact Zef bu
 | ok fl =>
  cases fl with
  | ret u=>exact I1.after bu
  | next=>exact Zef bu
  | brk=>exact Zef bu
  | cont=>exact Zef bu
end
def cad (mg:Str→Option Fx) (x:Str):Fw:=match mg x with
 | some (.ref a)=>a
 | _=>0
noncomputable def bmV:List Fx:=[.type "ValueError",.type "Exception",.type "BaseException",.type "object"]
noncomputable def Qbm:List Str:=["NoTable","NoWay","NoSet","NoRest","NoLine","NoRow","NoTables","Below","NoText","TooGreat"]
noncomputable def Qym (K:Fz) (c0:Fw) (cs:List Fw):Bool :=
 PySem.W.excIn K c0 bmV "ValueError.__new__" && (cs.take 6).all (fun c=>PySem.W.excIn K c bmV "ValueError.__new__")&&cs.all (fun c=>Qv3 K c&&PySem.W.mroIn K c (.ref c0)==some true&&PySem.W.kitOne K (.ref c) (.type "ValueError")==some true) &&
  cs.zipIdx.all (fun p=>cs.zipIdx.all fun q=>PySem.W.kitOne K (.ref p.1) (.ref q.1)==some (p.2==q.2))
structure Exs (K:Fz) (mg:Str→Option Fx):Prop where
 m0:mg "NoughtError" = some (.ref (cad mg "NoughtError"))
 m:∀ (i:Nat) (x:Str),Qbm[i]?=some x→mg x=some (.ref (cad mg x))
 ok:Qym K (cad mg "NoughtError") (Qbm.map (cad mg))=true
theorem Qbo {mg:Str→Option Fx} {x:Str} {a:Fw} (h:mg x=some (.ref a)):cad mg x=a:=by unfold cad;rw [h]
theorem Q72 {K:Fz} {mg:Str→Option Fx} {h:Fq} {c0 c1 c2 c3 c4 c5 c6 c7 c8 c9 f6:Fw} (X:K.In h) (G:h.Ns mainGlobals mg) (e0:PySem.W.nsIn K mainGlobals "NoughtError" = some (some (.ref c0)))
  (e1:PySem.W.nsIn K mainGlobals "NoTable" = some (some (.ref c1))) (e2:PySem.W.nsIn K mainGlobals "NoWay" = some (some (.ref c2))) (e3:PySem.W.nsIn K mainGlobals "NoSet" = some (some (.ref c3))) (e4:PySem.W.nsIn K mainGlobals "NoRest" = some (some (.ref c4)))
  (e5:PySem.W.nsIn K mainGlobals "NoLine" = some (some (.ref c5))) (e6:PySem.W.nsIn K mainGlobals "NoRow" = some (some (.ref c6))) (e7:PySem.W.nsIn K mainGlobals "NoTables" = some (some (.ref c7))) (e8:PySem.W.nsIn K mainGlobals "Below" = some (some (.ref c8)))
  (e9:PySem.W.nsIn K mainGlobals "NoText" = some (some (.ref c9))) (jJ:PySem.W.nsIn K mainGlobals "TooGreat" = some (some (.ref f6))) (ok:Qym K c0 [c1,c2,c3,c4,c5,c6,c7,c8,c9,f6]=true):Exs K mg:=by
 have g0:=Zat X G e0
 have g1:=Zat X G e1
 have g2:=Zat X G e2
 have g3:=Zat X G e3
 have g4:=Zat X G e4
 have g5:=Zat X G e5
 have g6:=Zat X G e6
 have g7:=Zat X G e7
 have g8:=Zat X G e8
 have g9:=Zat X G e9
 have fS:=Zat X G jJ
 have em:Qbm.map (cad mg)=[c1,c2,c3,c4,c5,c6,c7,c8,c9,f6]:=by
  unfold Qbm
  simp only [Z6,Zde]
  rw [Qbo g1,Qbo g2,Qbo g3,Qbo g4,Qbo g5,Qbo g6,Qbo g7,Qbo g8,Qbo g9,Qbo fS]
 refine ⟨by rw [Qbo g0];exact g0,fun i x hx=>?_,by rw [em,Qbo g0];exact ok⟩
 have ms:=Z1 hx
 unfold Qbm at ms
 simp only [Z9,Zaz,Zbu] at ms
 rcases ms with rfl | rfl | rfl | rfl | rfl | rfl | rfl | rfl | rfl | rfl
 ·rw [Qbo g1];exact g1
 ·rw [Qbo g2];exact g2
 ·rw [Qbo g3];exact g3
 ·rw [Qbo g4];exact g4
 ·rw [Qbo g5];exact g5
 ·rw [Qbo g6];exact g6
 ·rw [Qbo g7];exact g7
 ·rw [Qbo g8];exact g8
 ·rw [Qbo g9];exact g9
 ·rw [Qbo fS];exact fS
section
variable {K:Fz} {mg:Str→Option Fx}
theorem Exs.parts (ex:Exs K mg):PySem.W.excIn K (cad mg "NoughtError") bmV "ValueError.__new__" = true∧(∀ c∈(Qbm.map (cad mg)).take 6,PySem.W.excIn K c bmV "ValueError.__new__" = true) ∧
  (∀ c∈Qbm.map (cad mg),Qv3 K c=true∧PySem.W.mroIn K c (.ref (cad mg "NoughtError"))=some true∧PySem.W.kitOne K (.ref c) (.type "ValueError")=some true) ∧
  ∀ (i j:Nat) (c d:Fw),(Qbm.map (cad mg))[i]?=some c→(Qbm.map (cad mg))[j]?=some d→PySem.W.kitOne K (.ref c) (.ref d)=some (i==j):=by
 have h:=ex.ok
 unfold Qym at h
 simp only [Zt,Zah,Zdi] at h
 obtain ⟨⟨⟨h1,h2⟩,h3⟩,h4⟩:=h
 refine ⟨h1,h2,fun c hc=>⟨(h3 c hc).1.1,(h3 c hc).1.2,(h3 c hc).2⟩,fun i j c d hi hj=>?_⟩
 exact h4 (c,i) (List.mk_mem_zipIdx_iff_getElem?.mpr hi) (d,j) (List.mk_mem_zipIdx_iff_getElem?.mpr hj)
theorem Exs.nou (ex:Exs K mg):PySem.W.excIn K (cad mg "NoughtError") bmV "ValueError.__new__" = true:=ex.parts.1
theorem Exs.rz (ex:Exs K mg) (i:Nat) {x:Str} (hi:i<6) (hx:Qbm[i]?=some x):PySem.W.excIn K (cad mg x) bmV "ValueError.__new__" = true:=by
 refine ex.parts.2.1 _ (Z1 (i:=i) ?_)
 rw [List.getElem?_take_of_lt hi,Zab,hx]
 rfl
theorem Exs.at (i:Nat) {x:Str} (hx:Qbm[i]?=some x):(Qbm.map (cad mg))[i]?=some (cad mg x):=by rw [Zab,hx];rfl
theorem Exs.xc (ex:Exs K mg) (i:Nat) {x:Str} (hx:Qbm[i]?=some x):Qv3 K (cad mg x)=true:=(ex.parts.2.2.1 _ (Z1 (Exs.at i hx))).1
theorem Exs.sub (ex:Exs K mg) (i:Nat) {x:Str} (hx:Qbm[i]?=some x):PySem.W.mroIn K (cad mg x) (.ref (cad mg "NoughtError"))=some true:=(ex.parts.2.2.1 _ (Z1 (Exs.at i hx))).2.1
theorem Exs.val (ex:Exs K mg) (i:Nat) {x:Str} (hx:Qbm[i]?=some x):PySem.W.kitOne K (.ref (cad mg x)) (.type "ValueError")=some true:=(ex.parts.2.2.1 _ (Z1 (Exs.at i hx))).2.2
theorem Exs.kit (ex:Exs K mg) (i j:Nat) {x y:Str} (hx:Qbm[i]?=some x) (hy:Qbm[j]?=some y):PySem.W.kitOne K (.ref (cad mg x)) (.ref (cad mg y))=some (i==j):=ex.parts.2.2.2 i j _ _ (Exs.at i hx) (Exs.at j hy)
end
theorem Qhz {X:Cx} {x:Str} {a:Fw} {pos:Pos} (m:X.mg x=some (.ref a)) (hg:Gl X x:=by rfl) (hd:(x==("__debug__" : Str))=false:=by decide):QE X (.Name x pos) (tC (.ref a)):=⟨Qtk (v:=.ref a) hg m rfl hd⟩
section
variable {X:Cx} {aa:List (Fw×Obj)} {σ:St} {H:Hp} {s:Fy} {h':Fq}
theorem Inv.turnedL {t':Nat} {fp:List Fw} (I:Inv X aa σ H s) (k:∀ b o,b∉fp→s.heap.get? b=some o→h'.get? b=some o) (hf:∀ b∈fp,Qgp X aa H b):Inv X aa σ H { s with heap:=h',toks:=t' }:=by
 have dZ:∀ b u,H b=some u→b∉fp:=fun b u e z=>by rw [(hf b z).1] at e;cases e
 refine I.step (g':=s.gens) (d':=s.drawn) (ch:=fp) (fun b hb=>?_) (fun b o _ _ hc e _=>k b o hc e) (fun b o _ _ hc e _=>⟨o.slots,k b o hc e⟩) (fun _ _ _ _ n=>n)
  (fun b o hc e=>⟨o,k b o hc e⟩) (fun _ _ e=>e) (fun _ _ _ e=>e) (fun _ _ e=>e) (fun m hm=>?_) (fun b u e=>?_) I.bare
 ·obtain ⟨_,f1,_,f3,f4,f5⟩:=hf b hb
  exact ⟨f3,f1,f4,f5⟩
 ·obtain ⟨o,es,ep,ho,r⟩:=hm
  exact ⟨o,es,ep,k _ o (fun z=>(hf _ z).2.1 rfl) ho,r⟩
 ·refine (I.hok b u e).stay (fun c v hc q=>k c v ?_ q) (fun _ q=>q) fun _ _ q=>q
  rcases hc with z | z
  ·rw [z];exact dZ b u e
  ·exact dZ c _ z
end
noncomputable def Ite (K:Fz) (a:Fw):It :=
 ⟨fun i H=>∃ xs x,SqL K H a xs∧xs[i]?=some x,fun i H v H'=>∃ p x,v=.ref p∧H p=none∧(∀ xs,SqL K H a xs→xs[i]?=some x)∧H'=upd H p (.tup [.int (i:Nat),x]),fun i H=>∃ xs,SqL K H a xs∧xs.length≤i⟩
theorem Qv6 {P:Fu} {w:Ft} {K:Fz} {es:List Fr} {x1} {tp:Pos} (a e it:Fw) (aH:e≠it):Turn P w K (.Tuple es x1 tp) (Ite K a) [e,it] e (fun i h=>(∃ aJ,IsEnum h e it ((i:Nat):Int) aJ)∧h.IsListIter it a i) where
 mem:=by simp
 obj:=fun i h st b hb=>by
  obtain ⟨⟨aJ,he⟩,o,ho,c,d⟩:=st
  have hb:b=e∨b=it:=by simpa using hb
  rcases hb with rfl | rfl
  ·exact ⟨_,he,fun v z=>by
    have z':Data.fields _=Data.cell v:=z
    cases z'⟩
  ·exact ⟨o,ho,fun v z=>by rw [d] at z;cases z⟩
 keep:=fun i h h' st k=>⟨let ⟨aJ,he⟩:=st.1;⟨aJ,k e (by simp) _ he⟩,st.2.at fun o q=>k it (by simp) o q⟩
 item:=by
  intro X hP hw hK hc i aa s σ H E I hf st hg
  subst hP hw hK
  obtain ⟨xs,x,hq,hx⟩:=hg
  obtain ⟨ac,rv,p,hz⟩:=I.list hq
  obtain ⟨u,hu,ru⟩:=rv.get hx
  obtain ⟨⟨aJ,he⟩,bq⟩:=st
  have fW:e<s.heap.objs.size:=Zj he
  refine wpAny_pyNext_enum_item he bq p.isList (x:=u) (by simpa using hu) aH fun h1 ho di hT aU hk=>⟨_,rfl,?_⟩
  refine Zc4 (s:={ s with heap:=h1,toks:=s.toks+1 }) ho fun h2 bD ao=>?_
  have ao:Heap.SameBut e h1 h2:=ao
  have eI:H s.heap.objs.size=none:=I.hok.fresh (Zk _)
  have I1:Inv X aa σ (upd H s.heap.objs.size (.tup [.int (i:Nat),x])) { s with heap:=s.heap.push { cls:=.type "tuple",data:=.seq #[.int (i:Nat) s.toks,u] },toks:=s.toks } :=
   I.laid (fun b o q=>Zb _ q) (Zk _) ⟨by show 2≤sizeLine;decide,[.int (i:Nat) s.toks,u],.cons ⟨_,rfl⟩ (.cons ru .nil),⟨_,Zn _ rfl,rfl,_,rfl,rfl⟩⟩
  have ne:∀ b∈[e,it],b≠s.heap.objs.size:=fun b hb=>by
   have hb:b=e∨b=it:=by simpa using hb
   obtain ⟨_,bv,_⟩:=bq
   rcases hb with rfl | rfl
   ·exact Zw fW
   ·exact Zw (Zj bv)
  have cD:∀ b∈[e,it],Qgp X aa (upd H s.heap.objs.size (.tup [.int (i:Nat),x])) b:=fun b hb=>⟨by rw [Q7 (ne b hb)];exact (hf b hb).1,(hf b hb).2⟩
  have I2:=I1.turnedL (h':=h2) (t':=s.toks+1) (fp:=[e,it]) (fun b o hb q=>by
   have bo:b≠e:=fun z=>hb (by simp [z])
   have fC:b≠it:=fun z=>hb (by simp [z])
   rw [ao.2 b bo]
   rcases Zcp q with ⟨rfl,rfl⟩ | q
   ·exact hT
   ·exact hk b o bo fC q) cD
  refine ⟨.ref s.heap.objs.size,_,I2,rfl,⟨_,x,rfl,eI,fun ys hy=>by rw [I.list_inj hy hq];exact hx,rfl⟩,⟨⟨u,?_⟩,di.at fun o q=>(ao.2 it aH.symm).trans q⟩,fun b hb=>(cD b hb).1⟩
  have:((i+1:Nat):Int)=(i:Int)+1:=by push_cast;rfl
  rw [this]
  exact bD
 done:=by
  intro X hP hw hK hc i aa s σ H E I hf st hg
  subst hP hw hK
  obtain ⟨xs,hq,hx⟩:=hg
  obtain ⟨ac,rv,p,hz⟩:=I.list hq
  obtain ⟨⟨aJ,he⟩,bq⟩:=st
  have hl:=rv.length
  refine wpAny_pyNext_enum_end (I.ok.hd hc) he bq p.isList (by simp;omega) fun h1 eb=>⟨rfl,I.turnedL (t':=s.toks) (fp:=[e,it]) (fun b o hb q=>eb b o (fun z=>hb (by simp [z])) q) hf⟩
 self:=fun _ _ _ _ _ st h=>let ⟨_,he⟩:=st.1;Zci he h
section
variable {X:Cx}
end
section
variable {P:Fu} {w:Ft} {A:Fv} {E:Fx→Fy→Prop} {s:Fy}
theorem Qlw {j t:Fw} {n:Nat} {vs:Array Fx} {v:Fx} {Q:Fx→Fy→Prop} (hj:s.heap.IsTupleIter j t n) (ht:s.heap.IsTuple t vs) (hv:vs[n]?=some v)
  (q:∀ g,g.IsTupleIter j t (n+1)→Heap.SameBut j s.heap g→Q v { s with heap:=g }):wpAny (model P w) A (Builtin.SmallTypes.nextOf (.ref j)) Q E s:=by
 obtain ⟨oj,ej,cj,dj⟩:=id hj
 obtain ⟨ot,et,_,m,dt⟩:=ht
 unfold Builtin.SmallTypes.nextOf
 refine Za (Zai (name:=Str.ofString "__next__") hj.typeIs F.slot_tuple_iterator_next (Za7 F.slot_tuple_iterator_next hj.typeIs F.entry_tuple_iterator_next ?_ (F.args_tuple_iterator_next_1 _)))
 show wpAny _ _ (field (.ref j) 0 >>= _) _ _ s
 refine Za (Zaa ej dj (x:=.ref t) rfl ?_)
 show wpAny _ _ (if (Value.ref t==Value.none)=true then _ else _) _ _ s;rw [Zg (show ¬ ((Value.ref t==Value.none)=true) from Zm)]
 show wpAny _ _ (field (.ref j) 1 >>= _) _ _ s
 refine Za (Zaa ej dj (x:=.int n 0) rfl ?_)
 show wpAny _ _ (seqItems? (.ref t) >>= _) _ _ s;refine Za (Zbi et dt ?_)
 simp only [Int.toNat_natCast,hv]
 refine Za (Zch ej dj (by simp) (Zi ⟨v,rfl,Zi (q _ ?_ (Heap.SameBut.update ..))⟩))
 exact ⟨_,Zbl _ ej (Zb6 (Zb3 dj _)),(Obj.cls_mapFields ..).trans cj,by rw [Zb3 dj];simp [rawInt]⟩
theorem Qjy {j t:Fw} {n:Nat} {vs:Array Fx} {Q:Fx→Fy→Prop} (hh:A.handled=none) (hj:s.heap.IsTupleIter j t n) (ht:s.heap.IsTuple t vs) (hv:vs[n]?=none)
  (q:∀ g e,Heap.ExtBut j s.heap g→(∃ o,g.get? e=some o∧o.cls=.type "StopIteration")→E (.ref e) { s with heap:=g }):wpAny (model P w) A (Builtin.SmallTypes.nextOf (.ref j)) Q E s:=by
 obtain ⟨oj,ej,cj,dj⟩:=id hj
 obtain ⟨ot,et,_,m,dt⟩:=ht
 unfold Builtin.SmallTypes.nextOf
 refine Za (Zai (name:=Str.ofString "__next__") hj.typeIs F.slot_tuple_iterator_next (Za7 F.slot_tuple_iterator_next hj.typeIs F.entry_tuple_iterator_next ?_ (F.args_tuple_iterator_next_1 _)))
 show wpAny _ _ (field (.ref j) 0 >>= _) _ _ s
 refine Za (Zaa ej dj (x:=.ref t) rfl ?_)
 show wpAny _ _ (if (Value.ref t==Value.none)=true then _ else _) _ _ s;rw [Zg (show ¬ ((Value.ref t==Value.none)=true) from Zm)]
 show wpAny _ _ (field (.ref j) 1 >>= _) _ _ s
 refine Za (Zaa ej dj (x:=.int n 0) rfl ?_)
 show wpAny _ _ (seqItems? (.ref t) >>= _) _ _ s;refine Za (Zbi et dt ?_)
 simp only [Int.toNat_natCast,hv]
 refine Za (Zdg (Za (Zch ej dj (by simp) ?_)))
 show wpAny _ _ (newExc (.type "StopIteration") [] >>= _) _ _ _;refine Za ?_
 simp only [newExc,newTuple]
 refine Za (Zac ?_ (by size_fits));refine Za (m:=firstArgMember _ _) (wpAny_of_eq (a:=Value.none) (by first | rfl | (simp only [firstArgMember];rfl)) ?_)
 refine Zac ?_ (by size_fits);simp only [raiseNew]
 refine Za (wpAny_handled ?_);first | rw [show A.in1.handled=none from hh] | rw [hh]
 exact Za (Zi (wpAny_throw (q _ _ (((Heap.SameBut.update ..).extBut.push _).push _) ⟨_,Zn _ rfl,rfl⟩)))
noncomputable def IsIt:Bool→Fq→Fw→Fw→Nat→Prop
 | true,h,i,l,n=>h.IsListIter i l n
 | false,h,i,l,n=>h.IsTupleIter i l n
noncomputable def IsSq:Bool→Fq→Fw→Array Fx→Prop
 | true,h,l,xs=>h.IsList l xs
 | false,h,l,xs=>h.IsTuple l xs
theorem IsIt.keep {lb:Bool} {h h':Fq} {i l:Fw} {n:Nat} (x:IsIt lb h i l n) (k:∀ o,h.get? i=some o→h'.get? i=some o):IsIt lb h' i l n:=by
 cases lb <;> exact let ⟨o,e,r⟩:=x;⟨o,k o e,r⟩
theorem IsSq.keep {lb:Bool} {h h':Fq} {l:Fw} {xs:Array Fx} (x:IsSq lb h l xs) (k:∀ o,h.get? l=some o→h'.get? l=some o):IsSq lb h' l xs:=by
 cases lb <;> exact let ⟨o,e,r⟩:=x;⟨o,k o e,r⟩
theorem IsIt.obj {lb:Bool} {h:Fq} {i l:Fw} {n:Nat} (x:IsIt lb h i l n):∃ o,h.get? i=some o∧∀ v,o.data≠.cell v:=by
 cases lb <;> exact let ⟨o,e,_,d⟩:=x;⟨o,e,fun v z=>by rw [d] at z;cases z⟩
theorem IsSq.obj {lb:Bool} {h:Fq} {l:Fw} {xs:Array Fx} (x:IsSq lb h l xs):∃ o,h.get? l=some o:=by
 cases lb <;> exact let ⟨o,e,_⟩:=x;⟨o,e⟩
theorem Qh8 {lb:Bool} {j t:Fw} {n:Nat} {vs:Array Fx} {v:Fx} {Q:Fx→Fy→Prop} (hj:IsIt lb s.heap j t n) (ht:IsSq lb s.heap t vs) (hv:vs[n]?=some v)
  (q:∀ g,IsIt lb g j t (n+1)→Heap.SameBut j s.heap g→Q v { s with heap:=g }):wpAny (model P w) A (Builtin.SmallTypes.nextOf (.ref j)) Q E s:=by
 cases lb
 ·exact Qlw hj ht hv q
 ·exact wpAny_nextOf_list_item hj ht hv q
theorem Qn3 {lb:Bool} {j t:Fw} {n:Nat} {vs:Array Fx} {Q:Fx→Fy→Prop} (hh:A.handled=none) (hj:IsIt lb s.heap j t n) (ht:IsSq lb s.heap t vs) (hv:vs[n]?=none)
  (q:∀ g e,Heap.ExtBut j s.heap g→(∃ o,g.get? e=some o∧o.cls=.type "StopIteration")→E (.ref e) { s with heap:=g }):wpAny (model P w) A (Builtin.SmallTypes.nextOf (.ref j)) Q E s:=by
 cases lb
 ·exact Qjy hh hj ht hv q
 ·exact wpAny_nextOf_list_end hh hj ht hv q
structure ZT (lb lc:Bool) (h:Fq) (z ti to i1 i2 l1 l2:Fw) (n:Nat) (xs ys:Array Fx):Prop where
 z:IsZip h z ti to .none
 ti:IsPair h ti (.ref i1) (.ref i2)
 to:∃ a b,IsPair h to a b
 i1:IsIt lb h i1 l1 n
 i2:IsIt lc h i2 l2 n
 l1:IsSq lb h l1 xs
 l2:IsSq lc h l2 ys
theorem Qv7 {lb lc:Bool} {z ti to i1 i2 l1 l2:Fw} {n:Nat} {xs ys:Array Fx} {x y:Fx} {Q:Option Fx→Fy→Prop} (D:ZipApart z ti to i1 i2 l1 l2) (st:ZT lb lc s.heap z ti to i1 i2 l1 l2 n xs ys) (hx:xs[n]?=some x) (hy:ys[n]?=some y)
  (q:∀ g,IsZip g z ti to (rawInt s.heap.objs.size)→(∃ a b,IsPair g to a b)→IsIt lb g i1 l1 (n+1)→IsIt lc g i2 l2 (n+1)→IsPair g s.heap.objs.size x y→g.objs.size=s.heap.objs.size+1 →
   (∀ c o,c≠z→c≠to→c≠i1→c≠i2→s.heap.get? c=some o→g.get? c=some o)→Q (some (.ref s.heap.objs.size)) { s with heap:=g }):wpAny (model P w) A (pyNext (.ref z)) Q E s:=by
 obtain ⟨hz,bP,⟨a,b,bW⟩,h1,h2,eW,dg⟩:=st
 have hT:s.TypeIs (.ref z) "zip" := ⟨_,hz,rfl⟩
 unfold pyNext
 refine Za (Zcm (Zai (name:=Str.ofString "__next__") hT F.slot_zip_next (Za7 F.slot_zip_next hT F.entry_zip_next ?_ (F.args_zip_next_1 _))))
 show wpAny _ _ (field (.ref z) 2 >>= _) _ _ _;refine Za (Zaa hz rfl (x:=.bool false) rfl ?_)
 show wpAny _ _ (field (.ref z) 3 >>= _) _ _ _;refine Za (Zaa hz rfl (x:=.ref ti) rfl ?_)
 refine Za (Zbi bP rfl ?_)
 show wpAny _ _ (Builtin.SmallTypes.ownedTupleIsFree (.ref z) >>= _) _ _ _;refine Za ?_
 unfold Builtin.SmallTypes.ownedTupleIsFree
 refine Za (Zaa hz rfl (x:=.none) rfl (Zi ?_));simp only [Zl]
 refine Za (Zdg ?_)
 refine Za (Zaa hz rfl (x:=.ref to) rfl ?_)
 refine Za (Zbk hz (by simp) fun g1 z1 s1=>?_)
 replace z1:IsZip g1 z ti to .ellipsis:=z1
 refine Za ?_;simp only [List.zipIdx_cons,List.zipIdx_nil,List.forIn_cons,Zed]
 refine Za (Za (Zcl ?_));show wpAny _ _ (Builtin.SmallTypes.nextOf (.ref i1) >>= _) _ _ _
 refine Za (Qh8 (h1.keep fun o e=>s1.extBut _ _ D.i1z e) (eW.keep fun o e=>s1.extBut _ _ D.l1z e) hx fun g2 j1 s2=>Zi ?_)
 have eH:IsPair g2 to a b:=s2.extBut _ _ D.TOi1 (s1.extBut _ _ D.TOz bW)
 refine Za (Zbi eH rfl ?_);refine Za (Zcq eH fun g3 eQ s3=>?_)
 replace eQ:IsPair g3 to x b:=eQ
 refine Za (wpAny_letGo (Zi ?_));refine Za (Za (Zcl ?_))
 show wpAny _ _ (Builtin.SmallTypes.nextOf (.ref i2) >>= _) _ _ _
 refine Za (Qh8 (((h2.keep fun o e=>s1.extBut _ _ D.i2z e).keep fun o e=>s2.extBut _ _ D.i12.symm e).keep fun o e=>s3.extBut _ _ D.TOi2.symm e) (((dg.keep fun o e=>s1.extBut _ _ D.l2z e).keep fun o e=>s2.extBut _ _ D.l2i1 e).keep fun o e=>s3.extBut _ _ D.l2TO e) hy fun g4 j2 s4=>Zi ?_)
 have gY:IsPair g4 to x b:=s4.extBut _ _ D.TOi2 eQ
 refine Za (Zbi gY rfl ?_);refine Za (Zcq gY fun g5 fh s5=>?_)
 replace fh:IsPair g5 to x y:=fh
 refine Za (wpAny_letGo (Zi (Zi ?_)));refine Za (Zbi fh rfl ?_)
 refine Za (wpAny_newTuple ?_)
 have sz:g5.objs.size=s.heap.objs.size:=by rw [s5.1,s4.1,s3.1,s2.1,s1.1]
 have z5:IsZip g5 z ti to .ellipsis:=s5.extBut _ _ D.TOz.symm (s4.extBut _ _ D.i2z.symm (s3.extBut _ _ D.TOz.symm (s2.extBut _ _ D.i1z.symm z1)))
 have k5:∀ c o,c≠z→c≠to→c≠i1→c≠i2→s.heap.get? c=some o→g5.get? c=some o:=fun c o c1 c2 c3 c4 e=>s5.extBut _ _ c2 (s4.extBut _ _ c4 (s3.extBut _ _ c2 (s2.extBut _ _ c3 (s1.extBut _ _ c1 e))))
 have jw:IsIt lb g5 i1 l1 (n+1):=((j1.keep fun o e=>s3.extBut _ _ D.TOi1.symm e).keep fun o e=>s4.extBut _ _ D.i12 e).keep fun o e=>s5.extBut _ _ D.TOi1.symm e
 have kj:IsIt lc g5 i2 l2 (n+1):=j2.keep fun o e=>s5.extBut _ _ D.TOi2.symm e
 have zl:z<g5.objs.size:=Zj z5
 show wpAny _ _ (Builtin.SmallTypes.ownedTupleHandOut (.ref z) (.ref g5.objs.size) >>= _) _ _ _
 refine Za ?_;unfold Builtin.SmallTypes.ownedTupleHandOut
 have z6:IsZip (g5.push { cls:=.type "tuple",data:=.seq #[x,y] }) z ti to .ellipsis:=Zb _ z5
 refine Za (Zbk z6 (by simp) fun g7 z7 s7=>?_)
 replace z7:IsZip g7 z ti to (rawInt g5.objs.size):=z7
 refine Zbk z7 (by simp) fun g8 z8 s8=>?_
 replace z8:IsZip g8 z ti to (rawInt g5.objs.size):=z8
 have up:∀ c o,c≠z→g5.get? c=some o→g8.get? c=some o:=fun c o c1 e=>s8.extBut _ _ c1 (s7.extBut _ _ c1 (Zb _ e))
 have t8:IsPair g8 g5.objs.size x y:=s8.extBut _ _ (Zcg zl) (s7.extBut _ _ (Zcg zl) (Zn _ rfl))
 have n8:g8.objs.size=g5.objs.size+1:=by rw [s8.1,s7.1,Zaw]
 rw [sz] at z8 t8 n8
 refine Zi ⟨_,rfl,?_⟩
 refine Zi ?_
 show Q (some (.ref g5.objs.size)) _
 rw [sz]
 exact q g8 z8 ⟨x,y,up _ _ D.TOz fh⟩ (jw.keep fun o e=>up _ o D.i1z e) (kj.keep fun o e=>up _ o D.i2z e) t8 n8 fun c o c1 c2 c3 c4 e=>up c o c1 (k5 c o c1 c2 c3 c4 e)
theorem Qyn {lb lc:Bool} {z ti to i1 i2 l1 l2:Fw} {n:Nat} {xs ys:Array Fx} {Q:Option Fx→Fy→Prop} (hh:A.handled=none) (D:ZipApart z ti to i1 i2 l1 l2) (st:ZT lb lc s.heap z ti to i1 i2 l1 l2 n xs ys) (he:xs[n]?=none∨ys[n]?=none)
  (q:∀ g,(∀ c o,c≠z→c≠to→c≠i1→c≠i2→s.heap.get? c=some o→g.get? c=some o)→Q none { s with heap:=g }):wpAny (model P w) A (pyNext (.ref z)) Q E s:=by
 obtain ⟨hz,bP,⟨a,b,bW⟩,h1,h2,eW,dg⟩:=st
 have hT:s.TypeIs (.ref z) "zip" := ⟨_,hz,rfl⟩
 unfold pyNext
 have fin:∀ g e,(∀ c o,c≠z→c≠to→c≠i1→c≠i2→s.heap.get? c=some o→g.get? c=some o)→(∃ o,g.get? e=some o∧o.cls=.type "StopIteration") →
   wpAny (model P w) A (do if ← isInstance (.ref e) (.type "StopIteration") then pure none else throw (.ref e)) Q E { s with heap:=g }:=fun g e hk ⟨o,ho,hc⟩ =>
  Za (wpAny_isInstance (T := "StopIteration") (b:=true) ⟨o,ho,hc⟩ isSubtype_stop (Zi (q _ hk)))
 refine Za (Zcm (Zai (name:=Str.ofString "__next__") hT F.slot_zip_next (Za7 F.slot_zip_next hT F.entry_zip_next ?_ (F.args_zip_next_1 _))))
 show wpAny _ _ (field (.ref z) 2 >>= _) _ _ _;refine Za (Zaa hz rfl (x:=.bool false) rfl ?_)
 show wpAny _ _ (field (.ref z) 3 >>= _) _ _ _;refine Za (Zaa hz rfl (x:=.ref ti) rfl ?_)
 refine Za (Zbi bP rfl ?_)
 show wpAny _ _ (Builtin.SmallTypes.ownedTupleIsFree (.ref z) >>= _) _ _ _;refine Za ?_
 unfold Builtin.SmallTypes.ownedTupleIsFree
 refine Za (Zaa hz rfl (x:=.none) rfl (Zi ?_));simp only [Zl]
 refine Za (Zdg ?_)
 refine Za (Zaa hz rfl (x:=.ref to) rfl ?_)
 refine Za (Zbk hz (by simp) fun g1 z1 s1=>?_)
 replace z1:IsZip g1 z ti to .ellipsis:=z1
 refine Za ?_;simp only [List.zipIdx_cons,List.zipIdx_nil,List.forIn_cons,Zed]
 refine Za (Za (Zcl ?_));show wpAny _ _ (Builtin.SmallTypes.nextOf (.ref i1) >>= _) _ _ _
 cases hx:xs[n]? with
 | none =>
  refine Za (Qn3 hh (h1.keep fun o e=>s1.extBut _ _ D.i1z e) (eW.keep fun o e=>s1.extBut _ _ D.l1z e) hx fun g2 e s2 ⟨oe,ca,bD⟩=>?_)
  have z2:IsZip g2 z ti to .ellipsis:=s2 _ _ D.i1z.symm z1
  have ez:e≠z:=fun x=>by subst x;rw [z2] at ca;cases ca;simp at bD
  exact Zbk z2 (by simp) fun g3 _ s3=>fin g3 e (fun c o c1 _ c3 _ x=>s3.extBut _ _ c1 (s2 _ _ c3 (s1.extBut _ _ c1 x))) ⟨oe,s3.extBut _ _ ez ca,bD⟩
 | some x =>
  have hy:ys[n]?=none:=by rcases he with h | h;rw [hx] at h;cases h;exact h
  refine Za (Qh8 (h1.keep fun o e=>s1.extBut _ _ D.i1z e) (eW.keep fun o e=>s1.extBut _ _ D.l1z e) hx fun g2 j1 s2=>Zi ?_)
  have eH:IsPair g2 to a b:=s2.extBut _ _ D.TOi1 (s1.extBut _ _ D.TOz bW)
  refine Za (Zbi eH rfl ?_);refine Za (Zcq eH fun g3 eQ s3=>?_)
  refine Za (wpAny_letGo (Zi ?_));refine Za (Za (Zcl ?_))
  show wpAny _ _ (Builtin.SmallTypes.nextOf (.ref i2) >>= _) _ _ _
  refine Za (Qn3 hh (((h2.keep fun o e=>s1.extBut _ _ D.i2z e).keep fun o e=>s2.extBut _ _ D.i12.symm e).keep fun o e=>s3.extBut _ _ D.TOi2.symm e) (((dg.keep fun o e=>s1.extBut _ _ D.l2z e).keep fun o e=>s2.extBut _ _ D.l2i1 e).keep fun o e=>s3.extBut _ _ D.l2TO e) hy fun g4 e s4 ⟨oe,ca,bD⟩=>?_)
  have z4:IsZip g4 z ti to .ellipsis:=s4 _ _ D.i2z.symm (s3.extBut _ _ D.TOz.symm (s2.extBut _ _ D.i1z.symm z1))
  have ez:e≠z:=fun x=>by subst x;rw [z4] at ca;cases ca;simp at bD
  exact Zbk z4 (by simp) fun g5 _ s5=>fin g5 e (fun c o c1 c2 c3 c4 x=>s5.extBut _ _ c1 (s4 _ _ c4 (s3.extBut _ _ c2 (s2.extBut _ _ c3 (s1.extBut _ _ c1 x))))) ⟨oe,s5.extBut _ _ ez ca,bD⟩
end
def itN:Bool→String
 | true => "list_iterator"
 | false => "tuple_iterator"
noncomputable abbrev zt0 (lb:Bool) (h:Fq) (l:Fw):Fq:=h.push { cls:=.type (itN lb),data:=.fields #[.ref l,.int 0 0] }
noncomputable abbrev zt3 (lb lc:Bool) (h:Fq) (l m:Fw):Fq:=(zt0 lc (zt0 lb h l) m).push { cls:=.type "tuple",data:=.seq #[.ref h.objs.size,.ref (zt0 lb h l).objs.size] }
noncomputable abbrev zt4 (lb lc:Bool) (h:Fq) (l m:Fw):Fq:=(zt3 lb lc h l m).push { cls:=.type "tuple",data:=.seq #[.none,.none] }
noncomputable abbrev zt5 (lb lc:Bool) (h:Fq) (l m:Fw):Fq:=(zt4 lb lc h l m).push { cls:=.type "zip",data:=.fields #[.none,.bool false,.bool false,.ref (zt0 lc (zt0 lb h l) m).objs.size,.ref (zt3 lb lc h l m).objs.size] }
set_option maxHeartbeats 2000000 in
theorem Qsj (lb lc:Bool) (l m:Fw) (xs ys:Array Fx) :
  Meets (Builtin.«zip.__new__» ⟨[.type "zip",.ref l,.ref m],[]⟩) (fun _ R s=>IsSq lb s.heap l xs∧IsSq lc s.heap m ys∧R (.ok (.ret (.ref (zt4 lb lc s.heap l m).objs.size))) { s with heap:=zt5 lb lc s.heap l m }):=by
 refine .of_wp fun prog w A R s h=>?_
 obtain ⟨hp,g,d,tk,os⟩:=s
 obtain ⟨h1,h2,h⟩:=h
 have gh:=sub_zip
 have k2:IsSq lc (zt0 lb hp l) m ys:=h2.keep fun o e=>Zb _ e
 cases lb <;> cases lc
 ·have k1:Heap.IsTuple (Shared.heap ⟨hp,g,d,tk,os⟩) l xs:=h1
  have k2:Heap.IsTuple (Shared.heap ⟨hp.push { cls:=.type "tuple_iterator",data:=.fields #[.ref l,.int 0 0] },g,d,tk,os⟩) m ys:=k2
  wp_walk using Zay k1,Zay k2
  exact ⟨_,rfl,h⟩
 ·have k1:Heap.IsTuple (Shared.heap ⟨hp,g,d,tk,os⟩) l xs:=h1
  have k2:Heap.IsList (Shared.heap ⟨hp.push { cls:=.type "tuple_iterator",data:=.fields #[.ref l,.int 0 0] },g,d,tk,os⟩) m ys:=k2
  wp_walk using Zay k1,Zbs k2
  exact ⟨_,rfl,h⟩
 ·have k1:Heap.IsList (Shared.heap ⟨hp,g,d,tk,os⟩) l xs:=h1
  have k2:Heap.IsTuple (Shared.heap ⟨hp.push { cls:=.type "list_iterator",data:=.fields #[.ref l,.int 0 0] },g,d,tk,os⟩) m ys:=k2
  wp_walk using Zbs k1,Zay k2
  exact ⟨_,rfl,h⟩
 ·have k1:Heap.IsList (Shared.heap ⟨hp,g,d,tk,os⟩) l xs:=h1
  have k2:Heap.IsList (Shared.heap ⟨hp.push { cls:=.type "list_iterator",data:=.fields #[.ref l,.int 0 0] },g,d,tk,os⟩) m ys:=k2
  wp_walk using Zbs k1,Zbs k2
  exact ⟨_,rfl,h⟩
section
variable {P:Fu} {w:Ft} {A:Fv} {E:Fx→Fy→Prop} {s:Fy}
theorem Qv8 {lb lc:Bool} {l m:Fw} {xs ys:Array Fx} {Q:Fx→Fy→Prop} (h1:IsSq lb s.heap l xs) (h2:IsSq lc s.heap m ys)
  (q:∀ g,ZT lb lc g (s.heap.objs.size+4) (s.heap.objs.size+2) (s.heap.objs.size+3) s.heap.objs.size (s.heap.objs.size+1) l m 0 xs ys→(∀ c o,s.heap.get? c=some o→g.get? c=some o)→Q (.ref (s.heap.objs.size+4)) { s with heap:=g }) :
  wpAny (model P w) A (call (.type "zip") [.ref l,.ref m]) Q E s:=by
 refine callType_new F.called_zip (by decide) (F.typeCall_zip_2 _ _) (F.newCall_zip_2 _ _) (fun obj=>F.args_object_init_3 obj _ _) F.entry_zip_new (Qsj lb lc l m xs ys) ⟨h1,h2,?_⟩
 have n1:(zt0 lb s.heap l).objs.size=s.heap.objs.size+1:=Zaw ..
 have n2:(zt0 lc (zt0 lb s.heap l) m).objs.size=s.heap.objs.size+2:=by rw [Zaw,n1]
 have n3:(zt3 lb lc s.heap l m).objs.size=s.heap.objs.size+3:=by rw [Zaw,n2]
 have n4:(zt4 lb lc s.heap l m).objs.size=s.heap.objs.size+4:=by rw [Zaw,n3]
 have up:∀ c o,s.heap.get? c=some o→(zt5 lb lc s.heap l m).get? c=some o:=fun c o x=>Zb _ (Zb _ (Zb _ (Zb _ (Zb _ x))))
 have g5:(zt5 lb lc s.heap l m).get? (zt4 lb lc s.heap l m).objs.size=some _:=Zn _ rfl
 have g4:(zt5 lb lc s.heap l m).get? (zt3 lb lc s.heap l m).objs.size=some _:=Zb _ (Zn _ rfl)
 have g3:(zt5 lb lc s.heap l m).get? (zt0 lc (zt0 lb s.heap l) m).objs.size=some _:=Zb _ (Zb _ (Zn _ rfl))
 have g2:(zt5 lb lc s.heap l m).get? (zt0 lb s.heap l).objs.size=some _:=Zb _ (Zb _ (Zb _ (Zn _ rfl)))
 have g1:(zt5 lb lc s.heap l m).get? s.heap.objs.size=some _:=Zb _ (Zb _ (Zb _ (Zb _ (Zn _ rfl))))
 show _∧_
 rw [n2,n3,n4] at g5
 rw [n1,n2] at g3
 rw [n3] at g4
 rw [n1] at g2
 rw [n4]
 exact ⟨⟨_,g5,rfl⟩,q _ ⟨g5,g3,⟨_,_,g4⟩,(by cases lb <;> exact ⟨_,g1,rfl,rfl⟩),(by cases lc <;> exact ⟨_,g2,rfl,rfl⟩),h1.keep fun o e=>up _ o e,h2.keep fun o e=>up _ o e⟩ up⟩
end
noncomputable def SqB:Bool→Fz→Hp→Fw→List V→Prop
 | true,K,H,a,xs=>SqL K H a xs
 | false,K,H,a,xs=>SqT K H a xs
theorem Inv.sqB {lb:Bool} {X:Cx} {aa:List (Fw×Obj)} {σ:St} {H:Hp} {s:Fy} {a:Fw} {xs:List V} (I:Inv X aa σ H s) (h:SqB lb X.K H a xs):∃ ac:List Fx,Vals xs ac∧IsSq lb s.heap a ac.toArray:=by
 cases lb
 ·obtain ⟨ac,r,p,_⟩:=I.tuple h
  exact ⟨ac,r,p⟩
 ·obtain ⟨ac,r,p,_⟩:=I.list h
  exact ⟨ac,r,p.isList⟩
theorem Inv.sqB_inj {lb:Bool} {X:Cx} {aa:List (Fw×Obj)} {σ:St} {H:Hp} {s:Fy} {a:Fw} {xs ys:List V} (I:Inv X aa σ H s) (h:SqB lb X.K H a xs) (h':SqB lb X.K H a ys):xs=ys:=by
 cases lb
 ·exact I.tuple_inj h h'
 ·exact I.list_inj h h'
noncomputable def Itz (lb lc:Bool) (K:Fz) (a b:Fw):It :=
 ⟨fun i H=>∃ xs ys x y,SqB lb K H a xs∧SqB lc K H b ys∧xs[i]?=some x∧ys[i]?=some y,fun i H v H'=>∃ p x y,v=.ref p∧H p=none∧(∀ xs,SqB lb K H a xs→xs[i]?=some x)∧(∀ ys,SqB lc K H b ys→ys[i]?=some y)∧H'=upd H p (.tup [x,y]),fun i H=>∃ xs ys,SqB lb K H a xs∧SqB lc K H b ys∧(xs.length≤i∨ys.length≤i)⟩
theorem Qyo {P:Fu} {w:Ft} {K:Fz} {es:List Fr} {x1} {tp:Pos} (lb lc:Bool) (a b z ti to i1 i2:Fw) (D:ZipApart z ti to i1 i2 a b):Turn P w K (.Tuple es x1 tp) (Itz lb lc K a b) [z,ti,to,i1,i2] z (fun i h=>IsZip h z ti to .none∧IsPair h ti (.ref i1) (.ref i2)∧(∃ u v,IsPair h to u v)∧IsIt lb h i1 a i∧IsIt lc h i2 b i) where
 mem:=by simp
 obj:=fun i h st c hc=>by
  obtain ⟨hz,bP,⟨u,v,bW⟩,h1,h2⟩:=st
  have hc:c=z∨c=ti∨c=to∨c=i1∨c=i2:=by simpa using hc
  rcases hc with rfl | rfl | rfl | rfl | rfl
  ·exact ⟨_,hz,fun v z=>by
    have z':Data.fields _=Data.cell v:=z
    cases z'⟩
  ·exact ⟨_,bP,fun v z=>by
    have z':Data.seq _ _=Data.cell v:=z
    cases z'⟩
  ·exact ⟨_,bW,fun v z=>by
    have z':Data.seq _ _=Data.cell v:=z
    cases z'⟩
  ·exact h1.obj
  ·exact h2.obj
 keep:=fun i h h' st k=>⟨k z (by simp) _ st.1,k ti (by simp) _ st.2.1,let ⟨u,v,e⟩:=st.2.2.1;⟨u,v,k to (by simp) _ e⟩,st.2.2.2.1.keep fun o e=>k i1 (by simp) o e,st.2.2.2.2.keep fun o e=>k i2 (by simp) o e⟩
 item:=by
  intro X hP hw hK hc i aa s σ H E I hf st hg
  subst hP hw hK
  obtain ⟨xs,ys,x,y,eY,eU,hx,hy⟩:=hg
  obtain ⟨kl,fL,pa⟩:=I.sqB eY
  obtain ⟨jv,fq,pb⟩:=I.sqB eU
  obtain ⟨u,hu,ru⟩:=fL.get hx
  obtain ⟨v,hv,rv⟩:=fq.get hy
  obtain ⟨hz,bP,bW,h1,h2⟩:=st
  refine Qv7 D ⟨hz,bP,bW,h1,h2,pa,pb⟩ (x:=u) (y:=v) (by simpa using hu) (by simpa using hv) fun g gz jj g1 g2 gT gn gk=>⟨_,rfl,?_⟩
  refine wpAny_letOwnedTupleGo_zip (s:={ s with heap:=g }) gz fun f fz fs=>?_
  have fs:Heap.SameBut z g f:=fs
  have eI:H s.heap.objs.size=none:=I.hok.fresh (Zk _)
  have I1:Inv X aa σ (upd H s.heap.objs.size (.tup [x,y])) { s with heap:=s.heap.push { cls:=.type "tuple",data:=.seq #[u,v] },toks:=s.toks } :=
   I.laid (fun b o q=>Zb _ q) (Zk _) ⟨by show 2≤sizeLine;decide,[u,v],.cons ru (.cons rv .nil),⟨_,Zn _ rfl,rfl,_,rfl,rfl⟩⟩
  have lt:∀ {c o},s.heap.get? c=some o→c≠s.heap.objs.size:=fun e=>Zw (Zj e)
  have ne:∀ c∈[z,ti,to,i1,i2],c≠s.heap.objs.size:=fun c hc=>by
   have hc:c=z∨c=ti∨c=to∨c=i1∨c=i2:=by simpa using hc
   obtain ⟨_,_,fT⟩:=bW
   obtain ⟨_,e1,_⟩:=h1.obj
   obtain ⟨_,e2,_⟩:=h2.obj
   rcases hc with rfl | rfl | rfl | rfl | rfl
   ·exact lt hz
   ·exact lt bP
   ·exact lt fT
   ·exact lt e1
   ·exact lt e2
  have cD:∀ c∈[z,ti,to,i1,i2],Qgp X aa (upd H s.heap.objs.size (.tup [x,y])) c:=fun c hc=>⟨by rw [Q7 (ne c hc)];exact (hf c hc).1,(hf c hc).2⟩
  have I2:=I1.turnedL (h':=f) (t':=s.toks) (fp:=[z,ti,to,i1,i2]) (fun c o hc q=>by
   have c1:c≠z:=fun e=>hc (by simp [e])
   have c2:c≠to:=fun e=>hc (by simp [e])
   have c3:c≠i1:=fun e=>hc (by simp [e])
   have c4:c≠i2:=fun e=>hc (by simp [e])
   rw [fs.2 c c1]
   rcases Zcp q with ⟨rfl,rfl⟩ | q
   ·exact gT
   ·exact gk c o c1 c2 c3 c4 q) cD
  refine ⟨.ref s.heap.objs.size,_,I2,rfl,⟨_,x,y,rfl,eI,fun ys hy=>by rw [I.sqB_inj hy eY];exact hx,fun zs hz=>by rw [I.sqB_inj hz eU];exact hy,rfl⟩,⟨fz,?_,?_,?_,?_⟩,fun c hc=>(cD c hc).1⟩
  ·exact fs.extBut _ _ D.TIz (gk _ _ D.TIz D.TITO D.TIi1 D.TIi2 bP)
  ·obtain ⟨p,q,e⟩:=jj
   exact ⟨p,q,fs.extBut _ _ D.TOz e⟩
  ·exact g1.keep fun o e=>fs.extBut _ _ D.i1z e
  ·exact g2.keep fun o e=>fs.extBut _ _ D.i2z e
 done:=by
  intro X hP hw hK hc i aa s σ H E I hf st hg
  subst hP hw hK
  obtain ⟨xs,ys,eY,eU,hl⟩:=hg
  obtain ⟨kl,fL,pa⟩:=I.sqB eY
  obtain ⟨jv,fq,pb⟩:=I.sqB eU
  obtain ⟨hz,bP,bW,h1,h2⟩:=st
  have e1:=fL.length
  have e2:=fq.length
  refine Qyn (I.ok.hd hc) D ⟨hz,bP,bW,h1,h2,pa,pb⟩ (by
   rcases hl with h | h
   ·exact .inl (by simp;omega)
   ·exact .inr (by simp;omega)) fun g gk=>⟨rfl,I.turnedL (t':=s.toks) (fp:=[z,ti,to,i1,i2]) (fun c o hc q=>gk c o (fun e=>hc (by simp [e])) (fun e=>hc (by simp [e])) (fun e=>hc (by simp [e])) (fun e=>hc (by simp [e])) q) hf⟩
 self:=fun _ _ _ _ _ st h=>wpAny_pyIter_zip st.1 h
theorem Qv9 (n a b:Nat) (h1:a<n) (h2:b<n):ZipApart (n+4) (n+2) (n+3) n (n+1) a b:=by constructor <;> (first | exact Zw (by omega) | exact Zcg (by omega))
section
variable {X:Cx}
noncomputable def iZip (K:Fz) (ta:TA):TI:=fun σ H R=>ta σ H fun vs H1=>∃ lb lc a b xs ys,vs=[.ref a,.ref b]∧SqB lb K H1 a xs∧SqB lc K H1 b ys∧R (Itz lb lc K a b) H1
theorem Q73 {a b:Fr} {ta:TA} {es:List Fr} {x1} {tp p pos:Pos} (K:Fz) (hK:X.K=K) (hg:Gl X "zip") (hm:X.mg "zip" = none) (hb:PySem.bootBuiltins "zip" = some (.type "zip")) (ha:PA X [a,b] ta) (hs:Qo a=true) (ao:Qo b=true) :
  PI X (.Tuple es x1 tp) (.Call (.Name "zip" p) [a,b] [] pos) (iZip K ta):=by
 subst hK
 intro aa s σ H R I h
 refine Call_ (Qgs I hg hm hb (Zaq (thn (ha pos aa s σ H _ I h) fun us s1 ⟨vs,H1,I1,r1,q1⟩=>?_) (Qah hs) (by rw [Qah ao];rfl)))
 obtain ⟨lb,lc,c,d,xs,ys,e,jK,jb,q⟩:=q1
 subst e
 cases r1 with
 | cons r rr =>
  cases rr with
  | cons r' rr' =>
   cases rr'
   cases r
   cases r'
   obtain ⟨k9,kE,pc⟩:=I1.sqB jK
   obtain ⟨kD,kB,pd⟩:=I1.sqB jb
   have jr:c<s1.heap.objs.size:=let ⟨_,e⟩:=pc.obj;Zj e
   have ld:d<s1.heap.objs.size:=let ⟨_,e⟩:=pd.obj;Zj e
   refine Qv8 pc pd fun g st hk=>wpAny_pyIter_zip st.z ?_
   refine ⟨s1.heap.objs.size+4,[s1.heap.objs.size+4,s1.heap.objs.size+2,s1.heap.objs.size+3,s1.heap.objs.size,s1.heap.objs.size+1],_,_,H1,rfl,I1.kept (t':=s1.toks) hk,Qyo lb lc c d _ _ _ _ _ (Qv9 _ _ _ jr ld),⟨st.z,st.ti,st.to,st.i1,st.i2⟩,fun f hf=>?_,q⟩
   have lf:s1.heap.objs.size≤f:=by
    have hf:f=s1.heap.objs.size+4∨f=s1.heap.objs.size+2∨f=s1.heap.objs.size+3∨f=s1.heap.objs.size∨f=s1.heap.objs.size+1:=by simpa using hf
    rcases hf with rfl | rfl | rfl | rfl | rfl <;> first | exact Zk _ | exact Nat.le_add_right _ _
   exact I1.fpOk lf (I1.hok.fresh lf)
theorem Qacj {a b:Fr} {ta:TA} {es:List Fr} {x1} {tp p pos:Pos} (K:Fz) (hK:X.K=K) (hm:X.mg "zip" = none) (hb:PySem.bootBuiltins "zip" = some (.type "zip")) (ha:QA X [a,b] ta) (hg:Gl X "zip") (hs:Qo a=true) (ao:Qo b=true) :
  QI X (.Tuple es x1 tp) (.Call (.Name "zip" p) [a,b] [] pos) (iZip K ta):=⟨Q73 K hK hg hm hb ha.h hs ao⟩
end
theorem Q74 {prog:Fu} {w:Ft} {A:Fv} (hh:A.handled=none) (it l:Fw) (aH:l≠it) (items:Array Fx) :
  Draws prog w A it [it,l] items.size (fun i v=>items[i]?=some v) (fun i h=>h.IsTupleIter it l i∧h.IsTuple l items) where
 live:=fun _ _ st=>let ⟨o,ho,_⟩:=st.1;⟨o,ho⟩
 frame:=fun _ _ _ st hk=>⟨let ⟨o,e,r⟩:=st.1;⟨o,hk it (by simp) o e,r⟩,let ⟨o,e,r⟩:=st.2;⟨o,hk l (by simp) o e,r⟩⟩
 item:=fun i s Q E hi st hQ=>by
  refine Qlw st.1 st.2 (v:=items[i]) (by simp [hi]) fun h' fy eN=>?_
  exact hQ _ h' s.toks (by simp [hi]) ⟨fy,let ⟨o,e,r⟩:=st.2;⟨o,eN.extBut _ _ aH e,r⟩⟩ eN
 done:=fun s Q E st hE=>Qjy hh st.1 st.2 (by simp) hE
set_option maxHeartbeats 1000000 in
theorem Qqp (l:Fw) (items:Array Fx) (n:Nat) (dct:Option Fw) (sl:Array (Option Fx)) :
  Meets (Builtin.«enumerate.__new__» ⟨[.type "enumerate",.ref l],[]⟩) (fun _ R s=>s.heap.get? l=some { cls:=.type "tuple",dict:=dct,data:=.seq items n,slots:=sl } ∧
   R (.ok (.ret (.ref (s.heap.push { cls:=.type "tuple_iterator",data:=.fields #[.ref l,.int 0 0] }).objs.size)))
    { s with heap:=(s.heap.push { cls:=.type "tuple_iterator",data:=.fields #[.ref l,.int 0 0] }).push { cls:=.type "enumerate",data:=.fields #[.none,.bool false,.ref s.heap.objs.size,rawInt 0,.none,.none] } }) :=
 .of_wp fun prog w A R s h=>by
  obtain ⟨hp,g,d,tk,os⟩:=s;obtain ⟨hl,h⟩:=h
  have gh:=sub_enumerate
  have hL:Heap.IsTuple (Shared.heap ⟨hp,g,d,tk,os⟩) l items:=⟨_,hl,rfl,n,rfl⟩
  wp_walk using Za8 hl
  refine wpAny_stack_any fun st=>Zi ?_
  split
  ·rename_i c _ _ _ _ _
   cases (c==Value.type "enumerate")
   ·wp_walk using Za8 hl,Zay hL
    exact ⟨_,rfl,h⟩
   ·wp_walk using Za8 hl,Zay hL
    exact ⟨_,rfl,h⟩
  ·wp_walk using Za8 hl,Zay hL
   exact ⟨_,rfl,h⟩
section
variable {prog:Fu} {w:Ft} {A:Fv} {E:Fx→Fy→Prop} {s:Fy}
theorem Qsk {l:Fw} {items:Array Fx} {Q:Fx→Fy→Prop} (hL:s.heap.IsTuple l items)
  (h:∀ h',IsEnum h' (s.heap.objs.size+1) s.heap.objs.size 0 .none→h'.IsTupleIter s.heap.objs.size l 0→h'.objs.size=s.heap.objs.size+2 →
   (∀ b o,s.heap.get? b=some o→h'.get? b=some o)→Q (.ref (s.heap.objs.size+1)) { s with heap:=h' }) :
  wpAny (model prog w) A (call (.type "enumerate") [.ref l]) Q E s:=by
 obtain ⟨⟨c,dct,dt,sl⟩,hl,hc,n,hd⟩:=hL
 replace hc:c=.type "tuple" := hc
 replace hd:dt=.seq items n:=hd
 subst hc hd
 refine callType_new F.called_enumerate (by decide) (F.typeCall_enumerate_1 _) (F.newCall_enumerate_1 _) (fun obj=>F.args_object_init_2 obj _) F.entry_enumerate_new
  (Qqp l items n dct sl) ⟨hl,?_⟩
 have hz:(s.heap.push { cls:=.type "tuple_iterator",data:=.fields #[.ref l,.int 0 0] }).objs.size=s.heap.objs.size+1:=Zaw ..
 show _∧_
 rw [hz]
 have he:IsEnum ((s.heap.push { cls:=.type "tuple_iterator",data:=.fields #[.ref l,.int 0 0] }).push
   { cls:=.type "enumerate",data:=.fields #[.none,.bool false,.ref s.heap.objs.size,rawInt 0,.none,.none] }) (s.heap.objs.size+1) s.heap.objs.size 0 .none:=by
  have:=Zn (s.heap.push { cls:=.type "tuple_iterator",data:=.fields #[.ref l,.int 0 0] })
   (o:={ cls:=.type "enumerate",data:=.fields #[.none,.bool false,.ref s.heap.objs.size,rawInt 0,.none,.none] }) rfl
  rw [hz] at this;exact this
 refine ⟨⟨_,he,rfl⟩,h _ he ⟨_,Zb _ (Zn _ rfl),rfl,rfl⟩ (by rw [Zaw,hz]) fun b o x=>Zb _ (Zb _ x)⟩
theorem Qwa {e it l:Fw} {i:Nat} {items:Array Fx} {aJ:Fx} {Q:Option Fx→Fy→Prop} (hh:A.handled=none)
  (he:IsEnum s.heap e it i aJ) (bq:s.heap.IsTupleIter it l i) (hl:s.heap.IsTuple l items) (hx:items[i]?=none)
  (hQ:∀ h',Heap.ExtBut it s.heap h'→Q none { s with heap:=h' }):wpAny (model prog w) A (pyNext (.ref e)) Q E s:=by
 have hT:s.TypeIs (.ref e) "enumerate" := ⟨_,he,rfl⟩
 unfold pyNext
 refine Za (Zcm (Zai (name:=Str.ofString "__next__") hT F.slot_enumerate_next
  (Za7 F.slot_enumerate_next hT F.entry_enumerate_next ?_ (F.args_enumerate_next_1 _))))
 show wpAny _ _ (field (.ref e) 2 >>= _) _ _ _
 refine Za (Zaa he rfl (x:=.ref it) rfl ?_)
 refine Za (Qjy hh bq hl hx fun h' x ju bC=>?_)
 obtain ⟨o,ho,hc⟩:=bC
 refine Za (wpAny_isInstance (T := "StopIteration") (b:=true) ⟨o,ho,hc⟩ isSubtype_stop ?_)
 exact Zi (hQ _ ju)
end
noncomputable def Q75 (K:Fz) (a:Fw):It :=
 ⟨fun i H=>∃ xs x,SqT K H a xs∧xs[i]?=some x,fun i H v H'=>∃ p x,v=.ref p∧H p=none∧(∀ xs,SqT K H a xs→xs[i]?=some x)∧H'=upd H p (.tup [.int (i:Nat),x]),fun i H=>∃ xs,SqT K H a xs∧xs.length≤i⟩
theorem Qsl {P:Fu} {w:Ft} {K:Fz} {es:List Fr} {x1} {tp:Pos} (a e it:Fw) (aH:e≠it) (jU:e≠a) (ki:a≠it):Turn P w K (.Tuple es x1 tp) (Q75 K a) [e,it] e (fun i h=>(∃ aJ,IsEnum h e it ((i:Nat):Int) aJ)∧h.IsTupleIter it a i) where
 mem:=by simp
 obj:=fun i h st b hb=>by
  obtain ⟨⟨aJ,he⟩,o,ho,c,d⟩:=st
  have hb:b=e∨b=it:=by simpa using hb
  rcases hb with rfl | rfl
  ·exact ⟨_,he,fun v z=>by
    have z':Data.fields _=Data.cell v:=z
    cases z'⟩
  ·exact ⟨o,ho,fun v z=>by rw [d] at z;cases z⟩
 keep:=fun i h h' st k=>⟨let ⟨aJ,he⟩:=st.1;⟨aJ,k e (by simp) _ he⟩,let ⟨o,ho,r⟩:=st.2;⟨o,k it (by simp) o ho,r⟩⟩
 item:=by
  intro X hP hw hK hc i aa s σ H E I hf st hg
  subst hP hw hK
  obtain ⟨xs,x,hq,hx⟩:=hg
  obtain ⟨ac,rv,p,hz⟩:=I.tuple hq
  obtain ⟨u,hu,ru⟩:=rv.get hx
  obtain ⟨⟨aJ,he⟩,bq⟩:=st
  have fW:e<s.heap.objs.size:=Zj he
  have hh:=I.ok.hd hc
  have aN:i<ac.toArray.size:=by
   have:=(List.getElem?_eq_some_iff.mp hu).1
   simpa using this
  refine wpAny_pyNext_enum_itemD (Q74 (A:=X.A.in1) hh it a ki ac.toArray) he ⟨bq,p⟩ aN aH (by simp [aH,jU]) fun y h1 tk hy ho di hT aU hk=>⟨_,rfl,?_⟩
  have ey:y=u:=by
   have:ac.toArray[i]?=some u:=by simpa using hu
   rw [this] at hy
   exact (Zr hy).symm
  subst ey
  refine Zc4 (s:={ s with heap:=h1,toks:=tk+1 }) ho fun h2 bD ao=>?_
  have ao:Heap.SameBut e h1 h2:=ao
  have eI:H s.heap.objs.size=none:=I.hok.fresh (Zk _)
  have I1:Inv X aa σ (upd H s.heap.objs.size (.tup [.int (i:Nat),x])) { s with heap:=s.heap.push { cls:=.type "tuple",data:=.seq #[.int (i:Nat) tk,y] },toks:=s.toks } :=
   I.laid (fun b o q=>Zb _ q) (Zk _) ⟨by show 2≤sizeLine;decide,[.int (i:Nat) tk,y],.cons ⟨_,rfl⟩ (.cons ru .nil),⟨_,Zn _ rfl,rfl,_,rfl,rfl⟩⟩
  have ne:∀ b∈[e,it],b≠s.heap.objs.size:=fun b hb=>by
   have hb:b=e∨b=it:=by simpa using hb
   obtain ⟨_,bv,_⟩:=bq
   rcases hb with rfl | rfl
   ·exact Zw fW
   ·exact Zw (Zj bv)
  have cD:∀ b∈[e,it],Qgp X aa (upd H s.heap.objs.size (.tup [.int (i:Nat),x])) b:=fun b hb=>⟨by rw [Q7 (ne b hb)];exact (hf b hb).1,(hf b hb).2⟩
  have I2:=I1.turnedL (h':=h2) (t':=tk+1) (fp:=[e,it]) (fun b o hb q=>by
   have bo:b≠e:=fun z=>hb (by simp [z])
   have fC:b≠it:=fun z=>hb (by simp [z])
   rw [ao.2 b bo]
   rcases Zcp q with ⟨rfl,rfl⟩ | q
   ·exact hT
   ·exact hk b o bo fC q) cD
  refine ⟨.ref s.heap.objs.size,_,I2,rfl,⟨_,x,rfl,eI,fun ys hy=>by rw [I.tuple_inj hy hq];exact hx,rfl⟩,⟨⟨y,?_⟩,let ⟨o,bv,r⟩:=di.1;⟨o,(ao.2 it aH.symm).trans bv,r⟩⟩,fun b hb=>(cD b hb).1⟩
  have:((i+1:Nat):Int)=(i:Int)+1:=by push_cast;rfl
  rw [this]
  exact bD
 done:=by
  intro X hP hw hK hc i aa s σ H E I hf st hg
  subst hP hw hK
  obtain ⟨xs,hq,hx⟩:=hg
  obtain ⟨ac,rv,p,hz⟩:=I.tuple hq
  obtain ⟨⟨aJ,he⟩,bq⟩:=st
  have hl:=rv.length
  refine Qwa (I.ok.hd hc) he bq p (by simp;omega) fun h1 eb=>⟨rfl,I.turnedL (t':=s.toks) (fp:=[e,it]) (fun b o hb q=>eb b o (fun z=>hb (by simp [z])) q) hf⟩
 self:=fun _ _ _ _ _ st h=>let ⟨_,he⟩:=st.1;Zci he h
section
variable {X:Cx}
noncomputable def Qyp (K:Fz) (ta:TA):TI:=fun σ H R=>ta σ H fun vs H1=>∃ a xs,vs=[.ref a]∧((SqL K H1 a xs∧R (Ite K a) H1)∨(SqT K H1 a xs∧R (Q75 K a) H1))
theorem Qyq {a:Fr} {ta:TA} {es:List Fr} {x1} {tp p pos:Pos} (K:Fz) (hK:X.K=K) (hg:Gl X "enumerate") (hm:X.mg "enumerate" = none) (hb:PySem.bootBuiltins "enumerate" = some (.type "enumerate")) (ha:PA X [a] ta) (hs:starEach [a] X.env=[(false,eval a X.env)]:=by rfl) :
  PI X (.Tuple es x1 tp) (.Call (.Name "enumerate" p) [a] [] pos) (Qyp K ta):=by
 subst hK
 intro aa s σ H R I h
 refine Call_ (Qgs I hg hm hb (Zaq (thn (ha pos aa s σ H _ I h) fun us s1 ⟨vs,H1,I1,r1,q1⟩=>?_) hs rfl))
 obtain ⟨b,xs,e,q⟩:=q1
 subst e
 cases r1 with
 | cons r rr =>
  cases rr
  cases r
  have fp:∀ c∈[s1.heap.objs.size+1,s1.heap.objs.size],Qgp X aa H1 c:=fun c hc=>by
   have hc:c=s1.heap.objs.size+1∨c=s1.heap.objs.size:=by simpa using hc
   rcases hc with rfl | rfl
   ·exact I1.fpOk (Nat.le_succ _) (I1.hok.fresh (Nat.le_succ _))
   ·exact I1.fpOk (Zk _) (I1.hok.fresh (Zk _))
  rcases q with ⟨hq,q⟩ | ⟨hq,q⟩
  ·obtain ⟨ac,rv,pl,hz⟩:=I1.list hq
   refine call_enumerate_list pl.isList fun h1 he bq aU hk=>Zci he ?_
   exact ⟨s1.heap.objs.size+1,[s1.heap.objs.size+1,s1.heap.objs.size],_,_,H1,rfl,I1.kept (t':=s1.toks) hk,Qv6 b _ _ (Nat.succ_ne_self _),⟨⟨_,he⟩,bq⟩,fp,q⟩
  ·obtain ⟨ac,rv,pl,hz⟩:=I1.tuple hq
   have aN:b<s1.heap.objs.size:=let ⟨o,e,_⟩:=pl;Zj e
   refine Qsk pl fun h1 he bq aU hk=>Zci he ?_
   exact ⟨s1.heap.objs.size+1,[s1.heap.objs.size+1,s1.heap.objs.size],_,_,H1,rfl,I1.kept (t':=s1.toks) hk,Qsl b _ _ (Nat.succ_ne_self _) (Zcg (Zbr aN)) (Zw aN),⟨⟨_,he⟩,bq⟩,fp,q⟩
theorem Q2p {a:Fr} {ta:TA} {es:List Fr} {x1} {tp p pos:Pos} (K:Fz) (hK:X.K=K) (hm:X.mg "enumerate" = none) (hb:PySem.bootBuiltins "enumerate" = some (.type "enumerate")) (ha:QA X [a] ta) (hg:Gl X "enumerate" := by rfl) (hs:Qo a=true:=by rfl) :
  QI X (.Tuple es x1 tp) (.Call (.Name "enumerate" p) [a] [] pos) (Qyp K ta):=⟨Qyq K hK hg hm hb ha.h (Qah hs)⟩
end
noncomputable def excF (K:Fz) (c0 C:Fw) (bj:List Fx) (ax:String) (f:Fw):Bool:=match K.lookup C with
 | some ⟨.type "type",_,.cls cl,ks⟩=>(match cl.mro,ks.toList with
  | .ref C1::.ref b0::tl,[_,_,_,_,some (.builtin n1),_]=>C1==C&&n1==ax&&b0==c0&&tl==bj && !cl.hasDel&&cl.hasDict&&PySem.W.tailIn K bj (.ref b0::tl)
  | _,_=>false)
 | _=>false
noncomputable def Q76 (K:Fz) (c0 C f:Fw):Bool:=excF K c0 C bmV "ValueError.__new__" f&&PySem.W.findIn K (.ref C) "__init__" == some (some (.ref f))&&PySem.W.findIn K (.ref C) "__setattr__" == some (some (.builtin "object.__setattr__"))&&PySem.W.findIn K (.ref C) "at" == some none&&PySem.W.mroIn K C (.type "object")==some true
section
variable {prog:Fu} {w:Ft} {A:Fv} {E:Fx→Fy→Prop} {h:Fq} {g:Array GenState} {d:Drawn} {t:Nat} {os:OsState}
variable {nm q:Str} {C N c0:Fw} {bs bm bj:List Fx} {hd:Bool} {sn:List Str} {sub:List Fx} {ab:Bool} {col:Option Bool} {dd:Option Fw} {k0 k1 k2 k3 k5:Option Fx} {B fE j5:String}
structure Ini (K:Fz) (c0 C:Fw):Prop where
 ex:∃ (f:Fw) (fd:FuncData) (qn:Str) (st:Fs) (p1 p2 p3 p4:Pos),Q76 K c0 C f=true∧Fun K "__init__" qn st f fd∧(∃ od aQ,K.lookup f=some ⟨.type "function",od,.func fd,aQ⟩)∧FnScope ["self","at"] ["self","at"] (Qg st) ∧
  (Qg st).names.lookup ("self" : Str)=some .local∧(Qg st).names.lookup ("at" : Str)=some .local∧Binds K fd ["self","at"] []∧Qbi st=[.Assign [.Attribute (.Name "self" p1) "at" p2] (.Name "at" p3) p4]
end
section
variable {X:Cx} {aa:List (Fw×Obj)} {σ:St} {H:Hp} {s:Fy}
end
section
variable {M:Model} {A:Fv} {E:Fx→Fy→Prop} {env:Env} {nm q:Str} {C N:Fw} {bs bm:List Fx} {hd:Bool} {sn:List Str} {sub:List Fx} {ab:Bool} {col:Option Bool} {dd:Option Fw} {k0 k1 k2 k3 k5:Option Fx} {fE:String}
end
section
variable {X:Cx} {x:Str} {e:Fr} {t:TA} {pos ah np:Pos} {R:XR} {c0 C:Fw} {k:Nat}
end
section
variable {X:Cx} {e:Fr} {te:TE} {pos:Pos}
end
section
variable {prog:Fu} {w:Ft} {A:Fv} {E:Fx→Fy→Prop} {h:Fq} {g:Array GenState} {d:Drawn} {t:Nat} {os:OsState}
variable {nm q:Str} {C N c0:Fw} {bs bm bj:List Fx} {hd:Bool} {sn:List Str} {sub:List Fx} {ab:Bool} {col:Option Bool} {dd:Option Fw} {k0 k1 k2 k3 k5:Option Fx} {B fE j5:String}
noncomputable def Q2q (K:Fz) (c0 C f:Fw):Bool:=excF K c0 C bmV "ValueError.__new__" f&&PySem.W.findIn K (.ref C) "__init__" == some (some (.ref f))&&PySem.W.findIn K (.ref C) "__setattr__" == some (some (.builtin "object.__setattr__"))&&PySem.W.findIn K (.ref C) "many" == some none&&PySem.W.findIn K (.ref C) "most" == some none&&PySem.W.mroIn K C (.type "object")==some true
structure Ini2 (K:Fz) (c0 C:Fw):Prop where
 ex:∃ (f:Fw) (fd:FuncData) (qn:Str) (st:Fs) (p1 p2 p3 p4 q1 q2 q3 q4:Pos),Q2q K c0 C f=true∧Fun K "__init__" qn st f fd∧(∃ od aQ,K.lookup f=some ⟨.type "function",od,.func fd,aQ⟩)∧FnScope ["self","many","most"] ["self","many","most"] (Qg st) ∧
  (Qg st).names.lookup ("self" : Str)=some .local∧(Qg st).names.lookup ("many" : Str)=some .local∧(Qg st).names.lookup ("most" : Str)=some .local∧Binds K fd ["self","many","most"] [] ∧
  Qbi st=[.Assign [.Attribute (.Name "self" p1) "many" p2] (.Name "many" p3) p4,.Assign [.Attribute (.Name "self" q1) "most" q2] (.Name "most" q3) q4]
end
section
variable {X:Cx} {aa:List (Fw×Obj)} {σ:St} {H:Hp} {s:Fy}
end
section
variable {X:Cx} {x:Str} {e e2:Fr} {t:TA} {pos ah np:Pos} {R:XR} {c0 C:Fw} {k:Nat}
end
section
variable {X:Cx} {e:Fr} {te:TE} {pos:Pos}
end
section
variable {X:Cx}
def isI (n:Int) (v:Fx):Bool:=match v with
 | .int m _=>m==n
 | _=>false
end
theorem Qsm {X:Cx} {tg elt af:Fr} {a8:List Fr} {scope:Scope} {pos fM:Pos} {N:List Str} {js:List (Option Nat)} {wi:TI} {g:TG} {tc:TT} {te:TE} {use:Option (Fx→Sem Unit)} {R:Fx→Fy→Prop} (aq:X.calm=true)
  (hi:PI X tg af wi) (hg:∀ s H fp,PG (Qac X scope N s H fp) tg g) (hc:∀ s H fp,PTs (Qac X scope N s H fp) a8 tc) (he:∀ s H fp,PE (Qac X scope N s H fp) elt te)
  (hk:scope.kind=.function) (h1:scOk X scope=true) (h2:Qis X scope N js=true) (hs:∀ x,foldedSetIterable af X.env x=pure x) {aa:List (Fw×Obj)} {s:Fy} {σ:St} {H:Hp} {Q:VK} (I:Inv X aa σ H s) (h:Qqd wi js g tc te σ H Q)
  (fk:∀ (l C:Fw) (H':Hp) (s':Fy),(∃ m,s'.heap.Ns C m)→(∀ h',Heap.SameBut C s'.heap h'→Inv X aa σ H' { s' with heap:=h' })→Qgp X aa H' C→Q (.ref l) H'→compPost (model X.prog X.w) X.A X.xe use R (.ref l) C (.ok .next) s') :
  wpAny (model X.prog X.w) X.A (comprehension (.ListComp elt [⟨tg,af,a8,0⟩] scope pos) scope X.env fM (newList []) false (firstIter [⟨tg,af,a8,0⟩] X.env) use) R X.xe s:=by
 refine Zc9 (use:=use) rfl hs (Qlq (scOk.cells I h1)) hk (fun x hx hl=>by rw [(scOk.get h1 hx).2,hl]) ?_
 refine thn (hi aa s σ H _ I h) fun v s1 cW=>thn cW fun ff s2 gA=>?_
 obtain ⟨it,fp,tn,J,H2,e,I2,T,cm,f2,q⟩:=gA
 subst e
 refine Zac ?_
 have hl:H2 s2.heap.objs.size=none:=I2.hok.fresh (Zk _)
 obtain ⟨W,⟨m0,w0⟩,aO⟩:=q _ hl
 have I3:Inv X aa σ (upd H2 s2.heap.objs.size (.lst [])) { s2 with heap:=s2.heap.push { cls:=.type "list",data:=.seq ([]:List Fx).toArray } }:=I2.lnew (t':=s2.toks) (ys:=[]) .nil (Zb7 _)
 generalize cO:({ s2 with heap:=s2.heap.push { cls:=.type "list",data:=.seq ([]:List Fx).toArray } }:Fy)=s3 at I3
 generalize hH3:upd H2 s2.heap.objs.size (.lst [])=H3 at I3 w0
 generalize fe:s2.heap.objs.size=l at aO hH3 hl
 have dE:∀ b o,s2.heap.get? b=some o→s3.heap.get? b=some o:=fun b o e=>by rw [←cO];exact Zb _ e
 have fG:∀ b∈fp,∃ o,s3.heap.get? b=some o∧∀ v,o.data≠.cell v:=fun b hb=>by
  obtain ⟨o,e,d⟩:=T.obj _ _ cm b hb
  exact ⟨o,dE b o e,d⟩
 have f3:∀ b∈fp,Qgp X aa H3 b:=fun b hb=>by
  obtain ⟨o,e,d⟩:=T.obj _ _ cm b hb
  refine ⟨?_,(f2 b hb).2⟩
  rw [←hH3,Q7 (Zw (by rw [←fe];exact Zj e))]
  exact (f2 b hb).1
 refine Qkq ?_
 have I4:=Qqc (N:=N) (js:=js) I3 hk h1 h2 f3 fG
 have cz:tn 0 (pushCells (s3.heap.push { cls:=.type "dict",data:=.dict #[] }) scope.names):=T.keep _ _ _ cm fun b hb o e=>Zcr _ _ _ _ (Zb _ (dE b o e))
 have fj:∀ b∈fp,H3 b=none:=fun b hb=>(f3 b hb).1
 have cS:∀ {H':Hp},(∀ b∈fp,H' b=none)→∀ b∈fp,Qgp (Qac X scope N s3 H3 fp) [] H' b:=fun hn b hb=>by
  have ok:=I4.ok
  refine ⟨hn b hb,(ok.exf b hb).1,ok.exfs b hb,.inl hb,(ok.exf b hb).2,fun p hp=>absurd (show p∈([]:List (Fw×Obj)) from hp) (by simp)⟩
 -- the block's end
 have fin:∀ {σ':St} {H':Hp} {s':Fy},Inv (Qac X scope N s3 H3 fp) [] σ' H' s'→Q (.ref l) H'→compPost (model X.prog X.w) X.A X.xe use R (.ref l) s3.heap.objs.size (.ok .next) s':=fun {σ' H' s'} I' q'=>by
  obtain ⟨m,hn,_⟩:=id I'.loc
  have bx:H' s3.heap.objs.size=none:=I'.free
  refine fk l _ H' s' ⟨m,hn⟩ (fun h' bG=>?_) (I3.fpOk (Zk _) bx) q'
  refine I3.call' (s':={ s' with heap:=h' }) (ch:=fp) I'.os ⟨fun b o e n hb hx=>?_,fun b o e n hb hx=>?_,I'.base.free,fun b o e hx=>?_,I'.base.tups,I'.base.frzs,I'.base.tbls⟩ (fun b u e=>?_) I'.bare (fun b hb=>⟨(f3 b hb).2.2.2.1,(f3 b hb).2.1,(f3 b hb).2.2.2.2.1,(f3 b hb).2.2.2.2.2⟩)
  ·exact (bG.2 b (Zw (Zj e))).trans (I'.base.keep b o e n hb hx)
  ·obtain ⟨sl,z⟩:=I'.base.slot b o e n hb hx
   exact ⟨sl,(bG.2 b (Zw (Zj e))).trans z⟩
  ·obtain ⟨o',z⟩:=I'.base.there b o e hx
   exact ⟨o',(bG.2 b (Zw (Zj e))).trans z⟩
  ·refine (I'.hok b u e).stay (fun c w' hc z=>(bG.2 c ?_).trans z) (fun _ z=>z) fun _ _ z=>z
   rintro rfl
   rcases hc with rfl | hc
   ·rw [bx] at e;cases e
   ·rw [bx] at hc;cases hc
 have loop:codeAny (model X.prog X.w) X.A (.compLoop (.ListComp elt [⟨tg,af,a8,0⟩] scope pos) 0 (.ref it) (.ref l) (Qac X scope N s3 H3 fp).env) (compPost (model X.prog X.w) X.A X.xe use R (.ref l) s3.heap.objs.size)
   { s3 with heap:=pushCells (s3.heap.push { cls:=.type "dict",data:=.dict #[] }) scope.names }:=by
  refine Qir (fun n s'=>∃ i ys σ' H',Inv (Qac X scope N s3 H3 fp) [] σ' H' s'∧tn i s'.heap∧(∀ b∈fp,H' b=none)∧W i n ys σ' H') ?_ m0 ⟨0,[],Qfq js σ,H3,I4,cz,fj,w0⟩
  rintro n s5 ⟨i,ys,σ5,H5,I5,cq,db,w5⟩
  rcases aO i n ys σ5 H5 w5 with ⟨stop,qn⟩ | ⟨go,step⟩
  ·refine thn (T.done (Qac X scope N s3 H3 fp) rfl rfl rfl aq i [] s5 σ5 H5 _ I5 (cS db) cq stop) fun r s6 ⟨hr,I6⟩=>?_
   subst hr
   exact fin I6 qn
  ·refine thn (T.item (Qac X scope N s3 H3 fp) rfl rfl rfl aq i [] s5 σ5 H5 _ I5 (cS db) cq go) fun r s6 ⟨u,hr,h6⟩=>?_
   subst hr
   refine thn h6 fun _ s7 ⟨x,H7,I7,r7,y7,st7,fr7⟩=>?_
   have I7':=I7.pinned (cS fr7) (T.obj _ _ st7)
   have again:∀ {σ8:St} {H8:Hp} {s8:Fy} {df:List V},Inv (Qac X scope N s3 H3 fp) ([]++Qjo fp s7.heap) σ8 H8 s8→(∃ m',m'<n∧W (i+1) m' df σ8 H8) →
     ∃ m,m<n∧∃ i ys σ' H',Inv (Qac X scope N s3 H3 fp) [] σ' H' s8∧tn i s8.heap∧(∀ b∈fp,H' b=none)∧W i m ys σ' H':=fun {σ8 H8 s8 df} I8 ⟨m',hm,w8⟩=>by
    refine ⟨m',hm,i+1,df,σ8,H8,I8.unpinned,T.keep _ _ _ st7 fun b hb o e=>(I8.pin (b,o) (Zz _ (Zz _ (Qc5 hb e)))).1,fun b hb=>?_,w8⟩
    obtain ⟨o,e,d⟩:=T.obj _ _ st7 b hb
    exact (I8.pin (b,o) (Zz _ (Zz _ (Qc5 hb e)))).2.1
   refine thn (hg s3 H3 fp _ s7 σ5 H7 x u _ I7' r7 (step x H7 y7)) fun _ s8 ⟨σ8,H8,I8,q8⟩=>?_
   refine thn (hc s3 H3 fp _ s8 σ8 H8 _ I8 q8) fun ok s9 ⟨H9,I9,q9⟩=>?_
   cases ok with
   | false =>
    rw [Zg Zm] at q9 ⊢
    exact again I9 q9
   | true =>
    rw [Zf rfl] at q9 ⊢
    refine thn (he s3 H3 fp _ s9 σ8 H9 _ I9 q9) fun y gC ⟨vy,H10,I10,eP,a10,z10,q10⟩=>?_
    refine thn (Qjs (X:=Qac X scope N s3 H3 fp) _ gC σ8 H10 (.ref l) [vy] (.ref l) [y] (fun _ H'=>∃ m',m'<n∧W (i+1) m' (ys++[vy]) σ8 H') I10 rfl (.cons eP .nil) ⟨l,ys,vy,rfl,rfl,a10,z10,q10⟩) fun _ jl ⟨_,H11,I11,_,q11⟩=>?_
    exact again I11 q11
 first
  | exact Zb4 loop (T.self _ 0 _ _ _ cz loop)
  | (rw [← cO] at loop cz
     exact Zb4 loop (T.self _ 0 _ _ _ cz loop))
theorem Qsn {X:Cx} {aC tg elt af:Fr} {a8:List Fr} {scope:Scope} {pos ah:Pos} {N:List Str} {js:List (Option Nat)} {wi:TI} {g g2:TG} {tc:TT} {te:TE} (aq:X.calm=true)
  (hi:PI X tg af wi) (hg:∀ s H fp,PG (Qac X scope N s H fp) tg g) (hc:∀ s H fp,PTs (Qac X scope N s H fp) a8 tc) (he:∀ s H fp,PE (Qac X scope N s H fp) elt te) (j4:PG X aC g2)
  (hk:scope.kind=.function) (h1:scOk X scope=true) (h2:Qis X scope N js=true) (hs:∀ x,foldedSetIterable af X.env x=pure x)
  (fR:swapsWithSole [aC] (.ListComp elt [⟨tg,af,a8,0⟩] scope ah) pos.line X.env=pure true) (ha:(assignEach [aC] X.env).map (·.2)=[assign aC X.env]) :
  PS X (.Assign [aC] (.ListComp elt [⟨tg,af,a8,0⟩] scope ah) pos) (Qm7 (Qqd wi js g tc te) g2):=by
 intro aa s σ H D I h
 rw [arm_exec_Assign]
 refine Za (Zc8 ?_)
 rw [fR]
 refine Za (Zi ?_)
 rw [Zf rfl]
 refine Za ?_
 rw [arm_evalThenUse_ListComp,ha]
 refine Za (Qsm (use:=some fun v=>assignAll v [assign aC X.env]) aq hi hg hc he hk h1 h2 hs I h fun l C H' s' bQ gb gK q=>?_)
 obtain ⟨m,o,es,ep,ho,hd,r⟩:=bQ
 have J0:Inv X aa σ H' s':=gb s'.heap (Heap.SameBut.refl ..)
 have J1:=J0.pinned (fp:=[C]) (fun b hb=>by rw [Zv.mp hb];exact gK) (fun b hb=>by
  rw [Zv.mp hb]
  exact ⟨o,ho,fun v z=>by rw [hd] at z;cases z⟩)
 show wpAny _ _ (assign aC X.env (.ref l)) _ _ _
 refine thn (j4 _ s' σ H' (.ref l) (.ref l) D.nx J1 rfl q) fun _ s2 ⟨σ2,H2,I2,q2⟩=>?_
 have hp:=I2.pin (C,o) (Zz _ (Zz _ (Qc5 (Zv.mpr rfl) ho)))
 refine ⟨m,⟨o,es,ep,hp.1,hd,r⟩,fun h' bG=>?_⟩
 have I3:=I2.unpinned.turnedL (h':=h') (t':=s2.toks) (fp:=[C]) (fun b o' hb e=>by
  rw [bG.2 b (fun z=>hb (by rw [z];exact Zv.mpr rfl))]
  exact e) (fun b hb=>by
  rw [Zv.mp hb]
  exact ⟨hp.2.1,gK.2⟩)
 exact Zi (Zi ⟨σ2,H2,I3,q2⟩)
def keyD:Key→PyData
 | .inl i=>.int i
 | .inr x=>.str x
mutual
noncomputable def pyD:T→PyData
 | .non=>.none
 | .bl b=>.bool b
 | .int i=>.int i
 | .str x=>.str x
 | .tup ts=>.tuple (Qna ts)
 | .lst ts=>.list (Qna ts)
 | .dct ks ts=>.dict ((ks.map keyD).zip (Qna ts))
 | .dtt _ _=>.none
 | .clo _ _=>.none
noncomputable def Qna:List T→List PyData
 | []=>[]
 | t::ts=>pyD t::Qna ts
end
mutual
noncomputable def Qes:T→Bool
 | .tup ts=>Qlx ts
 | .lst ts=>Qlx ts
 | .dct _ _=>false
 | .clo _ _=>false
 | .dtt _ _=>false
 | _=>true
noncomputable def Qlx:List T→Bool
 | []=>true
 | t::ts=>Qes t&&Qlx ts
end
mutual
theorem Qqq:∀ t:T,Qes t=true→(pyD t).hasDict=false
 | .non,_=>by simp only [pyD,PyData.hasDict]
 | .bl _,_=>by simp only [pyD,PyData.hasDict]
 | .int _,_=>by simp only [pyD,PyData.hasDict]
 | .str _,_=>by simp only [pyD,PyData.hasDict]
 | .tup ts,h=>by simp only [pyD,PyData.hasDict];exact Qf5 ts (by simpa only [Qes] using h)
 | .lst ts,h=>by simp only [pyD,PyData.hasDict];exact Qf5 ts (by simpa only [Qes] using h)
 | .dct _ _,h=>by simp only [Qes] at h;cases h
 | .clo _ _,h=>by simp only [Qes] at h;cases h
 | .dtt _ _,h=>by simp only [Qes] at h;cases h
theorem Qf5:∀ ts:List T,Qlx ts=true→PyData.hasDictAll (Qna ts)=false
 | [],_=>by simp only [Qna,PyData.hasDictAll]
 | t::ts,h=>by
  simp only [Qlx,Zt] at h
  simp only [Qna,PyData.hasDictAll,Qqq t h.1,Qf5 ts h.2,Bool.or_false]
end
section
variable {P:Fu} {w:Ft} {H:Hp} {h:Fq}
mutual
theorem Qyr (ok:HOk P w H h):∀ (t:T) {v:V} {u:Fx},Qes t=true→Is H v t→RelV v u→∃ as,Reads h u (pyD t) as
 | .non,v,u,_,i,r=>by unfold Is at i;subst i;cases r;exact ⟨_,by unfold pyD;exact .none⟩
 | .bl b,v,u,_,i,r=>by unfold Is at i;subst i;cases r;exact ⟨_,by unfold pyD;exact .bool b⟩
 | .int n,v,u,_,i,r=>by unfold Is at i;subst i;obtain ⟨t,rfl⟩:=r;exact ⟨_,by unfold pyD;exact .int n t⟩
 | .str x,v,u,_,i,r=>by unfold Is at i;subst i;obtain ⟨t,rfl⟩:=r;exact ⟨_,by unfold pyD;exact .str x t⟩
 | .tup ts,v,u,f,i,r=>by
  obtain ⟨a,vs,rfl,ha,q⟩:=i.tup_inv
  cases r
  obtain ⟨_,ac,rv,o,e,c,n,d,_⟩:=(show ObjOk P w H h a (.tup vs) from ok a _ ha)
  obtain ⟨as,R⟩:=Qjz ok ts (by simpa only [Qes] using f) q rv
  exact ⟨as,by unfold pyD;exact .tuple e c d (by simpa using R)⟩
 | .lst ts,v,u,f,i,r=>by
  obtain ⟨a,vs,rfl,ha,q⟩:=i.lst_inv
  cases r
  obtain ⟨_,ac,n,rv,e⟩:=(show ObjOk P w H h a (.lst vs) from ok a _ ha)
  obtain ⟨as,R⟩:=Qjz ok ts (by simpa only [Qes] using f) q rv
  exact ⟨a::as,by unfold pyD;exact .list e rfl rfl (by simpa using R)⟩
 | .dct _ _,v,u,f,i,r=>by simp only [Qes] at f;cases f
 | .clo _ _,v,u,f,i,r=>by simp only [Qes] at f;cases f
 | .dtt _ _,v,u,f,i,r=>by simp only [Qes] at f;cases f
theorem Qjz (ok:HOk P w H h):∀ (ts:List T) {vs:List V} {us:List Fx},Qlx ts=true→IsL H vs ts→Vals vs us→∃ as,ReadsAll h us (Qna ts) as
 | [],vs,us,_,i,r=>by
  rw [i.nil_inv] at r
  cases r
  exact ⟨_,by unfold Qna;exact .nil⟩
 | t::ts,vs,us,f,i,r=>by
  obtain ⟨v,w',rfl,iv,iw⟩:=i.cons_inv
  simp only [Qlx,Zt] at f
  cases r with
  | cons r0 rr =>
   obtain ⟨as,R⟩:=Qyr ok t f.1 iv r0
   obtain ⟨bs,R2⟩:=Qjz ok ts f.2 iw rr
   exact ⟨_,by unfold Qna;exact .cons R R2⟩
end
end
def isD:T→Bool
 | .dct [] []=>true
 | .dct [.inr _] [.int _]=>true
 | _=>false
noncomputable def shOk (t:T):Bool:=(pyD t).showable&&decide ((pyD t).shown.length≤sizeLine)&&decide ((pyD t).depth≤40)&&(Qes t||isD t)
section
variable {X:Cx}
end
noncomputable def OkD:Nat→T→Bool
 | _,.non=>true
 | _,.bl _=>true
 | _,.int i=>decide (i.natAbs<10^31)
 | _,.str x=>decide (x.cps.size≤2)&&x.cps.toList.all fun c=>decide (c<16^8)
 | n+1,.tup ts=>decide (ts.length≤16)&&ts.all (OkD n)
 | n+1,.lst ts=>decide (ts.length≤16)&&ts.all (OkD n)
 | _,_=>false
structure ShD (c d:Nat) (t:T):Prop where
 b:(pyD t).bulk≤c
 l:(pyD t).leavesShort 32=true
 s:(pyD t).showable=true
 d:(pyD t).depth≤d
 f:Qes t=true
namespace Z
section
variable {H:Hp} {S:Fw→Prop} {x y:V} {Q:VK} {K:Fz}
def Sm (r:Nat) (D:Hp) (x:V):Prop:=∃ t,Is D x t∧OkD r t=true
variable {r:Nat}
end
end Z
end L2
namespace PySem
open Sem (wp)
open AutoSeq1 (wpAny_loadPart')
section
variable {prog:Fu} {w:Ft} {A:Fv} {E:Fx→Fy→Prop} {s:Fy}
end
end PySem
namespace L2
open PySem PySem.Spec PyProof.Rows
section
variable {X:Cx}
end
end L2
namespace L2
open PySem PySem.Spec PyProof.Rows PySem.W PySem.Calls
noncomputable def runK {α:Type} (lt:Nat→Nat→Bool):KasT α→α
 | .ret a=>a
 | .ask i j k=>runK lt (k (lt i j))
noncomputable def ordK (n:Nat) (lt:Nat→Nat→Bool):List Nat:=if n<2 then List.range n else (runK lt (kas_sort n)).toList
def pick {α:Type} (vs:List α) (d:α) (is:List Nat):List α:=is.map fun i=>vs.getD i d
noncomputable abbrev ltK (ks:List (List Int)):Nat→Nat→Bool:=fun i j=>HT.lexLt (ks.getD i []) (ks.getD j [])
def Q2r (ks:List (List Int)):List (List Int):=pick ks [] (ordK ks.length (ltK ks))
def Q46 (_:List (List Int)):Bool:=true
end L2
namespace L2
open PySem PySem.Spec PyProof.Rows PySem.W PySem.Calls
structure OrdN (lt:Nat→Nat→Bool) (n:Nat):Prop where
 tr:∀ a b c,a<n→b<n→c<n→lt a b=true→lt b c=true→lt a c=true
 tot:∀ a b,a<n→b<n→a≠b→lt a b=true∨lt b a=true
 as:∀ a b,a<n→b<n→lt a b=true→lt b a=false
section
variable {lt:Nat→Nat→Bool} {N:Nat} (o:OrdN lt N)
include o
end
end L2
namespace L2
open PySem PySem.Spec PyProof.Rows PySem.W PySem.Calls
def Qtz (k:List Int):Int:=reduceHash (Builtin.Tuple.tupleHashOf (k.map hashInt))
def Qn4 (ks:List (List Int)) (j:Nat):List Int:=ks.getD j []
noncomputable def hAt (ks:List (List Int)) (es:Array Nat) (i:Nat):Int:=(es[i]?.map fun x=>Qtz (Qn4 ks x)).getD 0
noncomputable def Qacn (ks:List (List Int)) (j:Nat) (r:SetTable×Array Nat):Option (SetTable×Array Nat) :=
 match r.1.probe (hAt ks r.2) (Qtz (Qn4 ks j)) (r.1.probeStart (Qtz (Qn4 ks j))) with
 | some (.empty s none) =>
  if (r.1.put s).1.fits (SetTable.insertAt r.2 (r.1.put s).2 j).size && !(r.1.put s).1.tooFull && !(r.1.put s).1.gaveWay&&decide ((SetTable.insertAt r.2 (r.1.put s).2 j).size≤1000) then some ((r.1.put s).1,SetTable.insertAt r.2 (r.1.put s).2 j) else none
 | some (.candidate _ i _)=>match r.2[i]? with
  | some x=>if Qn4 ks x=Qn4 ks j then some r else none
  | none=>none
 | _=>none
noncomputable def Qys (led:Bool) (ks:List (List Int)):Nat→Option (SetTable×Array Nat)
 | 0=>some (.fresh 0 0 led,#[])
 | n+1=>match Qys led ks n with
  | some r=>Qacn ks n r
  | none=>none
def Qaco (t:SetTable):Nat→Nat
 | 0=>0
 | i+1=>t.place.getD i 0+1
noncomputable def Qyt (t:SetTable) (n:Nat):Bool:=(List.range (n+1)).all fun i=>SetTable.below t.place (Qaco t i)==i
def Qyu (ks:List (List Int)) (is:List Nat):List (List Int):=pick ks [] is
noncomputable def srtS (ks:List (List Int)):Option (List (List Int)) :=
 match Qys true ks ks.length,Qys false ks ks.length with
 | some (t,es),some (t',aw) =>
  if Qyt t es.size&&decide (es.size<60)&&(es.toList.all fun j=>decide (j<ks.length))&&decide (aw.toList=es.toList)&&decide ((Qyu ks es.toList).Nodup) then some (Q2r (Qyu ks es.toList)) else none
 | _,_=>none
end L2
namespace L2
open PySem PySem.Spec PyProof.Rows PySem.W PySem.Calls
abbrev btx (w:Ft):Bool:=w.params.followText "set-order"
structure SOk (w:Ft) (es:Array (Int×Fx)) (t:SetTable):Prop where
 fits:t.fits es.size=true
 plain:t.plain=true
 led:btx w=false→t.led=true
 wk:btx w=false→Qyt t es.size=true
section
variable {prog:Fu} {w:Ft} {A:Fv} {E:Fx→Fy→Prop} {s:Fy} {it d:Fw} {i ep:Nat} {es:Array (Int×Fx)} {t:SetTable}
end
set_option genInjectivity false
set_option genSizeOf false
inductive PV where
 | fz (t:T) | ow (t:T) | sl (i:Nat)
inductive Slot where
 | un | fz (t:T) | ow (t:T) | ml (t:T) | ro (t:T) | pin (a:Fw) | fx (t:T)
abbrev En:=List Slot
structure Xn where
 c:Nat
 arg:List Int
inductive Out (α:Type) where
 | ok (a:α) (ρ:En) | xn (x:Xn) (ρ:En) | no
noncomputable def Out.bind {α β:Type} (o:Out α) (k:α→En→Out β):Out β:=match o with
 | .ok a ρ=>k a ρ
 | .xn x ρ=>.xn x ρ
 | .no=>.no
noncomputable def Out.opt {α:Type} (o:Option α) (ρ:En):Out α:=match o with
 | some a=>.ok a ρ
 | none=>.no
def Slot.prv:Slot→Option T
 | .ow t=>some t | .ml t=>some t | .ro t=>some t | _=>none
def Slot.mut:Slot→Bool
 | .ow (.lst _)=>true | .ml (.lst _)=>true | _=>false
def Slot.mutD:Slot→Bool
 | .ow (.dtt _ _)=>true | .ml (.dtt _ _)=>true | _=>false
def Slot.put (t:T):Slot→Slot
 | .ow _=>.ow t | .ml _=>.ml t | s=>s
def Slot.lend:Slot→Slot
 | .ow t=>.ml t | .pin _=>.un | .fx t=>.fz t | s=>s
def Qa (ρ:En) (i:Nat):Slot:=match ρ[i]? with
 | some s=>s
 | none=>.un
def cont (ρ:En):PV→Option T
 | .fz t=>some t
 | .ow t=>some t
 | .sl i=>(Qa ρ i).prv
def frz:PV→Option T
 | .fz t=>some t
 | .ow t=>some t
 | .sl _=>none
noncomputable def Qc8:List PV→Option (List T)
 | []=>some []
 | r::rs=>match frz r,Qc8 rs with
  | some t,some ts=>some (t::ts)
  | _,_=>none
inductive BOp where
 | add | sub | mul | fdv | mod | pow | shl | shr | band
inductive COp where
 | eq | ne | lt | le | gt | ge | isn | isnn | inn | nin
inductive Bi where
 | len | abs | all | any | sum | max | min | dvm | int | list | tup | repr | dct | lstD | dcl | maxT | minT | srt | srtS | srtP
inductive Tg where
 | nm (i:Nat) | tp (is:List Nat)
mutual
inductive E where
 | var (i:Nat) | int (i:Int) | bl (b:Bool) | non | str (x:Str)
 | tup (es:Es) | lst (es:Es)
 | bin (o:BOp) (a b:E) | neg (a:E)
 | not (a:E) | and (a b:E) | or (a b:E) | ite (c a b:E)
 | cmp (o:COp) (a b:E)
 | isI (a:E) (n:String)
 | inR (ng:Bool) (a lo hi:E) | srk (f:Nat) (e:E)
 | call (f:Nat) (es:Es)
 | bi (b:Bi) (es:Es)
 | cnt (a b:E)
 | ix (a i:E) | slc (a:E) (lo hi:Es) | rev (a:E)
 | comp (w:W) (js:List (Option Nat)) (tg:Tg) (cs:Es) (e:E)
 | tupR (l:Bool) (a:E)
 | dnew | din (ng:Bool) (k d:E) | dix (d k:E)
 | tcall (f:Nat) (es:Es) | lstR2 (a b:E) | lit (t:T) | dg1 (d k:E) | dg2 (d k x:E) | d1 (k x:E)
 | app (i:Nat) (es:Es) | lam (k:Nat) (js:List Nat) | lix (i:Nat) (a:E) | compS (i:Nat) (js:List (Option Nat)) (tg:Tg) (cs:Es) (e:E) | compZ (i j:Nat) (js:List (Option Nat)) (tg:Tg) (cs:Es) (e:E) | chl (a b c:E) | orv (a b:E)
 | fzE (e:E) | bad
inductive Es where
 | nil | cons (e:E) (es:Es)
inductive W where
 | seq (e:E) | rng1 (a:E) | rng2 (a b:E) | rngD (a b:E) | enm (e:E) | zip (a b:E) | dks (e:E)
end
inductive S where
 | nil | seq (a b:S) | expr (e:E) | set (i:Nat) (e:E) | setF (i:Nat) (e:E) | unp (is:List Nat) (e:E) | par (i j:Nat) (a b:E)
 | app (i:Nat) (e:E) | ext (i:Nat) (e:E) | put (i:Nat) (k e:E) | dput (i:Nat) (k e:E) | swp (i j k:Nat) | mov (i j:Nat) | look (i:Nat) (b:S)
 | ret (e:E) | retN | ite (c:E) (a b:S) | whl (c:E) (b:S) | for_ (w:W) (tg:Tg) (b:S) | forX (w:W) (tg:Tg) (b:S) | forS (i:Nat) (tg:Tg) (b:S) | extL (i:Nat) (e:E)
 | brk | cnt | frz (i:Nat) | raise (c:Nat) (es:Es) | scr (i a b f:Nat) (c1 c2:E) | ins (i:Nat) (k e:E) | rem (i:Nat) (e:E) | nest (iF iR iH iW iS iT iN:Nat) (a0 a:S) (c v e1 e2:E) | parO (i j:Nat) (a b:E) | tryR (i:Nat) (b:S) (h:Nat→List Int→Option T) | tryA (i j:Nat) (b:S) (h:Nat→List Int→Option T) | bad
inductive Arg where
 | fz (t:T) | ml (t:T) | ro (t:T)
inductive FR where
 | ok (r:PV) (fin:List T) | xn (x:Xn) (fin:List T) | no
inductive SO where
 | nx (ρ:En) | rt (r:PV) (ρ:En) | bk (ρ:En) | ct (ρ:En) | xn (x:Xn) (ρ:En) | no
abbrev CF:=Nat→List Arg→FR
noncomputable def Qb9 (i j:Int):Bool:=decide (i.natAbs<2^64)||(decide (j.natAbs<2^64)||((decide (i.natAbs<2^250)&&decide (j.natAbs<2^250))||(decide (i.natAbs.log2<9000)&&decide (j.natAbs.log2<9000))))
def asI:T→Option Int
 | .int i=>some i
 | _=>none
noncomputable def opN:BOp→Int→Int→Option PV
 | .add,i,j=>some (.fz (.int (i+j)))
 | .sub,i,j=>some (.fz (.int (i-j)))
 | .mul,i,j=>if Qb9 i j=true then some (.fz (.int (i*j))) else none
 | .fdv,i,j=>if 0<j∧j.natAbs<2^64 then some (.fz (.int (i / j))) else if j≠0∧j.natAbs<2^400 then some (.fz (.int (i.fdiv j))) else none
 | .mod,i,j=>if 0<j then some (.fz (.int (i%j))) else if j<0 then some (.fz (.int (i.fmod j))) else none
 | .pow,i,j=>if 0≤j∧j.natAbs≤1000000∧i.natAbs<2^64 then some (.fz (.int (i^j.toNat))) else none
 | .shl,i,j=>if 0≤j∧j.natAbs≤64∧i.natAbs<2^64 then some (.fz (.int (i*2^j.toNat))) else none
 | .shr,i,j=>if 0≤j∧j.natAbs≤64 then some (.fz (.int (i / 2^j.toNat))) else none
 | .band,i,j=>if j=1 then some (.fz (.int (i%2))) else none
noncomputable def Q77:T→T→Option PV
 | .tup a,.tup b=>if a.length+b.length≤100000 then some (.fz (.tup (a++b))) else none
 | .lst a,.lst b=>if a.length+b.length≤100000 then some (.ow (.lst (a++b))) else none
 | _,_=>none
noncomputable def Q78:T→Option Int→Option PV
 | .tup a,some k=>if a.length*k.toNat≤100000∧1≤k∧k.natAbs≤100000∧a≠[] then some (.fz (.tup (List.replicate k.toNat a).flatten)) else none
 | .lst a,some k=>if a.length*k.toNat≤100000∧1≤k∧k.natAbs≤100000 then some (.ow (.lst (List.replicate k.toNat a).flatten)) else none
 | _,_=>none
def opX:BOp→T→T→Option PV
 | .add,t,u=>Q77 t u
 | .mul,t,u=>Q78 t (asI u)
 | _,_,_=>none
noncomputable def opB (o:BOp) (t u:T):Option PV:=match asI t,asI u with
 | some i,some j=>opN o i j
 | _,_=>opX o t u
def Qly:T→Bool
 | .non=>true | .bl _=>true | .int _=>true | .str _=>true | _=>false
noncomputable def eqO:T→T→Option Bool
 | .int i,.int j=>some (decide (i=j))
 | .bl i,.bl j=>some (decide (i=j))
 | .str i,.str j=>some (decide (i=j))
 | .non,.non=>some true
 | .non,.int _=>some false | .int _,.non=>some false | .non,.bl _=>some false | .bl _,.non=>some false | .non,.str _=>some false | .str _,.non=>some false
 | .int _,.str _=>some false | .str _,.int _=>some false | .bl _,.str _=>some false | .str _,.bl _=>some false
 | .tup a,.tup b=>if Qt 50 (.tup a)=true∧Qt 50 (.tup b)=true then some (eqT (.tup a) (.tup b)) else none
 | .lst a,.lst b=>if Qt 50 (.lst a)=true∧Qt 50 (.lst b)=true then some (eqT (.lst a) (.lst b)) else none
 | t,u=>if Q2n t u=true then some false else none
def Qfr:T→Bool
 | .non=>true
 | _=>false
noncomputable def Qwb (f:Int→Int→Bool) (t u:T):Option Bool:=match asI t,asI u with
 | some i,some j=>some (f i j)
 | _,_=>none
def Qdj:T→Option (List T)
 | .lst a=>some a
 | .tup a=>some a
 | _=>none
noncomputable def inO (x t:T):Option Bool:=match Qdj t with
 | some ts=>if Qt 49 x=true∧ts.all (Qt 49)=true then some (ts.any fun u=>eqT u x) else none
 | none=>none
noncomputable def opC:COp→T→T→Option Bool
 | .eq,a,b=>eqO a b
 | .ne,a,b=>(eqO a b).map (!·)
 | .lt,a,b=>Qwb (fun i j=>decide (i<j)) a b
 | .le,a,b=>Qwb (fun i j=>decide (i≤j)) a b
 | .gt,a,b=>Qwb (fun i j=>decide (j<i)) a b
 | .ge,a,b=>Qwb (fun i j=>decide (j≤i)) a b
 | .isn,a,b=>if Qfr b then some (Qfr a) else none
 | .isnn,a,b=>if Qfr b then some (!Qfr a) else none
 | .inn,a,b=>inO a b
 | .nin,a,b=>(inO a b).map (!·)
def truT:T→Option Bool
 | .bl b=>some b
 | .int i=>some (decide (i≠0))
 | _=>none
noncomputable def Qk7:List T→Option (List Bool)
 | []=>some []
 | t::ts=>match truT t,Qk7 ts with
  | some b,some bs=>some (b::bs)
  | _,_=>none
noncomputable def Qfk:List T→Option (List Int)
 | []=>some []
 | .int i::ts=>match Qfk ts with
  | some is=>some (i::is)
  | none=>none
 | _::_=>none
noncomputable def Qso:List (List Int)→List T→List Int→Option T
 | j::ks,t::ts,k=>if j=k then some t else Qso ks ts k
 | _,_,_=>none
noncomputable def dRep:List (List Int)→List T→List Int→T→List T
 | j::ks,t::ts,k,u=>(if j=k then u else t)::dRep ks ts k u
 | _,_,_,_=>[]
noncomputable def dPut (ks:List (List Int)) (ts:List T) (k:List Int) (u:T):T:=match Qso ks ts k with
 | some _=>.dtt ks (dRep ks ts k u)
 | none=>.dtt (ks++[k]) (ts++[u])
def Q47:Option T→Bool
 | some (.dtt _ _)=>true
 | _=>false
def Qwc:PV→Option (List Int)
 | .fz (.tup us)=>Qfk us
 | _=>none
noncomputable def Qyv:List T→Option (List (List Int))
 | []=>some []
 | .tup us::ts=>match Qfk us,Qyv ts with
  | some k,some ks=>some (k::ks)
  | _,_=>none
 | _=>none
def Qacs:List Int→T
 | []=>.non
 | i::k=>.tup [.int i,.tup (k.map .int)]
noncomputable def Qyw:List T→Option (List (List Int))
 | []=>some []
 | .tup [.int i,.tup us]::ts=>match Qfk us,Qyw ts with
  | some k,some ks=>some ((i::k)::ks)
  | _,_=>none
 | _=>none
def Qk8:Int→List Int→Int
 | m,[]=>m
 | m,x::xs=>Qk8 (if m<x then x else m) xs
def Q79:Int→List Int→Int
 | m,[]=>m
 | m,x::xs=>Q79 (if x<m then x else m) xs
noncomputable def Qgq:Bi→List T→Option PV
 | .len,[.lst a]=>some (.fz (.int a.length))
 | .len,[.tup a]=>some (.fz (.int a.length))
 | .abs,[.int i]=>some (.fz (.int (if i<0 then -i else i)))
 | .all,[.lst a]=>(Qk7 a).map fun bs=>.fz (.bl (bs.all id))
 | .any,[.lst a]=>(Qk7 a).map fun bs=>.fz (.bl (bs.any id))
 | .sum,[.lst a]=>(Qfk a).map fun is=>.fz (.int is.sum)
 | .max,[.int i,.int j]=>some (.fz (.int (if j>i then j else i)))
 | .min,[.int i,.int j]=>some (.fz (.int (if j<i then j else i)))
 | .srt,[.lst a]=>match Qyv a with
  | some ks=>if ks.length<64∧Q46 ks=true then some (.ow (.lst ((Q2r ks).map fun k=>T.tup (k.map T.int)))) else none
  | none=>none
 | .srt,[.dtt ks _]=>if ks.length<64∧Q46 ks=true∧ks.all (fun k=>decide (k.length≤100000))=true then some (.ow (.lst ((Q2r ks).map fun k=>T.tup (k.map T.int)))) else none
 | .srtP,[.lst a]=>match Qyw a with
  | some ks=>if ks.length<64 then some (.ow (.lst ((Q2r ks).map Qacs))) else none
  | none=>none
 | .srtS,[.lst a]=>match Qyv a with
  | some ks=>match srtS ks with
   | some r=>some (.ow (.lst (r.map fun k=>T.tup (k.map T.int))))
   | none=>none
  | none=>none
 | .maxT,[.tup a]=>match Qfk a with
  | some (x::xs)=>some (.fz (.int (Qk8 x xs)))
  | _=>none
 | .minT,[.tup a]=>match Qfk a with
  | some (x::xs)=>some (.fz (.int (Q79 x xs)))
  | _=>none
 | .max,[.lst a]=>match Qfk a with
  | some (x::xs)=>some (.fz (.int (Qk8 x xs)))
  | _=>none
 | .min,[.lst a]=>match Qfk a with
  | some (x::xs)=>some (.fz (.int (Q79 x xs)))
  | _=>none
 | .dvm,[.int i,.int j]=>if 0<j∧j.natAbs<2^64 then some (.fz (.tup [.int (i / j),.int (i%j)])) else none
 | .int,[.int i]=>some (.fz (.int i))
 | .int,[.bl b]=>some (.fz (.int (if b then 1 else 0)))
 | .list,[.lst a]=>some (.ow (.lst a))
 | .list,[.tup a]=>some (.ow (.lst a))
 | .tup,[.lst a]=>some (.fz (.tup a))
 | .tup,[.tup a]=>some (.fz (.tup a))
 | .lstD,[.dtt ks _]=>if ks.length≤100000∧ks.all (fun k=>decide (k.length≤100000))=true then some (.ow (.lst (ks.map fun k=>T.tup (k.map T.int)))) else none
 | .dct,[.dtt [k] [t]]=>some (.ow (.dtt [k] [t]))
 | .dcl,[.lst [.tup [.tup us,t]]]=>match Qfk us with
  | some is=>some (.ow (.dtt [is] [t]))
  | none=>none
 | .repr,[t]=>if shOk t=true then some (.fz (.str (pyD t).shown)) else none
 | _,_=>none
def Qyx:T→T→Option T
 | .lst a,.int i=>atI a i
 | .tup a,.int i=>atI a i
 | _,_=>none
noncomputable def Qyy:T→Option Int→Option Int→Option PV
 | .lst a,lo,hi=>some (.ow (.lst (Qce a lo hi)))
 | .tup a,lo,hi=>some (.fz (.tup (Qce a lo hi)))
 | _,_,_=>none
noncomputable def Qgx:List PV→Option (Option Int)
 | []=>some none
 | [.fz (.int i)]=>some (some i)
 | _=>none
noncomputable def Qao (ρ:En):List PV→Option (List T)
 | []=>some []
 | r::rs=>match cont ρ r,Qao ρ rs with
  | some t,some ts=>some (t::ts)
  | _,_=>none
noncomputable def Qn5 (n:String):Bool:=n == "int" || n == "bool" || n == "tuple" || n == "list" || n == "dict" || n == "str"
noncomputable def Qak (ρ:En):PV→Option Arg
 | .fz t=>some (.fz t)
 | .ow t=>some (.fz t)
 | .sl i=>match Qa ρ i with
  | .ow t=>some (.ml t)
  | .ml t=>some (.ml t)
  | .ro t=>some (.ro t)
  | _=>none
noncomputable def Qw (ρ:En):List PV→Option (List Arg)
 | []=>some []
 | r::rs=>match Qak ρ r,Qw ρ rs with
  | some t,some ts=>some (t::ts)
  | _,_=>none
noncomputable def Qu:List PV→Bool
 | []=>true
 | .sl i::rs=>(rs.all fun r=>match r with | .sl j=>i != j | _=>true)&&Qu rs
 | _::rs=>Qu rs
noncomputable def Qj:List PV→Nat→Option Nat
 | [],_=>none
 | .sl j::rs,i=>if j=i then some 0 else (Qj rs i).map (· + 1)
 | .fz _::rs,i=>(Qj rs i).map (· + 1)
 | .ow _::rs,i=>(Qj rs i).map (· + 1)
noncomputable def Qz (rs:List PV) (fin:List T) (i:Nat) (s:Slot):Slot:=match Qj rs i with
 | some k=>match fin[k]? with
  | some t=>s.put t
  | none=>s
 | none=>s
noncomputable def Ql (rs:List PV) (fin:List T):Nat→En→En
 | _,[]=>[]
 | i,s::ρ=>Qz rs fin i s::Ql rs fin (i+1) ρ
def Qay (ρ:En) (rs:List PV) (fin:List T):En:=Ql rs fin 0 ρ
noncomputable def Qiw (cf:CF) (f:Nat) (rs:List PV) (ρ:En):Out PV :=
 if Qu rs=true then
  match Qw ρ rs with
  | some as=>match cf f as with
   | .ok r fin=>.ok r (Qay ρ rs fin)
   | .xn x fin=>.xn x (Qay ρ rs fin)
   | .no=>.no
  | none=>.no
 else .no
noncomputable def fzL:List PV→Option (List T)
 | []=>some []
 | .fz t::rs=>match fzL rs with
  | some ts=>some (t::ts)
  | none=>none
 | _::_=>none
noncomputable def Q8a (cf:CF) (f:Nat) (rs:List PV) (ρ:En):Out PV:=match rs with
 | .ow t::rs'=>match fzL rs' with
  | some ts=>match cf f (.ml t::ts.map Arg.fz) with
   | .ok r _=>.ok r ρ
   | .xn x _=>.xn x ρ
   | .no=>.no
  | none=>.no
 | _=>.no
noncomputable def Qba (i:Nat) (s:Slot) (ρ:En):Option En:=if i<ρ.length then (match Qa ρ i with
 | .ml _=>none
 | .ro _=>none
 | .pin _=>none
 | .fx _=>none
 | _=>some (ρ.set i s)) else none
noncomputable def Qbj:List Nat→List T→En→Option En
 | [],[],ρ=>some ρ
 | i::is,t::ts,ρ=>match Qba i (.fz t) ρ with
  | some ρ'=>Qbj is ts ρ'
  | none=>none
 | _,_,_=>none
noncomputable def Qdk:Tg→T→En→Option En
 | .nm i,t,ρ=>Qba i (.fz t) ρ
 | .tp is,.tup ts,ρ=>Qbj is ts ρ
 | .tp _,_,_=>none
noncomputable def Qd6 (js:List (Option Nat)) (ρ:En):En:=js.map fun o=>match o with
 | none=>.un
 | some j=>(Qa ρ j).lend
noncomputable def Qh0 (js:List (Option Nat)) (ρi:En) (j:Nat) (s:Slot):Slot:=match js.idxOf? (some j) with
 | some k=>match Qa ρi k with
  | .ml t=>s.put t
  | _=>s
 | none=>s
noncomputable def Qd1 (js:List (Option Nat)) (ρi:En):Nat→En→En
 | _,[]=>[]
 | j,s::ρ=>Qh0 js ρi j s::Qd1 js ρi (j+1) ρ
def Qlz (js:List (Option Nat)) (ρi ρ:En):En:=Qd1 js ρi 0 ρ
noncomputable def Qei (tg:Tg) (c:En→Out Bool) (e:En→Out PV):List T→List T→En→Out (List T)
 | [],acc,ρ=>.ok acc ρ
 | x::xs,acc,ρ=>match Qdk tg x ρ with
  | none=>.no
  | some ρ1=>(c ρ1).bind fun b ρ2=>if b then (e ρ2).bind fun r ρ3=>match frz r with
    | some t=>if acc.length<100000 then Qei tg c e xs (acc++[t]) ρ3 else .no
    | none=>.no
   else Qei tg c e xs acc ρ2
noncomputable def Qfs:En→En→Bool
 | .ml _::ρ0,s::ρ=>(match s with | .ml _=>true | _=>false)&&Qfs ρ0 ρ
 | _::ρ0,_::ρ=>Qfs ρ0 ρ
 | [],[]=>true
 | _,_=>false
noncomputable def Qcn:List (Option Nat)→Bool
 | []=>true
 | some i::rs=>(rs.all fun r=>match r with | some j=>i != j | none=>true)&&Qcn rs
 | none::rs=>Qcn rs
def Qal (o:Out PV):Out Bool:=o.bind fun r ρ=>match r with
 | .fz (.bl b)=>.ok b ρ
 | _=>.no
def Qbh (lo:Int) (n:Nat):List T:=(List.range n).map fun i=>T.int (lo+(i:Nat))
def dnT (hi:Int) (n:Nat):List T:=(List.range n).map fun i=>T.int (hi-(i:Nat))
def Qk9:Nat→List T→List T
 | _,[]=>[]
 | n,t::ts=>.tup [.int n,t]::Qk9 (n+1) ts
def Qgy:List T→List T→List T
 | x::xs,y::ys=>.tup [x,y]::Qgy xs ys
 | _,_=>[]
noncomputable def fzAt:List Nat→En→Option (List T)
 | [],_=>some []
 | j::js,ρ=>match Qa ρ j,fzAt js ρ with
  | .fz t,some ts=>some (t::ts)
  | _,_=>none
def Qacu (o:Out PV):Out PV:=match o with
 | .ok r ρ=>.ok r ρ
 | _=>.no
def Q8b:Slot→Bool
 | .fz (.clo _ _)=>true
 | _=>false
noncomputable def appO (cf:CF) (i:Nat) (rs:List PV) (ρ:En):Out PV:=match Qa ρ i with
 | .fz (.clo k ts)=>Qacu (Qiw cf k (rs++ts.map PV.fz) ρ)
 | _=>.no
def Qet:PV→Option Nat
 | .sl i=>some i
 | _=>none
noncomputable def ixI (n:Int):List Int→Option Nat
 | []=>none
 | m::ms=>if m=n then some 0 else (ixI n ms).map (· + 1)
noncomputable def ixOf (n:Int):Option T→Option Int
 | some (.lst ts)=>match Qfk ts with
  | some is=>if is.length≤1000 then (ixI n is).map fun j=>(j:Int) else none
  | none=>none
 | _=>none
def insT (ts:List T) (n:Nat) (t:T):List T:=ts.take n++t::ts.drop n
mutual
noncomputable def evE (cf:CF):E→En→Out PV
 | .var i,ρ=>match Qa ρ i with
  | .fz t=>.ok (.fz t) ρ
  | .un=>.no
  | .pin _=>.no
  | .fx t=>.ok (.fz t) ρ
  | _=>.ok (.sl i) ρ
 | .int i,ρ=>.ok (.fz (.int i)) ρ
 | .bl b,ρ=>.ok (.fz (.bl b)) ρ
 | .non,ρ=>.ok (.fz .non) ρ
 | .str x,ρ=>.ok (.fz (.str x)) ρ
 | .tup es,ρ=>(evA cf es ρ).bind fun rs ρ1=>match Qc8 rs with
  | some ts=>if ts.length≤100000 then .ok (.fz (.tup ts)) ρ1 else .no
  | none=>.no
 | .lst es,ρ=>(evA cf es ρ).bind fun rs ρ1=>match Qc8 rs with
  | some ts=>if ts.length≤100000 then .ok (.ow (.lst ts)) ρ1 else .no
  | none=>.no
 | .bin o a b,ρ=>(evE cf a ρ).bind fun ra ρ1=>(evE cf b ρ1).bind fun rb ρ2=>match cont ρ2 ra,cont ρ2 rb with
  | some x,some y=>.opt (opB o x y) ρ2
  | _,_=>.no
 | .neg a,ρ=>(evE cf a ρ).bind fun ra ρ1=>match ra with
  | .fz (.int i)=>.ok (.fz (.int (-i))) ρ1
  | _=>.no
 | .not a,ρ=>(Qal (evE cf a ρ)).bind fun b ρ1=>.ok (.fz (.bl (!b))) ρ1
 | .and a b,ρ=>(Qal (evE cf a ρ)).bind fun c ρ1=>if c then (Qal (evE cf b ρ1)).bind fun d ρ2=>.ok (.fz (.bl d)) ρ2 else .ok (.fz (.bl false)) ρ1
 | .or a b,ρ=>(Qal (evE cf a ρ)).bind fun c ρ1=>if c then .ok (.fz (.bl true)) ρ1 else (Qal (evE cf b ρ1)).bind fun d ρ2=>.ok (.fz (.bl d)) ρ2
 | .ite c a b,ρ=>(Qal (evE cf c ρ)).bind fun k ρ1=>if k then evE cf a ρ1 else evE cf b ρ1
 | .cmp o a b,ρ=>(evE cf a ρ).bind fun ra ρ1=>(evE cf b ρ1).bind fun rb ρ2=>match cont ρ2 ra,cont ρ2 rb with
  | some x,some y=>match opC o x y with
   | some k=>.ok (.fz (.bl k)) ρ2
   | none=>.no
  | _,_=>.no
 | .isI a n,ρ=>(evE cf a ρ).bind fun ra ρ1=>match cont ρ1 ra with
  | some t=>if Qn5 n && !Qdg t then .ok (.fz (.bl (Qnw (tyT t) n))) ρ1 else .no
  | none=>.no
 | .srk f e,ρ=>(evE cf e ρ).bind fun r ρ1=>match r with
  | .fz (.lst [t])=>match Qiw cf f [.fz t] ρ1 with
   | .ok _ ρ2=>.ok (.ow (.lst [t])) ρ2
   | _=>.no
  | _=>.no
 | .inR ng a lo hi,ρ=>(evE cf a ρ).bind fun ra ρ1=>(evE cf lo ρ1).bind fun rl ρ2=>(evE cf hi ρ2).bind fun rh ρ3=>match ra,rl,rh with
  | .fz (.int i),.fz (.int l),.fz (.int h)=>.ok (.fz (.bl (if ng then !decide (l≤i∧i<h) else decide (l≤i∧i<h)))) ρ3
  | _,_,_=>.no
 | .call f es,ρ=>(evA cf es ρ).bind fun rs ρ1=>Qiw cf f rs ρ1
 | .bi b es,ρ=>(evA cf es ρ).bind fun rs ρ1=>match Qao ρ1 rs with
  | some ts=>.opt (Qgq b ts) ρ1
  | none=>.no
 | .cnt a b,ρ=>(evE cf a ρ).bind fun ra ρ1=>match ra with
  | .fz (.tup ts)=>(evE cf b ρ1).bind fun rb ρ2=>match rb,Qfk ts with
   | .fz (.int j),some is=>.ok (.fz (.int (is.count j:Nat))) ρ2
   | _,_=>.no
  | _=>.no
 | .ix a i,ρ=>(evE cf a ρ).bind fun ra ρ1=>(evE cf i ρ1).bind fun rb ρ2=>match cont ρ2 ra,cont ρ2 rb with
  | some x,some y=>match Qyx x y with
   | some t=>.ok (.fz t) ρ2
   | none=>.no
  | _,_=>.no
 | .slc a lo hi,ρ=>(evE cf a ρ).bind fun ra ρ1=>(evA cf lo ρ1).bind fun rl ρ2=>match Qgx rl with
  | none=>.no
  | some l=>(evA cf hi ρ2).bind fun rh ρ3=>match Qgx rh with
   | none=>.no
   | some h=>match cont ρ3 ra with
    | some x=>.opt (Qyy x l h) ρ3
    | none=>.no
 | .rev a,ρ=>(evE cf a ρ).bind fun ra ρ1=>match ra with
  | .fz (.tup ts)=>.ok (.fz (.tup ts.reverse)) ρ1
  | _=>.no
 | .comp w js tg cs e,ρ=>(evW cf w ρ).bind fun ac ρ1=>match ac.2 with
  | some _=>.no
  | none=>match Qei tg (evC cf cs) (evE cf e) ac.1 [] (Qd6 js ρ1) with
   | .ok ts ρi=>if Qfs (Qd6 js ρ1) ρi=true∧Qcn js=true then .ok (.ow (.lst ts)) (Qlz js ρi ρ1) else .no
   | _=>.no
 | .compS i js tg cs e,ρ=>match (Qa ρ i).prv with
  | some (.lst ts)=>if js.all (fun j=>decide (j≠some i))=true then match Qei tg (evC cf cs) (evE cf e) ts [] (Qd6 js ρ) with
   | .ok us ρi=>if Qfs (Qd6 js ρ) ρi=true∧Qcn js=true then .ok (.ow (.lst us)) (Qlz js ρi ρ) else .no
   | _=>.no
   else .no
  | _=>.no
 | .orv a b,ρ=>(evE cf a ρ).bind fun ra ρ1=>match ra with
  | .fz .non=>evE cf b ρ1
  | .fz (.tup [])=>evE cf b ρ1
  | .fz (.tup (x::xs))=>.ok (.fz (.tup (x::xs))) ρ1
  | _=>.no
 | .chl a b c,ρ=>(evE cf a ρ).bind fun ra ρ1=>(evE cf b ρ1).bind fun rb ρ2=>match ra,rb with
  | .fz (.int i),.fz (.int j)=>if i≤j then (evE cf c ρ2).bind fun rc ρ3=>match rc with
   | .fz (.int k)=>.ok (.fz (.bl (decide (j≤k)))) ρ3
   | _=>.no
   else .ok (.fz (.bl false)) ρ2
  | _,_=>.no
 | .compZ i j js tg cs e,ρ=>match (Qa ρ i).prv,Qa ρ j with
  | some (.lst ts),.fz (.lst us)=>if js.all (fun j=>decide (j≠some i))=true then match Qei tg (evC cf cs) (evE cf e) (Qgy ts us) [] (Qd6 js ρ) with
   | .ok us ρi=>if Qfs (Qd6 js ρ) ρi=true∧Qcn js=true then .ok (.ow (.lst us)) (Qlz js ρi ρ) else .no
   | _=>.no
   else .no
  | _,_=>.no
 | .lix i a,ρ=>if (Qa ρ i).mut=true then (evE cf a ρ).bind fun r ρ1=>match r with
  | .fz (.int n)=>(match ixOf n ((Qa ρ1 i).prv) with
   | some j=>.ok (.fz (.int j)) ρ1
   | none=>.no)
  | _=>.no
  else .no
 | .tupR l a,ρ=>(evE cf a ρ).bind fun r ρ1=>match r with
  | .fz (.int j)=>if j.natAbs≤100000 then .ok (if l then .ow (.lst (Qbh 0 j.toNat)) else .fz (.tup (Qbh 0 j.toNat))) ρ1 else .no
  | _=>.no
 | .lstR2 a b,ρ=>(evE cf a ρ).bind fun r ρ1=>(evE cf b ρ1).bind fun r2 ρ2=>match r,r2 with
  | .fz (.int i),.fz (.int j)=>if i.natAbs≤100000∧j.natAbs≤100000∧(j-i).natAbs≤100000 then .ok (.ow (.lst (Qbh i (j-i).toNat))) ρ2 else .no
  | _,_=>.no
 | .lit t,ρ=>.ok (.fz t) ρ
 | .dg1 d k,ρ=>(evE cf d ρ).bind fun rd ρ1=>if Q47 (cont ρ1 rd)=true then (evE cf k ρ1).bind fun rk ρ2=>match Qwc rk,cont ρ2 rd with
   | some is,some (.dtt ks ts)=>.ok (.fz ((Qso ks ts is).getD .non)) ρ2
   | _,_=>.no
  else .no
 | .dg2 d k x,ρ=>(evE cf d ρ).bind fun rd ρ1=>if Q47 (cont ρ1 rd)=true then (evE cf k ρ1).bind fun rk ρ2=>(evE cf x ρ2).bind fun rx ρ3=>match Qwc rk,cont ρ3 rd,rx with
   | some is,some (.dtt ks ts),.fz u=>.ok (.fz ((Qso ks ts is).getD u)) ρ3
   | _,_,_=>.no
  else .no
 | .dnew,ρ=>.ok (.ow (.dtt [] [])) ρ
 | .d1 k x,ρ=>(evE cf k ρ).bind fun rk ρ1=>(evE cf x ρ1).bind fun rx ρ2=>match Qwc rk,rx with
  | some is,.fz t=>.ok (.ow (.dtt [is] [t])) ρ2
  | _,_=>.no
 | .tcall f es,ρ=>(evA cf es ρ).bind fun rs ρ1=>Q8a cf f rs ρ1
 | .din ng k d,ρ=>(evE cf k ρ).bind fun rk ρ1=>(evE cf d ρ1).bind fun rd ρ2=>match Qwc rk,cont ρ2 rd with
  | some is,some (.dtt ks ts)=>.ok (.fz (.bl (if ng then !(Qso ks ts is).isSome else (Qso ks ts is).isSome))) ρ2
  | _,_=>.no
 | .dix d k,ρ=>(evE cf d ρ).bind fun rd ρ1=>(evE cf k ρ1).bind fun rk ρ2=>match Qwc rk,cont ρ2 rd with
  | some is,some (.dtt ks ts)=>match Qso ks ts is with
   | some t=>.ok (.fz t) ρ2
   | none=>.no
  | _,_=>.no
 | .app i es,ρ=>if Q8b (Qa ρ i)=true then (evA cf es ρ).bind fun rs ρ1=>appO cf i rs ρ1 else .no
 | .lam k js,ρ=>match fzAt js ρ with
  | some ts=>.ok (.fz (.clo k ts)) ρ
  | none=>.no
 | .fzE e,ρ=>(evE cf e ρ).bind fun r ρ1=>match frz r with
  | some t=>.ok (.fz t) ρ1
  | none=>.no
 | .bad,_=>.no
noncomputable def evA (cf:CF):Es→En→Out (List PV)
 | .nil,ρ=>.ok [] ρ
 | .cons e es,ρ=>(evE cf e ρ).bind fun r ρ1=>(evA cf es ρ1).bind fun rs ρ2=>.ok (r::rs) ρ2
noncomputable def evC (cf:CF):Es→En→Out Bool
 | .nil,ρ=>.ok true ρ
 | .cons e .nil,ρ=>Qal (evE cf e ρ)
 | .cons _ _,_=>.no
noncomputable def evW (cf:CF):W→En→Out (List T×Option Nat)
 | .seq e,ρ=>(evE cf e ρ).bind fun r ρ1=>match cont ρ1 r with
  | some t=>match Qdj t with
   | some ts=>.ok (ts,Qet r) ρ1
   | none=>.no
  | none=>.no
 | .rng1 a,ρ=>(evE cf a ρ).bind fun r ρ1=>match r with
  | .fz (.int j)=>if j.natAbs≤100000 then .ok (Qbh 0 j.toNat,none) ρ1 else .no
  | _=>.no
 | .rng2 a b,ρ=>(evE cf a ρ).bind fun r ρ1=>(evE cf b ρ1).bind fun r2 ρ2=>match r,r2 with
  | .fz (.int i),.fz (.int j)=>if i.natAbs≤100000∧j.natAbs≤100000 then .ok (Qbh i (j-i).toNat,none) ρ2 else .no
  | _,_=>.no
 | .rngD a b,ρ=>(evE cf a ρ).bind fun r ρ1=>(evE cf b ρ1).bind fun r2 ρ2=>match r,r2 with
  | .fz (.int i),.fz (.int j)=>if i.natAbs≤100000∧j.natAbs≤100000 then .ok (dnT i (i-j).toNat,none) ρ2 else .no
  | _,_=>.no
 | .enm e,ρ=>(evE cf e ρ).bind fun r ρ1=>match cont ρ1 r with
  | some (.lst ts)=>.ok (Qk9 0 ts,Qet r) ρ1
  | some (.tup ts)=>.ok (Qk9 0 ts,Qet r) ρ1
  | _=>.no
 | .zip a b,ρ=>(evE cf a ρ).bind fun r ρ1=>(evE cf b ρ1).bind fun r2 ρ2=>match r,r2 with
  | .fz (.tup xs),.fz (.tup ys)=>.ok (Qgy xs ys,none) ρ2
  | .fz (.lst xs),.fz (.tup ys)=>.ok (Qgy xs ys,none) ρ2
  | .fz (.lst xs),.fz (.lst ys)=>.ok (Qgy xs ys,none) ρ2
  | _,_=>.no
 | .dks e,ρ=>(evE cf e ρ).bind fun r ρ1=>match r with
  | .fz (.dtt ks _)=>if ks.all (fun k=>decide (k.length≤100000))=true then .ok (ks.map fun k=>T.tup (k.map T.int),none) ρ1 else .no
  | _=>.no
end
def SO.seq (o:SO) (k:En→SO):SO:=match o with
 | .nx ρ=>k ρ
 | o=>o
noncomputable def ofO {α:Type} (o:Out α) (k:α→En→SO):SO:=match o with
 | .ok a ρ=>k a ρ
 | .xn x ρ=>.xn x ρ
 | .no=>.no
def Q8 {α:Type} (o:Option α) (k:α→SO):SO:=match o with
 | some a=>k a
 | none=>.no
noncomputable def Qj0 (c:En→Out Bool) (b:En→SO):Nat→En→SO
 | 0,_=>.no
 | n+1,ρ=>ofO (c ρ) fun k ρ1=>if k then (match b ρ1 with
   | .nx ρ2=>Qj0 c b n ρ2
   | .ct ρ2=>Qj0 c b n ρ2
   | .bk ρ2=>.nx ρ2
   | o=>o) else .nx ρ1
noncomputable def Qb0 (tg:Tg) (b:En→SO):List T→En→SO
 | [],ρ=>.nx ρ
 | x::xs,ρ=>match Qdk tg x ρ with
  | none=>.no
  | some ρ1=>match b ρ1 with
   | .nx ρ2=>Qb0 tg b xs ρ2
   | .ct ρ2=>Qb0 tg b xs ρ2
   | .bk ρ2=>.nx ρ2
   | o=>o
noncomputable def Q8c (i:Nat) (tg:Tg) (b:En→SO):Nat→Nat→En→SO
 | 0,_,_=>.no
 | m+1,n,ρ=>match Qa ρ i with
  | .ro (.lst us)=>match us[n]? with
   | none=>.nx ρ
   | some x=>match Qdk tg x ρ with
    | none=>.no
    | some ρ1=>match b ρ1 with
     | .nx ρ2=>Q8c i tg b m (n+1) ρ2
     | .ct ρ2=>Q8c i tg b m (n+1) ρ2
     | .bk ρ2=>.nx ρ2
     | o=>o
  | _=>.no
noncomputable def unE (i:Nat) (ρ:En):Option En:=match Qa ρ i with
 | .ro t=>some (ρ.set i (.ow t))
 | _=>none
noncomputable def unl (i:Nat):SO→SO
 | .nx ρ=>Q8 (unE i ρ) .nx
 | .rt (.fz t) ρ=>Q8 (unE i ρ) (.rt (.fz t))
 | _=>.no
def Qh1 (o:SO):SO:=match o with
 | .xn _ _=>.no
 | o=>o
noncomputable def Qnb (i:Nat) (r:PV) (ρ:En):SO:=match r with
 | .fz t=>Q8 (Qba i (.fz t) ρ) .nx
 | .ow t=>Q8 (Qba i (.ow t) ρ) .nx
 | .sl _=>.no
def isRf:T→Bool
 | .tup _=>true
 | .lst _=>true
 | _=>false
def flaT:T→Bool
 | .int _=>true
 | .bl _=>true
 | .str _=>true
 | .non=>true
 | _=>false
def Qqr:T→Bool
 | .tup ts=>ts.all flaT
 | t=>flaT t
def Qwd:T→Bool
 | .tup ts=>!ts.all flaT
 | .lst _=>true
 | _=>false
def lkS:Slot→Slot
 | .fz t=>if Qwd t=true then .fx t else .fz t
 | s=>s
def Ql0:Slot→Bool
 | .un=>true
 | .fz t=>isRf t||flaT t
 | .pin _=>true
 | _=>false
def Q2s:Slot→Bool
 | .fx _=>true
 | _=>false
noncomputable def lkB:Slot→Slot→Slot
 | s0,.fx _=>s0
 | _,.fz t=>if Qqr t=true then .fz t else .un
 | _,.pin a=>.pin a
 | _,_=>.un
noncomputable def lkO (i:Nat) (ρ:En):SO→SO
 | .nx ρ1=>if Q2s (Qa ρ1 i)=true∧ρ1.length=ρ.length then .nx (List.zipWith lkB ρ ρ1) else .no
 | .rt (.fz (.bl b)) ρ1=>.rt (.fz (.bl b)) (ρ1.map fun _=>.un)
 | _=>.no
def Qacv:Slot→Bool
 | .un=>true
 | .fz _=>true
 | _=>false
abbrev Qn6 (is:List Int):T:=.lst (is.map T.int)
abbrev Qej (M:List (List Int)):T:=.lst (M.map Qn6)
noncomputable def nRow (fA:En→SO) (iF iR iH:Nat) (Ms:List (List (List Int))) (R:List (List Int)) (ρ:En):Option (List (List Int)×En) :=
 match fA ((ρ.set iF (.ro (.lst (Ms.map Qej)))).set iR (.ro (.lst (R.map Qn6)))) with
 | .nx ρ1=>match Qa ρ1 iF,Qa ρ1 iR,Qa ρ1 iH with
  | .ro _,.ro _,.ow (.lst us)=>match Qfk us with
   | some is=>if is.length≤1000∧R.length<1000 then some (R++[is],((((ρ1.set iR (.ow (.lst (R.map Qn6)))).set iF (.ow (.lst (Ms.map Qej)))).set iH (.fz (Qn6 is))).set iR (.ow (.lst ((R++[is]).map Qn6))))) else none
   | none=>none
  | _,_,_=>none
 | _=>none
noncomputable def Q48 (fA:En→SO) (iF iR iH iW:Nat) (Ms:List (List (List Int))) (R0:List (List Int)) (ρ0:En):Nat→Option (List (List Int)×En)
 | 0=>some (R0,ρ0)
 | n+1=>match Q48 fA iF iR iH iW Ms R0 ρ0 n with
  | some q=>if iW<q.2.length then nRow fA iF iR iH Ms q.1 (q.2.set iW (.fz (.int n))) else none
  | none=>none
noncomputable def nTab (f0 fA:En→SO) (iF iR iH iW iS:Nat) (Ms:List (List (List Int))) (ρ:En):Option (List (List (List Int))×En) :=
 match f0 (ρ.set iF (.ro (.lst (Ms.map Qej)))) with
 | .nx ρ1=>match Qa ρ1 iF,Qa ρ1 iR,Qa (ρ1.set iF (.ow (.lst (Ms.map Qej)))) iS with
  | .ro _,.ow (.lst []),.fz (.int j)=>if j.natAbs≤1000 then (match Q48 fA iF iR iH iW Ms [] (ρ1.set iF (.ow (.lst (Ms.map Qej)))) j.toNat with
   | some q=>if q.1.length≤1000∧Ms.length<1000 then some (Ms++[q.1],(q.2.set iR (.fz (Qej q.1))).set iF (.ow (.lst ((Ms++[q.1]).map Qej)))) else none
   | none=>none) else none
  | _,_,_=>none
 | _=>none
noncomputable def Q49 (f0 fA:En→SO) (iF iR iH iW iS iT:Nat) (ρ0:En):Nat→Option (List (List (List Int))×En)
 | 0=>some ([],ρ0)
 | n+1=>match Q49 f0 fA iF iR iH iW iS iT ρ0 n with
  | some q=>if iT<q.2.length then nTab f0 fA iF iR iH iW iS q.1 (q.2.set iT (.fz (.int n))) else none
  | none=>none
noncomputable def Q8d:Slot→Slot
 | .ml (.lst ts)=>if (Qfk ts).isSome=true then .ml (.lst ts) else .un
 | _=>.un
noncomputable def nPut (fV f1 f2:En→Out PV) (iF:Nat):List (List (List Int))→En→Option En
 | [],_=>none
 | M::Ms,ρ=>if (M::Ms).length≤1000 then (match fV (ρ.set iF (.ro (.lst ((M::Ms).map Qej)))) with
  | .ok (.fz (.int v)) ρ1=>(match Qa ρ1 iF,f1 (ρ1.set iF (.ro (.lst ((M::Ms).map Qej)))) with
   | .ro _,.ok (.fz (.int j)) ρ2=>(match Qa ρ2 iF,f2 (ρ2.set iF (.ro (.lst ((M::Ms).map Qej)))) with
    | .ro _,.ok (.fz (.int k)) ρ3=>(match Qa ρ3 iF,ixN M.length j with
     | .ro _,some x=>(match M[x]? with
      | some is=>(match ixN is.length k with
       | some y=>some ((ρ3.map Q8d).set iF (.ow (.lst ((M.set x (is.set y v)::Ms).map Qej))))
       | none=>none)
      | none=>none)
     | _,_=>none)
    | _,_=>none)
   | _,_=>none)
  | _=>none) else none
noncomputable def Qacw (f0 fA:En→SO) (fc:En→Out Bool) (fV f1 f2:En→Out PV) (iF iR iH iW iS iT iN:Nat) (ρ:En):SO :=
 match Qa ρ iF,Qa ρ iN with
 | .ow (.lst []),.fz (.int n)=>if n.natAbs≤1000 then (match Q49 f0 fA iF iR iH iW iS iT ρ n.toNat with
  | some q=>if q.1.length≤1000 then (match fc (q.2.set iF (.ro (.lst (q.1.map Qej)))) with
   | .ok b ρ2=>(match Qa ρ2 iF with
    | .ro _=>if b=true then (match nPut fV f1 f2 iF q.1 (ρ2.set iF (.ow (.lst (q.1.map Qej)))) with
     | some ρ3=>.nx ρ3
     | none=>.no) else .nx (ρ2.set iF (.ow (.lst (q.1.map Qej))))
    | _=>.no)
   | _=>.no) else .no
  | none=>.no) else .no
 | _,_=>.no
noncomputable def exS (cf:CF):S→En→SO
 | .nil,ρ=>.nx ρ
 | .seq a b,ρ=>(exS cf a ρ).seq (exS cf b)
 | .expr e,ρ=>ofO (evE cf e ρ) fun _ ρ1=>.nx ρ1
 | .set i e,ρ=>ofO (evE cf e ρ) fun r ρ1=>Qnb i r ρ1
 | .setF i e,ρ=>ofO (evE cf e ρ) fun r ρ1=>match frz r with
  | some t=>Q8 (Qba i (.fz t) ρ1) .nx
  | none=>.no
 | .unp is e,ρ=>ofO (evE cf e ρ) fun r ρ1=>match r with
  | .fz (.tup ts)=>Q8 (Qbj is ts ρ1) .nx
  | _=>.no
 | .par i j a b,ρ=>ofO (evE cf a ρ) fun ra ρ1=>ofO (evE cf b ρ1) fun rb ρ2=>match ra,rb with
  | .fz x,.fz y=>Q8 (Qbj [i,j] [x,y] ρ2) .nx
  | _,_=>.no
 | .app i e,ρ=>if (Qa ρ i).mut=true then ofO (evE cf e ρ) fun r ρ1=>match frz r with
   | none=>.no
   | some t=>match Qa ρ1 i with
    | .ow (.lst ts)=>if ts.length<100000 then .nx (ρ1.set i (.ow (.lst (ts++[t])))) else .no
    | .ml (.lst ts)=>if ts.length<100000 then .nx (ρ1.set i (.ml (.lst (ts++[t])))) else .no
    | _=>.no
  else .no
 | .ext i e,ρ=>if (Qa ρ i).mut=true then ofO (evE cf e ρ) fun r ρ1=>match r with
   | .fz (.tup us)=>match Qa ρ1 i with
    | .ow (.lst ts)=>if ts.length+us.length≤100000 then .nx (ρ1.set i (.ow (.lst (ts++us)))) else .no
    | .ml (.lst ts)=>if ts.length+us.length≤100000 then .nx (ρ1.set i (.ml (.lst (ts++us)))) else .no
    | _=>.no
   | _=>.no
  else .no
 | .put i k e,ρ=>ofO (evE cf e ρ) fun r ρ1=>match frz r with
  | none=>.no
  | some t=>if (Qa ρ1 i).mut=true then ofO (evE cf k ρ1) fun rk ρ2=>match rk with
    | .fz (.int j)=>match Qa ρ2 i with
     | .ow (.lst ts)=>Q8 (ixN ts.length j) fun n=>.nx (ρ2.set i (.ow (.lst (ts.set n t))))
     | .ml (.lst ts)=>Q8 (ixN ts.length j) fun n=>.nx (ρ2.set i (.ml (.lst (ts.set n t))))
     | _=>.no
    | _=>.no
   else .no
 | .dput i k e,ρ=>ofO (evE cf e ρ) fun r ρ1=>match frz r with
  | none=>.no
  | some t=>if (Qa ρ1 i).mutD=true then ofO (evE cf k ρ1) fun rk ρ2=>match Qwc rk with
    | some is=>match Qa ρ2 i with
     | .ow (.dtt ks ts)=>if ks.length<100000 then .nx (ρ2.set i (.ow (dPut ks ts is t))) else .no
     | .ml (.dtt ks ts)=>if ks.length<100000 then .nx (ρ2.set i (.ml (dPut ks ts is t))) else .no
     | _=>.no
    | none=>.no
   else .no
 | .look i b,ρ=>match Qa ρ i with
  | .ow (.lst ts)=>if (ρ.set i .un).all Ql0=true then lkO i ρ (exS cf b ((ρ.set i (.fz (.lst ts))).map lkS)) else .no
  | _=>.no
 | .swp i j k,ρ=>ofO (evE cf (.tup (.cons (.ix (.var i) (.var k)) (.cons (.ix (.var i) (.var j)) .nil))) ρ) fun r ρ1=>match r with
  | .fz (.tup [u,v])=>match Qa ρ1 j,Qa ρ1 k,Qa ρ1 i with
   | .fz (.int x),.fz (.int y),.ow (.lst ts)=>Q8 (ixN ts.length x) fun m=>Q8 (ixN ts.length y) fun n=>.nx (ρ1.set i (.ow (.lst ((ts.set m u).set n v))))
   | _,_,_=>.no
  | _=>.no
 | .ret e,ρ=>ofO (evE cf e ρ) fun r ρ1=>.rt r ρ1
 | .retN,ρ=>.rt (.fz .non) ρ
 | .ite c a b,ρ=>ofO (Qal (evE cf c ρ)) fun k ρ1=>if k then exS cf a ρ1 else exS cf b ρ1
 | .whl c b,ρ=>Qh1 (Qj0 (fun ρ=>Qal (evE cf c ρ)) (exS cf b) 1000000 ρ)
 | .for_ w tg b,ρ=>Qh1 (ofO (evW cf w ρ) fun ac ρ1=>match ac.2 with
  | some _=>.no
  | none=>Qb0 tg (exS cf b) ac.1 ρ1)
 | .mov i j,ρ=>match Qa ρ j with
  | .ow t=>if i≠j∧i<ρ.length then .nx ((ρ.set j .un).set i (.ow t)) else .no
  | _=>.no
 | .forX w tg b,ρ=>ofO (evW cf w ρ) fun ac ρ1=>match ac.2 with
  | some _=>.no
  | none=>Qb0 tg (exS cf b) ac.1 ρ1
 | .extL i e,ρ=>if (Qa ρ i).mut=true then ofO (evE cf e ρ) fun r ρ1=>match r with
   | .ow (.lst us)=>match Qa ρ1 i with
    | .ow (.lst ts)=>if ts.length+us.length≤100000 then .nx (ρ1.set i (.ow (.lst (ts++us)))) else .no
    | _=>.no
   | _=>.no
  else .no
 | .forS i tg b,ρ=>match Qa ρ i with
  | .ow (.lst ts)=>unl i (Q8c i tg (exS cf b) 100001 0 (ρ.set i (.ro (.lst ts))))
  | _=>.no
 | .brk,ρ=>.bk ρ
 | .cnt,ρ=>.ct ρ
 | .frz i,ρ=>match Qa ρ i with
  | .ow t=>.nx (ρ.set i (.fz t))
  | .ml _=>.no
  | .ro _=>.no
  | _=>.nx ρ
 | .raise c es,ρ=>ofO (evA cf es ρ) fun rs ρ1=>match rs with
  | [.fz (.int i)]=>if 6≤c∧c<9 then .xn ⟨c,[i]⟩ ρ1 else .no
  | [.fz (.str _)]=>if c<6 then .xn ⟨c,[]⟩ ρ1 else .no
  | [.fz (.int i),.fz (.int j)]=>if c=9 then .xn ⟨c,[i,j]⟩ ρ1 else .no
  | _=>.no
 | .ins i k e,ρ=>if (Qa ρ i).mut=true then ofO (evE cf k ρ) fun rk ρ1=>match rk with
   | .fz (.int j)=>ofO (evE cf e ρ1) fun r ρ2=>match r with
    | .fz t=>match Qa ρ2 i with
     | .ow (.lst ts)=>if ts.length<100000∧0≤j∧j≤ts.length then .nx (ρ2.set i (.ow (.lst (insT ts j.toNat t)))) else .no
     | _=>.no
    | _=>.no
   | _=>.no
  else .no
 | .rem i e,ρ=>if (Qa ρ i).mut=true then ofO (evE cf e ρ) fun r ρ1=>match r with
   | .fz (.int n)=>match Qa ρ1 i with
    | .ow (.lst ts)=>match Qfk ts with
     | some is=>match ixI n is with
      | some j=>.nx (ρ1.set i (.ow (.lst (ts.eraseIdx j))))
      | none=>.no
     | none=>.no
    | _=>.no
   | _=>.no
  else .no
 | .scr i a b f c1 c2,ρ=>if ρ.all Qacv=true then (match Qa ρ a,Qa ρ b with
  | .fz (.int x),.fz (.int y)=>match cf f [.fz (.int x),.fz (.int y)] with
   | .ok (.fz (.tup [u,.lst ts])) _=>match Qba i (.fz (.tup [u,.lst ts])) ρ with
    | some ρ1=>match Qal (evE cf c1 ρ1) with
     | .ok false _=>match Qal (evE cf c2 ρ1) with
      | .ok false _=>if ts.length<100000 then .nx (ρ.set i .un) else .no
      | _=>.no
     | _=>.no
    | none=>.no
   | _=>.no
  | _,_=>.no) else .no
 | .nest iF iR iH iW iS iT iN a0 a c v e1 e2,ρ=>Qacw (exS cf a0) (exS cf a) (fun ρ=>Qal (evE cf c ρ)) (evE cf v) (evE cf e1) (evE cf e2) iF iR iH iW iS iT iN ρ
 | .tryR i b h,ρ=>match exS cf b ρ with
  | .xn x ρ1=>(match h x.c x.arg with
   | some t=>.rt (.fz t) ρ1
   | none=>.no)
  | o=>o
 | .tryA i j b h,ρ=>match exS cf b ρ with
  | .xn x ρ1=>(match h x.c x.arg with
   | some (.str w)=>(match Qa ρ1 j with
    | .ow (.lst ts)=>if ts.length<100000 then .nx ((ρ1.set i .un).set j (.ow (.lst (ts++[.str w])))) else .no
    | _=>.no)
   | _=>.no)
  | .nx ρ1=>.nx ρ1
  | _=>.no
 | .parO i j a b,ρ=>ofO (evE cf a ρ) fun ra ρ1=>ofO (evE cf b ρ1) fun rb ρ2=>match ra,rb with
  | .ow x,.ow y=>Q8 (Qba i (.ow x) ρ2) fun ρ3=>Q8 (Qba j (.ow y) ρ3) .nx
  | _,_=>.no
 | .bad,_=>.no
structure Fn where
 ps:Nat
 sz:Nat
 body:S
noncomputable def Qfl (fn:Fn) (as:List Arg):En:=(as.map fun a=>match a with
 | .fz t=>Slot.fz t
 | .ml t=>.ml t
 | .ro t=>.ro t)++List.replicate (fn.sz-fn.ps) .un
noncomputable def Q4:List Arg→En→Option (List T)
 | [],_=>some []
 | .ml _::as,.ml t::ρ=>(Q4 as ρ).map (t :: ·)
 | .ml _::_,_=>none
 | .fz _::as,_::ρ=>(Q4 as ρ).map (.non :: ·)
 | .ro _::as,_::ρ=>(Q4 as ρ).map (.non :: ·)
 | _,[]=>none
noncomputable def Qav (ρ:En):PV→Option PV
 | .fz t=>some (.fz t)
 | .ow t=>some (.ow t)
 | .sl i=>match Qa ρ i with
  | .ow t=>some (.ow t)
  | _=>none
noncomputable def Qb4 (cf:CF) (fn:Fn) (as:List Arg):FR :=
 if as.length=fn.ps then match exS cf fn.body (Qfl fn as) with
  | .nx ρ=>match Q4 as ρ with
   | some fin=>.ok (.fz .non) fin
   | none=>.no
  | .rt r ρ=>match Qav ρ r,Q4 as ρ with
   | some r,some fin=>.ok r fin
   | _,_=>.no
  | .xn x ρ=>match Q4 as ρ with
   | some fin=>.xn x fin
   | none=>.no
  | _=>.no
 else .no
noncomputable def evF (tab:Nat→Option Fn):Nat→CF
 | 0,_,_=>.no
 | n+1,f,as=>match tab f with
  | some fn=>Qb4 (evF tab n) fn as
  | none=>.no
structure Bs where
 H:Hp
 G:Fw→Prop
 O:Fw→Prop
 M:Fw→Prop
 P:Nat→Fw→Prop
noncomputable def OwnO (D:Hp):T→HO→Prop
 | .lst ts,.lst vs=>ts.length≤100000∧IsL D vs ts
 | .dtt ks ts,.dT ag=>ks.length≤100000∧∃ vs,ag=(ks.map kIs).zip vs∧ks.length=vs.length∧IsL D vs ts
 | _,_=>False
theorem OwnO.mono {D D':Hp} {t:T} {o:HO} (h:OwnO D t o) (s:Same D D'):OwnO D' t o:=by
 cases t with
 | lst ts=>cases o <;> first | exact ⟨h.1,h.2.mono s⟩ | exact h.elim
 | dtt ks ts =>
  cases o with
  | dT ag=>obtain ⟨z,vs,e,l,q⟩:=h;exact ⟨z,vs,e,l,q.mono s⟩
  | _=>exact h.elim
 | _=>cases o <;> exact h.elim
theorem OwnO.pen {D:Hp} {t:T} {o:HO} (h:OwnO D t o):Q7r o=true:=by
 cases t with
 | lst ts=>cases o <;> first | rfl | exact h.elim
 | dtt ks ts=>cases o <;> first | rfl | exact h.elim
 | _=>cases o <;> exact h.elim
theorem OwnO.is {D D':Hp} {t:T} {o:HO} {a:Fw} (h:OwnO D t o) (e:D' a=some o) (s:Same D D'):Is D' (.ref a) t:=by
 cases t with
 | lst ts =>
  cases o with
  | lst vs=>exact .lst e (h.2.mono s) h.1
  | _=>exact h.elim
 | dtt ks ts =>
  cases o with
  | dT ag =>
   obtain ⟨z,vs,rfl,l,q⟩:=h
   unfold Is
   exact ⟨z,a,vs,rfl,e,l,q.mono s⟩
  | _=>exact h.elim
 | _=>cases o <;> exact h.elim
def OwnAt (H:Hp) (G:Fw→Prop) (a:Fw) (t:T):Prop:=∃ o,H a=some o∧OwnO (dls H G) t o
theorem OwnAt.lst_inv {H:Hp} {G:Fw→Prop} {a:Fw} {ts:List T} (h:OwnAt H G a (.lst ts)):∃ vs,ts.length≤100000∧H a=some (.lst vs)∧IsL (dls H G) vs ts:=by
 obtain ⟨o,e,q⟩:=h
 cases o with
 | lst vs=>exact ⟨vs,q.1,e,q.2⟩
 | _=>exact q.elim
theorem OwnAt.no_tup {H:Hp} {G:Fw→Prop} {a:Fw} {ts:List T} (h:OwnAt H G a (.tup ts)):False:=by
 obtain ⟨o,e,q⟩:=h
 cases o <;> exact q
noncomputable def Ql1 (H:Hp) (G:Fw→Prop) (σ:St) (i:Nat):Slot→Prop
 | .un=>True
 | .fz t=>∃ v,σ[i]?=some (some v)∧Is (dls H G) v t
 | .ow t=>∃ a,σ[i]?=some (some (.ref a))∧G a∧OwnAt H G a t
 | .ml t=>∃ a,σ[i]?=some (some (.ref a))∧G a∧OwnAt H G a t
 | .ro t=>∃ a,σ[i]?=some (some (.ref a))∧G a∧OwnAt H G a t
 | .pin a=>σ[i]?=some (some (.ref a))
 | .fx t=>∃ a o,σ[i]?=some (some (.ref a))∧dls H G a=some o∧Is (dls H G) (.ref a) t
noncomputable def PrvAt (σ:St) (ρ:En) (i:Nat) (a:Fw):Prop:=(∃ t,(Qa ρ i).prv=some t)∧σ[i]?=some (some (.ref a))
def OwA (σ:St) (ρ:En) (a:Fw):Prop:=∃ i t,Qa ρ i=.ow t∧σ[i]?=some (some (.ref a))
def MlA (σ:St) (ρ:En) (a:Fw):Prop:=∃ i t,Qa ρ i=.ml t∧σ[i]?=some (some (.ref a))
noncomputable def PnA (σ:St) (ρ:En) (i:Nat) (a:Fw):Prop:=(∃ t,Qa ρ i=.ml t∨Qa ρ i=.ro t∨Qa ρ i=.fx t)∧σ[i]?=some (some (.ref a))
structure FI (B:Bs) (H:Hp) (G:Fw→Prop) (σ:St) (ρ:En):Prop where
 len:σ.length=ρ.length
 slot:∀ i,Ql1 H G σ i (Qa ρ i)
 apart:∀ i j a,PrvAt σ ρ i a→PrvAt σ ρ j a→i=j
 prv:Pen H G
 chg:∀ b o,¬ B.O b→¬ B.M b→B.H b=some o→H b=some o
 keep:∀ b o,B.H b=some o→∃ o',H b=some o'
 newO:∀ a,OwA σ ρ a→B.H a=none∨B.O a
 newM:∀ a,MlA σ ρ a→B.M a
 fix:∀ i a,PnA σ ρ i a→B.P i a
 gg:∀ b,B.G b→G b
 gn:∀ b,G b→B.G b∨B.H b=none
 bp:∀ b,B.G b→∃ o,B.H b=some o
abbrev Qa3 (H:Hp) (G:Fw→Prop) (σ:St) (ρ:En):Bs:=⟨H,G,OwA σ ρ,MlA σ ρ,PnA σ ρ⟩
section
variable {B:Bs} {H H1 H2:Hp} {G G1:Fw→Prop} {σ σ1:St} {ρ ρ1 ρ2:En}
theorem FI.self (F:FI B H G σ ρ):FI (Qa3 H G σ ρ) H G σ ρ :=
 ⟨F.len,F.slot,F.apart,F.prv,fun _ _ _ _ e=>e,fun _ o e=>⟨o,e⟩,fun _ h=>.inr h,fun _ h=>h,fun _ _ h=>h,fun _ h=>h,fun _ h=>.inl h,fun b h=>let ⟨xs,e,_⟩:=F.prv b h;⟨_,e⟩⟩
theorem FI.ownG (F:FI B H G σ ρ) {a:Fw} (h:OwA σ ρ a):G a:=by
 obtain ⟨i,t,e,s⟩:=h
 have q:=F.slot i
 rw [e] at q
 obtain ⟨b,hb,g,_⟩:=q
 rw [s] at hb
 cases hb
 exact g
theorem FI.mlG (F:FI B H G σ ρ) {a:Fw} (h:MlA σ ρ a):G a:=by
 obtain ⟨i,t,e,s⟩:=h
 have q:=F.slot i
 rw [e] at q
 obtain ⟨b,hb,g,_⟩:=q
 rw [s] at hb
 cases hb
 exact g
theorem FI.same (F0:FI B H G σ ρ) (F:FI (Qa3 H G σ ρ) H1 G1 σ1 ρ1):Same (dls H G) (dls H1 G1):=fun b o e=>by
 obtain ⟨n,e⟩:=Qs e
 have e1:=F.chg b o (fun z=>n (F0.ownG z)) (fun z=>n (F0.mlG z)) e
 rw [Qby fun z=>?_]
 ·exact e1
 ·rcases F.gn b z with z | z
  ·exact n z
  ·rw [show H b=none from z] at e;cases e
theorem FI.trans (F0:FI B H G σ ρ) (F:FI (Qa3 H G σ ρ) H1 G1 σ1 ρ1):FI B H1 G1 σ1 ρ1 where
 len:=F.len
 slot:=F.slot
 apart:=F.apart
 prv:=F.prv
 chg:=fun b o h1 h2 e=>F.chg b o (fun z=>by
  rcases F0.newO b z with z | z
  ·rw [e] at z;cases z
  ·exact h1 z) (fun z=>h2 (F0.newM b z)) (F0.chg b o h1 h2 e)
 keep:=fun b o e=>by
  obtain ⟨o1,e1⟩:=F0.keep b o e
  exact F.keep b o1 e1
 newO:=fun a h=>by
  rcases F.newO a h with z | z
  ·refine .inl ?_
   cases e:B.H a with
   | none=>rfl
   | some o =>
    obtain ⟨o1,e1⟩:=F0.keep a o e
    rw [show H a=none from z] at e1
    cases e1
  ·exact F0.newO a z
 newM:=fun a h=>F0.newM a (F.newM a h)
 fix:=fun i a h=>F0.fix i a (F.fix i a h)
 gg:=fun b h=>F.gg b (F0.gg b h)
 gn:=fun b h=>by
  rcases F.gn b h with z | z
  ·exact F0.gn b z
  ·refine .inr ?_
   cases e:B.H b with
   | none=>rfl
   | some o =>
    obtain ⟨o1,e1⟩:=F0.keep b o e
    rw [show H b=none from z] at e1
    cases e1
 bp:=F0.bp
theorem FI.free (F:FI B H G σ ρ) {b:Fw} (h:H b=none):B.H b=none:=by
 cases e:B.H b with
 | none=>rfl
 | some o =>
  obtain ⟨o1,e1⟩:=F.keep b o e
  rw [h] at e1
  cases e1
theorem FI.grow (F:FI B H G σ ρ) (s:Same H H1):FI B H1 G σ ρ where
 len:=F.len
 slot:=fun i=>by
  have q:=F.slot i
  cases hs:Qa ρ i with
  | un=>trivial
  | fz t=>rw [hs] at q;obtain ⟨v,a,b⟩:=q;exact ⟨v,a,b.mono (Qau s)⟩
  | ow t=>rw [hs] at q;obtain ⟨a,h1,h2,o,h5,h6⟩:=q;exact ⟨a,h1,h2,o,s _ _ h5,h6.mono (Qau s)⟩
  | ml t=>rw [hs] at q;obtain ⟨a,h1,h2,o,h5,h6⟩:=q;exact ⟨a,h1,h2,o,s _ _ h5,h6.mono (Qau s)⟩
  | ro t=>rw [hs] at q;obtain ⟨a,h1,h2,o,h5,h6⟩:=q;exact ⟨a,h1,h2,o,s _ _ h5,h6.mono (Qau s)⟩
  | pin a=>rw [hs] at q;exact q
  | fx t=>rw [hs] at q;obtain ⟨v,o,a,e,b⟩:=q;exact ⟨v,o,a,Qau s _ _ e,b.mono (Qau s)⟩
 apart:=F.apart
 prv:=F.prv.mono s
 chg:=fun b o h1 h2 e=>s b o (F.chg b o h1 h2 e)
 keep:=fun b o e=>by
  obtain ⟨o1,e1⟩:=F.keep b o e
  exact ⟨o1,s _ _ e1⟩
 newO:=F.newO
 newM:=F.newM
 fix:=F.fix
 gg:=F.gg
 gn:=F.gn
 bp:=F.bp
end
section
variable {B:Bs} {H H1 H2:Hp} {G G1:Fw→Prop} {σ σ1:St} {ρ ρ1 ρ2:En} {t:T}
theorem FI.prvAt (F:FI B H G σ ρ) {i:Nat} (e:(Qa ρ i).prv=some t):∃ a,σ[i]?=some (some (.ref a))∧G a∧OwnAt H G a t:=by
 have q:=F.slot i
 cases hs:Qa ρ i with
 | un=>rw [hs] at e;cases e
 | fz t=>rw [hs] at e;cases e
 | ow t=>rw [hs] at e q;cases e;exact q
 | ml t=>rw [hs] at e q;cases e;exact q
 | ro t=>rw [hs] at e q;cases e;exact q
 | pin a=>rw [hs] at e;cases e
 | fx t=>rw [hs] at e;cases e
theorem Qh9 {i:Nat} {s:Slot} (h:Ql1 H G σ i s) (sm:Same (dls H G) (dls H1 G1)) (hk:∀ a o,(∃ t,s.prv=some t)→σ[i]?=some (some (.ref a))→H a=some o→H1 a=some o∧G1 a):Ql1 H1 G1 σ i s:=by
 cases s with
 | un=>trivial
 | fz t=>obtain ⟨v,a,b⟩:=h;exact ⟨v,a,b.mono sm⟩
 | ow t=>obtain ⟨a,h1,h2,o,h5,h6⟩:=h;exact ⟨a,h1,(hk a _ ⟨_,rfl⟩ h1 h5).2,o,(hk a _ ⟨_,rfl⟩ h1 h5).1,h6.mono sm⟩
 | ml t=>obtain ⟨a,h1,h2,o,h5,h6⟩:=h;exact ⟨a,h1,(hk a _ ⟨_,rfl⟩ h1 h5).2,o,(hk a _ ⟨_,rfl⟩ h1 h5).1,h6.mono sm⟩
 | ro t=>obtain ⟨a,h1,h2,o,h5,h6⟩:=h;exact ⟨a,h1,(hk a _ ⟨_,rfl⟩ h1 h5).2,o,(hk a _ ⟨_,rfl⟩ h1 h5).1,h6.mono sm⟩
 | pin a=>exact h
 | fx t=>obtain ⟨v,o,a,e,b⟩:=h;exact ⟨v,o,a,sm _ _ e,b.mono sm⟩
theorem PrvAt.at (F:FI B H G σ ρ) {i:Nat} {a:Fw} (h:PrvAt σ ρ i a):G a∧∃ t,OwnAt H G a t:=by
 obtain ⟨⟨t,e⟩,s⟩:=h
 obtain ⟨b,sb,g,o⟩:=F.prvAt e
 rw [s] at sb
 cases sb
 exact ⟨g,t,o⟩
theorem OwA.prv {a:Fw} (h:OwA σ ρ a):∃ i,PrvAt σ ρ i a:=by
 obtain ⟨i,t,e,s⟩:=h
 exact ⟨i,⟨t,by rw [e];rfl⟩,s⟩
theorem MlA.prv {a:Fw} (h:MlA σ ρ a):∃ i,PrvAt σ ρ i a:=by
 obtain ⟨i,t,e,s⟩:=h
 exact ⟨i,⟨t,by rw [e];rfl⟩,s⟩
theorem Qwe {i:Nat} {a:Fw} (h:PrvAt σ ρ i a):OwA σ ρ a∨MlA σ ρ a∨PnA σ ρ i a:=by
 obtain ⟨⟨t,e⟩,s⟩:=h
 cases hs:Qa ρ i with
 | un=>rw [hs] at e;cases e
 | fz t=>rw [hs] at e;cases e
 | ow t=>exact .inl ⟨i,t,hs,s⟩
 | ml t=>exact .inr (.inl ⟨i,t,hs,s⟩)
 | ro t=>exact .inr (.inr ⟨⟨t,.inr (.inl hs)⟩,s⟩)
 | pin a=>rw [hs] at e;cases e
 | fx t=>rw [hs] at e;cases e
theorem FI.reG (F:FI B H G σ ρ) (sm:Same (dls H G) (dls H1 G1)) (s:Same H H1) (hk:∀ i a,PrvAt σ ρ i a→G1 a) (hp:Pen H1 G1) (gg:∀ b,B.G b→G1 b) (gn:∀ b,G1 b→B.G b∨B.H b=none):FI B H1 G1 σ ρ where
 len:=F.len
 slot:=fun i=>Qh9 (F.slot i) sm fun a o h1 h2 e=>⟨s _ _ e,hk i a ⟨h1,h2⟩⟩
 apart:=F.apart
 prv:=hp
 chg:=fun b o h1 h2 e=>s b o (F.chg b o h1 h2 e)
 keep:=fun b o e=>by
  obtain ⟨o1,e1⟩:=F.keep b o e
  exact ⟨o1,s _ _ e1⟩
 newO:=F.newO
 newM:=F.newM
 fix:=F.fix
 gg:=gg
 gn:=gn
 bp:=F.bp
theorem FI.lessG (F:FI B H G σ ρ) (Z:Fw→Prop) (hz:∀ b,Z b→B.H b=none∧∀ i,¬ PrvAt σ ρ i b):FI B H (fun b=>G b∧¬ Z b) σ ρ:=by
 refine F.reG (Qc2 fun b h=>h.1) (Same.refl H) (fun i a h=>⟨(PrvAt.at F h).1,fun z=>(hz a z).2 i h⟩) (fun b h=>F.prv b h.1) (fun b h=>⟨F.gg b h,fun z=>?_⟩) fun b h=>F.gn b h.1
 obtain ⟨o,e⟩:=F.bp b h
 rw [(hz b z).1] at e
 cases e
theorem FI.addG (F:FI B H G σ ρ) {l:Fw} {vs:HO} (hl:H l=none) (s:Same H H1) (e:H1 l=some vs) (j0:Q7r vs=true):FI B H1 (fun b=>G b∨b=l) σ ρ:=by
 refine F.reG (fun b o eb=>?_) s (fun i a h=>.inl (PrvAt.at F h).1) (fun b hb=>?_) (fun b h=>.inl (F.gg b h)) (fun b h=>?_)
 ·obtain ⟨nb,eb⟩:=Qs eb
  rw [Qby fun z=>?_]
  ·exact s b o eb
  ·rcases z with z | z
   ·exact nb z
   ·rw [z,hl] at eb;cases eb
 ·rcases hb with hb | hb
  ·exact F.prv.mono s b hb
  ·exact ⟨vs,hb ▸ e,j0⟩
 ·rcases h with h | h
  ·exact F.gn b h
  ·exact .inr (h ▸ F.free hl)
end
noncomputable def TmpR (H0:Hp) (H:Hp) (G:Fw→Prop) (σ:St) (ρ:En) (v:V) (t:T):Prop:=∃ a,v=.ref a∧H0 a=none∧G a∧(∀ i,¬ PrvAt σ ρ i a)∧OwnAt H G a t
noncomputable def PVR (H0:Hp) (H:Hp) (G:Fw→Prop) (σ:St) (ρ:En) (v:V):PV→Prop
 | .fz t=>Is (dls H G) v t
 | .ow t=>TmpR H0 H G σ ρ v t
 | .sl i=>σ[i]?=some (some v)
section
variable {H0 H:Hp} {G:Fw→Prop} {σ:St} {ρ:En}
theorem PVR.is {v:V} {t:T} (h:PVR H0 H G σ ρ v (.fz t)):Is (dls H G) v t:=h
theorem pvI {i:Int}:PVR H0 H G σ ρ (.int i) (.fz (.int i)):=show Is (dls H G) (.int i) (.int i) from Is.int
theorem pvB {i:Bool}:PVR H0 H G σ ρ (.bl i) (.fz (.bl i)):=show Is (dls H G) (.bl i) (.bl i) from Is.bl
theorem pvN:PVR H0 H G σ ρ .non (.fz .non):=show Is (dls H G) .non .non from Is.non
theorem pvS {i:Str}:PVR H0 H G σ ρ (.str i) (.fz (.str i)):=show Is (dls H G) (.str i) (.str i) from Is.str
end
def Rdb (H:Hp) (G:Fw→Prop) (v:V) (t:T):Prop:=Is (dls H G) v t∨∃ a,v=.ref a∧OwnAt H G a t
theorem Rdb.is {H:Hp} {G:Fw→Prop} {v:V} {t:T} (h:Rdb H G v t):Is H v t:=by
 rcases h with h | ⟨a,rfl,o,e,q⟩
 ·exact h.mono (Qya _ _)
 ·exact q.is e (Qya _ _)
theorem Rdb.lst {H:Hp} {G:Fw→Prop} {v:V} {ts:List T} (h:Rdb H G v (.lst ts)):∃ a vs,v=.ref a∧ts.length≤100000∧H a=some (.lst vs)∧IsL (dls H G) vs ts:=by
 rcases h with h | ⟨a,rfl,q⟩
 ·obtain ⟨a,vs,rfl,e,r⟩:=h.lst_inv
  exact ⟨a,vs,rfl,h.lst_len,(Qs e).2,r⟩
 ·obtain ⟨vs,z,h,r⟩:=q.lst_inv
  exact ⟨a,vs,rfl,z,h,r⟩
theorem Rdb.tup {H:Hp} {G:Fw→Prop} {v:V} {ts:List T} (h:Rdb H G v (.tup ts)):Is (dls H G) v (.tup ts):=by
 rcases h with h | ⟨a,_,q⟩
 ·exact h
 ·exact q.no_tup.elim
theorem Rdb.int {H:Hp} {G:Fw→Prop} {v:V} {i:Int} (h:Rdb H G v (.int i)):v=.int i:=h.is.int_inv
theorem Rdb.bl {H:Hp} {G:Fw→Prop} {v:V} {b:Bool} (h:Rdb H G v (.bl b)):v=.bl b:=by
 have q:=h.is
 unfold Is at q
 exact q
theorem Rdb.str {H:Hp} {G:Fw→Prop} {v:V} {b:Str} (h:Rdb H G v (.str b)):v=.str b:=by
 have q:=h.is
 unfold Is at q
 exact q
theorem Rdb.non {H:Hp} {G:Fw→Prop} {v:V} (h:Rdb H G v .non):v=.non:=by
 have q:=h.is
 unfold Is at q
 exact q
section
variable {B:Bs} {H H0 H1 H2:Hp} {G G1 G2:Fw→Prop} {σ σ1:St} {ρ ρ1 ρ2:En} {v:V} {r:PV} {t:T}
theorem PVR.rdb (h:PVR H0 H G σ ρ1 v r) (F:FI B H G σ ρ) (e:cont ρ r=some t):Rdb H G v t:=by
 cases r with
 | fz t=>cases e;exact .inl h
 | ow t =>
  cases e
  obtain ⟨a,rfl,_,_,_,q⟩:=h
  exact .inr ⟨a,rfl,q⟩
 | sl i =>
  obtain ⟨a,s,g,q⟩:=F.prvAt e
  have h:σ[i]?=some (some v):=h
  rw [s] at h
  cases h
  exact .inr ⟨a,rfl,q⟩
theorem OwnAt.mono {a:Fw} (h:OwnAt H G a t) (s:Same (dls H G) (dls H1 G1)) (e:∀ o,H a=some o→H1 a=some o):OwnAt H1 G1 a t:=by
 obtain ⟨o,h3,h4⟩:=h
 exact ⟨o,e _ h3,h4.mono s⟩
theorem FI.nobody (F0:FI B H G σ ρ) (F:FI (Qa3 H G σ ρ) H1 G1 σ ρ1) {a:Fw} {o:HO} (e:H a=some o) (n:∀ i,¬ PrvAt σ ρ i a):∀ i,¬ PrvAt σ ρ1 i a:=fun i h=>by
 have h0:=h
 rcases Qwe h with h | h | h
 ·rcases F.newO a h with z | z
  ·rw [show H a=none from z] at e;cases e
  ·obtain ⟨j,z⟩:=OwA.prv z;exact n j z
 ·obtain ⟨j,z⟩:=MlA.prv (F.newM a h);exact n j z
 ·obtain ⟨⟨t,z⟩,s⟩:=F.fix i a h
  have g1:=(PrvAt.at F h0).1
  rcases z with z | z | z
  ·exact n i ⟨⟨t,by rw [z];rfl⟩,s⟩
  ·exact n i ⟨⟨t,by rw [z];rfl⟩,s⟩
  ·have q:=F0.slot i
   rw [z] at q
   obtain ⟨b,o',sb,eb,_⟩:=q
   rw [s] at sb
   cases sb
   obtain ⟨ng,hb⟩:=Qs eb
   rcases F.gn a g1 with z | z
   ·exact ng z
   ·rw [show H a=none from z] at hb;cases hb
theorem PVR.step (h:PVR H0 H G σ ρ v r) (F0:FI B H G σ ρ) (F:FI (Qa3 H G σ ρ) H1 G1 σ ρ1):PVR H0 H1 G1 σ ρ1 v r:=by
 cases r with
 | fz t=>exact Is.mono (F0.same F) h
 | sl i=>exact h
 | ow t =>
  obtain ⟨a,rfl,n,g,np,q⟩:=h
  have q':=q
  obtain ⟨ob,ea,_⟩:=q
  refine ⟨a,rfl,n,F.gg a g,F0.nobody F ea np,q'.mono (F0.same F) fun o e=>F.chg a o (fun z=>?_) (fun z=>?_) e⟩
  ·obtain ⟨j,z⟩:=OwA.prv z;exact np j z
  ·obtain ⟨j,z⟩:=MlA.prv z;exact np j z
theorem PVR.early (h:PVR H1 H2 G2 σ ρ2 v r) (F:FI (Qa3 H G σ ρ) H1 G1 σ ρ1):PVR H H2 G2 σ ρ2 v r:=by
 cases r with
 | fz t=>exact h
 | sl i=>exact h
 | ow t =>
  obtain ⟨a,rfl,n,g⟩:=h
  exact ⟨a,rfl,F.free n,g⟩
end
noncomputable def argR (H:Hp) (dx:Option Fw):List Int→Prop
 | []=>dx=none
 | [i]=>∃ d,dx=some d∧H d=some (.xd [("at",.int i)])
 | [i,j]=>∃ d,dx=some d∧H d=some (.xd [("many",.int i),("most",.int j)])
 | _=>False
noncomputable def Q2t (mg:Str→Option Fx) (H:Hp) (x:Xn) (cls:Fx) (dx:Option Fw):Prop:=∃ nm,Qbm[x.c]?=some nm∧cls=.ref (cad mg nm)∧argR H dx x.arg
structure Pr where
 cf:CF
 R:XR
 mg:Str→Option Fx
noncomputable def Fin (p:Pr) (B:Bs) (σ:St) {α:Type} (o:Out α) (K:α→En→Prop):Prop:=match o with
 | .ok a ρ1=>K a ρ1
 | .xn x ρ1=>∀ cls dx H1 G1,FI B H1 G1 σ ρ1→Q2t p.mg H1 x cls dx→p.R cls dx σ H1
 | .no=>False
noncomputable def tE (p:Pr) (e:E):TE:=fun σ H Q=>∃ G ρ,FI (Qa3 H G σ ρ) H G σ ρ∧Fin p (Qa3 H G σ ρ) σ (evE p.cf e ρ) fun r ρ1=>∀ v H1 G1,FI (Qa3 H G σ ρ) H1 G1 σ ρ1→PVR H H1 G1 σ ρ1 v r→Q v H1
inductive PVRs (H0:Hp) (H:Hp) (G:Fw→Prop) (σ:St) (ρ:En):List V→List PV→Prop where
 | nil:PVRs H0 H G σ ρ [] []
 | cons {v r vs rs}:PVR H0 H G σ ρ v r→PVRs H0 H G σ ρ vs rs→PVRs H0 H G σ ρ (v::vs) (r::rs)
noncomputable def tA (p:Pr) (es:Es):TA:=fun σ H Q=>∃ G ρ,FI (Qa3 H G σ ρ) H G σ ρ∧Fin p (Qa3 H G σ ρ) σ (evA p.cf es ρ) fun rs ρ1=>∀ vs H1 G1,FI (Qa3 H G σ ρ) H1 G1 σ ρ1→PVRs H H1 G1 σ ρ1 vs rs→Q vs H1
noncomputable def tT (p:Pr) (e:E):TT:=fun σ H Q=>∃ G ρ,FI (Qa3 H G σ ρ) H G σ ρ∧Fin p (Qa3 H G σ ρ) σ (Qal (evE p.cf e ρ)) fun b ρ1=>∀ H1 G1,FI (Qa3 H G σ ρ) H1 G1 σ ρ1→Q b H1
section
variable {p:Pr} {B:Bs} {H H0 H1 H2:Hp} {G G1:Fw→Prop} {σ:St} {ρ ρ1 ρ2:En} {α β:Type}
theorem Fin.bind {o:Out α} {k:α→En→Out β} {K:β→En→Prop} (h:Fin p B σ (o.bind k) K):Fin p B σ o fun a ρ1=>Fin p B σ (k a ρ1) K:=by
 cases o with
 | ok a ρ1=>exact h
 | xn x ρ1=>exact h
 | no=>exact h
theorem Fin.imp {o:Out α} {K K':α→En→Prop} (h:Fin p B σ o K) (q:∀ a ρ1,K a ρ1→K' a ρ1):Fin p B σ o K':=by
 cases o with
 | ok a ρ1=>exact q _ _ h
 | xn x ρ1=>exact h
 | no=>exact h
theorem Fin.rebase {o:Out α} {K K':α→En→Prop} (F:FI B H1 G σ ρ1) (h:Fin p B σ o K) (q:∀ a ρ2,K a ρ2→K' a ρ2):Fin p (Qa3 H1 G σ ρ1) σ o K':=by
 cases o with
 | ok a ρ1=>exact q _ _ h
 | xn x ρ1=>exact fun cls dx H2 G2 F2=>h cls dx H2 G2 (F.trans F2)
 | no=>exact h
theorem Qqs {e:E} {Q:VK} {K:PV→En→Prop} (F:FI B H1 G σ ρ1) (h:Fin p B σ (evE p.cf e ρ1) K) (q:∀ r ρ2 v H2 G2,K r ρ2→FI B H2 G2 σ ρ2→FI (Qa3 H1 G σ ρ1) H2 G2 σ ρ2→PVR H1 H2 G2 σ ρ2 v r→Q v H2):tE p e σ H1 Q :=
 ⟨G,ρ1,F.self,h.rebase F fun r ρ2 k v H2 G2 F2 pv=>q r ρ2 v H2 G2 k (F.trans F2) F2 pv⟩
theorem Q5a {es:Es} {Q:List V→Hp→Prop} {K:List PV→En→Prop} (F:FI B H1 G σ ρ1) (h:Fin p B σ (evA p.cf es ρ1) K) (q:∀ r ρ2 v H2 G2,K r ρ2→FI B H2 G2 σ ρ2→FI (Qa3 H1 G σ ρ1) H2 G2 σ ρ2→PVRs H1 H2 G2 σ ρ2 v r→Q v H2):tA p es σ H1 Q :=
 ⟨G,ρ1,F.self,h.rebase F fun r ρ2 k v H2 G2 F2 pv=>q r ρ2 v H2 G2 k (F.trans F2) F2 pv⟩
theorem Qyz {e:E} {Q:Bool→Hp→Prop} {K:Bool→En→Prop} (F:FI B H1 G σ ρ1) (h:Fin p B σ (Qal (evE p.cf e ρ1)) K) (q:∀ b ρ2 H2 G2,K b ρ2→FI B H2 G2 σ ρ2→FI (Qa3 H1 G σ ρ1) H2 G2 σ ρ2→Q b H2):tT p e σ H1 Q :=
 ⟨G,ρ1,F.self,h.rebase F fun r ρ2 k H2 G2 F2=>q r ρ2 H2 G2 k (F.trans F2) F2⟩
theorem tE2 {a b:E} {f:PV→PV→En→Out β} {K:β→En→Prop} {Z:V→V→Hp→Prop} (F:FI (Qa3 H G σ ρ) H G σ ρ) (h:Fin p (Qa3 H G σ ρ) σ ((evE p.cf a ρ).bind fun ra ρ1=>(evE p.cf b ρ1).bind fun rb ρ2=>f ra rb ρ2) K)
  (q:∀ ra rb ρ2 x y H2 G2,FI (Qa3 H G σ ρ) H2 G2 σ ρ2→PVR H H2 G2 σ ρ2 x ra→PVR H H2 G2 σ ρ2 y rb→Fin p (Qa3 H G σ ρ) σ (f ra rb ρ2) K→Z x y H2):tE p a σ H fun x H1=>tE p b σ H1 fun y H2=>Z x y H2:=by
 refine ⟨G,ρ,F,h.bind.imp fun ra ρ1 h1 x H1 G1 F1 r1=>?_⟩
 refine Qqs F1 h1.bind fun rb ρ2 y H2 G2 h2 F2 F2' r2=>?_
 exact q ra rb ρ2 x y H2 G2 F2 (r1.step F1 F2') (r2.early F1) h2
theorem Qqt {o:Out PV} {K:Bool→En→Prop} (h:Fin p B σ (Qal o) K):Fin p B σ o fun r ρ1=>∃ b,r=.fz (.bl b)∧K b ρ1:=by
 cases o with
 | ok r ρ1 =>
  cases r with
  | fz t=>cases t <;> first | exact ⟨_,rfl,h⟩ | exact Zef h
  | ow t=>exact Zef h
  | sl i=>exact Zef h
 | xn x ρ1=>exact h
 | no=>exact h
end
theorem QE.weak {X:Cx} {e:Fr} {t t':TE} (h:QE X e t) (q:∀ σ H Q,t' σ H Q→t σ H Q):QE X e t':=⟨h.h.weak q⟩
theorem QA.weak {X:Cx} {e:List Fr} {t t':TA} (h:QA X e t) (q:∀ σ H Q,t' σ H Q→t σ H Q):QA X e t':=⟨h.h.weak q⟩
theorem QT.weak {X:Cx} {e:Fr} {t t':TT} (h:QT X e t) (q:∀ σ H Q,t' σ H Q→t σ H Q):QT X e t':=⟨fun aa s σ H Q I z=>h.h aa s σ H Q I (q _ _ _ z)⟩
theorem QW.weak {X:Cx} {e:Fr} {t t':TT} (h:QW X e t) (q:∀ σ H Q,t' σ H Q→t σ H Q):QW X e t':=⟨fun wh aa s σ H Q I z=>h.h wh aa s σ H Q I (q _ _ _ z)⟩
section
variable {X:Cx} {p:Pr} {e a b:Fr} {es:List Fr} {e' a' b' c':E} {aw:Es} {pos p1 p2 p3:Pos} {x:Str}
theorem Qacy {i:Nat} (hN:X.N[i]?=some x) (hv:Vis X.env.scope x) (hd:(x==("__debug__" : Str))=false) (aF:(x==("__classdict__" : Str))=false):QE X (.Name x pos) (tE p (.var i)) :=
 (Qc7 i hN hv hd aF).weak fun σ H Q ⟨G,ρ,F,h⟩=>by
  have q:=F.slot i
  unfold evE at h
  cases hs:Qa ρ i with
  | un=>rw [hs] at h;exact Zef h
  | pin _=>rw [hs] at h;exact Zef h
  | fx t=>rw [hs] at h q;obtain ⟨v,o,e,_,r⟩:=q;exact ⟨_,e,h _ H G F r⟩
  | fz t=>rw [hs] at h q;obtain ⟨v,e,r⟩:=q;exact ⟨v,e,h v H G F r⟩
  | ow t=>rw [hs] at h q;obtain ⟨a,e,_⟩:=q;exact ⟨_,e,h _ H G F e⟩
  | ml t=>rw [hs] at h q;obtain ⟨a,e,_⟩:=q;exact ⟨_,e,h _ H G F e⟩
  | ro t=>rw [hs] at h q;obtain ⟨a,e,_⟩:=q;exact ⟨_,e,h _ H G F e⟩
theorem Qi {i j}:QE X (.Constant (.int i) j pos) (tE p (.int i)):=Qkr.weak fun σ H Q ⟨G,ρ,F,h⟩=>by unfold evE at h;exact h _ H G F pvI
theorem Qj1 {i j}:QE X (.Constant (.bool i) j pos) (tE p (.bl i)):=Q2c.weak fun σ H Q ⟨G,ρ,F,h⟩=>by unfold evE at h;exact h _ H G F pvB
theorem Qks {j}:QE X (.Constant .none j pos) (tE p .non):=Qabj.weak fun σ H Q ⟨G,ρ,F,h⟩=>by unfold evE at h;exact h _ H G F pvN
theorem Ql2 {i j}:QE X (.Constant (.str i) j pos) (tE p (.str i)):=Q4w.weak fun σ H Q ⟨G,ρ,F,h⟩=>by unfold evE at h;exact h _ H G F pvS
theorem Q8e {i:Int} (h:∃ u,X.mg x=some u∧RelV (.int i) u) (hg:Gl X x) (hd:(x==("__debug__" : Str))=false):QE X (.Name x pos) (tE p (.int i)) :=
 (Q7d h hg hd).weak fun σ H Q ⟨G,ρ,F,h⟩=>by unfold evE at h;exact h _ H G F pvI
theorem Qh:QA X [] (tA p .nil):=Qbg.weak fun σ H Q ⟨G,ρ,F,h⟩=>by unfold evA at h;exact h [] H G F .nil
theorem PVRs.early {H H1 H2:Hp} {G G1 G2:Fw→Prop} {σ:St} {ρ ρ1 ρ2:En} {vs:List V} {rs:List PV} (h:PVRs H1 H2 G2 σ ρ2 vs rs) (F:FI (Qa3 H G σ ρ) H1 G1 σ ρ1):PVRs H H2 G2 σ ρ2 vs rs:=by
 induction h with
 | nil=>exact .nil
 | cons a _ ih=>exact .cons (a.early F) ih
theorem Q8f (ha:QE X e (tE p e')) (hr:QA X es (tA p aw)) (hs:Qo e=true):QA X (e::es) (tA p (.cons e' aw)) :=
 (Qr ha hr hs).weak fun σ H Q ⟨G,ρ,F,h⟩=>by
  unfold evA at h
  refine ⟨G,ρ,F,h.bind.imp fun r ρ1 h1 v H1 G1 F1 r1=>?_⟩
  refine Q5a F1 h1.bind fun rs ρ2 vs H2 G2 h2 F2 F2' r2=>?_
  exact h2 (v::vs) H2 G2 F2 (.cons (r1.step F1 F2') (r2.early F1))
noncomputable def Ql3:List V→List PV→Fw→Prop
 | v::vs,.ow _::rs,b=>v=.ref b∨Ql3 vs rs b
 | _::vs,_::rs,b=>Ql3 vs rs b
 | _,_,_=>False
theorem PVRs.tmp {H0 H:Hp} {G:Fw→Prop} {σ:St} {ρ:En} {vs:List V} {rs:List PV} (h:PVRs H0 H G σ ρ vs rs) {b:Fw} (z:Ql3 vs rs b):H0 b=none∧∀ i,¬ PrvAt σ ρ i b:=by
 induction h with
 | nil=>exact Zef z
 | cons a _ ih =>
  rename_i v r vs rs _
  cases r with
  | fz t=>exact ih z
  | sl i=>exact ih z
  | ow t =>
   rcases z with z | z
   ·obtain ⟨c,e,n,_,np,_⟩:=a
    rw [z] at e
    cases e
    exact ⟨n,np⟩
   ·exact ih z
theorem PVRs.frz {H0 H:Hp} {G G':Fw→Prop} {σ:St} {ρ:En} {vs:List V} {rs:List PV} (h:PVRs H0 H G σ ρ vs rs) (s:∀ b,G' b→G b) (n:∀ b,Ql3 vs rs b→¬ G' b):∀ {ts:List T},Qc8 rs=some ts→IsL (dls H G') vs ts:=by
 induction h with
 | nil=>intro ts e;cases e;exact .nil
 | cons a _ ih =>
  intro ts e
  rename_i v r vs rs _
  unfold Qc8 at e
  cases h1:L2.frz r with
  | none=>rw [h1] at e;cases e
  | some t =>
   cases h2:Qc8 rs with
   | none=>rw [h1,h2] at e;cases e
   | some us =>
    rw [h1,h2] at e
    cases e
    cases r with
    | sl i=>cases h1
    | fz t' =>
     cases h1
     exact .cons (Is.mono (Qc2 s) a) (ih (fun b z=>n b z) h2)
    | ow t' =>
     cases h1
     obtain ⟨c,rfl,_,_,_,ob,ec,q⟩:=a
     exact .cons (q.is (by rw [Qby (n c (.inl rfl))];exact ec) (Qc2 s)) (ih (fun b z=>n b (.inr z)) h2)
theorem PVRs.lay {B:Bs} {H:Hp} {G:Fw→Prop} {σ:St} {ρ:En} {vs:List V} {rs:List PV} {ts:List T} (h:PVRs B.H H G σ ρ vs rs) (F:FI B H G σ ρ) (e:Qc8 rs=some ts):∃ G',FI B H G' σ ρ∧IsL (dls H G') vs ts∧∀ b,G' b→G b :=
 ⟨_,F.lessG (Ql3 vs rs) fun b z=>h.tmp z,h.frz (fun b z=>z.1) (fun b z y=>y.2 z) e,fun b z=>z.1⟩
theorem PVR.lay {B:Bs} {H:Hp} {G:Fw→Prop} {σ:St} {ρ:En} {v:V} {r:PV} {t:T} (h:PVR B.H H G σ ρ v r) (F:FI B H G σ ρ) (e:L2.frz r=some t):∃ G',FI B H G' σ ρ∧Is (dls H G') v t∧∀ b,G' b→G b:=by
 obtain ⟨G',F',i,s⟩:=PVRs.lay (.cons h .nil) F (ts:=[t]) (by unfold Qc8;rw [e];rfl)
 obtain ⟨v',w,e,a,_⟩:=i.cons_inv
 cases e
 exact ⟨G',F',a,s⟩
theorem Qbr {x1} (h:QA X es (tA p aw)):QE X (.Tuple es x1 pos) (tE p (.tup aw)) :=
 (Qabp h).weak fun σ H Q ⟨G,ρ,F,h⟩=>by
  unfold evE at h
  refine ⟨G,ρ,F,h.bind.imp fun rs ρ1 h1 vs H1 G1 F1 r1=>?_⟩
  cases e:Qc8 rs with
  | none=>rw [e] at h1;exact Zef h1
  | some ts =>
   rw [e] at h1
   by_cases z:ts.length≤100000
   ·simp only [Zf z] at h1
    obtain ⟨G',F',r,_⟩:=PVRs.lay (B:=Qa3 H G σ ρ) r1 F1 e
    refine Q7t F'.prv r z fun y H2 s2 i2=>h1 y H2 G' (F'.grow s2) i2
   ·simp only [Zg z] at h1
    exact Zef h1
theorem Qy0 {B:Bs} {H H1:Hp} {G:Fw→Prop} {σ:St} {ρ:En} {l:Fw} {ob:HO} {t:T} (F:FI B H G σ ρ) (hl:H l=none) (s:Same H H1) (e:H1 l=some ob) (r:OwnO (dls H G) t ob) :
  FI B H1 (fun b=>G b∨b=l) σ ρ∧PVR B.H H1 (fun b=>G b∨b=l) σ ρ (.ref l) (.ow t):=by
 refine ⟨F.addG hl s e r.pen,l,rfl,F.free hl,.inr rfl,fun i h=>?_,ob,e,r.mono fun b o eb=>?_⟩
 ·obtain ⟨_,t,o,ea,_⟩:=PrvAt.at F h
  rw [hl] at ea
  cases ea
 ·obtain ⟨nb,eb⟩:=Qs eb
  rw [Qby fun z=>?_]
  ·exact s b o eb
  ·rcases z with z | z
   ·exact nb z
   ·rw [z,hl] at eb;cases eb
theorem Qhg {B:Bs} {H H1:Hp} {G:Fw→Prop} {σ:St} {ρ:En} {l:Fw} {vs:List V} {ts:List T} (F:FI B H G σ ρ) (hl:H l=none) (s:Same H H1) (e:H1 l=some (.lst vs)) (r:IsL (dls H G) vs ts) (z:ts.length≤100000) :
  FI B H1 (fun b=>G b∨b=l) σ ρ∧PVR B.H H1 (fun b=>G b∨b=l) σ ρ (.ref l) (.ow (.lst ts)):=Qy0 F hl s e ⟨z,r⟩
theorem Qda (h:QA X es (tA p aw)):QE X (.List es pos) (tE p (.lst aw)) :=
 (Qqj h).weak fun σ H Q ⟨G,ρ,F,h⟩=>by
  unfold evE at h
  refine ⟨G,ρ,F,h.bind.imp fun rs ρ1 h1 vs H1 G1 F1 r1=>?_⟩
  cases e:Qc8 rs with
  | none=>rw [e] at h1;exact Zef h1
  | some ts =>
   rw [e] at h1
   by_cases z:ts.length≤100000
   ·simp only [Zf z] at h1
    obtain ⟨G',F',r,_⟩:=PVRs.lay (B:=Qa3 H G σ ρ) r1 F1 e
    refine Q7u F'.prv r z fun l H2 s2 n2 e2 i2=>?_
    obtain ⟨F2,r2⟩:=Qhg F' n2 s2 e2 r z
    exact h1 _ H2 _ F2 r2
   ·simp only [Zg z] at h1
    exact Zef h1
theorem Qo7 {B:Bs} {σ:St} {ρ:En} {α:Type} {o:Option α} {K:α→En→Prop} (h:Fin p B σ (.opt o ρ) K):∃ a,o=some a∧K a ρ:=by
 cases o with
 | none=>exact Zef h
 | some a=>exact ⟨a,rfl,h⟩
theorem Qy1 {B:Bs} {σ:St} {ρ:En} {α:Type} {ra rb:PV} {f:T→T→Out α} {K:α→En→Prop} (h:Fin p B σ (match cont ρ ra,cont ρ rb with | some x,some y=>f x y | _,_=>.no) K):∃ x y,cont ρ ra=some x∧cont ρ rb=some y∧Fin p B σ (f x y) K:=by
 cases h1:cont ρ ra with
 | none=>rw [h1] at h;exact Zef h
 | some x =>
  cases h2:cont ρ rb with
  | none=>rw [h1,h2] at h;exact Zef h
  | some y=>rw [h1,h2] at h;exact ⟨x,y,rfl,rfl,h⟩
noncomputable def Op2 (r:R2) (f:T→T→Option PV):Prop:=∀ (B:Bs) (H:Hp) (G:Fw→Prop) (σ:St) (ρ:En) (x y:V) (t u:T) (w:PV) (Q:VK),FI B H G σ ρ→Rdb H G x t→Rdb H G y u→f t u=some w→(∀ v H1 G1,FI B H1 G1 σ ρ→PVR B.H H1 G1 σ ρ v w→Q v H1)→r x y H Q
theorem Qn7 {op:Operator} {r:R2} {o:BOp} (ho:QOp X (binaryOp op) r) (hs:Op2 r (opB o)) (ha:QE X a (tE p a')) (hb:QE X b (tE p b')):QE X (.BinOp a op b pos) (tE p (.bin o a' b')) :=
 (Q2d ho ha hb).weak fun σ H Q ⟨G,ρ,F,h⟩=>by
  unfold evE at h
  refine tE2 F h fun ra rb ρ2 x y H2 G2 F2 r1 r2 h2=>?_
  obtain ⟨t,u,c1,c2,h3⟩:=Qy1 h2
  obtain ⟨w,e,k⟩:=Qo7 h3
  exact hs _ H2 G2 σ ρ2 x y t u w Q F2 (r1.rdb F2 c1) (r2.rdb F2 c2) e fun v H3 G3 F3 pv=>k v H3 G3 F3 pv
theorem Qe3 {t:T} {i:Int} (e:asI t=some i):t=.int i:=by
 cases t <;> first | (cases e;done) | skip
 cases e
 rfl
theorem Qld {o:BOp} {t u:T} {w:PV} (e:opB o t u=some w) (hx:∀ t u,opX o t u=none):∃ i j,t=.int i∧u=.int j∧opN o i j=some w:=by
 unfold opB at e
 cases h1:asI t with
 | none=>rw [h1] at e;exact absurd e (by simp [hx])
 | some i =>
  cases h2:asI u with
  | none=>rw [h1,h2] at e;exact absurd e (by simp [hx])
  | some j=>rw [h1,h2] at e;exact ⟨i,j,Qe3 h1,Qe3 h2,e⟩
theorem Qt0 {o:BOp} {t u:T} {w:PV} (e:opB o t u=some w):(∃ i j,t=.int i∧u=.int j∧opN o i j=some w)∨opX o t u=some w:=by
 unfold opB at e
 cases h1:asI t with
 | none=>rw [h1] at e;exact .inr e
 | some i =>
  cases h2:asI u with
  | none=>rw [h1,h2] at e;exact .inr e
  | some j=>rw [h1,h2] at e;exact .inl ⟨i,j,Qe3 h1,Qe3 h2,e⟩
theorem Q2u (K:Fz):Op2 (Qnv K) (opB .add):=by
 intro B H G σ ρ x y t u w Q F hx hy e q
 rcases Qt0 e with ⟨i,j,rfl,rfl,e⟩ | e1
 ·obtain rfl:=hx.int
  obtain rfl:=hy.int
  cases e
  exact .inl ⟨_,_,rfl,rfl,q _ H G F pvI⟩
 replace e:Q77 t u=some w:=e1
 clear e1
 unfold Q77 at e
 split at e
 ·rename_i ts us
  by_cases z:ts.length+us.length≤100000
  ·rw [Zf z] at e;cases e
   exact Q7s F.prv hx.tup hy.tup z fun v H1 s1 i1=>q v H1 G (F.grow s1) i1
  ·rw [Zg z] at e;cases e
 ·rename_i ts us
  by_cases z:ts.length+us.length≤100000
  ·rw [Zf z] at e;cases e
   obtain ⟨a,vs,rfl,z1,ea,r1⟩:=hx.lst
   obtain ⟨b,ws,rfl,z2,eb,r2⟩:=hy.lst
   refine .inr (.inl ⟨a,b,vs,ws,rfl,rfl,ea,eb,Qc6 (by rw [r1.length,r2.length];exact z),fun l hl=>?_⟩)
   obtain ⟨F2,r3⟩:=Qhg F hl (Same.upd hl) Qn (r1.append r2) (by rw [Zo];exact z)
   exact q _ _ _ F2 r3
  ·rw [Zg z] at e;cases e
 ·cases e
theorem Q2v:Op2 (rI0 fun i j=>.int (i-j)) (opB .sub):=by
 intro B H G σ ρ x y t u w Q F hx hy e q
 obtain ⟨i,j,rfl,rfl,e⟩:=Qld e fun _ _=>rfl
 obtain rfl:=hx.int
 obtain rfl:=hy.int
 cases e
 exact ⟨_,_,rfl,rfl,q _ H G F pvI⟩
theorem Qqu {i:Int} (h:i.natAbs<2^250):Builtin.Int.intBits i≤2^20:=by
 have h1:Builtin.Int.intBits i≤250:=by
  unfold Builtin.Int.intBits
  split
  ·exact Zb7 _
  ·rename_i hn
   have h0:i.natAbs≠0:=by
    intro z
    exact hn (by simpa using z)
   have h2:i.natAbs.log2<250:=(Nat.log2_lt h0).mpr h
   omega
 exact Zao h1 (by decide)
theorem Qqv {i:Int} (h:i.natAbs.log2<9000):Builtin.Int.intBits i≤2^20:=by
 have h1:Builtin.Int.intBits i≤9000:=by
  unfold Builtin.Int.intBits
  split
  ·exact Zb7 _
  ·omega
 exact Zao h1 (by decide)
theorem Q2w {i j:Int} (h:Qb9 i j=true):IntMulOk i j:=by
 unfold Qb9 at h
 simp only [Zb5,Zt,Zav] at h
 rcases h with h | h | ⟨h1,h2⟩ | ⟨h1,h2⟩
 ·exact CMul.ok (.inl ⟨by omega,by omega⟩)
 ·exact CMul.ok (.inr ⟨by omega,by omega⟩)
 ·exact .of_bits (Qqu h1) (Qqu h2)
 ·exact .of_bits (Qqv h1) (Qqv h2)
noncomputable def Q5b:R2:=fun x y H Q=>(rI (fun i j=>IntMulOk i j) fun i j=>.int (i*j)) x y H Q∨Q4t x y H Q
theorem Q8g:QOp X (binaryOp .Mult) Q5b:=⟨(opI fun _ _ _ _ _ _ _ hc q=>mul_int q hc).or uMul⟩
theorem Q2x:Op2 Q5b (opB .mul):=by
 intro B H G σ ρ x y t u w Q F hx hy e q
 rcases Qt0 e with ⟨i,j,rfl,rfl,e⟩ | e1
 ·obtain rfl:=hx.int
  obtain rfl:=hy.int
  have e':(if Qb9 i j=true then some (PV.fz (.int (i*j))) else none)=some w:=e
  by_cases z:Qb9 i j=true
  ·rw [Zf z] at e';cases e'
   exact .inl ⟨_,_,rfl,rfl,Q2w z,q _ H G F pvI⟩
  ·rw [Zg z] at e';cases e'
 replace e:Q78 t (asI u)=some w:=e1
 clear e1
 unfold Q78 at e
 split at e
 ·rename_i ts k hk
  obtain rfl:=Qe3 hk
  obtain rfl:=hy.int
  by_cases z:ts.length*k.toNat≤100000∧1≤k∧k.natAbs≤100000∧ts≠[]
  ·rw [Zf z] at e;cases e
   obtain ⟨a,vs,rfl,ha,r⟩:=hx.tup.tup_inv
   obtain ⟨z1,z2,z3,z4⟩:=z
   have hl:=r.length
   refine .inr (.inr (.inr ⟨a,k,vs,rfl,rfl,(Qs ha).2,fun e=>?_,z2,by omega,Qc6 (by rw [hl];exact z1),fun l H1 s1 e1 _=>q _ H1 G (F.grow s1) (Qd0 (F.prv.mono s1) e1 ((r.flat k.toNat).mono (Qau s1)) ?_)⟩))
   ·rw [e] at hl
    exact z4 (List.length_eq_zero_iff.mp hl.symm)
   ·rw [Qio,Zbz];exact z1
  ·rw [Zg z] at e;cases e
 ·rename_i ts k hk
  obtain rfl:=Qe3 hk
  obtain rfl:=hy.int
  by_cases z:ts.length*k.toNat≤100000∧1≤k∧k.natAbs≤100000
  ·rw [Zf z] at e;cases e
   obtain ⟨a,vs,rfl,z1,ea,r1⟩:=hx.lst
   obtain ⟨z2,z3,z4⟩:=z
   refine .inr (.inr (.inl ⟨a,k,vs,rfl,rfl,ea,by omega,by omega,Qc6 (by rw [r1.length];exact z2),fun l hl=>?_⟩))
   obtain ⟨F2,r3⟩:=Qhg F hl (Same.upd hl) Qn (r1.flat k.toNat) (by rw [Qio,Zbz];exact z2)
   exact q _ _ _ F2 r3
  ·rw [Zg z] at e;cases e
 ·cases e
def CDvF (i j:Int):Prop:=j≠0∧j.natAbs<2^400
theorem Q8h:QOp X (binaryOp .FloorDiv) (rI CDvF fun i j=>.int (i.fdiv j)):=⟨opI fun i j _ _ _ _ _ hc q=>floordiv_int hc.1 q (.inl (Zda (by
 have h1:j.natAbs≠0:=by have:=hc.1;omega
 have h2:j.natAbs.log2<400:=(Nat.log2_lt h1).mpr hc.2
 omega)))⟩
theorem Q8i:QOp X (binaryOp .Mod) (rI (fun _ j=>j≠0) fun i j=>.int (i.fmod j)):=⟨Q1j⟩
theorem Q2y:Op2 (rI CDvF fun i j=>.int (i.fdiv j)) (opB .fdv):=by
 intro B H G σ ρ x y t u w Q F hx hy e q
 obtain ⟨i,j,rfl,rfl,e⟩:=Qld e fun _ _=>rfl
 obtain rfl:=hx.int
 obtain rfl:=hy.int
 have e':(if 0<j∧j.natAbs<2^64 then some (PV.fz (.int (i / j))) else if j≠0∧j.natAbs<2^400 then some (.fz (.int (i.fdiv j))) else none)=some w:=e
 by_cases z:0<j∧j.natAbs<2^64
 ·rw [Zf z] at e';cases e'
  refine ⟨_,_,rfl,rfl,⟨by omega,Zdn z.2 (by decide)⟩,?_⟩
  show Q (.int (i.fdiv j)) H
  rw [Int.fdiv_eq_ediv_of_nonneg i (by omega)]
  exact q _ H G F pvI
 ·rw [Zg z] at e'
  by_cases z2:j≠0∧j.natAbs<2^400
  ·rw [Zf z2] at e';cases e'
   exact ⟨_,_,rfl,rfl,z2,q _ H G F pvI⟩
  ·rw [Zg z2] at e';cases e'
theorem Q2z:Op2 (rI (fun _ j=>j≠0) fun i j=>.int (i.fmod j)) (opB .mod):=by
 intro B H G σ ρ x y t u w Q F hx hy e q
 obtain ⟨i,j,rfl,rfl,e⟩:=Qld e fun _ _=>rfl
 obtain rfl:=hx.int
 obtain rfl:=hy.int
 have e':(if 0<j then some (PV.fz (.int (i%j))) else if j<0 then some (.fz (.int (i.fmod j))) else none)=some w:=e
 by_cases z:0<j
 ·rw [Zf z] at e';cases e'
  refine ⟨_,_,rfl,rfl,by omega,?_⟩
  show Q (.int (i.fmod j)) H
  rw [Int.fmod_eq_emod_of_nonneg i (by omega)]
  exact q _ H G F pvI
 ·rw [Zg z] at e'
  by_cases z2:j<0
  ·rw [Zf z2] at e';cases e'
   exact ⟨_,_,rfl,rfl,by omega,q _ H G F pvI⟩
  ·rw [Zg z2] at e';cases e'
theorem Q20:Op2 (rI Q6m fun i j=>.int (i^j.toNat)) (opB .pow):=by
 intro B H G σ ρ x y t u w Q F hx hy e q
 obtain ⟨i,j,rfl,rfl,e⟩:=Qld e fun _ _=>rfl
 obtain rfl:=hx.int
 obtain rfl:=hy.int
 have e':(if 0≤j∧j.natAbs≤1000000∧i.natAbs<2^64 then some (PV.fz (.int (i^j.toNat))) else none)=some w:=e
 by_cases z:0≤j∧j.natAbs≤1000000∧i.natAbs<2^64
 ·rw [Zf z] at e';cases e'
  exact ⟨_,_,rfl,rfl,⟨z.1,by omega,z.2.2⟩,q _ H G F pvI⟩
 ·rw [Zg z] at e';cases e'
theorem Qkt (ha:QE X a (tE p a')):QE X (.UnaryOp .USub a pos) (tE p (.neg a')) :=
 (Q7e Qx6 ha).weak fun σ H Q ⟨G,ρ,F,h⟩=>by
  unfold evE at h
  refine ⟨G,ρ,F,h.bind.imp fun r ρ1 h1 v H1 G1 F1 r1=>?_⟩
  cases r with
  | fz t =>
   cases t <;> first | exact Zef h1 | skip
   obtain rfl:=r1.is.int_inv
   exact ⟨_,rfl,h1 _ H1 G1 F1 pvI⟩
  | ow t=>exact Zef h1
  | sl i=>exact Zef h1
theorem PVR.bl {H0 H:Hp} {G:Fw→Prop} {σ:St} {ρ:En} {v:V} {b:Bool} (h:PVR H0 H G σ ρ v (.fz (.bl b))):v=.bl b:=by
 have q:=h.is
 unfold Is at q
 exact q
theorem Qqw {Q:Bool→Hp→Prop} {σ:St} {H:Hp} (h:tT p e' σ H Q):tE p e' σ H fun x H1=>∃ c,x=.bl c∧Q c H1:=by
 obtain ⟨G,ρ,F,h⟩:=h
 refine ⟨G,ρ,F,(Qqt h).imp ?_⟩
 rintro r ρ1 ⟨b,rfl,k⟩ v H1 G1 F1 r1
 exact ⟨b,r1.bl,k H1 G1 F1⟩
theorem Q5c (ha:QE X a (tE p a')):QE X (.UnaryOp .Not a pos) (tE p (.not a')) :=
 (Qabk ha).weak fun σ H Q ⟨G,ρ,F,h⟩=>by
  unfold evE at h
  exact Qqw (Q:=fun c H1=>Q (.bl (!c)) H1) ⟨G,ρ,F,h.bind.imp fun b ρ1 k H1 G1 F1=>k _ H1 G1 F1 pvB⟩
theorem Qt1 {rest:List Fr} (ha:QE X a (tE p a')) (hb:QE X (.BoolOp .And (b::rest) pos) (tE p b')):QE X (.BoolOp .And (a::b::rest) pos) (tE p (.and a' b')) :=
 (Qabm ha hb).weak fun σ H Q ⟨G,ρ,F,h⟩=>by
  unfold evE at h
  refine Qqw (Q:=fun c H1=>if c=true then tE p b' σ H1 Q else Q (.bl false) H1) ⟨G,ρ,F,h.bind.imp fun c ρ1 k H1 G1 F1=>?_⟩
  cases c with
  | false=>exact k _ H1 G1 F1 pvB
  | true =>
   show tE p b' σ H1 Q
   refine Qqs F1 (Qqt k.bind) ?_
   rintro r ρ2 v H2 G2 ⟨d,rfl,k2⟩ F2 F2' r2
   exact k2 v H2 G2 F2 r2
theorem Qy2 {op} (ha:QE X a (tE p a')):QE X (.BoolOp op [a] pos) (tE p a'):=Qabl ha
theorem Qac0 (ha:QE X e (tE p e')) (he:∀ whole,isTrue e X.env whole=(do let v ← whole;standAt e.pos;holding [v] (truthy v))):QT X e (tT p e'):=(Qx0 ha he).weak fun σ H Q h=>Qqw h
theorem Qft (ha:QT X a (tT p a')):QT X (.UnaryOp .Not a pos) (tT p (.not a')) :=
 (Qx1 ha).weak fun σ H Q ⟨G,ρ,F,h⟩=>by
  unfold evE at h
  refine ⟨G,ρ,F,?_⟩
  cases e:Qal (evE p.cf a' ρ) with
  | ok b ρ1=>rw [e] at h;exact h
  | xn x ρ1=>rw [e] at h;exact h
  | no=>rw [e] at h;exact h
theorem Qac1 {rest:List Fr} (ha:QT X a (tT p a')) (hb:QW X (.BoolOp .And (b::rest) pos) (tT p b')):QW X (.BoolOp .And (a::b::rest) pos) (tT p (.and a' b')) :=
 (Q7f ha hb).weak fun σ H Q ⟨G,ρ,F,h⟩=>by
  unfold evE at h
  have h2:Fin p (Qa3 H G σ ρ) σ (Qal (evE p.cf a' ρ)) fun c ρ1=>Fin p (Qa3 H G σ ρ) σ (if c then Qal (evE p.cf b' ρ1) else .ok false ρ1) fun b ρ1=>∀ H1 G1,FI (Qa3 H G σ ρ) H1 G1 σ ρ1→Q b H1:=by
   cases e:Qal (evE p.cf a' ρ) with
   | ok b ρ1 =>
    rw [e] at h
    cases b with
    | false=>exact h
    | true =>
     show Fin _ _ _ (Qal (evE p.cf b' ρ1)) _
     cases e2:Qal (evE p.cf b' ρ1) with
     | ok b ρ2=>simp only [Out.bind,Zl,e2] at h;exact h
     | xn x ρ2=>simp only [Out.bind,Zl,e2] at h;exact h
     | no=>simp only [Out.bind,Zl,e2] at h;exact h
   | xn x ρ1=>rw [e] at h;exact h
   | no=>rw [e] at h;exact h
  refine ⟨G,ρ,F,h2.imp fun c ρ1 k H1 G1 F1=>?_⟩
  cases c with
  | false=>exact k H1 G1 F1
  | true=>exact Qyz F1 k fun b ρ2 H2 G2 k2 F2 _=>k2 H2 G2 F2
theorem Qo8 {rest:List Fr} (ha:QT X a (tT p a')) (hb:QW X (.BoolOp .Or (b::rest) pos) (tT p b')):QW X (.BoolOp .Or (a::b::rest) pos) (tT p (.or a' b')) :=
 (Q4x ha hb).weak fun σ H Q ⟨G,ρ,F,h⟩=>by
  unfold evE at h
  have h2:Fin p (Qa3 H G σ ρ) σ (Qal (evE p.cf a' ρ)) fun c ρ1=>Fin p (Qa3 H G σ ρ) σ (if c then .ok true ρ1 else Qal (evE p.cf b' ρ1)) fun b ρ1=>∀ H1 G1,FI (Qa3 H G σ ρ) H1 G1 σ ρ1→Q b H1:=by
   cases e:Qal (evE p.cf a' ρ) with
   | ok b ρ1 =>
    rw [e] at h
    cases b with
    | true=>exact h
    | false =>
     show Fin _ _ _ (Qal (evE p.cf b' ρ1)) _
     cases e2:Qal (evE p.cf b' ρ1) with
     | ok b ρ2=>simp only [Out.bind,e2] at h;exact h
     | xn x ρ2=>simp only [Out.bind,e2] at h;exact h
     | no=>simp only [Out.bind,e2] at h;exact h
   | xn x ρ1=>rw [e] at h;exact h
   | no=>rw [e] at h;exact h
  refine ⟨G,ρ,F,h2.imp fun c ρ1 k H1 G1 F1=>?_⟩
  cases c with
  | true=>exact k H1 G1 F1
  | false=>exact Qyz F1 k fun b ρ2 H2 G2 k2 F2 _=>k2 H2 G2 F2
theorem Ql4 {op} (ha:QT X a (tT p a')):QW X (.BoolOp op [a] pos) (tT p a'):=by
 cases op with
 | And=>exact Q2e ha
 | Or=>exact Qx2 ha
theorem t_w (h:QW X e (tT p e')):QT X e (tT p e'):=q_wt h
noncomputable def Oc2 (r:R2) (f:T→T→Option Bool):Prop:=∀ (H:Hp) (G:Fw→Prop) (x y:V) (t u:T) (k:Bool) (Q:VK),Rdb H G x t→Rdb H G y u→f t u=some k→Q (.bl k) H→r x y H Q
theorem Qy3 {r:R2} {o:COp} (hs:Oc2 r (opC o)) {σ:St} {H:Hp} {Q:VK} (h:tE p (.cmp o a' b') σ H Q):tOp r (tE p a') (tE p b') σ H Q:=by
 obtain ⟨G,ρ,F,h⟩:=h
 unfold evE at h
 refine tE2 F h fun ra rb ρ2 x y H2 G2 F2 r1 r2 h2=>?_
 obtain ⟨t,u,c1,c2,h3⟩:=Qy1 h2
 cases e:opC o t u with
 | none=>rw [e] at h3;exact Zef h3
 | some k =>
  rw [e] at h3
  exact hs H2 G2 x y t u k Q (r1.rdb F2 c1) (r2.rdb F2 c2) e (h3 _ H2 G2 F2 pvB)
theorem Q5d {op:CmpOp} {r:R2} {o:COp} (ho:QOp X (compareOp op) r) (hs:Oc2 r (opC o)) (ha:QE X a (tE p a')) (hb:QE X b (tE p b')) (hm:behindInMarks op b=false):QE X (.Compare a [op] [b] pos) (tE p (.cmp o a' b')) :=
 (Qabn ho ha hb hm).weak fun σ H Q h=>Qy3 hs h
theorem Qn8 {op:CmpOp} {r:R2} {o:COp} (ho:QOp X (compareOp op) r) (hs:Oc2 r (opC o)) (ha:QE X a (tE p a')) (hb:QE X b (tE p b')) (hm:behindInMarks op b=false):QT X (.Compare a [op] [b] pos) (tT p (.cmp o a' b')) :=
 (Qo2 ho ha hb hm).weak fun σ H Q h=>Qy3 hs (Qqw h)
def vOf:T→V
 | .non=>.non | .bl b=>.bl b | .int i=>.int i | .str x=>.str x | _=>.non
theorem Rdb.vOf {H:Hp} {G:Fw→Prop} {v:V} {t:T} (h:Rdb H G v t) (e:Qly t=true):v=vOf t:=by
 cases t with
 | non=>exact h.non
 | bl b=>exact h.bl
 | int i=>exact h.int
 | str x=>exact h.str
 | tup ts=>cases e
 | lst ts=>cases e
 | dct ks ts=>cases e
 | clo ks ts=>cases e
 | dtt ks ts=>cases e
theorem Qqx {t u:T} {k:Bool} (e:eqO t u=some k) (h1:Qly t=true) (h2:Qly u=true):Q6s (vOf t) (vOf u)=true∧decide (vOf t=vOf u)=k:=by
 cases t <;> first | (cases h1;done) | skip
 all_goals (cases u <;> first | (cases h2;done) | skip)
 all_goals (first | (cases e;done) | skip)
 all_goals (have e':=Zr e;subst e';refine ⟨rfl,?_⟩;simp [vOf])
theorem Qqy {t u:T} {k:Bool} (e:eqO t u=some k):(Qly t=true∧Qly u=true)∨(Qt 50 t=true∧Qt 50 u=true∧((∃ ts us,t=.tup ts∧u=.tup us)∨∃ ts us,t=.lst ts∧u=.lst us)∧k=eqT t u)∨(Q2n t u=true∧k=false):=by
 cases t <;> cases u <;> first | (cases e;done) | exact .inl ⟨rfl,rfl⟩ | exact .inr (.inr ⟨rfl,(Zr e).symm⟩) | skip
 ·rename_i ts us
  have e:(if Qt 50 (.tup ts)=true∧Qt 50 (.tup us)=true then some (eqT (.tup ts) (.tup us)) else none)=some k:=e
  by_cases z:Qt 50 (.tup ts)=true∧Qt 50 (.tup us)=true
  ·rw [Zf z] at e
   exact .inr (.inl ⟨z.1,z.2,.inl ⟨_,_,rfl,rfl⟩,(Zr e).symm⟩)
  ·rw [Zg z] at e;cases e
 ·rename_i ts us
  have e:(if Qt 50 (.lst ts)=true∧Qt 50 (.lst us)=true then some (eqT (.lst ts) (.lst us)) else none)=some k:=e
  by_cases z:Qt 50 (.lst ts)=true∧Qt 50 (.lst us)=true
  ·rw [Zf z] at e
   exact .inr (.inl ⟨z.1,z.2,.inr ⟨_,_,rfl,rfl⟩,(Zr e).symm⟩)
  ·rw [Zg z] at e;cases e
def rEqU:R2:=fun x y H Q=>rEq x y H Q∨(Q2m false x y H Q∨Q2o false x y H Q)
def rNeU:R2:=fun x y H Q=>rNe x y H Q∨(Q2m true x y H Q∨Q2o true x y H Q)
theorem Q5e (hu:X.A.units+64<cLine):QOp X (compareOp .Eq) rEqU:=⟨o_eq.h.or ((Qacc hu).h.or (Qace hu).h)⟩
theorem Qac4 (hu:X.A.units+64<cLine):QOp X (compareOp .NotEq) rNeU:=⟨o_ne.h.or ((Qacd hu).h.or (Qacf hu).h)⟩
theorem Qy4:Oc2 rEqU (opC .eq):=by
 intro H G x y t u k Q hx hy e q
 have e:eqO t u=some k:=e
 rcases Qqy e with ⟨h1,h2⟩ | ⟨h1,h2,h3,rfl⟩ | ⟨h1,rfl⟩
 ·obtain ⟨z1,z2⟩:=Qqx e h1 h2
  rw [hx.vOf h1,hy.vOf h2]
  exact .inl ⟨z1,by rw [z2];exact q⟩
 ·exact .inr (.inl ⟨t,u,hx.is,hy.is,h1,h2,h3,q⟩)
 ·exact .inr (.inr ⟨t,u,hx.is,hy.is,h1,q⟩)
theorem Q8j:Oc2 rNeU (opC .ne):=by
 intro H G x y t u k Q hx hy e q
 have e:(eqO t u).map (!·)=some k:=e
 cases e0:eqO t u with
 | none=>rw [e0] at e;cases e
 | some k0 =>
  rw [e0] at e
  cases e
  rcases Qqy e0 with ⟨h1,h2⟩ | ⟨h1,h2,h3,rfl⟩ | ⟨h1,rfl⟩
  ·obtain ⟨z1,z2⟩:=Qqx e0 h1 h2
   rw [hx.vOf h1,hy.vOf h2]
   exact .inl ⟨z1,by rw [z2];exact q⟩
  ·exact .inr (.inl ⟨t,u,hx.is,hy.is,h1,h2,h3,q⟩)
  ·exact .inr (.inr ⟨t,u,hx.is,hy.is,h1,q⟩)
theorem Ql5 {f:Int→Int→Bool} {t u:T} {k:Bool} (e:Qwb f t u=some k):∃ i j,t=.int i∧u=.int j∧f i j=k:=by
 unfold Qwb at e
 cases h1:asI t with
 | none=>rw [h1] at e;cases e
 | some i =>
  cases h2:asI u with
  | none=>rw [h1,h2] at e;cases e
  | some j=>rw [h1,h2] at e;exact ⟨i,j,Qe3 h1,Qe3 h2,Zr e⟩
theorem Q8k:Oc2 (rI0 fun i j=>.bl (decide (i<j))) (opC .lt):=by
 intro H G x y t u k Q hx hy e q
 obtain ⟨i,j,rfl,rfl,rfl⟩:=Ql5 e
 obtain rfl:=hx.int
 obtain rfl:=hy.int
 exact ⟨_,_,rfl,rfl,q⟩
theorem Q8l:Oc2 (rI0 fun i j=>.bl (decide (j<i))) (opC .gt):=by
 intro H G x y t u k Q hx hy e q
 obtain ⟨i,j,rfl,rfl,rfl⟩:=Ql5 e
 obtain rfl:=hx.int
 obtain rfl:=hy.int
 exact ⟨_,_,rfl,rfl,q⟩
theorem Q8m:Oc2 (rI0 fun i j=>.bl (decide (j≤i))) (opC .ge):=by
 intro H G x y t u k Q hx hy e q
 obtain ⟨i,j,rfl,rfl,rfl⟩:=Ql5 e
 obtain rfl:=hx.int
 obtain rfl:=hy.int
 exact ⟨_,_,rfl,rfl,q⟩
theorem Qt2 {H:Hp} {v:V} {t:T} (h:Is H v t):decide (v=.non)=Qfr t:=by
 cases t with
 | non=>unfold Is at h;subst h;rfl
 | bl b=>unfold Is at h;subst h;rfl
 | int i=>unfold Is at h;subst h;rfl
 | str x=>unfold Is at h;subst h;rfl
 | tup ts=>obtain ⟨a,vs,rfl,_⟩:=h.tup_inv;rfl
 | lst ts=>obtain ⟨a,vs,rfl,_⟩:=h.lst_inv;rfl
 | dct ks ts=>unfold Is at h;obtain ⟨a,vs,rfl,_⟩:=h;rfl
 | clo ks ts=>unfold Is at h;obtain ⟨a,vs,l,rfl,_⟩:=h;rfl
 | dtt ks ts=>unfold Is at h;obtain ⟨_,a,vs,rfl,_⟩:=h;rfl
theorem Q21:Oc2 rIsN (opC .isn):=by
 intro H G x y t u k Q hx hy e q
 cases u <;> first | (cases e;done) | skip
 have e:some (Qfr t)=some k:=e
 cases e
 exact ⟨hy.non,by rw [Qt2 hx.is];exact q⟩
theorem Qy5:Oc2 Q41 (opC .isnn):=by
 intro H G x y t u k Q hx hy e q
 cases u <;> first | (cases e;done) | skip
 have e:some (!Qfr t)=some k:=e
 cases e
 exact ⟨hy.non,by rw [Qt2 hx.is];exact q⟩
theorem Qy6 {n:String} (h:Qn5 n=true):n∈["int","bool","tuple","list","dict","str"]:=by
 unfold Qn5 at h
 simp only [Zb5,Zdi] at h
 simp only [Z9,Zaz,Zbu]
 rcases h with ((((h | h) | h) | h) | h) | h <;> subst h <;> simp
theorem Qac5 {n:String} {tn:Fr} (hm:X.mg "isinstance" = none) (hv:bootBuiltins "isinstance" = some (.builtin "isinstance")) (ha:QE X a (tE p a')) (ht:QE X tn (tC (.ty n))) (hg:Gl X "isinstance") (h1:Qo a=true) (h2:Qo tn=true):QE X (.Call (.Name "isinstance" p1) [a,tn] [] pos) (tE p (.isI a' n)) :=
 (Qiu Q7m hm hv (Qr ha (Qr ht Qbg h2) h1) hg (by decide) (by decide) h1 (by rw [Qah h2];rfl)).weak fun σ H Q ⟨G,ρ,F,h⟩=>by
  unfold evE at h
  refine ⟨G,ρ,F,h.bind.imp fun r ρ1 h1 v H1 G1 F1 r1=>?_⟩
  cases e:cont ρ1 r with
  | none=>rw [e] at h1;exact Zef h1
  | some t =>
   rw [e] at h1
   by_cases z:(Qn5 n && !Qdg t)=true
   ·simp only [Zf z] at h1
    rw [Zt,Bool.not_eq_true'] at z
    exact ⟨v,n,t,rfl,(r1.rdb F1 e).is,z.2,Qy6 z.1,h1 _ H1 G1 F1 pvB⟩
   ·simp only [Zg z] at h1
    exact Zef h1
inductive Rdbs (H:Hp) (G:Fw→Prop):List V→List T→Prop where
 | nil:Rdbs H G [] []
 | cons {v t vs ts}:Rdb H G v t→Rdbs H G vs ts→Rdbs H G (v::vs) (t::ts)
theorem PVRs.rdbs {B:Bs} {H0 H:Hp} {G:Fw→Prop} {σ:St} {ρ:En} {vs:List V} {rs:List PV} (h:PVRs H0 H G σ ρ vs rs) (F:FI B H G σ ρ):∀ {ts:List T},Qao ρ rs=some ts→Rdbs H G vs ts:=by
 induction h with
 | nil=>intro ts e;cases e;exact .nil
 | cons a _ ih =>
  intro ts e
  rename_i v r vs rs _
  unfold Qao at e
  cases h1:cont ρ r with
  | none=>rw [h1] at e;cases e
  | some t =>
   cases h2:Qao ρ rs with
   | none=>rw [h1,h2] at e;cases e
   | some us =>
    rw [h1,h2] at e
    cases e
    exact .cons (a.rdb F h1) (ih h2)
noncomputable def Ob (r:List V→Hp→VK→Prop) (b:Bi):Prop:=∀ (B:Bs) (H:Hp) (G:Fw→Prop) (σ:St) (ρ:En) (vs:List V) (ts:List T) (w:PV) (Q:VK),FI B H G σ ρ→Rdbs H G vs ts→Qgq b ts=some w→(∀ v H1 G1,FI B H1 G1 σ ρ→PVR B.H H1 G1 σ ρ v w→Q v H1)→r vs H Q
theorem Q5f {r:List V→Hp→VK→Prop} {b:Bi} (hs:Ob r b) {σ:St} {H:Hp} {Q:VK} (h:tE p (.bi b aw) σ H Q):tCB r (tA p aw) σ H Q:=by
 obtain ⟨G,ρ,F,h⟩:=h
 unfold evE at h
 refine ⟨G,ρ,F,h.bind.imp fun rs ρ1 h1 vs H1 G1 F1 r1=>?_⟩
 cases e:Qao ρ1 rs with
 | none=>rw [e] at h1;exact Zef h1
 | some ts =>
  rw [e] at h1
  obtain ⟨w,ew,k⟩:=Qo7 h1
  exact hs _ H1 G1 σ ρ1 vs ts w Q F1 (r1.rdbs F1 e) ew fun v H2 G2 F2 r2=>k v H2 G2 F2 r2
theorem Rdbs.one {H:Hp} {G:Fw→Prop} {vs:List V} {t:T} (h:Rdbs H G vs [t]):∃ v,vs=[v]∧Rdb H G v t:=by
 cases h with
 | cons a b=>cases b;exact ⟨_,rfl,a⟩
theorem Rdbs.two {H:Hp} {G:Fw→Prop} {vs:List V} {t u:T} (h:Rdbs H G vs [t,u]):∃ v w,vs=[v,w]∧Rdb H G v t∧Rdb H G w u:=by
 cases h with
 | cons a b =>
  cases b with
  | cons c d=>cases d;exact ⟨_,_,rfl,a,c⟩
theorem Qqz:∀ {ts:List T} {is:List Int},Qfk ts=some is→ts=is.map T.int
 | [],is,e=>by cases e;rfl
 | .int i::ts,is,e=>by
  unfold Qfk at e
  cases h:Qfk ts with
  | none=>rw [h] at e;cases e
  | some js=>rw [h] at e;cases e;rw [Qqz h];rfl
 | .non::_,_,e=>by cases e
 | .bl _::_,_,e=>by cases e
 | .str _::_,_,e=>by cases e
 | .tup _::_,_,e=>by cases e
 | .lst _::_,_,e=>by cases e
 | .dct _ _::_,_,e=>by cases e
 | .clo _ _::_,_,e=>by cases e
 | .dtt _ _::_,_,e=>by cases e
theorem Qq0 {D:Hp}:∀ {ts:List T} {bs:List Bool} {vs:List V},Qk7 ts=some bs→IsL D vs ts→vs.all Qqg=true∧vs.all Qqf=bs.all id∧vs.any Qqf=bs.any id
 | [],bs,vs,e,r=>by cases e;rw [r.nil_inv];exact ⟨rfl,rfl,rfl⟩
 | t::ts,bs,vs,e,r=>by
  obtain ⟨v,w,rfl,a,q⟩:=r.cons_inv
  unfold Qk7 at e
  cases h1:truT t with
  | none=>rw [h1] at e;cases e
  | some b =>
   cases h2:Qk7 ts with
   | none=>rw [h1,h2] at e;cases e
   | some cs =>
    rw [h1,h2] at e
    cases e
    obtain ⟨q1,q2,q3⟩:=Qq0 h2 q
    have hv:Qqg v=true∧Qqf v=b:=by
     cases t <;> first | (cases h1;done) | skip
     ·unfold Is at a;subst a;cases h1;exact ⟨rfl,rfl⟩
     ·obtain rfl:=a.int_inv;cases h1
      refine ⟨rfl,?_⟩
      rename_i i
      show (i != 0)=decide (i≠0)
      by_cases z:i=0 <;> simp [z]
    rw [Zal,Zal,Zdz,Zal,Zdz,q1,q2,q3,hv.1,hv.2]
    exact ⟨rfl,rfl,rfl⟩
theorem Qcz (K:Fz):Ob (Q7a K) .len:=by
 intro B H G σ ρ vs ts w Q F r e q
 match ts,e,r with
 | [.lst a],e,r =>
  cases e
  obtain ⟨v,rfl,h⟩:=r.one
  obtain ⟨l,ws,rfl,z,el,rl⟩:=h.lst
  exact ⟨l,ws,rfl,.inl (SqL.of el),by rw [rl.length];exact q _ H G F pvI⟩
 | [.tup a],e,r =>
  cases e
  obtain ⟨v,rfl,h⟩:=r.one
  obtain ⟨l,ws,rfl,el,rl⟩:=h.tup.tup_inv
  exact ⟨l,ws,rfl,.inr (SqT.of (Qs el).2),by rw [rl.length];exact q _ H G F pvI⟩
theorem Q8n:Ob rAbs .abs:=by
 intro B H G σ ρ vs ts w Q F r e q
 match ts,e,r with
 | [.int i],e,r =>
  cases e
  obtain ⟨v,rfl,h⟩:=r.one
  obtain rfl:=h.int
  exact ⟨i,rfl,q _ H G F pvI⟩
theorem Qsp (K:Fz):Ob (Q7b K) .all:=by
 intro B H G σ ρ vs ts w Q F r e q
 match ts,e,r with
 | [.lst a],e,r =>
  obtain ⟨v,rfl,h⟩:=r.one
  obtain ⟨l,ws,rfl,z,el,rl⟩:=h.lst
  have e:(Qk7 a).map (fun bs=>PV.fz (.bl (bs.all id)))=some w:=e
  cases h1:Qk7 a with
  | none=>rw [h1] at e;cases e
  | some bs =>
   rw [h1] at e
   cases e
   obtain ⟨q1,q2,q3⟩:=Qq0 h1 rl
   exact ⟨l,ws,rfl,SqL.of el,q1,by rw [q2];exact q _ H G F pvB⟩
theorem Qt3:∀ (xs:List Int) (m:Int),m≤Qk8 m xs∧(∀ a∈xs,a≤Qk8 m xs)∧(Qk8 m xs=m∨Qk8 m xs∈xs)
 | [],m=>⟨Int.le_refl _,fun _ h=>(nomatch h),.inl rfl⟩
 | x::xs,m=>by
  unfold Qk8
  obtain ⟨h1,h2,h3⟩:=Qt3 xs (if m<x then x else m)
  have k1:m≤(if m<x then x else m):=by split <;> omega
  have k2:x≤(if m<x then x else m):=by split <;> omega
  refine ⟨by omega,fun a ha=>?_,?_⟩
  ·rcases Z9.mp ha with rfl | ha
   ·omega
   ·exact h2 a ha
  ·rcases h3 with h3 | h3
   ·rw [h3]
    split
    ·exact .inr Zaj
    ·exact .inl rfl
   ·exact .inr (Z5 _ h3)
def Q5g (K:Fz):List V→Hp→VK→Prop:=fun xs H Q=>Q42 xs H Q∨Qxz K xs H Q
theorem Qy7 (K:Fz) (hK:X.K=K) (hc:X.calm=true):QCl X (.builtin "max") (Q5g K):=⟨(Q7o hc).h.or (Q7n K hK hc).h⟩
theorem Qy8 (K:Fz):Ob (Q5g K) .max:=by
 intro B H G σ ρ vs ts w Q F r e q
 match ts,e,r with
 | [.int i,.int j],e,r =>
  cases e
  obtain ⟨v,u,rfl,h1,h2⟩:=r.two
  obtain rfl:=h1.int
  obtain rfl:=h2.int
  exact .inl ⟨i,j,rfl,q _ H G F pvI⟩
 | [.lst a],e,r =>
  obtain ⟨v,rfl,h⟩:=r.one
  obtain ⟨l,ws,rfl,z,el,rl⟩:=h.lst
  have e:(match Qfk a with | some (x::xs)=>some (PV.fz (.int (Qk8 x xs))) | _=>none)=some w:=e
  cases h1:Qfk a with
  | none=>rw [h1] at e;cases e
  | some is =>
   rw [h1] at e
   cases is with
   | nil=>cases e
   | cons i is =>
    cases e
    rw [Qqz h1] at rl
    rw [rl.ints_inv] at el
    obtain ⟨k1,k2,k3⟩:=Qt3 is i
    refine .inr ⟨l,i::is,rfl,SqL.of el,by simp,fun M hM jm=>?_⟩
    have e:M=Qk8 i is:=by
     have a1:=jm (Qk8 i is) (k3.elim (fun k3=>by rw [k3];exact Zaj) fun k3=>Z5 _ k3)
     have a2:M≤Qk8 i is:=by
      rcases Z9.mp hM with rfl | hM
      ·exact k1
      ·exact k2 M hM
     omega
    rw [e]
    exact q _ H G F pvI
theorem Q8o:Ob rDvm .dvm:=by
 intro B H G σ ρ vs ts w Q F r e q
 match ts,e,r with
 | [.int i,.int j],e,r =>
  have e:(if 0<j∧j.natAbs<2^64 then some (PV.fz (.tup [.int (i / j),.int (i%j)])) else none)=some w:=e
  by_cases z:0<j∧j.natAbs<2^64
  ·rw [Zf z] at e;cases e
   obtain ⟨v,u,rfl,h1,h2⟩:=r.two
   obtain rfl:=h1.int
   obtain rfl:=h2.int
   refine ⟨i,j,rfl,⟨z.1,by omega⟩,fun l hl=>q _ _ G (F.grow (Same.upd hl)) ?_⟩
   exact Qd0 (F.prv.mono (Same.upd hl)) Qn (.cons Is.int (.one Is.int)) (by show 2≤100000;decide)
  ·rw [Zg z] at e;cases e
theorem Q8p:Ob Q43 .int:=by
 intro B H G σ ρ vs ts w Q F r e q
 match ts,e,r with
 | [.int i],e,r =>
  cases e
  obtain ⟨v,rfl,h⟩:=r.one
  obtain rfl:=h.int
  exact .inl ⟨i,rfl,q _ H G F pvI⟩
 | [.bl b],e,r =>
  cases e
  obtain ⟨v,rfl,h⟩:=r.one
  obtain rfl:=h.bl
  exact .inr ⟨b,rfl,q _ H G F pvI⟩
theorem Qix (K:Fz):Ob (Qo0 K) .list:=by
 intro B H G σ ρ vs ts w Q F r e q
 match ts,e,r with
 | [.lst a],e,r =>
  cases e
  obtain ⟨v,rfl,h⟩:=r.one
  obtain ⟨l,ws,rfl,z,el,rl⟩:=h.lst
  refine ⟨l,ws,rfl,.inl (SqL.of el),fun l2 hl=>?_⟩
  obtain ⟨F2,r2⟩:=Qhg F hl (Same.upd hl) Qn rl z
  exact q _ _ _ F2 r2
 | [.tup a],e,r =>
  cases e
  obtain ⟨v,rfl,h⟩:=r.one
  have z:=h.tup.tup_len
  obtain ⟨l,ws,rfl,el,rl⟩:=h.tup.tup_inv
  refine ⟨l,ws,rfl,.inr (SqT.of (Qs el).2),fun l2 hl=>?_⟩
  obtain ⟨F2,r2⟩:=Qhg F hl (Same.upd hl) Qn rl z
  exact q _ _ _ F2 r2
theorem Qj2 (K:Fz):Ob (Qr9 K) .tup:=by
 intro B H G σ ρ vs ts w Q F r e q
 match ts,e,r with
 | [.lst a],e,r =>
  cases e
  obtain ⟨v,rfl,h⟩:=r.one
  obtain ⟨l,ws,rfl,z,el,rl⟩:=h.lst
  exact ⟨l,ws,rfl,.inl ⟨SqL.of el,fun l2 hl=>q _ _ G (F.grow (Same.upd hl)) (Qd0 (F.prv.mono (Same.upd hl)) Qn (rl.mono (Qau (Same.upd hl))) z)⟩⟩
 | [.tup a],e,r =>
  cases e
  obtain ⟨v,rfl,h⟩:=r.one
  have h0:=h.tup
  obtain ⟨l,ws,rfl,el,rl⟩:=h.tup.tup_inv
  exact ⟨l,ws,rfl,.inr ⟨SqT.of (Qs el).2,q _ H G F h0⟩⟩
theorem Qiy:∀ {es:List Fr} {env:Env} {pos:Pos},es.all Qo=true→(backTo pos (starEach es env)).any (·.1)=false
 | [],_,_,_=>rfl
 | e::es,env,pos,h=>by
  rw [Zal,Zt] at h
  rw [Qah h.1]
  have q:=Qiy (env:=env) (pos:=pos) h.2
  unfold backTo at q ⊢
  rw [Z6,Zdz,q]
  rfl
theorem s_bi {id:String} {r:List V→Hp→VK→Prop} {b:Bi} (hc:QCl X (.builtin id) r) (hs:Ob r b) (hm:X.mg x=none) (hv:bootBuiltins x=some (.builtin id)) (ha:QA X (e::es) (tA p aw)) (hg:Gl X x) (hn:x ≠ "__name__") (ay:(x==("__debug__" : Str))=false) (h1:Qo e=true) (h2:es.all Qo=true) :
  QE X (.Call (.Name x p1) (e::es) [] pos) (tE p (.bi b aw)):=(Qiu hc hm hv ha hg hn ay h1 (Qiy h2)).weak fun σ H Q h=>Q5f hs h
theorem Qac6 {T:String} {r:List V→Hp→VK→Prop} {b:Bi} (hc:QCl X (.type T) r) (hs:Ob r b) (hm:X.mg x=none) (hv:bootBuiltins x=some (.type T)) (ha:QA X (e::es) (tA p aw)) (hg:Gl X x) (hn:x ≠ "__name__") (ay:(x==("__debug__" : Str))=false) (h1:Qo e=true) (h2:es.all Qo=true) :
  QE X (.Call (.Name x p1) (e::es) [] pos) (tE p (.bi b aw)):=(Q4y hc hm hv ha hg hn ay h1 (Qiy h2)).weak fun σ H Q h=>Q5f hs h
theorem IsL.atI {D:Hp} {vs:List V} {ts:List T} {i:Int} {t:T} (r:IsL D vs ts) (h:atI ts i=some t):∃ v,L2.atI vs i=some v∧Is D v t:=by
 unfold L2.atI at h ⊢
 rw [r.length]
 cases e:ixN ts.length i with
 | none=>rw [e] at h;cases h
 | some j =>
  rw [e] at h
  exact r.getT h
theorem s_ix (K:Fz) (hK:X.K=K) (ha:QE X a (tE p a')) (hb:QE X b (tE p b')) (hs:Qlb b):QE X (.Subscript a b pos) (tE p (.ix a' b')) :=
 (Q7g (Q7l K hK) ha hb hs).weak fun σ H Q ⟨G,ρ,F,h⟩=>by
  unfold evE at h
  refine tE2 F h fun ra rb ρ2 x y H2 G2 F2 r1 r2 h2=>?_
  obtain ⟨t,u,c1,c2,h3⟩:=Qy1 h2
  have hx:=r1.rdb F2 c1
  have hy:=r2.rdb F2 c2
  cases e:Qyx t u with
  | none=>rw [e] at h3;exact Zef h3
  | some w =>
   rw [e] at h3
   cases t <;> first | (cases e;done) | skip
   all_goals (cases u <;> first | (cases e;done) | skip)
   ·obtain rfl:=hy.int
    obtain ⟨l,ws,rfl,el,rl⟩:=hx.tup.tup_inv
    obtain ⟨v,ev,iv⟩:=rl.atI e
    exact .inr (.inl ⟨l,ws,_,v,rfl,rfl,SqT.of (Qs el).2,ev,h3 v H2 G2 F2 iv⟩)
   ·obtain rfl:=hy.int
    obtain ⟨l,ws,rfl,z,el,rl⟩:=hx.lst
    obtain ⟨v,ev,iv⟩:=rl.atI e
    exact .inl ⟨l,ws,_,v,rfl,rfl,SqL.of el,ev,h3 v H2 G2 F2 iv⟩
noncomputable def tO (p:Pr) (es:Es):TO:=fun σ H Q=>∃ G ρ,FI (Qa3 H G σ ρ) H G σ ρ∧Fin p (Qa3 H G σ ρ) σ (evA p.cf es ρ) fun rs ρ1=>∃ i,Qgx rs=some i∧∀ H1 G1,FI (Qa3 H G σ ρ) H1 G1 σ ρ1→Q i H1
theorem QO.weak {X:Cx} {e:Option Fr} {t t':TO} (h:QO X e t) (q:∀ σ H Q,t' σ H Q→t σ H Q):QO X e t':=⟨fun aa s σ H Q I z=>h.h aa s σ H Q I (q _ _ _ z)⟩
theorem Qbs:QO X none (tO p .nil):=q_no.weak fun σ H Q ⟨G,ρ,F,h⟩=>by
 unfold evA at h
 obtain ⟨i,e,k⟩:=h
 cases e
 exact k H G F
theorem Q22 {r:PV} {i:Option Int} (h:Qgx [r]=some i):∃ j,r=.fz (.int j)∧i=some j:=by
 cases r with
 | fz t=>cases t <;> first | (cases h;done) | exact ⟨_,rfl,(Zr h).symm⟩
 | ow t=>cases h
 | sl i=>cases h
theorem Qbt (ha:QE X a (tE p a')):QO X (some a) (tO p (.cons a' .nil)):=(Qsb ha).weak fun σ H Q ⟨G,ρ,F,h⟩=>by
 unfold evA at h
 refine ⟨G,ρ,F,h.bind.imp fun r ρ1 h1 v H1 G1 F1 r1=>?_⟩
 have h1:=h1.bind
 unfold evA at h1
 obtain ⟨i,e,k⟩:=h1
 obtain ⟨j,rfl,rfl⟩:=Q22 e
 obtain rfl:=r1.is.int_inv
 exact ⟨j,rfl,k H1 G1 F1⟩
theorem Qac7 (K:Fz) (hK:X.K=K) {lo hi:Option Fr} {cM cI:Es} (ha:QE X a (tE p a')) (hl:QO X lo (tO p cM)) (hh:QO X hi (tO p cI)):QE X (.Subscript a (.Slice lo hi none p2) pos) (tE p (.slc a' cM cI)) :=
 (q_sl (o_sl K hK) ha hl hh).weak fun σ H Q ⟨G,ρ,F,h⟩=>by
  unfold evE at h
  refine ⟨G,ρ,F,h.bind.imp fun ra ρ1 h1 v H1 G1 F1 r1=>?_⟩
  refine ⟨G1,ρ1,F1.self,h1.bind.rebase F1 fun rl ρ2 h2=>?_⟩
  cases el:Qgx rl with
  | none=>rw [el] at h2;exact Zef h2
  | some l =>
   rw [el] at h2
   refine ⟨l,rfl,fun H2 G2 F2=>⟨G2,ρ2,F2.self,h2.bind.rebase (F1.trans F2) fun rh ρ3 h3=>?_⟩⟩
   cases eh:Qgx rh with
   | none=>rw [eh] at h3;exact Zef h3
   | some u =>
    rw [eh] at h3
    refine ⟨u,rfl,fun H3 G3 F3=>?_⟩
    have F12:=F1.trans F2
    have F4:=F12.trans F3
    cases ec:cont ρ3 ra with
    | none=>rw [ec] at h3;exact Zef h3
    | some t =>
     rw [ec] at h3
     obtain ⟨w,ew,k⟩:=Qo7 h3
     have hx:=((r1.step F1 F2).step F12 F3).rdb F4 ec
     cases t <;> first | (cases ew;done) | skip
     ·cases ew
      exact Qyc F4.prv hx.tup fun y H5 s5 i5=>k y H5 G3 (F4.grow s5) i5
     ·cases ew
      rename_i ts
      obtain ⟨c,ws,rfl,z,ec,rl⟩:=hx.lst
      refine .inl ⟨c,ws,rfl,SqL.of ec,fun q hq=>?_⟩
      obtain ⟨F5,r5⟩:=Qhg F4 hq (Same.upd hq) Qn (rl.cut l u) (by have:=Qdh ts l u;omega)
      exact k _ _ _ F5 r5
theorem Qac8 {st:Fr} (ha:QE X a (tE p a')) (bn:QE X st (tC (.int (-1)))):QE X (.Subscript a (.Slice none none (some st) p2) pos) (tE p (.rev a')) :=
 (Qabu ha bn).weak fun σ H Q ⟨G,ρ,F,h⟩=>by
  unfold evE at h
  refine ⟨G,ρ,F,h.bind.imp fun r ρ1 h1 v H1 G1 F1 r1=>?_⟩
  cases r with
  | fz t =>
   cases t <;> first | exact Zef h1 | skip
   exact ⟨rfl,Q7v F1.prv r1.is fun y H2 s2 i2=>h1 y H2 G1 (F1.grow s2) i2⟩
  | ow t=>exact Zef h1
  | sl i=>exact Zef h1
end
theorem Qf6 (i:Nat):Qa [] i=.un:=rfl
theorem Qb (s:Slot) (ρ:En):Qa (s::ρ) 0=s:=rfl
theorem Qd (s:Slot) (ρ:En) (i:Nat):Qa (s::ρ) (i+1)=Qa ρ i:=by unfold Qa;rw [Zq]
theorem Qbz {ρ:En} {i j:Nat} {s:Slot}:Qa (ρ.set j s) i=if i=j∧j<ρ.length then s else Qa ρ i:=by
 unfold Qa
 by_cases h:i=j∧j<ρ.length
 ·rw [Zf h]
  obtain ⟨rfl,hj⟩:=h
  rw [Zbp hj]
 ·rw [Zg h]
  by_cases e:i=j
  ·subst e
   have hl:ρ.length≤i:=by
    rcases Zdp i ρ.length with z | z
    ·exact absurd ⟨rfl,z⟩ h
    ·exact z
   rw [List.set_eq_of_length_le hl]
  ·rw [Zcb (fun z=>e z.symm)]
theorem Qhh {ρ:En} {i:Nat} (h:Qa ρ i≠.un):i<ρ.length:=by
 rcases Zdp i ρ.length with z | z
 ·exact z
 ·exact absurd (by unfold Qa;rw [List.getElem?_eq_none_iff.mpr z]) h
theorem Qb6 (rs:List PV) (fin:List T) (i:Nat) (s:Slot):Qz rs fin i s=s∨∃ k t,Qj rs i=some k∧fin[k]?=some t∧Qz rs fin i s=s.put t:=by
 unfold Qz
 cases h1:Qj rs i with
 | none=>exact .inl rfl
 | some k =>
  cases h2:fin[k]? with
  | none=>exact .inl (by simp only [h2])
  | some t=>exact .inr ⟨k,t,rfl,h2,by simp only [h2]⟩
theorem Qgm (rs:List PV) (fin:List T):∀ (ρ:En) (n i:Nat),Qa (Ql rs fin n ρ) i=Qz rs fin (n+i) (Qa ρ i)
 | [],n,i=>by
  unfold Ql
  rw [Qf6]
  rcases Qb6 rs fin (n+i) .un with h | ⟨k,t,_,_,h⟩
  ·exact h.symm
  ·rw [h];rfl
 | s::ρ,n,0=>by unfold Ql;rfl
 | s::ρ,n,i+1=>by
  unfold Ql
  rw [Qd,Qd,Qgm rs fin ρ (n+1) i,show n+1+i=n+(i+1) by omega]
theorem Qdb (ρ:En) (rs:List PV) (fin:List T) (i:Nat):Qa (Qay ρ rs fin) i=Qz rs fin i (Qa ρ i):=by
 unfold Qay
 rw [Qgm,Zak]
theorem Qiz (rs:List PV) (fin:List T):∀ (ρ:En) (n:Nat),(Ql rs fin n ρ).length=ρ.length
 | [],_=>rfl
 | s::ρ,n=>by unfold Ql;rw [Ze,Ze,Qiz rs fin ρ (n+1)]
theorem Qi0 (ρ:En) (i:Nat):Qak ρ (.sl i)=match Qa ρ i with
 | .ow t=>some (.ml t)
 | .ml t=>some (.ml t)
 | .ro t=>some (.ro t)
 | _=>none:=rfl
theorem PVRs.len {H0 H:Hp} {G:Fw→Prop} {σ:St} {ρ:En} {vs:List V} {rs:List PV} (h:PVRs H0 H G σ ρ vs rs):vs.length=rs.length:=by
 induction h with
 | nil=>rfl
 | cons _ _ ih=>rw [Ze,Ze,ih]
theorem PVRs.get {H0 H:Hp} {G:Fw→Prop} {σ:St} {ρ:En} {vs:List V} {rs:List PV} (h:PVRs H0 H G σ ρ vs rs):∀ {i:Nat} {v:V} {r:PV},vs[i]?=some v→rs[i]?=some r→PVR H0 H G σ ρ v r:=by
 induction h with
 | nil=>intro i v r e;simp at e
 | cons a _ ih =>
  intro i v r e1 e2
  cases i with
  | zero=>simp at e1 e2;subst e1;subst e2;exact a
  | succ i=>rw [Zq] at e1 e2;exact ih e1 e2
theorem Qf7 {ρ:En}:∀ {rs:List PV} {as:List Arg},Qw ρ rs=some as→as.length=rs.length∧∀ (i:Nat) (a:Arg),as[i]?=some a→∃ r,rs[i]?=some r∧Qak ρ r=some a
 | [],as,e=>by cases e;exact ⟨rfl,fun i a h=>by simp at h⟩
 | r::rs,as,e=>by
  unfold Qw at e
  cases h1:Qak ρ r with
  | none=>rw [h1] at e;cases e
  | some a0 =>
   cases h2:Qw ρ rs with
   | none=>rw [h1,h2] at e;cases e
   | some as0 =>
    rw [h1,h2] at e
    cases e
    obtain ⟨q1,q2⟩:=Qf7 h2
    refine ⟨by rw [Ze,Ze,q1],fun i a h=>?_⟩
    cases i with
    | zero=>simp at h;subst h;exact ⟨r,rfl,h1⟩
    | succ i=>rw [Zq] at h ⊢;exact q2 i a h
theorem Ql6:∀ {rs:List PV},Qu rs=true→∀ (i j k:Nat),rs[i]?=some (.sl k)→rs[j]?=some (.sl k)→i=j
 | [],_,i,j,k,e,_=>by simp at e
 | r::rs,h,i,j,k,e1,e2=>by
  have tl:Qu rs=true:=by
   cases r with
   | sl p=>unfold Qu at h;rw [Zt] at h;exact h.2
   | fz t=>exact h
   | ow t=>exact h
  have hd:∀ (m:Nat),r=PV.sl k→rs[m]?=some (PV.sl k)→False:=fun m er em=>by
   subst er
   unfold Qu at h
   rw [Zt] at h
   have q:=Zah.mp h.1 _ (Z1 em)
   simp at q
  cases i with
  | zero =>
   cases j with
   | zero=>rfl
   | succ j=>simp at e1;rw [Zq] at e2;exact (hd j e1 e2).elim
  | succ i =>
   cases j with
   | zero=>simp at e2;rw [Zq] at e1;exact (hd i e2 e1).elim
   | succ j =>
    rw [Zq] at e1 e2
    rw [Ql6 tl i j k e1 e2]
theorem Qen:∀ {rs:List PV} {i k:Nat},Qj rs i=some k→rs[k]?=some (.sl i)
 | [],i,k,e=>by cases e
 | .sl j::rs,i,k,e=>by
  unfold Qj at e
  by_cases h:j=i
  ·rw [Zf h] at e;cases e;rw [h];rfl
  ·rw [Zg h] at e
   cases h2:Qj rs i with
   | none=>rw [h2] at e;cases e
   | some m=>rw [h2] at e;cases e;rw [Zq];exact Qen h2
 | .fz t::rs,i,k,e=>by
  unfold Qj at e
  cases h2:Qj rs i with
  | none=>rw [h2] at e;cases e
  | some m=>rw [h2] at e;cases e;rw [Zq];exact Qen h2
 | .ow t::rs,i,k,e=>by
  unfold Qj at e
  cases h2:Qj rs i with
  | none=>rw [h2] at e;cases e
  | some m=>rw [h2] at e;cases e;rw [Zq];exact Qen h2
theorem Qi1:∀ {rs:List PV} {i k:Nat},Qj rs i=none→rs[k]?≠some (.sl i)
 | [],i,k,_,e=>by simp at e
 | r::rs,i,k,h,e=>by
  have tl:Qj rs i=none:=by
   cases r with
   | sl j =>
    unfold Qj at h
    by_cases z:j=i
    ·rw [Zf z] at h;cases h
    ·rw [Zg z] at h;simpa using h
   | fz t=>unfold Qj at h;simpa using h
   | ow t=>unfold Qj at h;simpa using h
  cases k with
  | zero =>
   simp at e
   subst e
   unfold Qj at h
   rw [Zf rfl] at h
   cases h
  | succ k=>rw [Zq] at e;exact Qi1 tl e
theorem Qn9:∀ {vs:List V} {rs:List PV} {i:Nat} {t:T} {b:Fw},vs[i]?=some (.ref b)→rs[i]?=some (.ow t)→Ql3 vs rs b
 | [],_,_,_,_,e,_=>by simp at e
 | _::_,[],_,_,_,_,e=>by simp at e
 | v::vs,r::rs,0,t,b,e1,e2=>by
  simp at e1 e2
  subst e1;subst e2
  exact .inl rfl
 | v::vs,r::rs,i+1,t,b,e1,e2=>by
  rw [Zq] at e1 e2
  have q:=Qn9 e1 e2
  cases r with
  | fz t=>exact q
  | sl j=>exact q
  | ow t=>exact .inr q
noncomputable def ArgR (H:Hp) (G:Fw→Prop) (v:V):Arg→Prop
 | .fz t=>Is (dls H G) v t
 | .ml t=>∃ a,v=.ref a∧G a∧OwnAt H G a t
 | .ro t=>∃ a,v=.ref a∧G a∧OwnAt H G a t
def Arg.prv:Arg→Bool
 | .fz _=>false
 | _=>true
structure ArgsR (H:Hp) (G:Fw→Prop) (vs:List V) (as:List Arg):Prop where
 len:vs.length=as.length
 get:∀ (i:Nat) (v:V) (a:Arg),vs[i]?=some v→as[i]?=some a→ArgR H G v a
 apart:∀ (i j:Nat) (b:Fw) (x y:Arg),as[i]?=some x→as[j]?=some y→x.prv=true→y.prv=true→vs[i]?=some (.ref b)→vs[j]?=some (.ref b)→i=j
noncomputable def Qt4 (vs:List V) (as:List Arg) (b:Fw):Prop:=∃ (i:Nat) (t:T),as[i]?=some (.ml t)∧vs[i]?=some (.ref b)
structure CallP (H:Hp) (G:Fw→Prop) (vs:List V) (as:List Arg) (H':Hp) (G':Fw→Prop) (fin:List T):Prop where
 prv:Pen H' G'
 chg:∀ b o,¬ Qt4 vs as b→H b=some o→H' b=some o
 keep:∀ b o,H b=some o→∃ o',H' b=some o'
 gg:∀ b,G b→G' b
 gn:∀ b,G' b→G b∨H b=none
 fin:∀ (i:Nat) (t:T) (a:Fw),as[i]?=some (.ml t)→vs[i]?=some (.ref a)→∃ t',fin[i]?=some t'∧OwnAt H' G' a t'
noncomputable def RetR (H H':Hp) (G':Fw→Prop) (v:V):PV→Prop
 | .fz t=>Is (dls H' G') v t
 | .ow t=>∃ a,v=.ref a∧H a=none∧G' a∧OwnAt H' G' a t
 | .sl _=>False
noncomputable def FROk (mg:Str→Option Fx) (H:Hp) (G:Fw→Prop) (vs:List V) (as:List Arg) (o:FR) (Q:VK) (E:XK):Prop:=match o with
 | .ok r fin=>∀ v H' G',CallP H G vs as H' G' fin→RetR H H' G' v r→Q v H'
 | .xn x fin=>∀ cls dx H' G',CallP H G vs as H' G' fin→Q2t mg H' x cls dx→E cls dx H'
 | .no=>False
noncomputable def spF (cf:CF) (mg:Str→Option Fx) (f:Nat):Sp:=fun vs H Q E=>∃ G as,ArgsR H G vs as∧Pen H G∧FROk mg H G vs as (cf f as) Q E
section
variable {p:Pr} {B:Bs} {H H1 H2:Hp} {G G1 G2:Fw→Prop} {σ:St} {ρ:En} {vs:List V} {rs:List PV} {as:List Arg} {fin:List T}
theorem Qoa {r:PV} {a:Arg} (e:Qak ρ r=some a) (h:a.prv=true):∃ i t,r=.sl i∧(Qa ρ i).prv=some t:=by
 cases r with
 | fz t=>cases e;cases h
 | ow t=>cases e;cases h
 | sl i =>
  rw [Qi0] at e
  cases hs:Qa ρ i with
  | un=>rw [hs] at e;cases e
  | pin _=>rw [hs] at e;cases e
  | fx _=>rw [hs] at e;cases e
  | fz t=>rw [hs] at e;cases e
  | ow t=>exact ⟨i,t,rfl,by rw [hs];rfl⟩
  | ml t=>exact ⟨i,t,rfl,by rw [hs];rfl⟩
  | ro t=>exact ⟨i,t,rfl,by rw [hs];rfl⟩
theorem Qy9 {r:PV} {t:T} (e:Qak ρ r=some (.ml t)):∃ i,r=.sl i∧(Qa ρ i=.ow t∨Qa ρ i=.ml t):=by
 cases r with
 | fz t=>cases e
 | ow t=>cases e
 | sl i =>
  rw [Qi0] at e
  cases hs:Qa ρ i with
  | un=>rw [hs] at e;cases e
  | pin _=>rw [hs] at e;cases e
  | fx _=>rw [hs] at e;cases e
  | fz t=>rw [hs] at e;cases e
  | ow t=>rw [hs] at e;cases e;exact ⟨i,rfl,.inl hs⟩
  | ml t=>rw [hs] at e;cases e;exact ⟨i,rfl,.inr hs⟩
  | ro t=>rw [hs] at e;cases e
theorem Q23 (F:FI B H G σ ρ) (r:PVRs B.H H G σ ρ vs rs) (ea:Qw ρ rs=some as) (hb:Qu rs=true):∃ G',FI B H G' σ ρ∧ArgsR H G' vs as:=by
 have F':=F.lessG (Ql3 vs rs) fun b z=>r.tmp z
 obtain ⟨l1,g1⟩:=Qf7 ea
 refine ⟨_,F',by rw [l1];exact r.len,fun i v a ev e=>?_,fun i j b x y ex ey px py vx vy=>?_⟩
 ·obtain ⟨q,eq,ar⟩:=g1 i a e
  have pv:=r.get ev eq
  cases q with
  | fz t=>cases ar;exact Is.mono (Qc2 fun b h=>h.1) pv.is
  | ow t =>
   cases ar
   obtain ⟨c,rfl,_,_,_,ob,ec,ql⟩:=pv
   exact ql.is (by rw [Qby fun z=>z.2 (Qn9 ev eq)];exact ec) (Qc2 fun b h=>h.1)
  | sl k =>
   have pv:σ[k]?=some (some v):=pv
   rw [Qi0] at ar
   have sk:=F'.slot k
   cases hs:Qa ρ k with
   | un=>rw [hs] at ar;cases ar
   | pin _=>rw [hs] at ar;cases ar
   | fx _=>rw [hs] at ar;cases ar
   | fz t=>rw [hs] at ar;cases ar
   | ow t=>rw [hs] at ar sk;cases ar;obtain ⟨c,h1,h2,h3⟩:=sk;rw [pv] at h1;cases h1;exact ⟨c,rfl,h2,h3⟩
   | ml t=>rw [hs] at ar sk;cases ar;obtain ⟨c,h1,h2,h3⟩:=sk;rw [pv] at h1;cases h1;exact ⟨c,rfl,h2,h3⟩
   | ro t=>rw [hs] at ar sk;cases ar;obtain ⟨c,h1,h2,h3⟩:=sk;rw [pv] at h1;cases h1;exact ⟨c,rfl,h2,h3⟩
 ·obtain ⟨q1,e1,a1⟩:=g1 i x ex
  obtain ⟨q2,e2,a2⟩:=g1 j y ey
  obtain ⟨k1,t1,rfl,s1⟩:=Qoa a1 px
  obtain ⟨k2,t2,rfl,s2⟩:=Qoa a2 py
  have p1:σ[k1]?=some (some (.ref b)):=r.get vx e1
  have p2:σ[k2]?=some (some (.ref b)):=r.get vy e2
  have ek:=F.apart k1 k2 b ⟨⟨t1,s1⟩,p1⟩ ⟨⟨t2,s2⟩,p2⟩
  subst ek
  exact Ql6 hb i j k1 e1 e2
theorem Qo9 {s:Slot} {t u:T} (h:(s.put t).prv=some u):∃ w,s.prv=some w:=by
 cases s <;> first | exact ⟨_,rfl⟩ | cases h
theorem Ql7 {i:Nat} {u:T} (h:(Qa (Qay ρ rs fin) i).prv=some u):∃ w,(Qa ρ i).prv=some w:=by
 rw [Qdb] at h
 rcases Qb6 rs fin i (Qa ρ i) with e | ⟨k,t,_,_,e⟩
 ·rw [e] at h;exact ⟨u,h⟩
 ·rw [e] at h;exact Qo9 h
theorem Q24 {i:Nat} {u:T} (h:Qa (Qay ρ rs fin) i=.ow u):∃ w,Qa ρ i=.ow w:=by
 rw [Qdb] at h
 rcases Qb6 rs fin i (Qa ρ i) with e | ⟨k,t,_,_,e⟩
 ·rw [e] at h;exact ⟨u,h⟩
 ·rw [e] at h
  cases hs:Qa ρ i <;> rw [hs] at h <;> first | exact ⟨_,rfl⟩ | cases h
theorem Qt5 {i:Nat} {u:T} (h:Qa (Qay ρ rs fin) i=.ml u):∃ w,Qa ρ i=.ml w:=by
 rw [Qdb] at h
 rcases Qb6 rs fin i (Qa ρ i) with e | ⟨k,t,_,_,e⟩
 ·rw [e] at h;exact ⟨u,h⟩
 ·rw [e] at h
  cases hs:Qa ρ i <;> rw [hs] at h <;> first | exact ⟨_,rfl⟩ | cases h
theorem Q25 {i:Nat} {u:T} (h:Qa (Qay ρ rs fin) i=.ro u):∃ w,Qa ρ i=.ro w:=by
 rw [Qdb] at h
 rcases Qb6 rs fin i (Qa ρ i) with e | ⟨k,t,_,_,e⟩
 ·rw [e] at h;exact ⟨u,h⟩
 ·rw [e] at h
  cases hs:Qa ρ i <;> rw [hs] at h <;> first | exact ⟨_,rfl⟩ | cases h
theorem Q26 {i:Nat} {u:T} (h:Qa (Qay ρ rs fin) i=.fx u):∃ w,Qa ρ i=.fx w:=by
 rw [Qdb] at h
 rcases Qb6 rs fin i (Qa ρ i) with e | ⟨k,t,_,_,e⟩
 ·rw [e] at h;exact ⟨u,h⟩
 ·rw [e] at h
  cases hs:Qa ρ i <;> rw [hs] at h <;> first | exact ⟨_,rfl⟩ | cases h
theorem FI.called (F:FI B H G σ ρ) (A:ArgsR H G vs as) (hv:∀ (k i:Nat) (v:V),rs[k]?=some (.sl i)→vs[k]?=some v→σ[i]?=some (some v)) (hl:vs.length=rs.length) (ea:Qw ρ rs=some as) (hb:Qu rs=true) (C:CallP H G vs as H1 G1 fin):FI B H1 G1 σ (Qay ρ rs fin):=by
 have ml:∀ b,Qt4 vs as b→∃ (k i:Nat) (t:T),rs[k]?=some (.sl i)∧as[k]?=some (.ml t)∧vs[k]?=some (.ref b)∧(Qa ρ i=.ow t∨Qa ρ i=.ml t)∧σ[i]?=some (some (.ref b)):=fun b h=>by
  obtain ⟨k,t,e1,e2⟩:=h
  obtain ⟨q,eq,ar⟩:=(Qf7 ea).2 k _ e1
  obtain ⟨i,rfl,hs⟩:=Qy9 ar
  exact ⟨k,i,t,eq,e1,e2,hs,hv k i _ eq e2⟩
 have mp:∀ b,Qt4 vs as b→OwA σ ρ b∨MlA σ ρ b:=fun b h=>by
  obtain ⟨k,i,t,_,_,_,hs | hs,e⟩:=ml b h
  ·exact .inl ⟨i,t,hs,e⟩
  ·exact .inr ⟨i,t,hs,e⟩
 have sm:Same (dls H G) (dls H1 G1):=fun b o e=>by
  obtain ⟨n,e⟩:=Qs e
  have e1:=C.chg b o (fun z=>n ((mp b z).elim F.ownG F.mlG)) e
  rw [Qby fun z=>?_]
  ·exact e1
  ·rcases C.gn b z with z | z
   ·exact n z
   ·rw [z] at e;cases e
 -- a slot's list that is not bt
 have stay:∀ i a t,(Qa ρ i).prv=some t→σ[i]?=some (some (.ref a))→OwnAt H G a t→((∀ t,Qa ρ i≠.ow t)∧(∀ t,Qa ρ i≠.ml t)∨Qj rs i=none)→OwnAt H1 G1 a t:=fun i a t e s o h=>by
  refine o.mono sm fun u eu=>C.chg a u (fun z=>?_) eu
  obtain ⟨k,j,t',e1,_,_,hs,e2⟩:=ml a z
  have ej:j=i:=F.apart j i a ⟨⟨t',by rcases hs with hs | hs <;> rw [hs] <;> rfl⟩,e2⟩ ⟨⟨t,e⟩,s⟩
  subst ej
  rcases h with ⟨h1,h2⟩ | h
  ·rcases hs with hs | hs
   ·exact h1 _ hs
   ·exact h2 _ hs
  ·exact Qi1 h e1
 -- one that is bt
 have bt:∀ i a t k,(Qa ρ i=.ow t∨Qa ρ i=.ml t)→σ[i]?=some (some (.ref a))→Qj rs i=some k→∃ t',fin[k]?=some t'∧OwnAt H1 G1 a t':=fun i a t k hs s hk=>by
  have e1:=Qen hk
  have dL:k<vs.length:=by rw [hl];exact (List.getElem?_eq_some_iff.mp e1).1
  have e2:=hv k i _ e1 (Zc dL)
  rw [s] at e2
  have e3:vs[k]?=some (.ref a):=by rw [Zc dL];rw [←Zr (Zr e2)]
  have h9:k<as.length:=by rw [←A.len];exact dL
  obtain ⟨q,eq,ar⟩:=(Qf7 ea).2 k _ (Zc h9)
  rw [e1] at eq
  cases eq
  have e4:as[k]?=some (.ml t):=by
   rw [Zc h9,←ar,Qi0]
   rcases hs with hs | hs <;> rw [hs]
  exact C.fin k t a e4 e3
 exact {
  len:=by unfold Qay;rw [Qiz];exact F.len
  slot:=fun i=>by
   have q:=F.slot i
   have bc:=Qb6 rs fin i (Qa ρ i)
   rw [Qdb]
   cases hs:Qa ρ i with
   | un =>
    rw [hs] at bc
    rcases bc with e | ⟨k,t,_,_,e⟩ <;> rw [e] <;> trivial
   | pin a =>
    rw [hs] at q bc
    rcases bc with e | ⟨k,t,_,_,e⟩ <;> rw [e] <;> exact q
   | fz t =>
    rw [hs] at q bc
    obtain ⟨v,e1,e2⟩:=q
    rcases bc with e | ⟨k,t,_,_,e⟩ <;> rw [e] <;> exact ⟨v,e1,e2.mono sm⟩
   | fx t =>
    rw [hs] at q bc
    obtain ⟨v,o,e1,e3,e2⟩:=q
    rcases bc with e | ⟨k,t,_,_,e⟩ <;> rw [e] <;> exact ⟨v,o,e1,sm _ _ e3,e2.mono sm⟩
   | ro t =>
    rw [hs] at q bc
    obtain ⟨a,e1,g,o⟩:=q
    have o':=stay i a t (by rw [hs];rfl) e1 o (.inl ⟨fun t z=>(by rw [hs] at z;cases z),fun t z=>(by rw [hs] at z;cases z)⟩)
    rcases bc with e | ⟨k,t,_,_,e⟩ <;> rw [e] <;> exact ⟨a,e1,C.gg a g,o'⟩
   | ow t =>
    rw [hs] at q bc
    obtain ⟨a,e1,g,o⟩:=q
    cases hp:Qj rs i with
    | none =>
     have o':=stay i a t (by rw [hs];rfl) e1 o (.inr hp)
     rcases bc with e | ⟨k,t',h,_,e⟩
     ·rw [e];exact ⟨a,e1,C.gg a g,o'⟩
     ·rw [hp] at h;cases h
    | some k =>
     obtain ⟨t',ef,o'⟩:=bt i a t k (.inl hs) e1 hp
     have e:Qz rs fin i (.ow t)=.ow t':=by unfold Qz;rw [hp];simp only [ef];rfl
     rw [e]
     exact ⟨a,e1,C.gg a g,o'⟩
   | ml t =>
    rw [hs] at q bc
    obtain ⟨a,e1,g,o⟩:=q
    cases hp:Qj rs i with
    | none =>
     have o':=stay i a t (by rw [hs];rfl) e1 o (.inr hp)
     rcases bc with e | ⟨k,t',h,_,e⟩
     ·rw [e];exact ⟨a,e1,C.gg a g,o'⟩
     ·rw [hp] at h;cases h
    | some k =>
     obtain ⟨t',ef,o'⟩:=bt i a t k (.inr hs) e1 hp
     have e:Qz rs fin i (.ml t)=.ml t':=by unfold Qz;rw [hp];simp only [ef];rfl
     rw [e]
     exact ⟨a,e1,C.gg a g,o'⟩
  apart:=fun i j a h1 h2=>F.apart i j a ⟨let ⟨u,e⟩:=h1.1;Ql7 e,h1.2⟩ ⟨let ⟨u,e⟩:=h2.1;Ql7 e,h2.2⟩
  prv:=C.prv
  chg:=fun b o h1 h2 e=>C.chg b o (fun z=>by
   rcases mp b z with z | z
   ·rcases F.newO b z with z | z
    ·rw [e] at z;cases z
    ·exact h1 z
   ·exact h2 (F.newM b z)) (F.chg b o h1 h2 e)
  keep:=fun b o e=>by
   obtain ⟨o1,e1⟩:=F.keep b o e
   exact C.keep b o1 e1
  newO:=fun a h=>by
   obtain ⟨i,t,e,s⟩:=h
   obtain ⟨w,e⟩:=Q24 e
   exact F.newO a ⟨i,w,e,s⟩
  newM:=fun a h=>by
   obtain ⟨i,t,e,s⟩:=h
   obtain ⟨w,e⟩:=Qt5 e
   exact F.newM a ⟨i,w,e,s⟩
  fix:=fun i a h=>by
   obtain ⟨⟨t,e⟩,s⟩:=h
   refine F.fix i a ⟨?_,s⟩
   rcases e with e | e | e
   ·obtain ⟨w,e⟩:=Qt5 e;exact ⟨w,.inl e⟩
   ·obtain ⟨w,e⟩:=Q25 e;exact ⟨w,.inr (.inl e)⟩
   ·obtain ⟨w,e⟩:=Q26 e;exact ⟨w,.inr (.inr e)⟩
  gg:=fun b h=>C.gg b (F.gg b h)
  gn:=fun b h=>by
   rcases C.gn b h with z | z
   ·exact F.gn b z
   ·exact .inr (F.free z)
  bp:=F.bp }
end
section
variable {X:Cx} {p:Pr} {x:Str} {e:Fr} {es:List Fr} {aw:Es} {f k:Nat} {ps:List Str} {pos p1:Pos}
theorem Q27 {σ:St} {H:Hp} {Q:VK} (h:tE p (.call f aw) σ H Q):Qye (spF p.cf p.mg f) p.R (tA p aw) σ H Q:=by
 obtain ⟨G,ρ,F,h⟩:=h
 unfold evE at h
 refine ⟨G,ρ,F,h.bind.imp fun rs ρ1 h1 vs H1 G1 F1 r1=>?_⟩
 unfold Qiw at h1
 by_cases hb:Qu rs=true
 ·rw [Zf hb] at h1
  cases ea:Qw ρ1 rs with
  | none=>rw [ea] at h1;exact Zef h1
  | some as =>
   rw [ea] at h1
   replace h1:Fin p (Qa3 H G σ ρ) σ (match p.cf f as with | .ok r fin=>.ok r (Qay ρ1 rs fin) | .xn x fin=>.xn x (Qay ρ1 rs fin) | .no=>.no) _:=h1
   obtain ⟨G',F',A⟩:=Q23 (B:=Qa3 H G σ ρ) F1 r1 ea hb
   have hv:∀ (k i:Nat) (v:V),rs[k]?=some (.sl i)→vs[k]?=some v→σ[i]?=some (some v):=fun k i v e1 e2=>r1.get e2 e1
   refine ⟨G',as,A,F'.prv,?_⟩
   cases ec:p.cf f as with
   | no=>rw [ec] at h1;exact Zef h1
   | xn z fin =>
    rw [ec] at h1
    exact fun cls dx H' G2 C xr=>h1 cls dx H' G2 (F'.called A hv r1.len ea hb C) xr
   | ok r fin =>
    rw [ec] at h1
    refine fun v H' G2 C rr=>h1 v H' G2 (F'.called A hv r1.len ea hb C) ?_
    cases r with
    | sl i=>exact Zef rr
    | fz t=>exact rr
    | ow t =>
     obtain ⟨a,rfl,n,g,o⟩:=rr
     refine ⟨a,rfl,F'.free n,g,fun i hp=>?_,o⟩
     obtain ⟨w,e⟩:=Ql7 hp.1.choose_spec
     obtain ⟨_,t,ob,ea,_⟩:=PrvAt.at F' ⟨⟨w,e⟩,hp.2⟩
     rw [n] at ea
     cases ea
 ·rw [Zg hb] at h1
  exact Zef h1
theorem Q8q (h:HasE X.prog X.w X.K X.mg X.base x ps k (spF p.cf p.mg f)) (pz:Qgl X p.R) (hr:Room k X.A) (ha:QA X (e::es) (tA p aw)) (hg:Gl X x) (ay:(x==("__debug__" : Str))=false) (h1:Qo e=true) (h2:es.all Qo=true) :
  QE X (.Call (.Name x p1) (e::es) [] pos) (tE p (.call f aw)):=(Qab8 h pz hr ha hg ay (Qah h1) (Qiy h2)).weak fun σ H Q h=>Q27 h
end
section
variable {B:Bs} {H H1:Hp} {G G1:Fw→Prop} {σ:St} {ρ ρ':En} {i:Nat} {v:V} {t:T}
theorem st_set {w:Option V} (h:i<σ.length):(σ.set i w)[i]?=some w:=by rw [Zbp h]
theorem Qe4 {j:Nat} {w:Option V} (h:j≠i):(σ.set i w)[j]?=σ[j]?:=by rw [Zcb (fun z=>h z.symm)]
theorem FI.lay (F:FI B H G σ ρ) (hi:i<ρ.length) {s:Slot} {w:Option V} (hs:Ql1 H G (σ.set i w) i s) (hp:∀ a,(∃ t,s.prv=some t)→w=some (.ref a)→∀ j,j≠i→¬ PrvAt σ ρ j a)
  (ho:∀ t a,s=.ow t→w=some (.ref a)→B.H a=none∨B.O a) (hm:∀ t,s≠.ml t) (hr:∀ t,s≠.ro t) (hx:∀ t,s≠.fx t:=by intro _ z;cases z):FI B H G (σ.set i w) (ρ.set i s):=by
 have hl:i<σ.length:=by rw [F.len];exact hi
 have sa:∀ j,Qa (ρ.set i s) j=if j=i then s else Qa ρ j:=fun j=>by
  rw [Qbz]
  by_cases e:j=i
  ·rw [Zf ⟨e,hi⟩,Zf e]
  ·rw [Zg (fun z=>e z.1),Zg e]
 have aJ:∀ j a,PrvAt (σ.set i w) (ρ.set i s) j a→j≠i→PrvAt σ ρ j a:=fun j a h n=>by
  obtain ⟨⟨u,e⟩,q⟩:=h
  rw [sa,Zg n] at e
  rw [Qe4 n] at q
  exact ⟨⟨u,e⟩,q⟩
 have cu:∀ a,PrvAt (σ.set i w) (ρ.set i s) i a→(∃ t,s.prv=some t)∧w=some (.ref a):=fun a h=>by
  obtain ⟨⟨u,e⟩,q⟩:=h
  rw [sa,Zf rfl] at e
  rw [st_set hl] at q
  exact ⟨⟨u,e⟩,Zr q⟩
 exact {
  len:=by rw [Zby,Zby];exact F.len
  slot:=fun j=>by
   rw [sa]
   by_cases e:j=i
   ·rw [Zf e,e];exact hs
   ·rw [Zg e]
    have q:=F.slot j
    cases hh:Qa ρ j with
    | un=>trivial
    | pin a=>rw [hh] at q;show (σ.set i _)[j]?=_;rw [Qe4 e];exact q
    | fz t=>rw [hh] at q;obtain ⟨v,a,b⟩:=q;exact ⟨v,by rw [Qe4 e];exact a,b⟩
    | fx t=>rw [hh] at q;obtain ⟨v,o,a,b⟩:=q;exact ⟨v,o,by rw [Qe4 e];exact a,b⟩
    | ow t=>rw [hh] at q;obtain ⟨v,a,b⟩:=q;exact ⟨v,by rw [Qe4 e];exact a,b⟩
    | ml t=>rw [hh] at q;obtain ⟨v,a,b⟩:=q;exact ⟨v,by rw [Qe4 e];exact a,b⟩
    | ro t=>rw [hh] at q;obtain ⟨v,a,b⟩:=q;exact ⟨v,by rw [Qe4 e];exact a,b⟩
  apart:=fun j k a h1 h2=>by
   by_cases e1:j=i
   ·by_cases e2:k=i
    ·rw [e1,e2]
    ·rw [e1] at h1
     exact (hp a (cu a h1).1 (cu a h1).2 k e2 (aJ k a h2 e2)).elim
   ·by_cases e2:k=i
    ·rw [e2] at h2
     exact (hp a (cu a h2).1 (cu a h2).2 j e1 (aJ j a h1 e1)).elim
    ·exact F.apart j k a (aJ j a h1 e1) (aJ k a h2 e2)
  prv:=F.prv
  chg:=F.chg
  keep:=F.keep
  newO:=fun a h=>by
   obtain ⟨j,u,e,q⟩:=h
   rw [sa] at e
   by_cases z:j=i
   ·rw [Zf z] at e
    rw [z,st_set hl] at q
    exact ho u a e (Zr q)
   ·rw [Zg z] at e
    rw [Qe4 z] at q
    exact F.newO a ⟨j,u,e,q⟩
  newM:=fun a h=>by
   obtain ⟨j,u,e,q⟩:=h
   rw [sa] at e
   by_cases z:j=i
   ·rw [Zf z] at e;exact (hm u e).elim
   ·rw [Zg z] at e
    rw [Qe4 z] at q
    exact F.newM a ⟨j,u,e,q⟩
  fix:=fun j a h=>by
   obtain ⟨⟨u,e⟩,q⟩:=h
   rw [sa] at e
   by_cases z:j=i
   ·rw [Zf z] at e
    rcases e with e | e | e
    ·exact (hm u e).elim
    ·exact (hr u e).elim
    ·exact (hx u e).elim
   ·rw [Zg z] at e
    rw [Qe4 z] at q
    exact F.fix j a ⟨⟨u,e⟩,q⟩
  gg:=F.gg
  gn:=F.gn
  bp:=F.bp }
theorem FI.setFz (F:FI B H G σ ρ) (hi:i<ρ.length) (hv:Is (dls H G) v t):FI B H G (σ.set i (some v)) (ρ.set i (.fz t)) :=
 F.lay hi ⟨v,st_set (by rw [F.len];exact hi),hv⟩ (fun a h=>by obtain ⟨u,e⟩:=h;cases e) (fun _ _ e=>by cases e) (fun _ e=>by cases e) (fun _ e=>by cases e)
theorem Qj3 {s:Slot} (h:Qba i s ρ=some ρ'):i<ρ.length∧ρ'=ρ.set i s:=by
 unfold Qba at h
 by_cases z:i<ρ.length
 ·rw [Zf z] at h
  cases hs:Qa ρ i <;> rw [hs] at h <;> first | (cases h;done) | exact ⟨z,(Zr h).symm⟩
 ·rw [Zg z] at h;cases h
theorem FI.setS (F:FI B H G σ ρ) (h:L2.Qba i (.fz t) ρ=some ρ') (hv:Is (dls H G) v t):FI B H G (σ.set i (some v)) ρ':=by
 obtain ⟨h1,rfl⟩:=Qj3 h
 exact F.setFz h1 hv
theorem FI.setOw {H0:Hp} (F:FI B H G σ ρ) (hb:B.H=H0) (h:L2.Qba i (.ow t) ρ=some ρ') (hv:TmpR H0 H G σ ρ v t):FI B H G (σ.set i (some v)) ρ':=by
 obtain ⟨h1,rfl⟩:=Qj3 h
 obtain ⟨a,rfl,n,g,np,o⟩:=hv
 refine F.lay h1 ⟨a,st_set (by rw [F.len];exact h1),g,o⟩ (fun b _ e j _=>?_) (fun _ b _ e=>?_) (fun _ e=>by cases e) (fun _ e=>by cases e)
 ·cases e;exact np j
 ·cases e;exact .inl (by rw [hb];exact n)
theorem FI.forget (F:FI B H G σ ρ) (i:Nat):FI B H G σ (ρ.set i .un):=by
 have sa:∀ j,Qa (ρ.set i .un) j=.un∨Qa (ρ.set i .un) j=Qa ρ j:=fun j=>by
  rw [Qbz]
  by_cases e:j=i∧i<ρ.length
  ·rw [Zf e];exact .inl rfl
  ·rw [Zg e];exact .inr rfl
 have aJ:∀ j a,PrvAt σ (ρ.set i .un) j a→PrvAt σ ρ j a:=fun j a h=>by
  obtain ⟨⟨u,e⟩,q⟩:=h
  rcases sa j with z | z
  ·rw [z] at e;cases e
  ·rw [z] at e;exact ⟨⟨u,e⟩,q⟩
 exact { F with
  len:=by rw [Zby];exact F.len
  slot:=fun j=>by
   rcases sa j with z | z
   ·rw [z];trivial
   ·rw [z];exact F.slot j
  apart:=fun j k a h1 h2=>F.apart j k a (aJ j a h1) (aJ k a h2)
  newO:=fun a h=>by
   obtain ⟨j,u,e,q⟩:=h
   rcases sa j with z | z
   ·rw [z] at e;cases e
   ·rw [z] at e;exact F.newO a ⟨j,u,e,q⟩
  newM:=fun a h=>by
   obtain ⟨j,u,e,q⟩:=h
   rcases sa j with z | z
   ·rw [z] at e;cases e
   ·rw [z] at e;exact F.newM a ⟨j,u,e,q⟩
  fix:=fun j a h=>by
   obtain ⟨⟨u,e⟩,q⟩:=h
   rcases sa j with z | z
   ·rw [z] at e;rcases e with e | e | e <;> cases e
   ·rw [z] at e;exact F.fix j a ⟨⟨u,e⟩,q⟩ }
theorem FI.freeze (F:FI B H G σ ρ) (hO:∀ a,¬ B.O a) (hs:Qa ρ i=.ow t):∃ G1,FI B H G1 σ (ρ.set i (.fz t))∧Same (dls H G) (dls H G1):=by
 have hi:i<ρ.length:=Qhh (by rw [hs];intro z;cases z)
 have q:=F.slot i
 rw [hs] at q
 obtain ⟨a,e,g,ob,ea,il⟩:=q
 have F1:=F.forget i
 have np:∀ j,¬ PrvAt σ (ρ.set i .un) j a:=fun j h=>by
  have hj:j≠i:=fun z=>by
   obtain ⟨⟨u,e⟩,_⟩:=h
   rw [z,Qbz,Zf ⟨rfl,hi⟩] at e
   cases e
  obtain ⟨⟨u,e2⟩,q2⟩:=h
  rw [Qbz,Zg (fun z=>hj z.1)] at e2
  exact hj (F.apart j i a ⟨⟨u,e2⟩,q2⟩ ⟨⟨_,by rw [hs];rfl⟩,e⟩)
 have hb:B.H a=none:=by
  rcases F.newO a ⟨i,_,hs,e⟩ with z | z
  ·exact z
  ·exact (hO a z).elim
 have F2:=F1.lessG (fun b=>b=a) fun b cA=>⟨cA ▸ hb,cA ▸ np⟩
 have hv:Is (dls H fun b=>G b∧¬ b=a) (.ref a) t:=il.is (by rw [Qby fun z=>z.2 rfl];exact ea) (Qc2 fun b h=>h.1)
 have F3:=F2.setFz (i:=i) (by rw [Zby];exact hi) hv
 rw [set_set] at F3
 have e3:σ.set i (some (.ref a))=σ:=by
  apply List.ext_getElem?
  intro j
  by_cases hj:j=i
  ·rw [hj,e,st_set (by rw [F.len];exact hi)]
  ·rw [Qe4 hj]
 rw [e3] at F3
 exact ⟨_,F3,Qc2 fun b h=>h.1⟩
theorem FI.changeO (F:FI B H G σ ρ) {t0 u0:T} {ob:HO} {s':Slot} (hs:(Qa ρ i=.ow t0∧s'=.ow u0)∨(Qa ρ i=.ml t0∧s'=.ml u0)) {a:Fw} (e:σ[i]?=some (some (.ref a))) (il:OwnO (dls H G) u0 ob) :
  FI B (upd H a ob) G σ (ρ.set i s')∧Same (dls H G) (dls (upd H a ob) G):=by
 have fi:(Qa ρ i).prv=some t0:=by rcases hs with ⟨h,_⟩ | ⟨h,_⟩ <;> rw [h] <;> rfl
 have hi:i<ρ.length:=Qhh (by rcases hs with ⟨h,_⟩ | ⟨h,_⟩ <;> rw [h] <;> intro z <;> cases z)
 obtain ⟨a',e',g,o',ea,_⟩:=F.prvAt fi
 rw [e] at e'
 cases e'
 have sa:∀ j,Qa (ρ.set i s') j=if j=i then s' else Qa ρ j:=fun j=>by
  rw [Qbz]
  by_cases e:j=i
  ·rw [Zf ⟨e,hi⟩,Zf e]
  ·rw [Zg (fun z=>e z.1),Zg e]
 have sm:Same (dls H G) (dls (upd H a ob) G):=fun b o eb=>by
  obtain ⟨n,eb⟩:=Qs eb
  rw [Qby n,Q7 (fun (z:b=a)=>n (by rw [z];exact g))]
  exact eb
 have gO:∀ j b,PrvAt σ (ρ.set i s') j b→PrvAt σ ρ j b:=fun j b h=>by
  obtain ⟨⟨u,e1⟩,q⟩:=h
  rw [sa] at e1
  by_cases hj:j=i
  ·rw [hj] at q ⊢;exact ⟨⟨_,fi⟩,q⟩
  ·rw [Zg hj] at e1;exact ⟨⟨u,e1⟩,q⟩
 have own:OwnAt (upd H a ob) G a u0:=⟨ob,Qn,il.mono sm⟩
 refine ⟨{
  len:=by rw [Zby];exact F.len
  slot:=fun j=>by
   rw [sa]
   by_cases hj:j=i
   ·rw [Zf hj,hj]
    rcases hs with ⟨_,h⟩ | ⟨_,h⟩ <;> rw [h] <;> exact ⟨a,e,g,own⟩
   ·rw [Zg hj]
    refine Qh9 (F.slot j) sm fun b o dJ eE eb=>?_
    have nb:b≠a:=fun z=>hj (F.apart j i a ⟨dJ,z ▸ eE⟩ ⟨⟨_,fi⟩,e⟩)
    exact ⟨by rw [Q7 nb];exact eb,(PrvAt.at F ⟨dJ,eE⟩).1⟩
  apart:=fun j k b h1 h2=>F.apart j k b (gO j b h1) (gO k b h2)
  prv:=fun b hb=>by
   by_cases h:b=a
   ·exact ⟨ob,by rw [h,Qn],il.pen⟩
   ·rw [Q7 h];exact F.prv b hb
  chg:=fun b o h1 h2 eb=>by
   have nb:b≠a:=fun z=>by
    rcases hs with ⟨h,_⟩ | ⟨h,_⟩
    ·rcases F.newO a ⟨i,_,h,e⟩ with y | y
     ·rw [z,y] at eb;cases eb
     ·exact h1 (z ▸ y)
    ·exact h2 (z ▸ F.newM a ⟨i,_,h,e⟩)
   rw [Q7 nb]
   exact F.chg b o h1 h2 eb
  keep:=fun b o eb=>by
   by_cases h:b=a
   ·exact ⟨_,by rw [h,Qn]⟩
   ·rw [Q7 h];exact F.keep b o eb
  newO:=fun b h=>by
   obtain ⟨j,u,e1,q⟩:=h
   rw [sa] at e1
   by_cases hj:j=i
   ·rw [Zf hj] at e1
    rcases hs with ⟨h,h2⟩ | ⟨h,h2⟩
    ·exact F.newO b ⟨i,_,h,hj ▸ q⟩
    ·rw [h2] at e1;cases e1
   ·rw [Zg hj] at e1;exact F.newO b ⟨j,u,e1,q⟩
  newM:=fun b h=>by
   obtain ⟨j,u,e1,q⟩:=h
   rw [sa] at e1
   by_cases hj:j=i
   ·rw [Zf hj] at e1
    rcases hs with ⟨h,h2⟩ | ⟨h,h2⟩
    ·rw [h2] at e1;cases e1
    ·exact F.newM b ⟨i,_,h,hj ▸ q⟩
   ·rw [Zg hj] at e1;exact F.newM b ⟨j,u,e1,q⟩
  fix:=fun j b h=>by
   obtain ⟨⟨u,e1⟩,q⟩:=h
   rw [sa] at e1
   by_cases hj:j=i
   ·rw [Zf hj] at e1
    rcases hs with ⟨h,h2⟩ | ⟨h,h2⟩
    ·rw [h2] at e1;rcases e1 with e1 | e1 | e1 <;> cases e1
    ·exact F.fix j b ⟨⟨_,.inl (by rw [hj];exact h)⟩,q⟩
   ·rw [Zg hj] at e1;exact F.fix j b ⟨⟨u,e1⟩,q⟩
  gg:=F.gg
  gn:=F.gn
  bp:=F.bp },sm⟩
theorem FI.change (F:FI B H G σ ρ) {ts us:List T} {ws:List V} {s':Slot} (hs:(Qa ρ i=.ow (.lst ts)∧s'=.ow (.lst us))∨(Qa ρ i=.ml (.lst ts)∧s'=.ml (.lst us))) {a:Fw} (e:σ[i]?=some (some (.ref a))) (il:IsL (dls H G) ws us) (z:us.length≤100000) :
  FI B (upd H a (.lst ws)) G σ (ρ.set i s')∧Same (dls H G) (dls (upd H a (.lst ws)) G):=F.changeO hs e ⟨z,il⟩
end
theorem QG.weak {X:Cx} {e:Fr} {t t':TG} (h:QG X e t) (q:∀ v σ H Q,t' v σ H Q→t v σ H Q):QG X e t':=⟨fun aa s σ H v u Q I r z=>h.h aa s σ H v u Q I r (q _ _ _ _ z)⟩
theorem QI.weak {X:Cx} {tg e:Fr} {t t':TI} (h:QI X tg e t) (q:∀ σ H R,t' σ H R→t σ H R):QI X tg e t':=⟨fun aa s σ H R I z=>h.h aa s σ H R I (q _ _ _ z)⟩
theorem QC.weak {X:Cx} {e:List Fr} {t t':TT} (h:QC X e t) (q:∀ σ H Q,t' σ H Q→t σ H Q):QC X e t':=⟨fun aa s σ H Q I z=>h.h aa s σ H Q I (q _ _ _ z)⟩
noncomputable def tG (tg:Tg):TG:=fun v σ H Q=>∃ B G ρ t ρ',FI B H G σ ρ∧Is (dls H G) v t∧Qdk tg t ρ=some ρ'∧∀ σ',FI B H G σ' ρ'→(∀ k a,PrvAt σ' ρ' k a→PrvAt σ ρ k a)→Q σ' H
theorem Qq1 {i:Nat} {t:T} {σ:St} {ρ ρ':En} {v:V} (h:Qba i (.fz t) ρ=some ρ'):∀ k a,PrvAt (σ.set i (some v)) ρ' k a→PrvAt σ ρ k a:=fun k a hk=>by
 obtain ⟨h1,rfl⟩:=Qj3 h
 obtain ⟨⟨u,e⟩,q⟩:=hk
 rw [Qbz] at e
 by_cases z:k=i∧i<ρ.length
 ·rw [Zf z] at e;cases e
 ·rw [Zg z] at e
  have hk:k≠i:=fun y=>z ⟨y,h1⟩
  rw [Qe4 hk] at q
  exact ⟨⟨u,e⟩,q⟩
def Qza:List Nat→TGs
 | []=>Q6b
 | i::is=>Qw6 (Qgk i) (Qza is)
section
variable {X:Cx} {e:Fr} {es:List Fr} {pos:Pos}
theorem Qap {i:Nat} (h:QG X e (Qgk i)):QG X e (tG (.nm i)):=h.weak fun v σ H Q ⟨B,G,ρ,t,ρ',F,hv,hs,q⟩=>q _ (F.setS hs hv) (Qq1 hs)
theorem Qt6 {B:Bs} {H:Hp} {G:Fw→Prop} {Q:St→Hp→Prop}:∀ {is:List Nat} {ts:List T} {xs:List V} {σ:St} {ρ ρ':En},FI B H G σ ρ→IsL (dls H G) xs ts→Qbj is ts ρ=some ρ'→(∀ σ',FI B H G σ' ρ'→(∀ k a,PrvAt σ' ρ' k a→PrvAt σ ρ k a)→Q σ' H)→Qza is xs σ H Q
 | [],[],xs,σ,ρ,ρ',F,r,e,q=>by
  cases e
  exact ⟨r.nil_inv,q σ F fun _ _ h=>h⟩
 | i::is,t::ts,xs,σ,ρ,ρ',F,r,e,q=>by
  obtain ⟨v,w,rfl,a,r⟩:=r.cons_inv
  unfold Qbj at e
  cases h:Qba i (.fz t) ρ with
  | none=>rw [h] at e;cases e
  | some ρ1 =>
   rw [h] at e
   exact ⟨v,w,rfl,Qt6 (F.setS h a) r e fun σ' F' o=>q σ' F' fun k b hk=>Qq1 h k b (o k b hk)⟩
 | [],_::_,_,_,_,_,_,_,e,_=>by cases e
 | _::_,[],_,_,_,_,_,_,e,_=>by cases e
theorem Qku:∀ {is:List Nat} {ts:List T} {ρ ρ':En},Qbj is ts ρ=some ρ'→ts.length=is.length
 | [],[],_,_,_=>rfl
 | i::is,t::ts,ρ,ρ',e=>by
  unfold Qbj at e
  cases h:Qba i (.fz t) ρ with
  | none=>rw [h] at e;cases e
  | some ρ1=>rw [h] at e;rw [Ze,Ze,Qku e]
 | [],_::_,_,_,e=>by cases e
 | _::_,[],_,_,e=>by cases e
theorem Qsq {K:Fz} {n:Nat} {is:List Nat} (h:QG X e (Q1i K n (Qza is))) (hn:is.length=n):QG X e (tG (.tp is)):=h.weak fun v σ H Q ⟨B,G,ρ,t,ρ',F,hv,hs,q⟩=>by
 cases t <;> first | (cases hs;done) | skip
 have hs:Qbj is _ ρ=some ρ':=hs
 obtain ⟨a,vs,rfl,ea,r⟩:=hv.tup_inv
 exact ⟨a,vs,rfl,SqT.of (Qs ea).2,by rw [r.length,Qku hs,hn],Qt6 F r hs q⟩
end
structure WkR (J:It) (H0:Hp) (G0:Fw→Prop) (Ok:Hp→Prop) (ts:List T):Prop where
 go:∀ i H,i<ts.length→Ok H→J.go i H
 stop:∀ i H,ts.length≤i→Ok H→J.stop i H
 yld:∀ i H x H',i<ts.length→Ok H→J.yld i H x H'→Same H H'∧∃ t,ts[i]?=some t∧∀ G,Pen H G→Same (dls H0 G0) (dls H G)→Is (dls H' G) x t
noncomputable def tW (p:Pr) (w:W):TI:=fun σ H R=>∃ G ρ,FI (Qa3 H G σ ρ) H G σ ρ∧Fin p (Qa3 H G σ ρ) σ (evW p.cf w ρ) fun ac ρ1=>ac.2=none∧∀ J H1 G1 Ok,FI (Qa3 H G σ ρ) H1 G1 σ ρ1→WkR J H1 G1 Ok ac.1→(∀ H' G',Same (dls H1 G1) (dls H' G')→Ok H')→R J H1
section
variable {X:Cx} {p:Pr} {e a b tg:Fr} {a' b' e':E} {pos p1:Pos} {K:Fz}
theorem wk_l {H:Hp} {G:Fw→Prop} {l:Fw} {vs:List V} {ts:List T} (r:IsL (dls H G) vs ts):WkR (Itl K l) H G (fun H'=>SqL K H' l vs) ts where
 go:=fun i H' hi ok=>⟨vs,_,ok,Zc (by rw [r.length];exact hi)⟩
 stop:=fun i H' hi ok=>⟨vs,ok,by rw [r.length];exact hi⟩
 yld:=fun i H' x H2 hi ok y=>by
  obtain ⟨rfl,hx⟩:=y
  obtain ⟨t,et,it⟩:=r.get (hx vs ok)
  exact ⟨Same.refl _,t,et,fun G' _ s=>it.mono s⟩
theorem wk_t {H:Hp} {G:Fw→Prop} {l:Fw} {vs:List V} {ts:List T} (r:IsL (dls H G) vs ts):WkR (Itt K l) H G (fun H'=>SqT K H' l vs) ts where
 go:=fun i H' hi ok=>⟨vs,_,ok,Zc (by rw [r.length];exact hi)⟩
 stop:=fun i H' hi ok=>⟨vs,ok,by rw [r.length];exact hi⟩
 yld:=fun i H' x H2 hi ok y=>by
  obtain ⟨rfl,hx⟩:=y
  obtain ⟨t,et,it⟩:=r.get (hx vs ok)
  exact ⟨Same.refl _,t,et,fun G' _ s=>it.mono s⟩
theorem Qcd (lo:Int) (n:Nat):(Qbh lo n).length=n:=by unfold Qbh;rw [Zd,Zb0]
theorem Qob {lo:Int} {n i:Nat} (hi:i<n):(Qbh lo n)[i]?=some (.int (lo+i)):=by
 unfold Qbh
 rw [Zab,List.getElem?_range hi]
 rfl
theorem wk_r {H:Hp} {G:Fw→Prop} {lo:Int} {n:Nat}:WkR (Itr lo n) H G (fun _=>True) (Qbh lo n) where
 go:=fun i H' hi _=>by rw [Qcd] at hi;exact hi
 stop:=fun i H' hi _=>by rw [Qcd] at hi;exact hi
 yld:=fun i H' x H2 hi _ y=>by
  rw [Qcd] at hi
  obtain ⟨rfl,rfl⟩:=y
  exact ⟨Same.refl _,_,Qob hi,fun _ _ _=>Is.int⟩
theorem Qpa (hi:Int) (n:Nat):(dnT hi n).length=n:=by unfold dnT;rw [Zd,Zb0]
theorem Q28 {hi:Int} {n i:Nat} (h:i<n):(dnT hi n)[i]?=some (.int (hi-i)):=by
 unfold dnT
 rw [Zab,List.getElem?_range h]
 rfl
theorem Qadc {H:Hp} {G:Fw→Prop} {lo:Int} {n:Nat}:WkR (Q2i lo n) H G (fun _=>True) (dnT lo n) where
 go:=fun i H' hi _=>by rw [Qpa] at hi;exact hi
 stop:=fun i H' hi _=>by rw [Qpa] at hi;exact hi
 yld:=fun i H' x H2 hi _ y=>by
  rw [Qpa] at hi
  obtain ⟨rfl,rfl⟩:=y
  exact ⟨Same.refl _,_,Q28 hi,fun _ _ _=>Is.int⟩
theorem Qeu:∀ (ts:List T) (n:Nat),(Qk9 n ts).length=ts.length
 | [],_=>rfl
 | t::ts,n=>by unfold Qk9;rw [Ze,Ze,Qeu ts]
theorem Qi2:∀ (ts:List T) (n i:Nat) (t:T),ts[i]?=some t→(Qk9 n ts)[i]?=some (.tup [.int ((n+i:Nat):Int),t])
 | [],_,_,_,e=>by simp at e
 | t::ts,n,0,u,e=>by
  simp at e
  subst e
  rfl
 | t::ts,n,i+1,u,e=>by
  rw [Zq] at e
  unfold Qk9
  rw [Zq,Qi2 ts (n+1) i u e,show n+1+i=n+(i+1) by omega]
theorem wk_e {H:Hp} {G:Fw→Prop} {l:Fw} {vs:List V} {ts:List T} (r:IsL (dls H G) vs ts):WkR (Ite K l) H G (fun H'=>SqL K H' l vs) (Qk9 0 ts) where
 go:=fun i H' hi ok=>⟨vs,_,ok,Zc (by rw [Qeu] at hi;rw [r.length];exact hi)⟩
 stop:=fun i H' hi ok=>⟨vs,ok,by rw [Qeu] at hi;rw [r.length];exact hi⟩
 yld:=fun i H' x H2 hi ok y=>by
  obtain ⟨q,x,rfl,hq,hx,rfl⟩:=y
  obtain ⟨t,et,it⟩:=r.get (hx vs ok)
  refine ⟨Same.upd hq,_,Qi2 ts 0 i t et,fun G' pn s=>?_⟩
  rw [Zak]
  exact Qd0 (pn.mono (Same.upd hq)) Qn (.cons Is.int (.one (it.mono (s.trans (Qau (Same.upd hq)))))) (by show 2≤100000;decide)
theorem Qadd {H:Hp} {G:Fw→Prop} {l:Fw} {vs:List V} {ts:List T} (r:IsL (dls H G) vs ts):WkR (Q75 K l) H G (fun H'=>SqT K H' l vs) (Qk9 0 ts) where
 go:=fun i H' hi ok=>⟨vs,_,ok,Zc (by rw [Qeu] at hi;rw [r.length];exact hi)⟩
 stop:=fun i H' hi ok=>⟨vs,ok,by rw [Qeu] at hi;rw [r.length];exact hi⟩
 yld:=fun i H' x H2 hi ok y=>by
  obtain ⟨q,x,rfl,hq,hx,rfl⟩:=y
  obtain ⟨t,et,it⟩:=r.get (hx vs ok)
  refine ⟨Same.upd hq,_,Qi2 ts 0 i t et,fun G' pn s=>?_⟩
  rw [Zak]
  exact Qd0 (pn.mono (Same.upd hq)) Qn (.cons Is.int (.one (it.mono (s.trans (Qau (Same.upd hq)))))) (by show 2≤100000;decide)
theorem Ql8:∀ (xs ys:List T),(Qgy xs ys).length=min xs.length ys.length
 | [],ys=>by unfold Qgy;simp
 | x::xs,[]=>by unfold Qgy;simp
 | x::xs,y::ys=>by unfold Qgy;rw [Ze,Ze,Ze,Ql8 xs ys];omega
theorem Qq2:∀ (xs ys:List T) (i:Nat) (x y:T),xs[i]?=some x→ys[i]?=some y→(Qgy xs ys)[i]?=some (.tup [x,y])
 | [],_,_,_,_,e,_=>by simp at e
 | _::_,[],_,_,_,_,e=>by simp at e
 | a::xs,b::ys,0,x,y,e,f=>by
  simp at e f
  subst e f
  rfl
 | a::xs,b::ys,i+1,x,y,e,f=>by
  rw [Zq] at e f
  unfold Qgy
  rw [Zq]
  exact Qq2 xs ys i x y e f
theorem Q8r {H:Hp} {G:Fw→Prop} {l m:Fw} {vs ws:List V} {ts us:List T} (r:IsL (dls H G) vs ts) (r2:IsL (dls H G) ws us) {lb lc:Bool}:WkR (Itz lb lc K l m) H G (fun H'=>SqB lb K H' l vs∧SqB lc K H' m ws) (Qgy ts us) where
 go:=fun i H' hi ok=>by
  rw [Ql8,←r.length,←r2.length] at hi
  exact ⟨vs,ws,_,_,ok.1,ok.2,Zc (by omega),Zc (by omega)⟩
 stop:=fun i H' hi ok=>by
  rw [Ql8,←r.length,←r2.length] at hi
  exact ⟨vs,ws,ok.1,ok.2,by omega⟩
 yld:=fun i H' x H2 hi ok y=>by
  obtain ⟨q,x,y,rfl,hq,hx,hy,rfl⟩:=y
  obtain ⟨t,et,it⟩:=r.get (hx vs ok.1)
  obtain ⟨u,eu,iu⟩:=r2.get (hy ws ok.2)
  refine ⟨Same.upd hq,_,Qq2 ts us i t u et eu,fun G' pn s=>?_⟩
  exact Qd0 (pn.mono (Same.upd hq)) Qn (.cons (it.mono (s.trans (Qau (Same.upd hq)))) (.one (iu.mono (s.trans (Qau (Same.upd hq)))))) (by show 2≤100000;decide)
theorem Ql9 {r:PV} {ρ:En} {t:T} (h:Qet r=none) (e:cont ρ r=some t):frz r=some t:=by
 cases r with
 | fz t=>exact e
 | ow t=>exact e
 | sl i=>cases h
theorem Qb7 (hK:X.K=K) (ha:QE X e (tE p e')):QI X tg e (tW p (.seq e')):=(Q4z K hK ha).weak fun σ H R ⟨G,ρ,F,h⟩=>by
 unfold evW at h
 refine ⟨G,ρ,F,h.bind.imp fun r ρ1 h1 v H1 G1 F1 r1=>?_⟩
 cases ec:cont ρ1 r with
 | none=>rw [ec] at h1;exact Zef h1
 | some t =>
  rw [ec] at h1
  cases es:Qdj t with
  | none =>
   replace h1:Fin p (Qa3 H G σ ρ) σ (match Qdj t with | some ts=>.ok (ts,Qet r) ρ1 | none=>.no) _:=h1
   rw [es] at h1
   exact Zef h1
  | some ts =>
   replace h1:Fin p (Qa3 H G σ ρ) σ (match Qdj t with | some ts=>.ok (ts,Qet r) ρ1 | none=>.no) _:=h1
   rw [es] at h1
   obtain ⟨hn,k⟩:=h1
   obtain ⟨G',F',hv,_⟩:=PVR.lay (B:=Qa3 H G σ ρ) r1 F1 (Ql9 hn ec)
   cases t <;> first | (cases es;done) | skip
   ·cases es
    obtain ⟨l,vs,rfl,el,rl⟩:=hv.tup_inv
    exact ⟨l,rfl,.inr ⟨⟨vs,SqT.of (Qs el).2⟩,k _ H1 G' _ F' (wk_t rl) fun H' G2 s=>SqT.of (Qs (s _ _ el)).2⟩⟩
   ·cases es
    obtain ⟨l,vs,rfl,el,rl⟩:=hv.lst_inv
    exact ⟨l,rfl,.inl ⟨⟨vs,SqL.of (Qs el).2⟩,k _ H1 G' _ F' (wk_l rl) fun H' G2 s=>SqL.of (Qs (s _ _ el)).2⟩⟩
theorem Q29 (hm:X.mg "range" = none) (ha:QE X a (tE p a')) (hg:Gl X "range") (hs:Qo a=true):QI X tg (.Call (.Name "range" p1) [a] [] pos) (tW p (.rng1 a')):=(Q7h hm (Qr ha Qbg hs) hg hs).weak fun σ H R ⟨G,ρ,F,h⟩=>by
 unfold evW at h
 refine ⟨G,ρ,F,h.bind.imp fun r ρ1 h1 v H1 G1 F1 r1=>?_⟩
 cases r with
 | ow t=>exact Zef h1
 | sl i=>exact Zef h1
 | fz t =>
  cases t <;> first | exact Zef h1 | skip
  rename_i j
  replace h1:Fin p (Qa3 H G σ ρ) σ (if j.natAbs≤100000 then .ok (Qbh 0 j.toNat,none) ρ1 else .no) _:=h1
  by_cases z:j.natAbs≤100000
  ·rw [Zf z] at h1
   obtain rfl:=r1.is.int_inv
   exact ⟨j,rfl,by omega,by omega,h1.2 _ H1 G1 _ F1 wk_r fun _ _ _=>trivial⟩
  ·rw [Zg z] at h1;exact Zef h1
theorem sw_rng2 (hm:X.mg "range" = none) (ha:QE X a (tE p a')) (hb:QE X b (tE p b')) (hg:Gl X "range") (hs:Qo a=true) (ao:Qo b=true):QI X tg (.Call (.Name "range" p1) [a,b] [] pos) (tW p (.rng2 a' b')):=(Q7i hm (Qr ha (Qr hb Qbg ao) hs) hg hs ao).weak fun σ H R ⟨G,ρ,F,h⟩=>by
 unfold evW at h
 refine tE2 F h fun ra rb ρ2 x y H2 G2 F2 r1 r2 h2=>?_
 cases ra with
 | ow t=>cases rb <;> exact Zef h2
 | sl i=>cases rb <;> exact Zef h2
 | fz t =>
  cases rb with
  | ow u=>cases t <;> exact Zef h2
  | sl i=>cases t <;> exact Zef h2
  | fz u =>
   cases t <;> first | exact Zef h2 | skip
   cases u <;> first | exact Zef h2 | skip
   rename_i i j
   replace h2:Fin p (Qa3 H G σ ρ) σ (if i.natAbs≤100000∧j.natAbs≤100000 then .ok (Qbh i (j-i).toNat,none) ρ2 else .no) _:=h2
   by_cases z:i.natAbs≤100000∧j.natAbs≤100000
   ·rw [Zf z] at h2
    obtain rfl:=r1.is.int_inv
    obtain rfl:=r2.is.int_inv
    exact ⟨i,j,rfl,⟨by omega,by omega,by omega,by omega⟩,h2.2 _ H2 G2 _ F2 wk_r fun _ _ _=>trivial⟩
   ·rw [Zg z] at h2;exact Zef h2
theorem Q3a {j1:Nat} {p2 p3:Pos} (hm:X.mg "range" = none) (ha:QE X a (tE p a')) (hb:QE X b (tE p b')) (hg:Gl X "range") (hs:Qo a=true) (ao:Qo b=true):QI X tg (.Call (.Name "range" p1) [a,b,.UnaryOp .USub (.Constant (.int 1) j1 p2) p3] [] pos) (tW p (.rngD a' b')):=(Q7q hm (Qr ha (Qr hb (Qr (Q7e Qx6 Qkr) Qbg rfl) ao) hs) hg hs ao rfl).weak fun σ H R ⟨G,ρ,F,h⟩=>by
 unfold evW at h
 refine tE2 F h fun ra rb ρ2 x y H2 G2 F2 r1 r2 h2=>?_
 cases ra with
 | ow t=>cases rb <;> exact Zef h2
 | sl i=>cases rb <;> exact Zef h2
 | fz t =>
  cases rb with
  | ow u=>cases t <;> exact Zef h2
  | sl i=>cases t <;> exact Zef h2
  | fz u =>
   cases t <;> first | exact Zef h2 | skip
   cases u <;> first | exact Zef h2 | skip
   rename_i i j
   replace h2:Fin p (Qa3 H G σ ρ) σ (if i.natAbs≤100000∧j.natAbs≤100000 then .ok (dnT i (i-j).toNat,none) ρ2 else .no) _:=h2
   by_cases z:i.natAbs≤100000∧j.natAbs≤100000
   ·rw [Zf z] at h2
    obtain rfl:=r1.is.int_inv
    obtain rfl:=r2.is.int_inv
    exact ⟨1,rfl,i,j,rfl,⟨by omega,by omega,by omega,by omega⟩,h2.2 _ H2 G2 _ F2 Qadc fun _ _ _=>trivial⟩
   ·rw [Zg z] at h2;exact Zef h2
theorem Q8s {es:List Fr} {x1} {tp:Pos} (hK:X.K=K) (hm:X.mg "enumerate" = none) (hb:PySem.bootBuiltins "enumerate" = some (.type "enumerate")) (ha:QE X a (tE p a')) (hg:Gl X "enumerate") (hs:Qo a=true):QI X (.Tuple es x1 tp) (.Call (.Name "enumerate" p1) [a] [] pos) (tW p (.enm a')):=(Q2p K hK hm hb (Qr ha Qbg hs) hg hs).weak fun σ H R ⟨G,ρ,F,h⟩=>by
 unfold evW at h
 refine ⟨G,ρ,F,h.bind.imp fun r ρ1 h1 v H1 G1 F1 r1=>?_⟩
 cases ec:cont ρ1 r with
 | none=>rw [ec] at h1;exact Zef h1
 | some t =>
  rw [ec] at h1
  cases t <;> first | exact Zef h1 | skip
  ·obtain ⟨hn,k⟩:=h1
   obtain ⟨G',F',hv,_⟩:=PVR.lay (B:=Qa3 H G σ ρ) r1 F1 (Ql9 hn ec)
   obtain ⟨l,vs,rfl,el,rl⟩:=hv.tup_inv
   exact ⟨l,vs,rfl,.inr ⟨SqT.of (Qs el).2,k _ H1 G' _ F' (Qadd rl) fun H' G2 s=>SqT.of (Qs (s _ _ el)).2⟩⟩
  ·obtain ⟨hn,k⟩:=h1
   obtain ⟨G',F',hv,_⟩:=PVR.lay (B:=Qa3 H G σ ρ) r1 F1 (Ql9 hn ec)
   obtain ⟨l,vs,rfl,el,rl⟩:=hv.lst_inv
   exact ⟨l,vs,rfl,.inl ⟨SqL.of (Qs el).2,k _ H1 G' _ F' (wk_e rl) fun H' G2 s=>SqL.of (Qs (s _ _ el)).2⟩⟩
theorem Q8t {es:List Fr} {x1} {tp:Pos} (hK:X.K=K) (hm:X.mg "zip" = none) (hb:PySem.bootBuiltins "zip" = some (.type "zip")) (ha:QE X a (tE p a')) (cA:QE X b (tE p b')) (hg:Gl X "zip") (hs:Qo a=true) (ao:Qo b=true):QI X (.Tuple es x1 tp) (.Call (.Name "zip" p1) [a,b] [] pos) (tW p (.zip a' b')):=(Qacj K hK hm hb (Qr ha (Qr cA Qbg ao) hs) hg hs ao).weak fun σ H R ⟨G,ρ,F,h⟩=>by
 unfold evW at h
 refine tE2 F h fun ra rb ρ2 x y H2 G2 F2 r1 r2 h2=>?_
 cases ra with
 | ow t=>cases rb <;> exact Zef h2
 | sl i=>cases rb <;> exact Zef h2
 | fz t =>
  cases rb with
  | ow u=>cases t <;> exact Zef h2
  | sl i=>cases t <;> exact Zef h2
  | fz u =>
   cases t <;> first | exact Zef h2 | skip
   ·cases u <;> first | exact Zef h2 | skip
    obtain ⟨l,vs,rfl,el,rl⟩:=r1.is.tup_inv
    obtain ⟨m,ws,rfl,em,rm⟩:=r2.is.tup_inv
    exact ⟨false,false,l,m,vs,ws,rfl,SqT.of (Qs el).2,SqT.of (Qs em).2,h2.2 _ H2 G2 _ F2 (Q8r (lb:=false) (lc:=false) rl rm) fun H' G3 s=>⟨SqT.of (Qs (s _ _ el)).2,SqT.of (Qs (s _ _ em)).2⟩⟩
   ·cases u <;> first | exact Zef h2 | skip
    ·obtain ⟨l,vs,rfl,el,rl⟩:=r1.is.lst_inv
     obtain ⟨m,ws,rfl,em,rm⟩:=r2.is.tup_inv
     exact ⟨true,false,l,m,vs,ws,rfl,SqL.of (Qs el).2,SqT.of (Qs em).2,h2.2 _ H2 G2 _ F2 (Q8r (lb:=true) (lc:=false) rl rm) fun H' G3 s=>⟨SqL.of (Qs (s _ _ el)).2,SqT.of (Qs (s _ _ em)).2⟩⟩
    ·obtain ⟨l,vs,rfl,el,rl⟩:=r1.is.lst_inv
     obtain ⟨m,ws,rfl,em,rm⟩:=r2.is.lst_inv
     exact ⟨true,true,l,m,vs,ws,rfl,SqL.of (Qs el).2,SqL.of (Qs em).2,h2.2 _ H2 G2 _ F2 (Q8r (lb:=true) (lc:=true) rl rm) fun H' G3 s=>⟨SqL.of (Qs (s _ _ el)).2,SqL.of (Qs (s _ _ em)).2⟩⟩
end
theorem Qd7 (js:List (Option Nat)) (ρ:En) (k:Nat):Qa (Qd6 js ρ) k=match js[k]? with
  | some (some j)=>(Qa ρ j).lend
  | _=>.un:=by
 show (match (js.map fun o=>match o with | none=>Slot.un | some j=>(Qa ρ j).lend)[k]? with | some s=>s | none=>Slot.un)=_
 rw [Zab]
 cases js[k]? with
 | none=>rfl
 | some o=>cases o <;> rfl
theorem Qi3 (js:List (Option Nat)) (σ:St) (k:Nat):(Qfq js σ)[k]?=match js[k]? with
  | some (some j)=>some ((σ[j]?).join)
  | some none=>some none
  | none=>none:=by
 unfold Qfq
 rw [Zab]
 cases js[k]? with
 | none=>rfl
 | some o=>cases o <;> rfl
theorem Qgz (js:List (Option Nat)) (ρi:En):∀ (ρ:En) (n j:Nat),Qa (Qd1 js ρi n ρ) j=if j<ρ.length then Qh0 js ρi (n+j) (Qa ρ j) else .un
 | [],n,j=>by
  unfold Qd1
  rw [Zg (by simp),Qf6]
 | s::ρ,n,0=>by unfold Qd1;rw [Zf (by simp)];rfl
 | s::ρ,n,j+1=>by
  unfold Qd1
  rw [Qd,Qd,Qgz js ρi ρ (n+1) j,show n+1+j=n+(j+1) by omega]
  by_cases h:j<ρ.length
  ·rw [Zf h,Zf (by rw [Ze];omega)]
  ·rw [Zg h,Zg (by rw [Ze];omega)]
theorem Qkv (js:List (Option Nat)) (ρi:En):∀ (ρ:En) (n:Nat),(Qd1 js ρi n ρ).length=ρ.length
 | [],_=>rfl
 | s::ρ,n=>by unfold Qd1;rw [Ze,Ze,Qkv js ρi ρ (n+1)]
theorem Qd8 (js:List (Option Nat)) (ρi:En) (j:Nat) (s:Slot):Qh0 js ρi j s=s∨∃ k t,js.idxOf? (some j)=some k∧Qa ρi k=.ml t∧Qh0 js ρi j s=s.put t:=by
 unfold Qh0
 cases h1:js.idxOf? (some j) with
 | none=>exact .inl rfl
 | some k =>
  cases h2:Qa ρi k with
  | ml t=>exact .inr ⟨k,t,rfl,h2,by simp only [h2]⟩
  | un=>exact .inl (by simp only [h2])
  | pin _=>exact .inl (by simp only [h2])
  | fx _=>exact .inl (by simp only [h2])
  | fz t=>exact .inl (by simp only [h2])
  | ow t=>exact .inl (by simp only [h2])
  | ro t=>exact .inl (by simp only [h2])
theorem Qg0 (js:List (Option Nat)) (ρi ρ:En) (j:Nat):Qa (Qlz js ρi ρ) j=Qh0 js ρi j (Qa ρ j):=by
 unfold Qlz
 rw [Qgz,Zak]
 by_cases h:j<ρ.length
 ·rw [Zf h]
 ·rw [Zg h]
  have e:Qa ρ j=.un:=by
   unfold Qa
   rw [List.getElem?_eq_none_iff.mpr (by omega)]
  rw [e]
  rcases Qd8 js ρi j .un with z | ⟨k,t,_,_,z⟩ <;> rw [z] <;> rfl
theorem Q3b:∀ {js:List (Option Nat)} {j k:Nat},js.idxOf? (some j)=some k→js[k]?=some (some j):=by
 intro js j k h
 have:=List.idxOf?_eq_some_iff.mp h
 obtain ⟨h1,h2,_⟩:=this
 rw [Zc h1,h2]
theorem Qzb {js:List (Option Nat)} {j k:Nat} (h:js.idxOf? (some j)=none):js[k]?≠some (some j):=fun e=>by
 have:=List.idxOf?_eq_none_iff.mp h
 exact this (Z1 e)
theorem Qma:∀ {js:List (Option Nat)},Qcn js=true→∀ (i k j:Nat),js[i]?=some (some j)→js[k]?=some (some j)→i=k
 | [],_,i,k,j,e,_=>by simp at e
 | r::js,h,i,k,j,e1,e2=>by
  have tl:Qcn js=true:=by
   cases r with
   | some q=>unfold Qcn at h;rw [Zt] at h;exact h.2
   | none=>exact h
  have hd:∀ (m:Nat),r=some j→js[m]?=some (some j)→False:=fun m er em=>by
   subst er
   unfold Qcn at h
   rw [Zt] at h
   have q:=Zah.mp h.1 _ (Z1 em)
   simp at q
  cases i with
  | zero =>
   cases k with
   | zero=>rfl
   | succ k=>simp at e1;rw [Zq] at e2;exact (hd k e1 e2).elim
  | succ i =>
   cases k with
   | zero=>simp at e2;rw [Zq] at e1;exact (hd i e2 e1).elim
   | succ k =>
    rw [Zq] at e1 e2
    rw [Qma tl i k j e1 e2]
theorem Qoc:∀ {ρ0 ρ:En},Qfs ρ0 ρ=true→∀ (i:Nat) (t:T),Qa ρ0 i=.ml t→∃ t',Qa ρ i=.ml t'
 | [],[],_,i,t,e=>by rw [Qf6] at e;cases e
 | [],_::_,h,_,_,_=>by cases h
 | s0::ρ0,[],h,_,_,_=>by cases s0 <;> cases h
 | s0::ρ0,s::ρ,h,i,t,e=>by
  have tl:Qfs ρ0 ρ=true:=by
   cases s0 <;> first | exact h | skip
   unfold Qfs at h
   rw [Zt] at h
   exact h.2
  cases i with
  | zero =>
   rw [Qb] at e
   subst e
   unfold Qfs at h
   rw [Zt] at h
   cases s <;> first | (simp at h;done) | exact ⟨_,rfl⟩
  | succ i =>
   rw [Qd] at e ⊢
   exact Qoc tl i t e
section
variable {B:Bs} {H H1 H2:Hp} {G G1 G2:Fw→Prop} {σ σ2:St} {ρ ρi:En} {js:List (Option Nat)}
theorem Qzc {s:Slot} {t:T} (h:s.lend.prv=some t):s.prv=some t:=by cases s <;> exact h
theorem FI.cap (F:FI B H G σ ρ) (hj:Qcn js=true):FI (Qa3 H G (Qfq js σ) (Qd6 js ρ)) H G (Qfq js σ) (Qd6 js ρ):=by
 have pv:∀ k a,PrvAt (Qfq js σ) (Qd6 js ρ) k a→∃ j,js[k]?=some (some j)∧PrvAt σ ρ j a:=fun k a h=>by
  obtain ⟨⟨t,e⟩,q⟩:=h
  rw [Qd7] at e
  rw [Qi3] at q
  cases hk:js[k]? with
  | none=>rw [hk] at e;cases e
  | some o =>
   cases o with
   | none=>rw [hk] at e;cases e
   | some j =>
    rw [hk] at e q
    refine ⟨j,rfl,⟨t,Qzc e⟩,?_⟩
    replace q:some (σ[j]?.join)=some (some (.ref a)):=q
    cases hs:σ[j]? with
    | none=>rw [hs] at q;cases q
    | some w=>rw [hs] at q;exact q
 refine ⟨by unfold Qfq Qd6;rw [Zd,Zd],fun k=>?_,fun i k a h1 h2=>?_,F.prv,fun _ _ _ _ e=>e,fun _ o e=>⟨o,e⟩,fun _ h=>.inr h,fun _ h=>h,fun _ _ h=>h,fun _ h=>h,fun _ h=>.inl h,fun b h=>let ⟨xs,e,_⟩:=F.prv b h;⟨_,e⟩⟩
 ·rw [Qd7]
  cases hk:js[k]? with
  | none=>trivial
  | some o =>
   cases o with
   | none=>trivial
   | some j =>
    have q:=F.slot j
    have gt:∀ v,σ[j]?=some (some v)→(Qfq js σ)[k]?=some (some v):=fun v e=>by
     rw [Qi3,hk]
     show some (σ[j]?.join)=_
     rw [e]
     rfl
    show Ql1 H G (Qfq js σ) k (Qa ρ j).lend
    cases hs:Qa ρ j with
    | un=>trivial
    | pin a=>trivial
    | fx t=>rw [hs] at q;obtain ⟨v,o,e,_,i⟩:=q;exact ⟨_,gt _ e,i⟩
    | fz t=>rw [hs] at q;obtain ⟨v,e,i⟩:=q;exact ⟨v,gt _ e,i⟩
    | ow t=>rw [hs] at q;obtain ⟨v,e,i⟩:=q;exact ⟨v,gt _ e,i⟩
    | ml t=>rw [hs] at q;obtain ⟨v,e,i⟩:=q;exact ⟨v,gt _ e,i⟩
    | ro t=>rw [hs] at q;obtain ⟨v,e,i⟩:=q;exact ⟨v,gt _ e,i⟩
 ·obtain ⟨j1,e1,p1⟩:=pv i a h1
  obtain ⟨j2,e2,p2⟩:=pv k a h2
  have ej:=F.apart j1 j2 a p1 p2
  subst ej
  exact Qma hj i k j1 e1 e2
theorem FI.uncap (F:FI B H G σ ρ) (hj:Qcn js=true) (I:FI (Qa3 H G (Qfq js σ) (Qd6 js ρ)) H2 G2 σ2 ρi) (hk:Qfs (Qd6 js ρ) ρi=true):FI B H2 G2 σ (Qlz js ρi ρ):=by
 have Fc:=F.cap hj
 have sm:=Fc.same I
 have gZ:∀ a,¬ OwA (Qfq js σ) (Qd6 js ρ) a:=fun a h=>by
  obtain ⟨k,t,e,_⟩:=h
  rw [Qd7] at e
  cases hk:js[k]? with
  | none=>rw [hk] at e;cases e
  | some o =>
   cases o with
   | none=>rw [hk] at e;cases e
   | some j =>
    rw [hk] at e
    have e:(Qa ρ j).lend=.ow t:=e
    cases hs:Qa ρ j <;> rw [hs] at e <;> cases e
 have gL:∀ a,MlA (Qfq js σ) (Qd6 js ρ) a→∃ (k j:Nat) (t:T),js[k]?=some (some j)∧(Qa ρ j=.ow t∨Qa ρ j=.ml t)∧σ[j]?=some (some (.ref a)):=fun a h=>by
  obtain ⟨k,t,e,q⟩:=h
  rw [Qd7] at e
  rw [Qi3] at q
  cases hk:js[k]? with
  | none=>rw [hk] at e;cases e
  | some o =>
   cases o with
   | none=>rw [hk] at e;cases e
   | some j =>
    rw [hk] at e q
    have e:(Qa ρ j).lend=.ml t:=e
    refine ⟨k,j,t,hk,?_,?_⟩
    ·cases hs:Qa ρ j <;> rw [hs] at e <;> cases e
     ·exact .inl rfl
     ·exact .inr rfl
    ·replace q:some (σ[j]?.join)=some (some (.ref a)):=q
     cases hs:σ[j]? with
     | none=>rw [hs] at q;cases q
     | some w=>rw [hs] at q;exact q
 -- a list of the frame that the block can't change
 have stay:∀ j a t,(Qa ρ j).prv=some t→σ[j]?=some (some (.ref a))→OwnAt H G a t→((∀ t,Qa ρ j≠.ow t)∧(∀ t,Qa ρ j≠.ml t)∨js.idxOf? (some j)=none)→OwnAt H2 G2 a t:=fun j a t e s o h=>by
  refine o.mono sm fun u eu=>I.chg a u (gZ a) (fun z=>?_) eu
  obtain ⟨k,j',t',e1,hs,e2⟩:=gL a z
  have ej:j'=j:=F.apart j' j a ⟨⟨t',by rcases hs with hs | hs <;> rw [hs] <;> rfl⟩,e2⟩ ⟨⟨t,e⟩,s⟩
  subst ej
  rcases h with ⟨h1,h2⟩ | h
  ·rcases hs with hs | hs
   ·exact h1 _ hs
   ·exact h2 _ hs
  ·exact Qzb h e1
 -- one that it may
 have bt:∀ j a t k,(Qa ρ j=.ow t∨Qa ρ j=.ml t)→σ[j]?=some (some (.ref a))→js.idxOf? (some j)=some k→∃ t',Qa ρi k=.ml t'∧OwnAt H2 G2 a t':=fun j a t k hs s hx=>by
  have e1:=Q3b hx
  have e0:Qa (Qd6 js ρ) k=.ml t:=by
   rw [Qd7,e1]
   show (Qa ρ j).lend=_
   rcases hs with hs | hs <;> rw [hs] <;> rfl
  obtain ⟨t',e2⟩:=Qoc hk k t e0
  have q:=I.slot k
  rw [e2] at q
  obtain ⟨a',q1,_,q3⟩:=q
  obtain ⟨_,q4⟩:=I.fix k a' ⟨⟨t',.inl e2⟩,q1⟩
  rw [Qi3,e1] at q4
  replace q4:some (σ[j]?.join)=some (some (.ref a')):=q4
  rw [s] at q4
  have q5:a=a':=by
   have:=Zr q4
   have:=Zr (show some (V.ref a)=some (V.ref a') from this)
   cases this
   rfl
  subst q5
  exact ⟨t',e2,q3⟩
 have kd:∀ j s',Qa (Qlz js ρi ρ) j=s'→(s'=Qa ρ j∨∃ t,s'=(Qa ρ j).put t):=fun j s' h=>by
  rw [Qg0] at h
  rcases Qd8 js ρi j (Qa ρ j) with z | ⟨k,t,_,_,z⟩
  ·rw [z] at h;exact .inl h.symm
  ·rw [z] at h;exact .inr ⟨t,h.symm⟩
 have pv:∀ j a,PrvAt σ (Qlz js ρi ρ) j a→PrvAt σ ρ j a:=fun j a h=>by
  obtain ⟨⟨u,e⟩,q⟩:=h
  refine ⟨?_,q⟩
  rcases kd j _ rfl with z | ⟨t,z⟩
  ·rw [z] at e;exact ⟨u,e⟩
  ·rw [z] at e;exact Qo9 e
 exact {
  len:=by unfold Qlz;rw [Qkv];exact F.len
  slot:=fun j=>by
   have q:=F.slot j
   have bc:=Qd8 js ρi j (Qa ρ j)
   rw [Qg0]
   cases hs:Qa ρ j with
   | un =>
    rw [hs] at bc
    rcases bc with e | ⟨k,t,_,_,e⟩ <;> rw [e] <;> trivial
   | pin a =>
    rw [hs] at q bc
    rcases bc with e | ⟨k,t,_,_,e⟩ <;> rw [e] <;> exact q
   | fz t =>
    rw [hs] at q bc
    obtain ⟨v,e1,e2⟩:=q
    rcases bc with e | ⟨k,t,_,_,e⟩ <;> rw [e] <;> exact ⟨v,e1,e2.mono sm⟩
   | fx t =>
    rw [hs] at q bc
    obtain ⟨v,o,e1,e3,e2⟩:=q
    rcases bc with e | ⟨k,t,_,_,e⟩ <;> rw [e] <;> exact ⟨v,o,e1,sm _ _ e3,e2.mono sm⟩
   | ro t =>
    rw [hs] at q bc
    obtain ⟨a,e1,g,o⟩:=q
    have o':=stay j a t (by rw [hs];rfl) e1 o (.inl ⟨fun t z=>(by rw [hs] at z;cases z),fun t z=>(by rw [hs] at z;cases z)⟩)
    rcases bc with e | ⟨k,t,_,_,e⟩ <;> rw [e] <;> exact ⟨a,e1,I.gg a g,o'⟩
   | ow t =>
    rw [hs] at q bc
    obtain ⟨a,e1,g,o⟩:=q
    cases hp:js.idxOf? (some j) with
    | none =>
     have o':=stay j a t (by rw [hs];rfl) e1 o (.inr hp)
     rcases bc with e | ⟨k,t',h,_,e⟩
     ·rw [e];exact ⟨a,e1,I.gg a g,o'⟩
     ·rw [hp] at h;cases h
    | some k =>
     obtain ⟨t',ef,o'⟩:=bt j a t k (.inl hs) e1 hp
     have e:Qh0 js ρi j (.ow t)=.ow t':=by unfold Qh0;rw [hp];simp only [ef];rfl
     rw [e]
     exact ⟨a,e1,I.gg a g,o'⟩
   | ml t =>
    rw [hs] at q bc
    obtain ⟨a,e1,g,o⟩:=q
    cases hp:js.idxOf? (some j) with
    | none =>
     have o':=stay j a t (by rw [hs];rfl) e1 o (.inr hp)
     rcases bc with e | ⟨k,t',h,_,e⟩
     ·rw [e];exact ⟨a,e1,I.gg a g,o'⟩
     ·rw [hp] at h;cases h
    | some k =>
     obtain ⟨t',ef,o'⟩:=bt j a t k (.inr hs) e1 hp
     have e:Qh0 js ρi j (.ml t)=.ml t':=by unfold Qh0;rw [hp];simp only [ef];rfl
     rw [e]
     exact ⟨a,e1,I.gg a g,o'⟩
  apart:=fun i j a h1 h2=>F.apart i j a (pv i a h1) (pv j a h2)
  prv:=I.prv
  chg:=fun b o h1 h2 e=>I.chg b o (gZ b) (fun z=>by
   obtain ⟨k,j,t,_,hs,q⟩:=gL b z
   rcases hs with hs | hs
   ·rcases F.newO b ⟨j,t,hs,q⟩ with y | y
    ·rw [e] at y;cases y
    ·exact h1 y
   ·exact h2 (F.newM b ⟨j,t,hs,q⟩)) (F.chg b o h1 h2 e)
  keep:=fun b o e=>by
   obtain ⟨o1,e1⟩:=F.keep b o e
   exact I.keep b o1 e1
  newO:=fun a h=>by
   obtain ⟨j,t,e,s⟩:=h
   rcases kd j _ e with z | ⟨u,z⟩
   ·exact F.newO a ⟨j,t,z.symm,s⟩
   ·cases hs:Qa ρ j <;> rw [hs] at z <;> cases z
    exact F.newO a ⟨j,_,hs,s⟩
  newM:=fun a h=>by
   obtain ⟨j,t,e,s⟩:=h
   rcases kd j _ e with z | ⟨u,z⟩
   ·exact F.newM a ⟨j,t,z.symm,s⟩
   ·cases hs:Qa ρ j <;> rw [hs] at z <;> cases z
    exact F.newM a ⟨j,_,hs,s⟩
  fix:=fun j a h=>by
   obtain ⟨⟨t,e⟩,s⟩:=h
   refine F.fix j a ⟨?_,s⟩
   rcases e with e | e | e
   ·rcases kd j _ e with z | ⟨u,z⟩
    ·exact ⟨t,.inl z.symm⟩
    ·cases hs:Qa ρ j <;> rw [hs] at z <;> cases z
     exact ⟨_,.inl rfl⟩
   ·rcases kd j _ e with z | ⟨u,z⟩
    ·exact ⟨t,.inr (.inl z.symm)⟩
    ·cases hs:Qa ρ j <;> rw [hs] at z <;> cases z
     exact ⟨_,.inr (.inl rfl)⟩
   ·rcases kd j _ e with z | ⟨u,z⟩
    ·exact ⟨t,.inr (.inr z.symm)⟩
    ·cases hs:Qa ρ j <;> rw [hs] at z <;> cases z
     exact ⟨_,.inr (.inr rfl)⟩
  gg:=fun b h=>I.gg b (F.gg b h)
  gn:=fun b h=>by
   rcases I.gn b h with z | z
   ·exact F.gn b z
   ·exact .inr (F.free z)
  bp:=F.bp }
end
noncomputable def tCs (p:Pr) (cs:Es):TT:=fun σ H Q=>∃ G ρ,FI (Qa3 H G σ ρ) H G σ ρ∧Fin p (Qa3 H G σ ρ) σ (evC p.cf cs ρ) fun b ρ1=>∀ H1 G1,FI (Qa3 H G σ ρ) H1 G1 σ ρ1→Q b H1
section
variable {X:Cx} {p:Pr} {a:Fr} {a':E}
theorem Qev:QC X [] (tCs p .nil):=q_c0.weak fun σ H Q ⟨G,ρ,F,h⟩=>by unfold evC at h;exact h H G F
theorem Q8u (ha:QT X a (tT p a')):QC X [a] (tCs p (.cons a' .nil)):=(q_c1 ha).weak fun σ H Q ⟨G,ρ,F,h⟩=>by unfold evC at h;exact ⟨G,ρ,F,h⟩
end
abbrev Pr.calm (p:Pr):Pr:={ p with R:=fun _ _ _ _=>False }
theorem Qt7 {α β:Type} {o:Out α} {k:α→En→Out β} {b:β} {ρ:En} (h:o.bind k=.ok b ρ):∃ a ρ1,o=.ok a ρ1∧k a ρ1=.ok b ρ:=by
 cases o with
 | ok a ρ1=>exact ⟨a,ρ1,rfl,h⟩
 | xn x ρ1=>cases h
 | no=>cases h
theorem FI.under {B:Bs} {H:Hp} {G:Fw→Prop} {σ:St} {ρ:En} (F:FI B H G σ ρ) {l:Fw} {ys:List V} (g:G l) (np:∀ k,¬ PrvAt σ ρ k l) (hb:B.H l=none):FI B (upd H l (.lst ys)) G σ ρ∧Same (dls H G) (dls (upd H l (.lst ys)) G):=by
 have sm:Same (dls H G) (dls (upd H l (.lst ys)) G):=fun b o eb=>by
  obtain ⟨n,eb⟩:=Qs eb
  rw [Qby n,Q7 (fun (z:b=l)=>n (by rw [z];exact g))]
  exact eb
 refine ⟨{ F with
  slot:=fun j=>Qh9 (F.slot j) sm fun b o dJ eE eb=>?_
  prv:=fun b hb=>?_
  chg:=fun b o h1 h2 eb=>?_
  keep:=fun b o eb=>?_ },sm⟩
 ·have nb:b≠l:=fun z=>np j ⟨dJ,z ▸ eE⟩
  exact ⟨by rw [Q7 nb];exact eb,(PrvAt.at F ⟨dJ,eE⟩).1⟩
 ·by_cases h:b=l
  ·exact ⟨.lst ys,by rw [h,Qn],rfl⟩
  ·rw [Q7 h];exact F.prv b hb
 ·have nb:b≠l:=fun z=>by rw [z,hb] at eb;cases eb
  rw [Q7 nb]
  exact F.chg b o h1 h2 eb
 ·by_cases h:b=l
  ·exact ⟨_,by rw [h,Qn]⟩
  ·rw [Q7 h];exact F.keep b o eb
theorem Qt8 {p:Pr} {js:List (Option Nat)} {w:W} {tg:Tg} {cs:Es} {e':E} {σ:St} {H:Hp} {Q:VK} (h:tE p (.comp w js tg cs e') σ H Q):Qqd (tW p w) js (tG tg) (tCs p.calm cs) (tE p.calm e') σ H Q:=by
  obtain ⟨G,ρ,F,h⟩:=h
  unfold evE at h
  refine ⟨G,ρ,F,h.bind.imp fun ac ρ1 h1=>?_⟩
  obtain ⟨ts,lk⟩:=ac
  cases lk with
  | some _=>exact Zef h1
  | none =>
   refine ⟨rfl,fun J H1 G1 Ok F1 wk dv l hl=>?_⟩
   replace wk:WkR J H1 G1 Ok ts:=wk
   replace h1:Fin p (Qa3 H G σ ρ) σ (match Qei tg (evC p.cf cs) (evE p.cf e') ts [] (Qd6 js ρ1) with
    | .ok us ρi=>if Qfs (Qd6 js ρ1) ρi=true∧Qcn js=true then Out.ok (PV.ow (.lst us)) (Qlz js ρi ρ1) else .no
    | _=>.no) _:=h1
   cases ec:Qei tg (evC p.cf cs) (evE p.cf e') ts [] (Qd6 js ρ1) with
   | no=>rw [ec] at h1;exact Zef h1
   | xn x ρx=>rw [ec] at h1;exact Zef h1
   | ok tsF ρF =>
    rw [ec] at h1
    by_cases hz:Qfs (Qd6 js ρ1) ρF=true∧Qcn js=true
    ·simp only [Zf hz] at h1
     obtain ⟨ee,cL⟩:=hz
     have Fc:=F1.cap cL
     refine ⟨fun i m ys σ2 H2=>i+m=ts.length∧∃ G2 ρi acc,FI (Qa3 H1 G1 (Qfq js σ) (Qd6 js ρ1)) H2 G2 σ2 ρi∧G2 l∧(∀ k,¬ PrvAt σ2 ρi k l)∧H2 l=some (.lst ys)∧IsL (dls H2 G2) ys acc∧acc.length≤100000 ∧
      Qei tg (evC p.cf cs) (evE p.cf e') (ts.drop i) acc ρi=.ok tsF ρF,⟨ts.length,Zak _,_,_,[],Fc.addG hl (Same.upd hl) Qn rfl,.inr rfl,fun k hk=>?_,Qn,.nil,Zb7 _,ec⟩,?_⟩
     ·obtain ⟨_,t,ob,ea,_⟩:=PrvAt.at Fc hk
      rw [hl] at ea
      cases ea
     rintro i m ys σ2 H2 ⟨fH,G2,ρi,acc,I2,gl,np,el,il,zl,cl⟩
     have dr:Ok H2:=dv H2 G2 (Fc.same I2)
     by_cases aN:i<ts.length
     ·refine .inr ⟨wk.go i H2 aN dr,fun x H3 y=>?_⟩
      obtain ⟨s3,t,et,ix⟩:=wk.yld i H2 x H3 aN dr y
      have I3:=I2.grow s3
      have fu:=ix G2 I2.prv (Fc.same I2)
      rw [List.drop_eq_getElem_cons aN] at cl
      have gv:ts[i]=t:=by rw [Zc aN] at et;exact Zr et
      rw [gv] at cl
      unfold Qei at cl
      cases bw:Qdk tg t ρi with
      | none=>rw [bw] at cl;cases cl
      | some ρ4 =>
       rw [bw] at cl
       replace cl:(evC p.cf cs ρ4).bind _=.ok tsF ρF:=cl
       obtain ⟨b,ρ5,eb,cl⟩:=Qt7 cl
       refine ⟨_,G2,ρi,t,ρ4,I3,fu,bw,fun σ4 I4 aJ=>?_⟩
       have fD:∀ k,¬ PrvAt σ4 ρ4 k l:=fun k hk=>np k (aJ k l hk)
       refine ⟨G2,ρ4,I4.self,?_⟩
       rw [show p.calm.cf=p.cf from rfl,eb]
       intro H5 G5 I5
       have eZ:=I4.nobody I5 (s3 _ _ el) fD
       have I5':=I4.trans I5
       have gG:H5 l=some (.lst ys):=I5.chg l _ (fun z=>by obtain ⟨j,z⟩:=OwA.prv z;exact fD j z) (fun z=>by obtain ⟨j,z⟩:=MlA.prv z;exact fD j z) (s3 _ _ el)
       have i9:IsL (dls H5 G5) ys acc:=(il.mono (Qau s3)).mono (I4.same I5)
       cases b with
       | false =>
        simp only [Zb2,Za0] at cl ⊢
        exact ⟨m-1,by omega,by omega,G5,ρ5,acc,I5',I5.gg l gl,eZ,gG,i9,zl,cl⟩
       | true =>
        simp only [Zl] at cl ⊢
        obtain ⟨r,ρ6,er,cl⟩:=Qt7 cl
        refine ⟨G5,ρ5,I5'.self,?_⟩
        rw [show p.calm.cf=p.cf from rfl,er]
        intro v H6 G6 I6 r6
        cases ef:frz r with
        | none=>rw [ef] at cl;cases cl
        | some t6 =>
         rw [ef] at cl
         replace cl:(if acc.length<100000 then Qei tg (evC p.cf cs) (evE p.cf e') (ts.drop (i+1)) (acc++[t6]) ρ6 else .no)=.ok tsF ρF:=cl
         by_cases za:acc.length<100000
         ·rw [Zf za] at cl
          have ib:=I5'.nobody I6 gG eZ
          have jf:H6 l=some (.lst ys):=I6.chg l _ (fun z=>by obtain ⟨j,z⟩:=OwA.prv z;exact eZ j z) (fun z=>by obtain ⟨j,z⟩:=MlA.prv z;exact eZ j z) gG
          have iz:IsL (dls H6 G6) ys acc:=i9.mono (I5'.same I6)
          obtain ⟨G7,I7,i7,s7⟩:=PVR.lay (B:=Qa3 H5 G5 σ4 ρ5) r6 I6 ef
          have g7:G7 l:=I7.gg l (I5.gg l gl)
          have I7':=I5'.trans I7
          have hb:(Qa3 H1 G1 (Qfq js σ) (Qd6 js ρ1)).H l=none:=hl
          obtain ⟨I8,s8⟩:=I7'.under (ys:=ys++[v]) g7 ib hb
          have zy:=iz.length
          refine ⟨jf,by rw [zy,Zbo];omega,m-1,by omega,by omega,G7,ρ6,acc++[t6],I8,g7,ib,Qn,((iz.mono (Qc2 s7)).append (.one i7)).mono s8,by rw [Zo,Z4];omega,cl⟩
         ·rw [Zg za] at cl;cases cl
     ·have e0:ts.drop i=[]:=List.drop_of_length_le (by omega)
      rw [e0] at cl
      cases cl
      refine .inl ⟨wk.stop i H2 (by omega) dr,h1 _ H2 G2 (F1.uncap cL I2 ee) ?_⟩
      refine ⟨l,rfl,F1.free hl,gl,fun k hk=>?_,.lst ys,el,zl,il⟩
      obtain ⟨⟨u,eu⟩,q⟩:=hk
      rw [Qg0] at eu
      have:∃ u,(Qa ρ1 k).prv=some u:=by
       rcases Qd8 js ρF k (Qa ρ1 k) with z | ⟨_,t,_,_,z⟩
       ·rw [z] at eu;exact ⟨u,eu⟩
       ·rw [z] at eu;exact Qo9 eu
      obtain ⟨_,t,ob,ea,_⟩:=PrvAt.at F1 ⟨this,q⟩
      rw [hl] at ea
      cases ea
    ·simp only [Zg hz] at h1
     exact Zef h1
theorem Q8v {X:Cx} {p:Pr} {aC elt af:Fr} {a8:List Fr} {scope:Scope} {pos:Pos} {N:List Str} {js:List (Option Nat)} {w:W} {tg:Tg} {cs:Es} {e':E} (aq:X.calm=true)
  (hi:QI X aC af (tW p w)) (hg:∀ s H fp,QG (Qac X scope N s H fp) aC (tG tg)) (hc:∀ s H fp,QC (Qac X scope N s H fp) a8 (tCs p.calm cs)) (he:∀ s H fp,QE (Qac X scope N s H fp) elt (tE p.calm e'))
  (hk:scope.kind=.function) (h1:scOk X scope=true) (h2:Qis X scope N js=true) (hs:∀ x,foldedSetIterable af X.env x=pure x):QE X (.ListComp elt [⟨aC,af,a8,0⟩] scope pos) (tE p (.comp w js tg cs e')) :=
 (Q7j N js aq hi hg hc he hk h1 h2 hs).weak fun σ H Q h=>Qt8 h
theorem QS.weak {X:Cx} {e:Fs} {t t':TS} (h:QS X e t) (q:∀ D σ H,t' D σ H→t D σ H):QS X e t':=⟨fun aa s σ H D I z=>h.h aa s σ H D I (q _ _ _ z)⟩
theorem QB.weak {X:Cx} {e:List Fs} {t t':TS} (h:QB X e t) (q:∀ D σ H,t' D σ H→t D σ H):QB X e t':=⟨fun aa s σ H D I z=>h.h aa s σ H D I (q _ _ _ z)⟩
noncomputable def SFin (p:Pr) (B:Bs) (H:Hp) (G:Fw→Prop) (D:Ends):SO→Prop
 | .nx ρ1=>∀ σ1 H1 G1,FI B H1 G1 σ1 ρ1→Same (dls H G) (dls H1 G1)→D.nx σ1 H1
 | .bk ρ1=>∀ σ1 H1 G1,FI B H1 G1 σ1 ρ1→Same (dls H G) (dls H1 G1)→D.bk σ1 H1
 | .ct ρ1=>∀ σ1 H1 G1,FI B H1 G1 σ1 ρ1→Same (dls H G) (dls H1 G1)→D.ct σ1 H1
 | .rt r ρ1=>∀ v σ1 H1 G1,FI B H1 G1 σ1 ρ1→PVR B.H H1 G1 σ1 ρ1 v r→D.rt v H1
 | .xn x ρ1=>∀ cls dx σ1 H1 G1,FI B H1 G1 σ1 ρ1→Q2t p.mg H1 x cls dx→p.R cls dx σ1 H1
 | .no=>False
noncomputable def tS (p:Pr) (s:S):TS:=fun D σ H=>∃ B G ρ,FI B H G σ ρ∧(∀ a,¬ B.O a)∧SFin p B H G D (exS p.cf s ρ)
section
variable {p:Pr} {B:Bs} {H H1:Hp} {G G1:Fw→Prop} {D:Ends} {σ:St} {ρ ρ1:En} {α:Type}
theorem SFin.late {o:SO} (h:SFin p B H G D o) (s:Same (dls H G) (dls H1 G1)):SFin p B H1 G1 D o:=by
 cases o with
 | nx ρ1=>exact fun σ1 H2 G2 F q=>h σ1 H2 G2 F (s.trans q)
 | bk ρ1=>exact fun σ1 H2 G2 F q=>h σ1 H2 G2 F (s.trans q)
 | ct ρ1=>exact fun σ1 H2 G2 F q=>h σ1 H2 G2 F (s.trans q)
 | rt r ρ1=>exact h
 | xn x ρ1=>exact h
 | no=>exact h
theorem Qfu {o:Out α} {k:α→En→SO} (h:SFin p B H G D (ofO o k)):Fin p B σ o fun a ρ1=>SFin p B H G D (k a ρ1):=by
 cases o with
 | ok a ρ1=>exact h
 | xn x ρ1=>exact fun cls dx H1 G1 F xr=>h cls dx σ H1 G1 F xr
 | no=>exact h
theorem Qfv {o:Option α} {k:α→SO} (h:SFin p B H G D (Q8 o k)):∃ a,o=some a∧SFin p B H G D (k a):=by
 cases o with
 | none=>exact Zef h
 | some a=>exact ⟨a,rfl,h⟩
theorem PVR.base {H2:Hp} {G2:Fw→Prop} {ρ2:En} {v:V} {r:PV} (h:PVR H1 H2 G2 σ ρ2 v r) (F:FI B H1 G1 σ ρ1):PVR B.H H2 G2 σ ρ2 v r:=by
 cases r with
 | fz t=>exact h
 | sl i=>exact h
 | ow t =>
  obtain ⟨a,rfl,n,g⟩:=h
  exact ⟨a,rfl,F.free n,g⟩
theorem Qkw {e:E} {Q:VK} {K:PV→En→SO} (F:FI B H G σ ρ) (h:SFin p B H G D (ofO (evE p.cf e ρ) K)) (q:∀ r ρ2 v H2 G2,SFin p B H2 G2 D (K r ρ2)→FI B H2 G2 σ ρ2→FI (Qa3 H G σ ρ) H2 G2 σ ρ2→PVR B.H H2 G2 σ ρ2 v r→Same (dls H G) (dls H2 G2)→Q v H2):tE p e σ H Q :=
 Qqs F (Qfu h) fun r ρ2 v H2 G2 k F2 F2' r2=>q r ρ2 v H2 G2 (k.late (F.same F2')) F2 F2' (r2.base F) (F.same F2')
theorem Qzd {e:E} {Q:Bool→Hp→Prop} {K:Bool→En→SO} (F:FI B H G σ ρ) (h:SFin p B H G D (ofO (Qal (evE p.cf e ρ)) K)) (q:∀ b ρ2 H2 G2,SFin p B H2 G2 D (K b ρ2)→FI B H2 G2 σ ρ2→Same (dls H G) (dls H2 G2)→Q b H2):tT p e σ H Q :=
 Qyz F (Qfu h) fun b ρ2 H2 G2 k F2 F2'=>q b ρ2 H2 G2 (k.late (F.same F2')) F2 (F.same F2')
end
section
variable {X:Cx} {p:Pr} {e a b:Fr} {e' a' b' c':E} {st:Fs} {cb:List Fs} {s s1 s2:S} {pos p1 p2:Pos} {x:Str}
theorem Qdl:QB X [] (tS p .nil):=Qo3.weak fun D σ H ⟨B,G,ρ,F,hO,h⟩=>h σ H G F (Same.refl _)
theorem Q8w {D:Ends} {σ:St} {H:Hp} (h:tS p (.seq s1 s2) D σ H):Qw4 (tS p s1) (tS p s2) D σ H:=by
 obtain ⟨B,G,ρ,F,hO,h⟩:=h
 refine ⟨B,G,ρ,F,hO,?_⟩
 unfold exS at h
 cases e:exS p.cf s1 ρ with
 | nx ρ1=>rw [e] at h;exact fun σ1 H1 G1 F1 q=>⟨B,G1,ρ1,F1,hO,SFin.late (p:=p) (D:=D) h q⟩
 | bk ρ1=>rw [e] at h;exact h
 | ct ρ1=>rw [e] at h;exact h
 | rt r ρ1=>rw [e] at h;exact h
 | xn x ρ1=>rw [e] at h;exact h
 | no=>rw [e] at h;exact h
theorem Qp (h1:QS X st (tS p s1)) (h2:QB X cb (tS p s2)):QB X (st::cb) (tS p (.seq s1 s2)):=(Qem h1 h2).weak fun D σ H h=>Q8w h
theorem Q5 (h1:QS X st (tS p s1)):QB X [st] (tS p s1):=Qh6 h1
theorem Qade {i:Nat} (h:QB X cb (tS p s)):QB X cb (tS p (.seq (.frz i) s)):=h.weak fun D σ H ⟨B,G,ρ,F,hO,h⟩=>by
 unfold exS at h
 have e:exS p.cf (.frz i) ρ=match Qa ρ i with | .ow t=>.nx (ρ.set i (.fz t)) | .ml _=>.no | .ro _=>.no | _=>.nx ρ:=by rw [exS];try (cases Qa ρ i <;> rfl)
 rw [e] at h
 cases hs:Qa ρ i with
 | un=>rw [hs] at h;exact ⟨B,G,ρ,F,hO,h⟩
 | pin _=>rw [hs] at h;exact ⟨B,G,ρ,F,hO,h⟩
 | fx _=>rw [hs] at h;exact ⟨B,G,ρ,F,hO,h⟩
 | fz t=>rw [hs] at h;exact ⟨B,G,ρ,F,hO,h⟩
 | ml t=>rw [hs] at h;exact Zef h
 | ro t=>rw [hs] at h;exact Zef h
 | ow t =>
  rw [hs] at h
  obtain ⟨G1,F1,s1⟩:=F.freeze hO hs
  exact ⟨B,G1,_,F1,hO,SFin.late h s1⟩
theorem Q8x (he:QE X e (tE p e')) (hs:swapsWith e none pos.line X.env=pure false):QS X (.Expr e pos) (tS p (.expr e')):=(Qjx he hs).weak fun D σ H ⟨B,G,ρ,F,hO,h⟩=>by
 unfold exS at h
 exact Qkw F h fun r ρ2 v H2 G2 k F2 _ _ sm=>k σ H2 G2 F2 (Same.refl _)
theorem Qa4 (he:QE X e (tE p e')):QS X (.Return (some e) pos) (tS p (.ret e')):=(Qnx he).weak fun D σ H ⟨B,G,ρ,F,hO,h⟩=>by
 unfold exS at h
 exact Qkw F h fun r ρ2 v H2 G2 k F2 _ pv _=>k v σ H2 G2 F2 pv
theorem Qfw {c:Fr} {bs cs:List Fs} (hc:QT X c (tT p c')) (ha:QB X bs (tS p s1)) (hb:QB X cs (tS p s2)):QS X (.If c bs cs pos) (tS p (.ite c' s1 s2)):=(Qtu hc ha hb).weak fun D σ H ⟨B,G,ρ,F,hO,h⟩=>by
 unfold exS at h
 refine Qzd F h fun k ρ2 H2 G2 h2 F2 sm=>?_
 cases k with
 | true=>exact ⟨B,G2,ρ2,F2,hO,h2⟩
 | false=>exact ⟨B,G2,ρ2,F2,hO,h2⟩
theorem Q3c {B:Bs} {H:Hp} {G:Fw→Prop} {D:Ends} {σ:St} {ρ:En} {i:Nat} {r:PV} {v:V} (F:FI B H G σ ρ) (pv:PVR B.H H G σ ρ v r) (h:SFin p B H G D (Qnb i r ρ)):D.nx (σ.set i (some v)) H:=by
 cases r with
 | sl j=>exact Zef h
 | fz t =>
  obtain ⟨ρ',e,k⟩:=Qfv h
  exact k _ H G (F.setS e pv.is) (Same.refl _)
 | ow t =>
  obtain ⟨ρ',e,k⟩:=Qfv h
  exact k _ H G (F.setOw rfl e pv) (Same.refl _)
theorem Qod {i:Nat} (h:QS X st (Qm7 (tE p e') (Qgk i))):QS X st (tS p (.set i e')):=h.weak fun D σ H ⟨B,G,ρ,F,hO,h⟩=>by
 unfold exS at h
 exact Qkw F h fun r ρ2 v H2 G2 k F2 _ pv _=>Q3c F2 pv k
theorem Qaf {i:Nat} (h:QS X st (Qm7 (tE p e') (Qgk i))):QS X st (tS p (.setF i e')):=h.weak fun D σ H ⟨B,G,ρ,F,hO,h⟩=>by
 unfold exS at h
 refine Qkw F h fun r ρ2 v H2 G2 k F2 _ pv _=>?_
 cases ef:frz r with
 | none=>rw [ef] at k;exact Zef k
 | some t =>
  rw [ef] at k
  obtain ⟨ρ',e,k⟩:=Qfv k
  obtain ⟨G3,F3,i3,s3⟩:=PVR.lay pv F2 ef
  exact k _ H2 G3 (F3.setS e i3) (Qc2 s3)
theorem Qadf {is:List Nat} (h:QS X st (Qm7 (tE p e') (tG (.tp is)))):QS X st (tS p (.unp is e')):=h.weak fun D σ H ⟨B,G,ρ,F,hO,h⟩=>by
 unfold exS at h
 refine Qkw F h fun r ρ2 v H2 G2 k F2 _ pv _=>?_
 cases r with
 | ow t=>exact Zef k
 | sl i=>exact Zef k
 | fz t =>
  cases t <;> first | exact Zef k | skip
  obtain ⟨ρ',e,k⟩:=Qfv k
  exact ⟨B,G2,ρ2,_,ρ',F2,pv.is,e,fun σ' F' _=>k σ' H2 G2 F' (Same.refl _)⟩
theorem Qze {i j:Nat} (h:QS X st (Q6h i j (tA p (.cons a' (.cons b' .nil))))):QS X st (tS p (.par i j a' b')):=h.weak fun D σ H ⟨B,G,ρ,F,hO,h⟩=>by
 unfold exS at h
 refine ⟨G,ρ,F.self,?_⟩
 unfold evA
 have h1:=Qfu (σ:=σ) h
 cases ea:evE p.cf a' ρ with
 | no=>rw [ea] at h1;exact Zef h1
 | xn x ρ1=>rw [ea] at h1;exact fun cls dx H1 G1 F1 xr=>h1 cls dx H1 G1 (F.trans F1) xr
 | ok ra ρ1 =>
  rw [ea] at h1
  show Fin p _ σ ((evA p.cf (.cons b' .nil) ρ1).bind fun rs ρ2=>.ok (ra::rs) ρ2) _
  unfold evA
  have h2:=Qfu (σ:=σ) (show SFin p B H G D _ from h1)
  cases eb:evE p.cf b' ρ1 with
  | no=>rw [eb] at h2;exact Zef h2
  | xn x ρ2=>rw [eb] at h2;exact fun cls dx H1 G1 F1 xr=>h2 cls dx H1 G1 (F.trans F1) xr
  | ok rb ρ2 =>
   rw [eb] at h2
   unfold evA
   intro vs H1 G1 F1 pv
   cases pv with
   | cons pa pr =>
    cases pr with
    | cons pb pn =>
     cases pn
     rename_i v w
     refine ⟨v,w,rfl,?_⟩
     cases ra with
     | ow t=>exact Zef h2
     | sl i=>exact Zef h2
     | fz x =>
      cases rb with
      | ow t=>exact Zef h2
      | sl i=>exact Zef h2
      | fz y =>
       obtain ⟨ρ',e,k⟩:=Qfv (show SFin p B H G D (Q8 (Qbj [i,j] [x,y] ρ2) .nx) from h2)
       have F2:=F.trans F1
       unfold Qbj at e
       cases e1:Qba i (.fz x) ρ2 with
       | none=>rw [e1] at e;cases e
       | some ρ3 =>
        rw [e1] at e
        replace e:Qbj [j] [y] ρ3=some ρ':=e
        unfold Qbj at e
        cases e2:Qba j (.fz y) ρ3 with
        | none=>rw [e2] at e;cases e
        | some ρ4 =>
         rw [e2] at e
         cases e
         exact k _ H1 G1 ((F2.setS e1 pa.is).setS e2 pb.is) (F.same F1)
end
section
variable {X:Cx} {p:Pr} {e a b:Fr} {e' a' b' c':E} {st:Fs} {cb:List Fs} {s s1 s2:S} {pos p1 p2:Pos} {x:Str} {K:Fz}
theorem FI.mutAt {B:Bs} {H:Hp} {G:Fw→Prop} {σ:St} {ρ:En} {i:Nat} (F:FI B H G σ ρ) (h:(Qa ρ i).mut=true):∃ a vs,σ[i]?=some (some (.ref a))∧H a=some (.lst vs):=by
 have:∃ t,(Qa ρ i).prv=some (.lst t):=by
  cases hs:Qa ρ i <;> rw [hs] at h <;> first | (cases h;done) | skip
  all_goals (rename_i t;cases t <;> first | exact ⟨_,rfl⟩ | cases h)
 obtain ⟨t,e⟩:=this
 obtain ⟨a,s,_,o⟩:=F.prvAt e
 obtain ⟨vs,_,ea,_⟩:=o.lst_inv
 exact ⟨a,vs,s,ea⟩
theorem IsL.set {D:Hp} {v:V} {t:T} (hv:Is D v t):∀ {vs:List V} {ts:List T} (n:Nat),IsL D vs ts→IsL D (vs.set n v) (ts.set n t)
 | vs,[],n,r=>by rw [r.nil_inv];exact .nil
 | vs,u::us,0,r=>by
  obtain ⟨w,ws,rfl,a,q⟩:=r.cons_inv
  exact .cons hv q
 | vs,u::us,n+1,r=>by
  obtain ⟨w,ws,rfl,a,q⟩:=r.cons_inv
  exact .cons a (IsL.set hv n q)
theorem Qt9 {i:Nat} (h:QS X st (Qtl (tBM K "list" Qin (Qos i) (Qil (tE p e') Qr2)))):QS X st (tS p (.app i e')):=h.weak fun D σ H ⟨B,G,ρ,F,hO,h⟩=>by
 unfold exS at h
 by_cases hm:(Qa ρ i).mut=true
 ·simp only [Zf hm] at h
  obtain ⟨a,ij,sa,ea⟩:=F.mutAt hm
  refine ⟨_,sa,.inl ⟨rfl,_,SqL.of ea⟩,?_⟩
  refine Qkw F h fun r ρ2 v H2 G2 k F2 _ pv _=>?_
  cases ef:frz r with
  | none=>rw [ef] at k;exact Zef k
  | some t =>
   rw [ef] at k
   obtain ⟨G3,F3,i3,s3⟩:=PVR.lay pv F2 ef
   have sl:=F3.slot i
   replace k:SFin p B H2 G2 D (match Qa ρ2 i with
    | .ow (.lst ts)=>if ts.length<100000 then .nx (ρ2.set i (.ow (.lst (ts++[t])))) else .no
    | .ml (.lst ts)=>if ts.length<100000 then .nx (ρ2.set i (.ml (.lst (ts++[t])))) else .no
    | _=>.no):=k
   have fin:∀ ts s',(Qa ρ2 i=.ow (.lst ts)∧s'=Slot.ow (.lst (ts++[t])))∨(Qa ρ2 i=.ml (.lst ts)∧s'=Slot.ml (.lst (ts++[t])))→SFin p B H2 G2 D (if ts.length<100000 then .nx (ρ2.set i s') else .no)→Qin (.ref a) [v] H2 fun _ H1=>D.nx σ H1:=fun ts s' hs k=>by
    have hp:(Qa ρ2 i).prv=some (.lst ts):=by rcases hs with ⟨h,_⟩ | ⟨h,_⟩ <;> rw [h] <;> rfl
    obtain ⟨a',dY,g,o1⟩:=F3.prvAt hp
    obtain ⟨vs,z,el,il⟩:=o1.lst_inv
    rw [sa] at dY
    cases dY
    by_cases zt:ts.length<100000
    ·rw [Zf zt] at k
     have lz:=il.length
     obtain ⟨F4,s4⟩:=F3.change hs sa (il.append (.one i3)) (by rw [Zo,Z4];omega)
     exact ⟨a,vs,v,rfl,rfl,el,by rw [lz,Zbo];omega,k σ _ G3 F4 ((Qc2 s3).trans s4)⟩
    ·rw [Zg zt] at k;exact Zef k
   cases hs:Qa ρ2 i with
   | un=>rw [hs] at k;exact Zef k
   | pin _=>rw [hs] at k;exact Zef k
   | fx _=>rw [hs] at k;exact Zef k
   | fz t=>rw [hs] at k;exact Zef k
   | ro t=>rw [hs] at k;exact Zef k
   | ow u =>
    rw [hs] at k sl
    cases u <;> first | exact Zef k | skip
    exact fin _ _ (.inl ⟨hs,rfl⟩) k
   | ml u =>
    rw [hs] at k sl
    cases u <;> first | exact Zef k | skip
    exact fin _ _ (.inr ⟨hs,rfl⟩) k
 ·simp only [Zg hm] at h
  exact Zef h
theorem Q5h {i:Nat} (h:QS X st (Qm7 (tE p e') (Q6d (Qos i) (tE p a') Qtt))):QS X st (tS p (.put i a' e')):=h.weak fun D σ H ⟨B,G,ρ,F,hO,h⟩=>by
 unfold exS at h
 refine Qkw F h fun r ρ2 v H2 G2 k F2 _ pv _=>?_
 cases ef:frz r with
 | none=>rw [ef] at k;exact Zef k
 | some t =>
  rw [ef] at k
  obtain ⟨G3,F3,i3,s3⟩:=PVR.lay pv F2 ef
  by_cases hm:(Qa ρ2 i).mut=true
  ·simp only [Zf hm] at k
   obtain ⟨a,ij,sa,ea⟩:=F3.mutAt hm
   refine ⟨_,sa,?_⟩
   refine Qkw F3 (SFin.late k (Qc2 s3)) fun rk ρ4 w H4 G4 k4 F4 F4' pk sm=>?_
   have i4:=i3.mono sm
   cases rk with
   | ow t=>exact Zef k4
   | sl j=>exact Zef k4
   | fz u =>
    cases u <;> first | exact Zef k4 | skip
    rename_i j
    obtain rfl:=pk.is.int_inv
    replace k4:SFin p B H4 G4 D (match Qa ρ4 i with
     | .ow (.lst ts)=>Q8 (ixN ts.length j) fun n=>.nx (ρ4.set i (.ow (.lst (ts.set n t))))
     | .ml (.lst ts)=>Q8 (ixN ts.length j) fun n=>.nx (ρ4.set i (.ml (.lst (ts.set n t))))
     | _=>.no):=k4
    have fin:∀ ts (s':Nat→Slot),(∀ n,(Qa ρ4 i=.ow (.lst ts)∧s' n=Slot.ow (.lst (ts.set n t)))∨(Qa ρ4 i=.ml (.lst ts)∧s' n=Slot.ml (.lst (ts.set n t))))→SFin p B H4 G4 D (Q8 (ixN ts.length j) fun n=>.nx (ρ4.set i (s' n)))→Qtt (.ref a) (.int j) v H4 fun H1=>D.nx σ H1:=fun ts s' hs k=>by
     have hp:(Qa ρ4 i).prv=some (.lst ts):=by rcases hs 0 with ⟨h,_⟩ | ⟨h,_⟩ <;> rw [h] <;> rfl
     obtain ⟨a',dY,g,o1⟩:=F4.prvAt hp
     obtain ⟨vs,z,el,il⟩:=o1.lst_inv
     rw [sa] at dY
     cases dY
     obtain ⟨n,en,k⟩:=Qfv k
     have lz:=il.length
     obtain ⟨F5,s5⟩:=F4.change (hs n) sa (il.set i4 n) (by rw [Zby];exact z)
     exact ⟨a,vs,j,n,rfl,rfl,el,by rw [lz];exact en,k σ _ G4 F5 s5⟩
    cases hs:Qa ρ4 i with
    | un=>rw [hs] at k4;exact Zef k4
    | pin _=>rw [hs] at k4;exact Zef k4
    | fx _=>rw [hs] at k4;exact Zef k4
    | fz t=>rw [hs] at k4;exact Zef k4
    | ro t=>rw [hs] at k4;exact Zef k4
    | ow u =>
     rw [hs] at k4
     cases u <;> first | exact Zef k4 | skip
     exact fin _ _ (fun n=>.inl ⟨hs,rfl⟩) k4
    | ml u =>
     rw [hs] at k4
     cases u <;> first | exact Zef k4 | skip
     exact fin _ _ (fun n=>.inr ⟨hs,rfl⟩) k4
  ·simp only [Zg hm] at k
   exact Zef k
theorem Qoe {p:Pr} {B:Bs} {H:Hp} {G:Fw→Prop} {D:Ends} {o:SO} (h:SFin p B H G D (Qh1 o)):SFin p.calm B H G D o:=by
 cases o with
 | xn x ρ1=>exact Zef h
 | nx ρ1=>exact h
 | bk ρ1=>exact h
 | ct ρ1=>exact h
 | rt r ρ1=>exact h
 | no=>exact h
theorem Qadg {c:Fr} {body:List Fs} (hc:QT X.nox c (tT p.calm c')) (hb:QB X.nox body (tS p.calm s)):QS X (.While c body [] pos) (tS p (.whl c' s)) :=
 (q_sx (Q2g Zdu hc hb)).weak fun D σ H ⟨B,G,ρ,F,hO,h⟩=>by
  unfold exS at h
  have h:=Qoe h
  refine ⟨fun m σ2 H2=>∃ G2 ρ2,FI B H2 G2 σ2 ρ2∧SFin p.calm B H2 G2 D (Qj0 (fun ρ=>Qal (evE p.cf c' ρ)) (exS p.cf s) m ρ2),⟨1000000,G,ρ,F,h⟩,?_⟩
  rintro m σ2 H2 ⟨G2,ρ2,F2,h2⟩
  cases m with
  | zero=>exact Zef h2
  | succ m =>
   unfold Qj0 at h2
   refine Qzd (p:=p.calm) F2 h2 fun k ρ3 H3 G3 h3 F3 sm=>?_
   cases k with
   | false=>exact h3 σ2 H3 G3 F3 (Same.refl _)
   | true =>
    refine ⟨fun σ' H'=>∃ G' ρ',FI B H' G' σ' ρ'∧SFin p.calm B H' G' D (Qj0 (fun ρ=>Qal (evE p.cf c' ρ)) (exS p.cf s) m ρ'),fun σ' H' q=>⟨m,Zdc m,q⟩,B,G3,ρ3,F3,hO,?_⟩
    replace h3:SFin p.calm B H3 G3 D (match exS p.cf s ρ3 with
     | .nx ρ2=>Qj0 (fun ρ=>Qal (evE p.cf c' ρ)) (exS p.cf s) m ρ2
     | .ct ρ2=>Qj0 (fun ρ=>Qal (evE p.cf c' ρ)) (exS p.cf s) m ρ2
     | .bk ρ2=>.nx ρ2
     | o=>o):=h3
    show SFin p.calm B H3 G3 _ (exS p.cf s ρ3)
    cases eb:exS p.cf s ρ3 with
    | nx ρ4=>rw [eb] at h3;exact fun σ4 H4 G4 F4 s4=>⟨G4,ρ4,F4,SFin.late h3 s4⟩
    | ct ρ4=>rw [eb] at h3;exact fun σ4 H4 G4 F4 s4=>⟨G4,ρ4,F4,SFin.late h3 s4⟩
    | bk ρ4=>rw [eb] at h3;exact h3
    | rt r ρ4=>rw [eb] at h3;exact h3
    | xn x ρ4=>rw [eb] at h3;exact h3
    | no=>rw [eb] at h3;exact h3
theorem Q8y {w:W} {tg:Tg} {D:Ends} {σ:St} {H:Hp} {B:Bs} {G:Fw→Prop} {ρ:En} (F:FI B H G σ ρ) (hO:∀ a,¬ B.O a) (h:SFin p B H G D (ofO (evW p.cf w ρ) fun ac ρ1=>match ac.2 with
  | some _=>.no
  | none=>Qb0 tg (exS p.cf s) ac.1 ρ1)):Qxa (tW p w) (tG tg) (tS p s) D σ H:=by
 refine ⟨G,ρ,F.self,(Qfu (σ:=σ) h).rebase F fun ac ρ1 h1=>?_⟩
 obtain ⟨ts,lk⟩:=ac
 cases lk with
 | some _=>exact Zef h1
 | none =>
  refine ⟨rfl,fun J H1 G1 Ok F1 wk dv=>?_⟩
  replace wk:WkR J H1 G1 Ok ts:=wk
  have F1':=F.trans F1
  have s1:=F.same F1
  refine ⟨fun i m σ2 H2=>i+m=ts.length∧∃ G2 ρ2,FI B H2 G2 σ2 ρ2∧Same (dls H1 G1) (dls H2 G2)∧SFin p B H2 G2 D (Qb0 tg (exS p.cf s) (ts.drop i) ρ2),⟨ts.length,Zak _,G1,ρ1,F1',Same.refl _,SFin.late h1 s1⟩,?_⟩
  rintro i m σ2 H2 ⟨fH,G2,ρ2,F2,s2,h2⟩
  have dr:=dv H2 G2 s2
  by_cases aN:i<ts.length
  ·refine .inr ⟨wk.go i H2 aN dr,fun σ' H'=>∃ G' ρ',FI B H' G' σ' ρ'∧Same (dls H1 G1) (dls H' G')∧SFin p B H' G' D (Qb0 tg (exS p.cf s) (ts.drop (i+1)) ρ'),fun σ' H' q=>⟨m-1,by omega,by omega,q⟩,fun x H3 y=>?_⟩
   obtain ⟨s3,t,et,ix⟩:=wk.yld i H2 x H3 aN dr y
   have F3:=F2.grow s3
   have fu:=ix G2 F2.prv s2
   rw [List.drop_eq_getElem_cons aN] at h2
   have gv:ts[i]=t:=by rw [Zc aN] at et;exact Zr et
   rw [gv] at h2
   unfold Qb0 at h2
   cases bw:Qdk tg t ρ2 with
   | none=>rw [bw] at h2;exact Zef h2
   | some ρ4 =>
    rw [bw] at h2
    refine ⟨B,G2,ρ2,t,ρ4,F3,fu,bw,fun σ4 F4 _=>⟨B,G2,ρ4,F4,hO,?_⟩⟩
    replace h2:SFin p B H2 G2 D (match exS p.cf s ρ4 with
     | .nx ρ2=>Qb0 tg (exS p.cf s) (ts.drop (i+1)) ρ2
     | .ct ρ2=>Qb0 tg (exS p.cf s) (ts.drop (i+1)) ρ2
     | .bk ρ2=>.nx ρ2
     | o=>o):=h2
    have gN:Same (dls H2 G2) (dls H3 G2):=Qau s3
    have h2:=SFin.late h2 gN
    have im:=s2.trans gN
    show SFin p B H3 G2 _ (exS p.cf s ρ4)
    cases eb:exS p.cf s ρ4 with
    | nx ρ5=>rw [eb] at h2;exact fun σ5 H5 G5 F5 s5=>⟨G5,ρ5,F5,im.trans s5,SFin.late h2 s5⟩
    | ct ρ5=>rw [eb] at h2;exact fun σ5 H5 G5 F5 s5=>⟨G5,ρ5,F5,im.trans s5,SFin.late h2 s5⟩
    | bk ρ5=>rw [eb] at h2;exact h2
    | rt r ρ5=>rw [eb] at h2;exact h2
    | xn x ρ5=>rw [eb] at h2;exact h2
    | no=>rw [eb] at h2;exact h2
  ·have e0:ts.drop i=[]:=List.drop_of_length_le (by omega)
   rw [e0] at h2
   exact .inl ⟨wk.stop i H2 (by omega) dr,h2 σ2 H2 G2 F2 (Same.refl _)⟩
theorem Qadh {af aC:Fr} {body:List Fs} {w:W} {tg:Tg} (hc:X.calm=true) (hi:QI X.nox aC af (tW p.calm w)) (hg:QG X.nox aC (tG tg)) (hb:QB X.nox body (tS p.calm s)) (hs:∀ x,foldedSetIterable af X.env x=pure x):QS X (.For aC af body [] pos) (tS p (.for_ w tg s)) :=
 (q_sx (Q40 Zdu hc hi hg hb hs)).weak fun D σ H ⟨B,G,ρ,F,hO,h⟩=>by
  unfold exS at h
  exact Q8y (p:=p.calm) F hO (Qoe h)
end
section
variable {X:Cx} {p:Pr} {s:S} {pos:Pos} {K:Fz}
end
def Qsr:Arg→Slot
 | .fz t=>.fz t
 | .ml t=>.ml t
 | .ro t=>.ro t
theorem Qof (fn:Fn) (as:List Arg):Qfl fn as=as.map Qsr++List.replicate (fn.sz-fn.ps) .un:=by
 unfold Qfl
 congr 1
theorem Qdm (fn:Fn) (as:List Arg) (i:Nat):Qa (Qfl fn as) i=match as[i]? with
  | some a=>Qsr a
  | none=>.un:=by
 rw [Qof]
 unfold Qa
 rcases Zdp i as.length with h | h
 ·rw [List.getElem?_append_left (by rw [Zd];exact h),Zab,Zc h]
  rfl
 ·rw [Za5 (by rw [Zd];exact h),List.getElem?_eq_none_iff.mpr h,Zbj]
  split <;> rename_i e
  ·split at e
   ·cases e;rfl
   ·cases e
  ·rfl
theorem Qog {N:List Str} {vs:List V} {i:Nat} {v:V} (h:vs[i]?=some v):(Qbl N vs)[i]?=some (some v):=by
 unfold Qbl
 have hi:i<vs.length:=(List.getElem?_eq_some_iff.mp h).1
 rw [List.getElem?_append_left (by rw [Zd];exact hi),Zab,h]
 rfl
theorem Qoh {N:List Str} {vs:List V} {i:Nat} {v:V} (h:(Qbl N vs)[i]?=some (some v)):vs[i]?=some v:=by
 unfold Qbl at h
 rcases Zdp i vs.length with hi | hi
 ·rw [List.getElem?_append_left (by rw [Zd];exact hi),Zab] at h
  cases e:vs[i]? with
  | none=>rw [e] at h;cases h
  | some w=>rw [e] at h;cases h;rfl
 ·rw [Za5 (by rw [Zd];exact hi),Zbj] at h
  split at h <;> cases h
noncomputable abbrev Qzf (H:Hp) (G:Fw→Prop) (vs:List V) (as:List Arg):Bs:=⟨H,G,fun _=>False,Qt4 vs as,fun i a=>(∃ x,as[i]?=some x∧x.prv=true)∧vs[i]?=some (.ref a)⟩
section
variable {H H1:Hp} {G G1:Fw→Prop} {vs:List V} {as:List Arg} {fn:Fn} {N:List Str} {σ1:St} {ρ1:En} {fin:List T} {mg:Str→Option Fx}
theorem Qss {x:Arg} {t:T} (h:(Qsr x).prv=some t):x.prv=true:=by
 cases x <;> first | rfl | cases h
theorem Qzg (A:ArgsR H G vs as) (pn:Pen H G) (h1:vs.length≤N.length) (h2:fn.ps=as.length) (h3:fn.sz=N.length):FI (Qzf H G vs as) H G (Qbl N vs) (Qfl fn as):=by
 have pv:∀ i a,PrvAt (Qbl N vs) (Qfl fn as) i a→(∃ x,as[i]?=some x∧x.prv=true)∧vs[i]?=some (.ref a):=fun i a h=>by
  obtain ⟨⟨t,e⟩,q⟩:=h
  rw [Qdm] at e
  cases hx:as[i]? with
  | none=>rw [hx] at e;cases e
  | some x=>rw [hx] at e;exact ⟨⟨x,rfl,Qss e⟩,Qoh q⟩
 refine ⟨?_,fun i=>?_,fun i j a h1 h2=>?_,pn,fun _ _ _ _ e=>e,fun _ o e=>⟨o,e⟩,fun a h=>?_,fun a h=>?_,fun i a h=>?_,fun _ h=>h,fun _ h=>.inl h,fun b h=>let ⟨xs,e,_⟩:=pn b h;⟨_,e⟩⟩
 ·rw [Qof]
  unfold Qbl
  have:=A.len
  simp only [Zo,Zd,Zag]
  omega
 ·rw [Qdm]
  cases hx:as[i]? with
  | none=>trivial
  | some x =>
   have hi:i<vs.length:=by rw [A.len];exact (List.getElem?_eq_some_iff.mp hx).1
   have ev:vs[i]?=some vs[i]:=Zc hi
   have q:=A.get i _ x ev hx
   have s:=Qog (N:=N) ev
   cases x with
   | fz t=>exact ⟨_,s,q⟩
   | ml t=>obtain ⟨a,e,g,o⟩:=q;rw [e] at s;exact ⟨a,s,g,o⟩
   | ro t=>obtain ⟨a,e,g,o⟩:=q;rw [e] at s;exact ⟨a,s,g,o⟩
 ·obtain ⟨⟨x,ex,px⟩,vx⟩:=pv i a h1
  obtain ⟨⟨y,ey,py⟩,vy⟩:=pv j a h2
  exact A.apart i j a x y ex ey px py vx vy
 ·obtain ⟨i,t,e,q⟩:=h
  rw [Qdm] at e
  cases hx:as[i]? with
  | none=>rw [hx] at e;cases e
  | some x=>rw [hx] at e;cases x <;> cases e
 ·obtain ⟨i,t,e,q⟩:=h
  rw [Qdm] at e
  cases hx:as[i]? with
  | none=>rw [hx] at e;cases e
  | some x =>
   rw [hx] at e
   cases x <;> cases e
   exact ⟨i,_,hx,Qoh q⟩
 ·obtain ⟨⟨t,e⟩,q⟩:=h
  refine pv i a ⟨⟨t,?_⟩,q⟩
  rcases e with e | e | e
  ·rw [e];rfl
  ·rw [e];rfl
  ·rw [Qdm] at e
   cases hx:as[i]? with
   | none=>rw [hx] at e;cases e
   | some x=>rw [hx] at e;cases x <;> cases e
theorem Qhi:∀ {as:List Arg} {ρ:En} {fin:List T},Q4 as ρ=some fin→∀ (i:Nat) (t:T),as[i]?=some (.ml t)→∃ t',Qa ρ i=.ml t'∧fin[i]?=some t'
 | [],_,_,_,i,t,h=>by simp at h
 | .ml u::as,[],fin,e,_,_,_=>by cases e
 | .fz u::as,[],fin,e,_,_,_=>by cases e
 | .ro u::as,[],fin,e,_,_,_=>by cases e
 | .ml u::as,s::ρ,fin,e,i,t,h=>by
  cases s <;> first | (cases e;done) | skip
  rename_i w
  replace e:(Q4 as ρ).map (w :: ·)=some fin:=e
  cases e2:Q4 as ρ with
  | none=>rw [e2] at e;cases e
  | some f2 =>
   rw [e2] at e
   cases e
   cases i with
   | zero=>exact ⟨w,rfl,rfl⟩
   | succ i=>rw [Zq] at h ⊢;rw [Qd];exact Qhi e2 i t h
 | .fz u::as,s::ρ,fin,e,i,t,h=>by
  replace e:(Q4 as ρ).map (T.non :: ·)=some fin:=e
  cases e2:Q4 as ρ with
  | none=>rw [e2] at e;cases e
  | some f2 =>
   rw [e2] at e
   cases e
   cases i with
   | zero=>simp at h
   | succ i=>rw [Zq] at h ⊢;rw [Qd];exact Qhi e2 i t h
 | .ro u::as,s::ρ,fin,e,i,t,h=>by
  replace e:(Q4 as ρ).map (T.non :: ·)=some fin:=e
  cases e2:Q4 as ρ with
  | none=>rw [e2] at e;cases e
  | some f2 =>
   rw [e2] at e
   cases e
   cases i with
   | zero=>simp at h
   | succ i=>rw [Zq] at h ⊢;rw [Qd];exact Qhi e2 i t h
theorem Qmb (F:FI (Qzf H G vs as) H1 G1 σ1 ρ1) (e:Q4 as ρ1=some fin):CallP H G vs as H1 G1 fin where
 prv:=F.prv
 chg:=fun b o h e=>F.chg b o (fun z=>z) h e
 keep:=F.keep
 gg:=F.gg
 gn:=F.gn
 fin:=fun i t a h1 h2=>by
  obtain ⟨t',e1,e2⟩:=Qhi e i t h1
  have q:=F.slot i
  rw [e1] at q
  obtain ⟨a',q1,_,q3⟩:=q
  have q4:=(F.fix i a' ⟨⟨t',.inl e1⟩,q1⟩).2
  rw [h2] at q4
  cases q4
  exact ⟨t',e2,q3⟩
theorem Q3d {v:V} {r r':PV} (F:FI (Qzf H G vs as) H1 G1 σ1 ρ1) (pv:PVR H H1 G1 σ1 ρ1 v r) (e:Qav ρ1 r=some r'):RetR H H1 G1 v r':=by
 cases r with
 | fz t=>cases e;exact pv
 | ow t =>
  cases e
  obtain ⟨a,rfl,n,g,_,o⟩:=pv
  exact ⟨a,rfl,n,g,o⟩
 | sl i =>
  have e:(match Qa ρ1 i with | .ow t=>some (PV.ow t) | _=>none)=some r':=e
  have q:=F.slot i
  cases hs:Qa ρ1 i with
  | un=>rw [hs] at e;cases e
  | pin _=>rw [hs] at e;cases e
  | fx _=>rw [hs] at e;cases e
  | fz t=>rw [hs] at e;cases e
  | ml t=>rw [hs] at e;cases e
  | ro t=>rw [hs] at e;cases e
  | ow t =>
   rw [hs] at e q
   cases e
   obtain ⟨a,q1,g,o⟩:=q
   have pv:σ1[i]?=some (some v):=pv
   rw [q1] at pv
   cases pv
   refine ⟨a,rfl,?_,g,o⟩
   rcases F.newO a ⟨i,t,hs,q1⟩ with z | z
   ·exact z
   ·exact z.elim
theorem Q8z {cf:CF} {Q:VK} {E:XK} (A:ArgsR H G vs as) (pn:Pen H G) (h1:vs.length≤N.length) (h3:fn.sz=N.length) (h:FROk mg H G vs as (Qb4 cf fn as) Q E):tS ⟨cf,fun cls dx _ H=>E cls dx H,mg⟩ fn.body { nx:=fun _ H'=>Q .non H',rt:=Q } (Qbl N vs) H:=by
 unfold Qb4 at h
 by_cases h2:as.length=fn.ps
 ·rw [Zf h2] at h
  refine ⟨_,G,_,Qzg A pn h1 h2.symm h3,fun _ z=>z,?_⟩
  show SFin _ _ _ _ _ (exS cf fn.body (Qfl fn as))
  cases e:exS cf fn.body (Qfl fn as) with
  | no=>rw [e] at h;exact Zef h
  | bk ρ=>rw [e] at h;exact Zef h
  | ct ρ=>rw [e] at h;exact Zef h
  | nx ρ =>
   rw [e] at h
   intro σ1 H1 G1 F _
   cases ef:Q4 as ρ with
   | none=>simp only [ef] at h;exact Zef h
   | some fin=>simp only [ef] at h;exact h .non H1 G1 (Qmb F ef) (show Is (dls H1 G1) .non .non from Is.non)
  | rt r ρ =>
   rw [e] at h
   intro v σ1 H1 G1 F pv
   cases er:Qav ρ r with
   | none=>simp only [er] at h;exact Zef h
   | some r' =>
    cases ef:Q4 as ρ with
    | none=>simp only [er,ef] at h;exact Zef h
    | some fin=>simp only [er,ef] at h;exact h v H1 G1 (Qmb F ef) (Q3d F pv er)
  | xn x ρ =>
   rw [e] at h
   intro cls dx σ1 H1 G1 F xr
   cases ef:Q4 as ρ with
   | none=>simp only [ef] at h;exact Zef h
   | some fin=>simp only [ef] at h;exact h cls dx H1 G1 (Qmb F ef) xr
 ·rw [Zg h2] at h
  exact Zef h
end
theorem Q2 {X:Cx}:Qgl X (fun _ _ _ _=>False):=fun aa σ H s e s' I h=>by
 obtain ⟨a,cls,dx,H',_,_,_,_,_,_,z⟩:=h
 exact z.elim
structure Df where
 x:Str
 st:Fs
 N:List Str
 ps:List Str
 fn:Fn
 fc:Str→Bool:=fun _=>true
 f1:Str→Bool:=fc
noncomputable abbrev Qi4 (ds:List Df):Nat→Option Fn:=fun f=>match ds[f]? with
 | some d=>some d.fn
 | none=>none
structure DfOk (K:Fz) (mg:Str→Option Fx) (d:Df):Prop where
 dfn:Dfn K mg d.x d.st
 sc:FnScope d.N d.ps (Qg d.st)
 bd:Qai d.x d.st d.ps
 ps:d.fn.ps=d.ps.length
 sz:d.fn.sz=d.N.length
noncomputable def Qpb (P:Fu) (w:Ft) (K:Fz) (mg:Str→Option Fx) (base:Fq) (ds:List Df) (cf:CF) (n:Nat):Prop:=∀ (f:Nat) (d:Df),ds[f]?=some d→HasE P w K mg base d.x d.ps n (spF cf mg f)
noncomputable def Qa9 (P:Fu) (w:Ft) (K:Fz) (mg:Str→Option Fx) (base:Fq) (ds:List Df) (d:Df):Prop :=
 ∀ (cf:CF) (n:Nat) (R:XR) (f:Fw) (ae:Fx) (A:Fv) (outer:List Env) (s:Fy) (H:Hp) (E:XK),Qpb P w K mg base ds cf n→1≤n∧Qpb P w K mg base ds cf (n-1)→Qse K mg d.x ae→Qgl (Qhu d.fc (CXE P w) P w K mg base d.N d.x (Qg d.st) f ae A outer s H E) R →
  Room n (A.deeper (envOfC d.x (Qg d.st) s.heap.objs.size f ae))→QB (Qhu d.fc (CXE P w) P w K mg base d.N d.x (Qg d.st) f ae A outer s H E) (Qbi d.st) (tS ⟨cf,R,mg⟩ d.fn.body)
section
variable {P:Fu} {w:Ft} {K:Fz} {mg:Str→Option Fx} {base:Fq} {ds:List Df}
theorem Qua {cf:CF} {f:Nat} {vs:List V} {H:Hp} {Q:VK} {E:XK} {d:Df} (h:spF (evF (Qi4 ds) 0) mg f vs H Q E):False:=by
 obtain ⟨G,as,_,_,z⟩:=h
 exact z
theorem Qoi (ok:∀ (f:Nat) (d:Df),ds[f]?=some d→DfOk K mg d∧Qa9 P w K mg base ds d):∀ n,Qpb P w K mg base ds (evF (Qi4 ds) n) (2*n+1)
 | 0,f,d,e=>by
  obtain ⟨g,fd,F,m⟩:=(ok f d e).1.dfn.ex
  exact ⟨g,fd,F.kp,m,F.binds (ok f d e).1.bd,⟨fun vs H Q E h=>(Qua (d:=d) (cf:=fun _ _=>.no) h).elim,fun A outer s H args us vs Q E _ _ _ _ h=>(Qua (d:=d) (cf:=fun _ _=>.no) h).elim⟩⟩
 | n+1,f,d,e=>by
  obtain ⟨o,b⟩:=ok f d e
  have ih:=Qoi ok n
  have iC:∀ as,evF (Qi4 ds) (n+1) f as=Qb4 (evF (Qi4 ds) n) d.fn as:=fun as=>by
   show (match Qi4 ds f with | some fn=>Qb4 (evF (Qi4 ds) n) fn as | none=>.no)=_
   unfold Qi4
   rw [e]
  refine Q7x (g:=d.fc) (k:=2*n+2) o.dfn o.sc o.bd (fun vs H Q E h=>?_) (fun X g ae A outer s H vs Q E _ aF pz hr h=>?_)
  ·obtain ⟨G,as,a,_,z⟩:=h
   rw [iC] at z
   unfold Qb4 at z
   by_cases h2:as.length=d.fn.ps
   ·rw [a.len,h2,o.ps]
   ·rw [Zg h2] at z;exact z.elim
  ·obtain ⟨G,as,a,pn,z⟩:=h
   refine ⟨_,b (evF (Qi4 ds) n) (2*n+2) _ g ae A outer s H E (fun f d e=>(ih f d e).mono (Nat.le_succ _)) ⟨Nat.le_add_left 1 _,ih⟩ aF pz hr,?_⟩
   rw [iC] at z
   have hl:as.length=d.fn.ps:=by
    unfold Qb4 at z
    by_cases h2:as.length=d.fn.ps
    ·exact h2
    ·rw [Zg h2] at z;exact z.elim
   have hN:d.ps.length≤d.N.length:=by
    have:=congrArg List.length o.sc.pre
    rw [Za4] at this
    omega
   exact Q8z a pn (by rw [a.len,hl,o.ps];exact hN) o.sz z
end
section
variable {X:Cx} {p:Pr} {e a b c:Fr} {es rest:List Fr} {e' a' b' c':E} {aw:Es} {pos p1 p2 p3:Pos} {x:Str} {st:Fs} {s:S} {K:Fz}
theorem Qe (i:Nat) (hN:X.N[i]?=some x:=by rfl) (hv:Vis X.env.scope x:=by first | exact Or.inl rfl | exact Or.inr (Or.inl rfl) | exact Or.inr (Or.inr rfl)) (hd:(x==("__debug__" : Str))=false:=by decide)
  (aF:(x==("__classdict__" : Str))=false:=by decide):QE X (.Name x pos) (tE p (.var i)):=Qacy hN hv hd aF
theorem Q80 {i:Int} (h:∃ u,X.mg x=some u∧RelV (.int i) u) (hg:Gl X x:=by rfl) (hd:(x==("__debug__" : Str))=false:=by decide):QE X (.Name x pos) (tE p (.int i)):=Q8e h hg hd
theorem Qadi {t:T} (h:QE X e (tTh t)):QE X e (tE p (.lit t)):=h.weak fun σ H Q ⟨G,ρ,F,h⟩=>by
 unfold evE at h
 exact fun v H' s i=>h v H' G (F.grow s) (Q7w F.prv i)
theorem Qc (ha:QE X e (tE p e')) (hr:QA X es (tA p aw)) (hs:Qo e=true:=by rfl):QA X (e::es) (tA p (.cons e' aw)):=Q8f ha hr hs
theorem Qbu (hK:X.K=K) (ha:QE X a (tE p a')) (hb:QE X b (tE p b')):QE X (.BinOp a .Add b pos) (tE p (.bin .add a' b')):=Qn7 (Qtv K hK) (Q2u K) ha hb
theorem Qg1 (ha:QE X a (tE p a')) (hb:QE X b (tE p b')):QE X (.BinOp a .Sub b pos) (tE p (.bin .sub a' b')):=Qn7 Qabv Q2v ha hb
theorem Qe5 (ha:QE X a (tE p a')) (hb:QE X b (tE p b')):QE X (.BinOp a .Mult b pos) (tE p (.bin .mul a' b')):=Qn7 Q8g Q2x ha hb
theorem Q5i (ha:QE X a (tE p a')) (hb:QE X b (tE p b')):QE X (.BinOp a .FloorDiv b pos) (tE p (.bin .fdv a' b')):=Qn7 Q8h Q2y ha hb
theorem Qmc (ha:QE X a (tE p a')) (hb:QE X b (tE p b')):QE X (.BinOp a .Mod b pos) (tE p (.bin .mod a' b')):=Qn7 Q8i Q2z ha hb
theorem Qkx (ha:QE X a (tE p a')) (hb:QE X b (tE p b')):QE X (.BinOp a .Pow b pos) (tE p (.bin .pow a' b')):=Qn7 Qabw Q20 ha hb
theorem Qq3 {op:CmpOp} (h1:op≠.In) (h2:op≠.NotIn):behindInMarks op b=false:=by
 unfold behindInMarks
 cases b <;> try rfl
 cases op <;> simp_all
theorem Q81 (hu:X.A.units+64<cLine) (ha:QE X a (tE p a')) (hb:QE X b (tE p b')):QE X (.Compare a [.Eq] [b] pos) (tE p (.cmp .eq a' b')):=Q5d (Q5e hu) Qy4 ha hb (Qq3 (by decide) (by decide))
theorem g_ge (ha:QE X a (tE p a')) (hb:QE X b (tE p b')):QE X (.Compare a [.GtE] [b] pos) (tE p (.cmp .ge a' b')):=Q5d o_ge Q8m ha hb (Qq3 (by decide) (by decide))
theorem Qst (hu:X.A.units+64<cLine) (ha:QE X a (tE p a')) (hb:QE X b (tE p b')):QT X (.Compare a [.Eq] [b] pos) (tT p (.cmp .eq a' b')):=Qn8 (Q5e hu) Qy4 ha hb (Qq3 (by decide) (by decide))
theorem Qsu (hu:X.A.units+64<cLine) (ha:QE X a (tE p a')) (hb:QE X b (tE p b')):QT X (.Compare a [.NotEq] [b] pos) (tT p (.cmp .ne a' b')):=Qn8 (Qac4 hu) Q8j ha hb (Qq3 (by decide) (by decide))
theorem t_lt (ha:QE X a (tE p a')) (hb:QE X b (tE p b')):QT X (.Compare a [.Lt] [b] pos) (tT p (.cmp .lt a' b')):=Qn8 o_lt Q8k ha hb (Qq3 (by decide) (by decide))
theorem t_gt (ha:QE X a (tE p a')) (hb:QE X b (tE p b')):QT X (.Compare a [.Gt] [b] pos) (tT p (.cmp .gt a' b')):=Qn8 o_gt Q8l ha hb (Qq3 (by decide) (by decide))
theorem Qadk (ha:QE X a (tE p a')) (hb:QE X b (tE p b')):QT X (.Compare a [.Is] [b] pos) (tT p (.cmp .isn a' b')):=Qn8 Qab0 Q21 ha hb (Qq3 (by decide) (by decide))
theorem Q82 (ha:QE X a (tE p a')) (hb:QE X b (tE p b')):QT X (.Compare a [.IsNot] [b] pos) (tT p (.cmp .isnn a' b')):=Qn8 Q7k Qy5 ha hb (Qq3 (by decide) (by decide))
theorem Qds (ha:QE X e (tE p e')) (he:∀ whole,isTrue e X.env whole=(do let v ← whole;standAt e.pos;holding [v] (truthy v)):=by intro _;rfl):QT X e (tT p e'):=Qac0 ha he
theorem Qky {n:String} {tn:Fr} (hm:X.mg "isinstance" = none) (hv:bootBuiltins "isinstance" = some (.builtin "isinstance")) (ha:QE X a (tE p a')) (ht:QE X tn (tC (.ty n))) (hg:Gl X "isinstance" := by rfl) (h1:Qo a=true:=by rfl) (h2:Qo tn=true:=by rfl):QE X (.Call (.Name "isinstance" p1) [a,tn] [] pos) (tE p (.isI a' n)):=Qac5 hm hv ha ht hg h1 h2
theorem Qew {id:String} {r:List V→Hp→VK→Prop} {b:Bi} (hc:QCl X (.builtin id) r) (hs:Ob r b) (hm:X.mg x=none) (hv:bootBuiltins x=some (.builtin id)) (ha:QA X (e::es) (tA p aw)) (hg:Gl X x:=by rfl) (hn:x ≠ "__name__" := by decide) (ay:(x==("__debug__" : Str))=false:=by decide) (h1:Qo e=true:=by rfl) (h2:es.all Qo=true:=by rfl) :
  QE X (.Call (.Name x p1) (e::es) [] pos) (tE p (.bi b aw)):=s_bi hc hs hm hv ha hg hn ay h1 h2
theorem Qgn {T:String} {r:List V→Hp→VK→Prop} {b:Bi} (hc:QCl X (.type T) r) (hs:Ob r b) (hm:X.mg x=none) (hv:bootBuiltins x=some (.type T)) (ha:QA X (e::es) (tA p aw)) (hg:Gl X x:=by rfl) (hn:x ≠ "__name__" := by decide) (ay:(x==("__debug__" : Str))=false:=by decide) (h1:Qo e=true:=by rfl) (h2:es.all Qo=true:=by rfl) :
  QE X (.Call (.Name x p1) (e::es) [] pos) (tE p (.bi b aw)):=Qac6 hc hs hm hv ha hg hn ay h1 h2
theorem Qeo (hK:X.K=K) (ha:QE X a (tE p a')) (hb:QE X b (tE p b')) (hs:Qlb b:=by exact fun _ _=>rfl):QE X (.Subscript a b pos) (tE p (.ix a' b')):=s_ix K hK ha hb hs
theorem Qd9 (hK:X.K=K) {lo hi:Option Fr} {cM cI:Es} (ha:QE X a (tE p a')) (hl:QO X lo (tO p cM)) (hh:QO X hi (tO p cI)):QE X (.Subscript a (.Slice lo hi none p2) pos) (tE p (.slc a' cM cI)):=Qac7 K hK ha hl hh
theorem q_m1 {j}:QE X (.UnaryOp .USub (.Constant (.int 1) j p1) pos) (tC (.int (-1))):=(Q7e Qx6 Qkr).weak fun σ H Q h=>⟨1,rfl,h⟩
theorem Q3 {f k:Nat} {ps:List Str} (h:HasE X.prog X.w X.K X.mg X.base x ps k (spF p.cf p.mg f)) (pz:Qgl X p.R) (hr:Room k X.A) (ha:QA X (e::es) (tA p aw)) (hg:Gl X x:=by rfl) (ay:(x==("__debug__" : Str))=false:=by decide) (h1:Qo e=true:=by rfl) (h2:es.all Qo=true:=by rfl) :
  QE X (.Call (.Name x p1) (e::es) [] pos) (tE p (.call f aw)):=Q8q h pz hr ha hg ay h1 h2
theorem Qex {aC elt af:Fr} {a8:List Fr} {scope:Scope} (N:List Str) (js:List (Option Nat)) {w:W} {tg:Tg} {cs:Es} (aq:X.calm=true)
  (hi:QI X aC af (tW p w)) (hg:∀ s H fp,QG (Qac X scope N s H fp) aC (tG tg)) (hc:∀ s H fp,QC (Qac X scope N s H fp) a8 (tCs p.calm cs)) (he:∀ s H fp,QE (Qac X scope N s H fp) elt (tE p.calm e'))
  (hk:scope.kind=.function:=by rfl) (h1:scOk X scope=true:=by rfl) (h2:Qis X scope N js=true:=by rfl) (hs:∀ x,foldedSetIterable af X.env x=pure x:=by intro _;rfl):QE X (.ListComp elt [⟨aC,af,a8,0⟩] scope pos) (tE p (.comp w js tg cs e')):=Q8v aq hi hg hc he hk h1 h2 hs
theorem Q83 {aC elt af:Fr} {a8:List Fr} {scope:Scope} (N:List Str) (js:List (Option Nat)) {w:W} {tg:Tg} {cs:Es} {i:Nat} (aq:X.calm=true)
  (hi:QI X aC af (tW p w)) (hg:∀ s H fp,QG (Qac X scope N s H fp) aC (tG tg)) (hc:∀ s H fp,QC (Qac X scope N s H fp) a8 (tCs p.calm cs)) (he:∀ s H fp,QE (Qac X scope N s H fp) elt (tE p.calm e')) (hn:QG X (.Name x p2) (Qgk i))
  (hk:scope.kind=.function:=by rfl) (h1:scOk X scope=true:=by rfl) (h2:Qis X scope N js=true:=by rfl) (hs:∀ x,foldedSetIterable af X.env x=pure x:=by intro _;rfl)
  (fR:swapsWithSole [.Name x p2] (.ListComp elt [⟨aC,af,a8,0⟩] scope p1) pos.line X.env=pure true:=by rfl) (ha:(assignEach [.Name x p2] X.env).map (·.2)=[assign (.Name x p2) X.env]:=by rfl) :
  QS X (.Assign [.Name x p2] (.ListComp elt [⟨aC,af,a8,0⟩] scope p1) pos) (Qm7 (tE p (.comp w js tg cs e')) (Qgk i)) :=
 QS.weak ⟨Qsn aq hi.h (fun s H fp=>(hg s H fp).h) (fun s H fp=>(hc s H fp).h) (fun s H fp=>(he s H fp).h) hn.h hk h1 h2 hs fR ha⟩ fun D σ H h=>Qt8 h
variable {tg:Fr}
theorem Qia (hm:X.mg "range" = none) (ha:QE X a (tE p a')) (hg:Gl X "range" := by rfl) (hs:Qo a=true:=by rfl):QI X tg (.Call (.Name "range" p1) [a] [] pos) (tW p (.rng1 a')):=Q29 hm ha hg hs
theorem Q84 {j1:Nat} {p2 p3:Pos} (hm:X.mg "range" = none) (ha:QE X a (tE p a')) (hb:QE X b (tE p b')) (hg:Gl X "range" := by rfl) (hs:Qo a=true:=by rfl) (ao:Qo b=true:=by rfl):QI X tg (.Call (.Name "range" p1) [a,b,.UnaryOp .USub (.Constant (.int 1) j1 p2) p3] [] pos) (tW p (.rngD a' b')):=Q3a hm ha hb hg hs ao
theorem Qadl {es:List Fr} {x1} {tp:Pos} (hK:X.K=K) (hm:X.mg "enumerate" = none) (hb:PySem.bootBuiltins "enumerate" = some (.type "enumerate")) (ha:QE X a (tE p a')) (hg:Gl X "enumerate" := by rfl) (hs:Qo a=true:=by rfl):QI X (.Tuple es x1 tp) (.Call (.Name "enumerate" p1) [a] [] pos) (tW p (.enm a')):=Q8s hK hm hb ha hg hs
theorem Qadm {es:List Fr} {x1} {tp:Pos} (hK:X.K=K) (hm:X.mg "zip" = none) (hb:PySem.bootBuiltins "zip" = some (.type "zip")) (ha:QE X a (tE p a')) (cA:QE X b (tE p b')) (hg:Gl X "zip" := by rfl) (hs:Qo a=true:=by rfl) (ao:Qo b=true:=by rfl):QI X (.Tuple es x1 tp) (.Call (.Name "zip" p1) [a,b] [] pos) (tW p (.zip a' b')):=Q8t hK hm hb ha cA hg hs ao
theorem Qpc (he:QE X e (tE p e')) (hs:swapsWith e none pos.line X.env=pure false:=by rfl):QS X (.Expr e pos) (tS p (.expr e')):=Q8x he hs
theorem Qea {af aC:Fr} {body:List Fs} {w:W} {tg:Tg} (hc:X.calm=true) (hi:QI X.nox aC af (tW p.calm w)) (hg:QG X.nox aC (tG tg)) (hb:QB X.nox body (tS p.calm s)) (hs:∀ x,foldedSetIterable af X.env x=pure x:=by intro _;rfl):QS X (.For aC af body [] pos) (tS p (.for_ w tg s)):=Qadh hc hi hg hb hs
theorem Qadn {lo hi:Fr} {cM cI:E} (hm:X.mg "range" = none) (hv:bootBuiltins "range" = some (.type "range")) (ha:QE X a (tE p a')) (hl:QE X lo (tE p cM)) (hh:QE X hi (tE p cI)) (hg:Gl X "range" := by rfl) (h1:Qo lo=true:=by rfl) (h2:Qo hi=true:=by rfl) :
  QT X (.Compare a [.NotIn] [.Call (.Name "range" p1) [lo,hi] [] p2] pos) (tT p (.inR true a' cM cI)) :=
 (Qo2 Qx7 ha (Q4y Qx9 hm hv (Qr hl (Qr hh Qbg h2) h1) hg (by decide) (by decide) h1 (by rw [Qah h2];rfl)) rfl).weak fun σ H Q h=>by
  obtain ⟨G,ρ,F,h⟩:=Qqw h
  unfold evE at h
  refine ⟨G,ρ,F,h.bind.imp fun ra ρ1 h1 v H1 G1 F1 r1=>?_⟩
  refine Qqs F1 h1.bind fun rl ρ2 vl H2 G2 h2 F2 F2' r2=>?_
  refine Qqs F2 h2.bind fun rh ρ3 vh H3 G3 h3 F3 F3' r3=>?_
  have iX:=(r1.step F1 F2').step F2 F3'
  have kb:=r2.step F2 F3'
  cases ra with
  | ow t=>exact Zef h3
  | sl i=>exact Zef h3
  | fz ta =>
   cases rl with
   | ow t=>cases ta <;> exact Zef h3
   | sl i=>cases ta <;> exact Zef h3
   | fz tl =>
    cases rh with
    | ow t=>cases ta <;> cases tl <;> exact Zef h3
    | sl i=>cases ta <;> cases tl <;> exact Zef h3
    | fz th =>
     cases ta <;> first | exact Zef h3 | skip
     cases tl <;> first | exact Zef h3 | skip
     cases th <;> first | exact Zef h3 | skip
     rename_i i l u
     obtain rfl:=iX.is.int_inv
     obtain rfl:=kb.is.int_inv
     obtain rfl:=r3.is.int_inv
     refine ⟨l,u,rfl,fun q hq=>⟨i,q,l,u,rfl,rfl,Qn,?_⟩⟩
     exact h3 _ _ G3 (F3.grow (Same.upd hq)) pvB
end
end L2
set_option maxHeartbeats 2000000
namespace L2
open PySem PySem.Spec PyProof.Rows PySem.W PySem.Calls
variable {X:Cx} {p:Pr} {st:Fs}
end L2
namespace L2
open PySem PySem.Spec PyProof.Rows PySem.W PySem.Calls
section
variable {X:Cx} {aa:List (Fw×Obj)} {σ σ0:St} {H H0:Hp} {s s0:Fy}
end
section
variable {X:Cx} {x:Str} {ps:List Str} {k:Nat} {sp:Sp} {e eb:Fr} {te:TE} {p1 p2 k1 k2 pos:Pos}
end
section
variable {X:Cx} {p:Pr} {f:Nat} {e':E} {K:Fz}
end
section
variable {X:Cx} {p:Pr} {f k:Nat} {e':E} {x:Str} {ps:List Str} {e:Fr} {p1 p2 k1 k2 kp pos:Pos}
end
end L2
namespace L2
open PySem PySem.Spec PyProof.Rows PySem.W PySem.Calls
theorem Qoj {f:Slot→Slot} (hf:f .un=.un) (ρ:En) (j:Nat):Qa (ρ.map f) j=f (Qa ρ j):=by
 unfold Qa
 rw [Zab]
 cases ρ[j]? with
 | none=>exact hf.symm
 | some s=>rfl
theorem Qib {ρ ρ1:En} (h:ρ1.length=ρ.length) (j:Nat):Qa (List.zipWith lkB ρ ρ1) j=lkB (Qa ρ j) (Qa ρ1 j):=by
 unfold Qa
 by_cases hj:j<ρ.length
 ·have h1:j<ρ1.length:=by omega
  rw [Zc hj,Zc h1,Zc (by rw [List.length_zipWith];omega),List.getElem_zipWith]
 ·have h0:(List.zipWith lkB ρ ρ1)[j]?=none:=Zbg (by rw [List.length_zipWith];omega)
  have h1:ρ[j]?=none:=Zbg (by omega)
  have h2:ρ1[j]?=none:=Zbg (by omega)
  rw [h0,h1,h2]
  rfl
section
variable {X:Cx} {p:Pr} {st:Fs} {B:Bs} {H H1:Hp} {G G1:Fw→Prop} {σ σ1:St} {ρ ρ1:En} {i:Nat} {ts:List T}
theorem Qq4 {f:Slot→Bool} (hf:f .un=true) (h:ρ.all f=true) (j:Nat):f (Qa ρ j)=true:=by
 unfold Qa
 cases e:ρ[j]? with
 | none=>exact hf
 | some s=>exact Zah.mp h s (Z1 e)
abbrev lkE (i:Nat) (ts:List T) (ρ:En):En:=(ρ.set i (.fz (.lst ts))).map lkS
theorem Qpd (hi:i<ρ.length) (j:Nat):Qa (lkE i ts ρ) j=if j=i then .fx (.lst ts) else lkS (Qa ρ j):=by
 rw [Qoj rfl,Qbz]
 by_cases e:j=i
 ·rw [Zf ⟨e,hi⟩,Zf e];rfl
 ·rw [Zg (fun z=>e z.1),Zg e]
theorem FI.look (F:FI B H G σ ρ) (hO:∀ a,¬ B.O a) (hs:Qa ρ i=.ow (.lst ts)) (hk:(ρ.set i .un).all Ql0=true) :
  ∃ a G',σ[i]?=some (some (.ref a))∧G a∧B.H a=none∧(∀ b,G' b↔G b∧b≠a)∧FI ⟨B.H,B.G,B.O,B.M,PnA σ (lkE i ts ρ)⟩ H G' σ (lkE i ts ρ):=by
 have hi:i<ρ.length:=Qhh (by rw [hs];intro z;cases z)
 have q:=F.slot i
 rw [hs] at q
 obtain ⟨a,e,g,ob,ea,il⟩:=q
 have hb:B.H a=none:=by
  rcases F.newO a ⟨i,_,hs,e⟩ with z | z
  ·exact z
  ·exact (hO a z).elim
 have ok:∀ j,j≠i→Ql0 (Qa ρ j)=true:=fun j hj=>by
  have:=Qq4 rfl hk j
  rwa [Qbz,Zg (fun z=>hj z.1)] at this
 have sub:Same (dls H G) (dls H fun b=>G b∧b≠a):=Qc2 fun b h=>h.1
 refine ⟨a,fun b=>G b∧b≠a,e,g,hb,fun b=>Iff.rfl,?_⟩
 have fX:∀ j c,¬ PrvAt σ (lkE i ts ρ) j c:=fun j c h=>by
  obtain ⟨⟨u,h⟩,_⟩:=h
  rw [Qpd hi] at h
  by_cases z:j=i
  ·rw [Zf z] at h;cases h
  ·rw [Zg z] at h
   have k:=ok j z
   cases ao:Qa ρ j <;> rw [ao] at h k <;> first | (cases h;done) | (cases k;done) | skip
   rename_i t
   have h:(if Qwd t=true then Slot.fx t else Slot.fz t).prv=some u:=h
   by_cases r:Qwd t=true
   ·rw [Zf r] at h;cases h
   ·rw [Zg r] at h;cases h
 exact {
  len:=by rw [Zd,Zby];exact F.len
  slot:=fun j=>by
   rw [Qpd hi]
   by_cases z:j=i
   ·rw [Zf z,z]
    refine ⟨a,ob,e,by rw [Qby fun y=>y.2 rfl];exact ea,il.is (by rw [Qby fun y=>y.2 rfl];exact ea) sub⟩
   ·rw [Zg z]
    have q:=F.slot j
    have k:=ok j z
    cases ao:Qa ρ j <;> rw [ao] at q k <;> first | (cases k;done) | trivial | exact q | skip
    rename_i t
    obtain ⟨v,ev,iv⟩:=q
    have iv:=iv.mono sub
    by_cases r:Qwd t=true
    ·show Ql1 _ _ _ _ (if Qwd t=true then _ else _)
     rw [Zf r]
     cases t <;> first | (cases r;done) | skip
     ·obtain ⟨c,vs,rfl,hc,_⟩:=iv.tup_inv;exact ⟨c,_,ev,hc,iv⟩
     ·obtain ⟨c,vs,rfl,hc,_⟩:=iv.lst_inv;exact ⟨c,_,ev,hc,iv⟩
    ·show Ql1 _ _ _ _ (if Qwd t=true then _ else _)
     rw [Zg r]
     exact ⟨v,ev,iv⟩
  apart:=fun j k c h _=>(fX j c h).elim
  prv:=fun b h=>F.prv b h.1
  chg:=F.chg
  keep:=F.keep
  newO:=fun c h=>let ⟨j,h⟩:=OwA.prv h;(fX j c h).elim
  newM:=fun c h=>let ⟨j,h⟩:=MlA.prv h;(fX j c h).elim
  fix:=fun _ _ h=>h
  gg:=fun b h=>⟨F.gg b h,fun z=>by obtain ⟨o,e⟩:=F.bp b h;rw [z,hb] at e;cases e⟩
  gn:=fun b h=>F.gn b h.1
  bp:=F.bp }
theorem Qok (s0 s1:Slot):(∃ t,s1=.fx t∧lkB s0 s1=s0)∨(∃ t,s1=.fz t∧Qqr t=true∧lkB s0 s1=.fz t)∨(∃ a,s1=.pin a∧lkB s0 s1=.pin a)∨lkB s0 s1=.un:=by
 cases s1 with
 | fx t=>exact .inl ⟨t,rfl,rfl⟩
 | fz t =>
  by_cases h:Qqr t=true
  ·exact .inr (.inl ⟨t,rfl,h,Zf h⟩)
  ·exact .inr (.inr (.inr (Zg h)))
 | pin a=>exact .inr (.inr (.inl ⟨a,rfl,rfl⟩))
 | un=>exact .inr (.inr (.inr rfl))
 | ow t=>exact .inr (.inr (.inr rfl))
 | ml t=>exact .inr (.inr (.inr rfl))
 | ro t=>exact .inr (.inr (.inr rfl))
theorem Qub {D D1:Hp} {v:V} {t:T} (h:flaT t=true) (r:Is D v t):Is D1 v t:=by
 cases t <;> first | (cases h;done) | (unfold Is at r ⊢;exact r)
theorem Qq5 {D D1:Hp}:∀ {ts:List T} {vs:List V},ts.all flaT=true→IsL D vs ts→IsL D1 vs ts
 | [],vs,_,r=>by rw [r.nil_inv];exact .nil
 | t::ts,vs,h,r=>by
  rw [Zal,Zt] at h
  obtain ⟨v,w,rfl,a,b⟩:=r.cons_inv
  exact .cons (Qub h.1 a) (Qq5 h.2 b)
theorem Qzh {D D1:Hp} {v:V} {t:T} (h:Qqr t=true) (k:∀ b xs,D b=some (.tup xs)→D1 b=some (.tup xs)) (r:Is D v t):Is D1 v t:=by
 cases t with
 | tup ts =>
  have z:ts.length≤100000:=by unfold Is at r;exact r.1
  obtain ⟨b,vs,rfl,e,l⟩:=r.tup_inv
  exact .tup (k b vs e) (Qq5 h l) z
 | _=>exact Qub h r
theorem FI.unlook {a:Fw} {G':Fw→Prop} (F:FI B H G σ ρ) (hO:∀ a,¬ B.O a) (hs:Qa ρ i=.ow (.lst ts)) (hk:(ρ.set i .un).all Ql0=true) (ea:σ[i]?=some (some (.ref a))) (ga:G a) (hb:B.H a=none) (hG:∀ b,G' b↔G b∧b≠a)
  (F1:FI ⟨B.H,B.G,B.O,B.M,PnA σ (lkE i ts ρ)⟩ H1 G1 σ1 ρ1) (s1:Same (dls H G') (dls H1 G1)) (hx:Q2s (Qa ρ1 i)=true) (hl:ρ1.length=ρ.length) :
  FI B H1 (fun b=>G1 b∨b=a) σ1 (List.zipWith lkB ρ ρ1)∧Same (dls H G) (dls H1 fun b=>G1 b∨b=a):=by
 have hi:i<ρ.length:=Qhh (by rw [hs];intro z;cases z)
 have ok:∀ j,j≠i→Ql0 (Qa ρ j)=true:=fun j hj=>by
  have:=Qq4 rfl hk j
  rwa [Qbz,Zg (fun z=>hj z.1)] at this
 obtain ⟨ob,eo,il⟩:∃ ob,H a=some ob∧OwnO (dls H G) (.lst ts) ob:=by
  have q:=F.slot i
  rw [hs] at q
  obtain ⟨c,e,_,ob,eo,il⟩:=q
  rw [ea] at e
  cases e
  exact ⟨ob,eo,il⟩
 have a0:dls H G' a=some ob:=by rw [Qby fun z=>((hG a).mp z).2 rfl];exact eo
 obtain ⟨na,a1⟩:=Qs (s1 _ _ a0)
 have sm:Same (dls H G) (dls H1 fun b=>G1 b∨b=a):=fun b o e=>by
  obtain ⟨nb,e⟩:=Qs e
  have kc:b≠a:=fun z=>nb (z ▸ ga)
  have e2:dls H G' b=some o:=by rw [Qby fun z=>nb ((hG b).mp z).1];exact e
  obtain ⟨n1,e3⟩:=Qs (s1 _ _ e2)
  rw [Qby fun z=>z.elim n1 kc]
  exact e3
 have gq:∀ j t,Qa ρ1 j=.fx t→∃ c,σ1[j]?=some (some (.ref c))∧σ[j]?=some (some (.ref c)):=fun j t e=>by
  have q:=F1.slot j
  rw [e] at q
  obtain ⟨c,o,ec,_,_⟩:=q
  have:=F1.fix j c ⟨⟨t,.inr (.inr e)⟩,ec⟩
  exact ⟨c,ec,this.2⟩
 have iL:∀ j t,Qa ρ1 j=.fx t→j≠i→∃ u,Qa ρ j=.fz u:=fun j t e hj=>by
  obtain ⟨c,ec,_⟩:=gq j t e
  obtain ⟨⟨u,z⟩,_⟩:=F1.fix j c ⟨⟨t,.inr (.inr e)⟩,ec⟩
  rw [Qpd hi,Zg hj] at z
  have k:=ok j hj
  cases ao:Qa ρ j with
  | fz u=>exact ⟨u,rfl⟩
  | un=>rw [ao] at z;rcases z with z | z | z <;> cases z
  | ow t=>rw [ao] at k;cases k
  | ml t=>rw [ao] at k;cases k
  | ro t=>rw [ao] at k;cases k
  | pin a=>rw [ao] at z;rcases z with z | z | z <;> cases z
  | fx t=>rw [ao] at k;cases k
 have ei:Qa (List.zipWith lkB ρ ρ1) i=.ow (.lst ts):=by
  rw [Qib hl,hs]
  cases h:Qa ρ1 i <;> rw [h] at hx <;> first | (cases hx;done) | rfl
 have ai:σ1[i]?=some (some (.ref a)):=by
  cases h:Qa ρ1 i <;> rw [h] at hx <;> first | (cases hx;done) | skip
  obtain ⟨c,ec,eK⟩:=gq i _ h
  rw [ea] at eK
  cases eK
  exact ec
 have bT:∀ j,j≠i→Qa (List.zipWith lkB ρ ρ1) j=.un∨(∃ t,Qa (List.zipWith lkB ρ ρ1) j=.fz t)∨∃ c,Qa (List.zipWith lkB ρ ρ1) j=.pin c:=fun j hj=>by
  rw [Qib hl]
  rcases Qok (Qa ρ j) (Qa ρ1 j) with ⟨t,e1,e2⟩ | ⟨t,e1,f,e2⟩ | ⟨c,e1,e2⟩ | e2
  ·obtain ⟨u,e3⟩:=iL j t e1 hj
   rw [e2,e3]
   exact .inr (.inl ⟨u,rfl⟩)
  ·rw [e2];exact .inr (.inl ⟨t,rfl⟩)
  ·rw [e2];exact .inr (.inr ⟨c,rfl⟩)
  ·rw [e2];exact .inl rfl
 have only:∀ j c,PrvAt σ1 (List.zipWith lkB ρ ρ1) j c→j=i∧c=a:=fun j c h=>by
  obtain ⟨⟨u,h⟩,q⟩:=h
  by_cases hj:j=i
  ·subst hj;rw [ai] at q;cases q;exact ⟨rfl,rfl⟩
  ·rcases bT j hj with z | ⟨t,z⟩ | ⟨c,z⟩ <;> rw [z] at h <;> cases h
 refine ⟨?_,sm⟩
 exact {
  len:=by rw [List.length_zipWith,F1.len];omega
  slot:=fun j=>by
   by_cases hj:j=i
   ·subst hj
    rw [ei]
    exact ⟨a,ai,.inr rfl,ob,a1,il.mono sm⟩
   ·rw [Qib hl]
    rcases Qok (Qa ρ j) (Qa ρ1 j) with ⟨t,e1,e2⟩ | ⟨t,e1,f,e2⟩ | ⟨c,e1,e2⟩ | e2
    ·obtain ⟨u,e3⟩:=iL j t e1 hj
     obtain ⟨c,ec,eK⟩:=gq j t e1
     rw [e2,e3]
     have q:=F.slot j
     rw [e3] at q
     obtain ⟨v,ev,iv⟩:=q
     rw [eK] at ev
     cases ev
     exact ⟨_,ec,iv.mono sm⟩
    ·rw [e2]
     have q:=F1.slot j
     rw [e1] at q
     obtain ⟨v,ev,iv⟩:=q
     exact ⟨v,ev,Qzh f (fun b xs e=>by
      obtain ⟨n1,e3⟩:=Qs e
      have nb:b≠a:=fun z=>by
       rw [z,a1] at e3
       cases e3
       exact il
      rw [Qby fun z=>z.elim n1 nb]
      exact e3) iv⟩
    ·rw [e2]
     have q:=F1.slot j
     rw [e1] at q
     exact q
    ·rw [e2];trivial
  apart:=fun j k c h1 h2=>by rw [(only j c h1).1,(only k c h2).1]
  prv:=fun b h=>by
   rcases h with h | h
   ·exact F1.prv b h
   ·rw [h];exact ⟨ob,a1,il.pen⟩
  chg:=F1.chg
  keep:=F1.keep
  newO:=fun c h=>by
   obtain ⟨j,h⟩:=OwA.prv h
   rw [(only j c h).2]
   exact .inl hb
  newM:=fun c h=>by
   obtain ⟨j,t,e,q⟩:=h
   by_cases hj:j=i
   ·subst hj;rw [ei] at e;cases e
   ·rcases bT j hj with z | ⟨t,z⟩ | ⟨c,z⟩ <;> rw [z] at e <;> cases e
  fix:=fun j c h=>by
   obtain ⟨⟨t,e⟩,q⟩:=h
   by_cases hj:j=i
   ·subst hj;rw [ei] at e;rcases e with e | e | e <;> cases e
   ·rcases bT j hj with z | ⟨t,z⟩ | ⟨c,z⟩ <;> rw [z] at e <;> rcases e with e | e | e <;> cases e
  gg:=fun b h=>.inl (F1.gg b h)
  gn:=fun b h=>by
   rcases h with h | h
   ·exact F1.gn b h
   ·rw [h];exact .inr hb
  bp:=F1.bp }
theorem Q85 {s:S} (h:QS X st (tS p s)):QS X st (tS p (.look i s)):=h.weak fun D σ H ⟨B,G,ρ,F,hO,h⟩=>by
 unfold exS at h
 cases hs:Qa ρ i with
 | un=>rw [hs] at h;exact Zef h
 | fz t=>rw [hs] at h;exact Zef h
 | ml t=>rw [hs] at h;exact Zef h
 | ro t=>rw [hs] at h;exact Zef h
 | pin t=>rw [hs] at h;exact Zef h
 | fx t=>rw [hs] at h;exact Zef h
 | ow t =>
  rw [hs] at h
  cases t <;> first | exact Zef h | skip
  rename_i ts
  replace h:SFin p B H G D (if (ρ.set i .un).all Ql0=true then lkO i ρ (exS p.cf s (lkE i ts ρ)) else .no):=h
  by_cases hk:(ρ.set i .un).all Ql0=true
  ·rw [Zf hk] at h
   obtain ⟨a,G',ea,ga,hb,hG,F0⟩:=F.look hO hs hk
   refine ⟨_,G',_,F0,hO,?_⟩
   cases e:exS p.cf s (lkE i ts ρ) with
   | nx ρ1 =>
    rw [e] at h
    replace h:SFin p B H G D (if Q2s (Qa ρ1 i)=true∧ρ1.length=ρ.length then .nx (List.zipWith lkB ρ ρ1) else .no):=h
    by_cases c:Q2s (Qa ρ1 i)=true∧ρ1.length=ρ.length
    ·rw [Zf c] at h
     intro σ1 H1 G1 F1 s1
     obtain ⟨F2,s2⟩:=F.unlook hO hs hk ea ga hb hG F1 s1 c.1 c.2
     exact h σ1 H1 _ F2 s2
    ·rw [Zg c] at h;exact Zef h
   | rt r ρ1 =>
    rw [e] at h
    cases r with
    | ow t=>exact Zef h
    | sl j=>exact Zef h
    | fz t =>
     cases t <;> first | exact Zef h | skip
     rename_i b
     replace h:SFin p B H G D (.rt (.fz (.bl b)) (ρ1.map fun _=>.un)):=h
     intro v σ1 H1 G1 F1 pv
     have un:∀ j,Qa (ρ1.map fun _=>Slot.un) j=.un:=fun j=>by rw [Qoj rfl]
     refine h v σ1 H1 G1 ?_ pv
     exact {
      len:=by rw [Zd];exact F1.len
      slot:=fun j=>by rw [un];trivial
      apart:=fun j k c h1 _=>by obtain ⟨⟨u,z⟩,_⟩:=h1;rw [un] at z;cases z
      prv:=F1.prv
      chg:=F1.chg
      keep:=F1.keep
      newO:=fun c z=>by obtain ⟨j,t,e,_⟩:=z;rw [un] at e;cases e
      newM:=fun c z=>by obtain ⟨j,t,e,_⟩:=z;rw [un] at e;cases e
      fix:=fun j c z=>by obtain ⟨⟨t,e⟩,_⟩:=z;rw [un] at e;rcases e with e | e | e <;> cases e
      gg:=F1.gg
      gn:=F1.gn
      bp:=F1.bp }
   | bk ρ1=>rw [e] at h;exact Zef h
   | ct ρ1=>rw [e] at h;exact Zef h
   | xn x ρ1=>rw [e] at h;exact Zef h
   | no=>rw [e] at h;exact Zef h
  ·rw [Zg hk] at h;exact Zef h
end
section
variable {X:Cx} {p:Pr} {e a b:Fr} {e' a' b':E} {pos p1 p2 bR:Pos} {x:Str}
end
section
variable {P:Fu} {w:Ft} {H:Hp}
end
section
variable {X:Cx} {p:Pr} {a b:Fr} {a' b':E} {pos:Pos}
end
section
variable {X:Cx} {k v:Fr} {tk tv:TE} {pos:Pos}
end
section
variable {X:Cx} {p:Pr} {a b:Fr} {a' b':E} {pos:Pos}
end
section
variable {prog:Fu} {w:Ft} {A:Fv} {E:Fx→Fy→Prop} {s:Fy}
end
section
variable {X:Cx}
end
end L2
namespace L2
open PySem PySem.Spec PyProof.Rows PySem.W
section
variable {prog:Fu} {w:Ft} {A:Fv} {E:Fx→Fy→Prop} {s:Fy} {it d:Fw} {i ep:Nat} {es:Array DictEntry}
end
section
variable {X:Cx}
end
section
variable {prog:Fu} {w:Ft} {A:Fv} {E:Fx→Fy→Prop} {h:Fq} {g:Array GenState} {d:Drawn} {t:Nat} {os:OsState} {a:Fw} {ac:Array Fx} {n:Nat}
end
section
variable {prog:Fu} {w:Ft} {A:Fv} {E:Fx→Fy→Prop} {s:Fy}
end
section
variable {X:Cx}
end
section
variable {prog:Fu} {w:Ft} {A:Fv} {E:Fx→Fy→Prop} {s:Fy} {l:Fw} {xs:Array (Int×Tok)}
end
section
variable {X:Cx}
end
section
variable {prog:Fu} {w:Ft} {A:Fv} {E:Fx→Fy→Prop} {s:Fy} {l:Fw} {xs:Array (Int×Tok)}
end
section
variable {X:Cx}
end
end L2
namespace L2
open PySem PySem.Spec PyProof.Rows PySem.W PySem.Calls
section
variable {prog:Fu} {w:Ft} {A:Fv} {E:Fx→Fy→Prop} {s:Fy}
end
inductive TupsI (h:Fq):List Fx→List (List Int)→Prop
 | nil:TupsI h [] []
 | cons {a:Fw} {ac:List Fx} {k:List Int} {vs:List Fx} {ks:List (List Int)} (ht:h.IsTuple a ac.toArray) (hi:IntsAre ac k) (t:TupsI h vs ks):TupsI h (.ref a::vs) (k::ks)
section
variable {prog:Fu} {w:Ft} {A:Fv} {E:Fx→Fy→Prop} {s:Fy}
end
inductive TupsV (K:Fz) (H:Hp):List V→List (List Int)→Prop
 | nil:TupsV K H [] []
 | cons {b:Fw} {k:List Int} {ys:List V} {ks:List (List Int)} (hq:SqT K H b (k.map V.int)) (t:TupsV K H ys ks):TupsV K H (.ref b::ys) (k::ks)
section
variable {X:Cx}
end
end L2
namespace L2
open PySem PySem.Spec PyProof.Rows PySem.W PySem.Calls
inductive PairI (h:Fq):List Fx→List (List Int)→Prop
 | nil:PairI h [] []
 | cons {a b:Fw} {i:Int} {tk:Tok} {ac:List Fx} {k:List Int} {vs:List Fx} {ks:List (List Int)} (ha:h.IsTuple a #[.int i tk,.ref b]) (hb:h.IsTuple b ac.toArray) (hi:IntsAre ac k) (t:PairI h vs ks):PairI h (.ref a::vs) ((i::k)::ks)
section
variable {prog:Fu} {w:Ft} {A:Fv} {E:Fx→Fy→Prop} {s:Fy}
end
inductive PairV (K:Fz) (H:Hp):List V→List (List Int)→Prop
 | nil:PairV K H [] []
 | cons {a b:Fw} {i:Int} {k:List Int} {ys:List V} {ks:List (List Int)} (ha:SqT K H a [.int i,.ref b]) (hb:SqT K H b (k.map V.int)) (t:PairV K H ys ks):PairV K H (.ref a::ys) ((i::k)::ks)
section
variable {X:Cx}
end
end L2
namespace L2
open PySem PySem.Spec PyProof.Rows PySem.W PySem.Calls
section
variable {prog:Fu} {w:Ft} {A:Fv} {E:Fx→Fy→Prop} {s:Fy}
noncomputable def elt (vs:List Fx) (ks:List (List Int)) (j:Nat):Int×Fx:=(Qtz (Qn4 ks j),vs.getD j Value.none)
structure MOk (ks:List (List Int)) (led:Bool) (r:SetTable×Array Nat):Prop where
 fits:r.1.fits r.2.size=true
 plain:r.1.plain=true
 gave:r.1.gaveWay=false
 led:r.1.led=led
 size:r.2.size≤1000
 lt:∀ x∈r.2,x<ks.length
end
section
variable {prog:Fu} {w:Ft} {A:Fv} {R:Result→Fy→Prop} {I:Fw} {fp wr:List Fw} {G:Array GenState→Array GenState→Prop} {n:Nat} {P:Nat→Fx→Prop} {St:Nat→Fy→Prop}
end
section
variable {prog:Fu} {w:Ft} {A:Fv} {E:Fx→Fy→Prop} {s:Fy}
end
end L2
namespace L2
open PySem PySem.Spec PyProof.Rows PySem.W PySem.Calls
section
variable {prog:Fu} {w:Ft} {A:Fv} {E:Fx→Fy→Prop} {s:Fy}
end
section
variable {X:Cx}
end
section
variable {H H1:Hp} {b:Fw} {o:HO}
end
section
variable {X:Cx}
end
section
variable {X:Cx} {p:Pr} {e a b:Fr} {e' a' k':E} {st:Fs} {pos p1 a7:Pos} {x:Str} {K:Fz}
end
end L2
namespace L2
open PySem PySem.Spec PyProof.Rows PySem.W
section
variable {X:Cx} {tg l e:Fr} {tl:TE}
end
section
variable {X:Cx} {p:Pr} {tg e:Fr} {e':E}
end
def Qol (H:Hp) (σ:St) (ρ:En):Hp:=by
 classical
 exact fun b=>if OwA σ ρ b then none else H b
section
variable {B:Bs} {H H1:Hp} {G G1:Fw→Prop} {σ σ1:St} {ρ ρ1:En} {b:Fw} {o:HO}
theorem Qmd (h:OwA σ ρ b):Qol H σ ρ b=none:=by
 unfold Qol
 exact Zf h
theorem Qe6 (h:¬ OwA σ ρ b):Qol H σ ρ b=H b:=by
 unfold Qol
 exact Zg h
theorem Qom (h:Qol H σ ρ b=some o):¬ OwA σ ρ b∧H b=some o:=by
 by_cases z:OwA σ ρ b
 ·rw [Qmd z] at h;cases h
 ·rw [Qe6 z] at h;exact ⟨z,h⟩
noncomputable abbrev bsB (H:Hp) (G:Fw→Prop) (σ:St) (ρ:En):Bs:=⟨Qol H σ ρ,fun b=>G b∧¬ OwA σ ρ b,fun _=>False,MlA σ ρ,PnA σ ρ⟩
theorem FI.rebase (F:FI B H G σ ρ):FI (bsB H G σ ρ) H G σ ρ where
 len:=F.len
 slot:=F.slot
 apart:=F.apart
 prv:=F.prv
 chg:=fun b o _ _ e=>(Qom e).2
 keep:=fun b o e=>⟨o,(Qom e).2⟩
 newO:=fun a h=>.inl (Qmd h)
 newM:=fun a h=>h
 fix:=fun i a h=>h
 gg:=fun b h=>h.1
 gn:=fun b h=>by
  by_cases z:OwA σ ρ b
  ·exact .inr (Qmd z)
  ·exact .inl ⟨h,z⟩
 bp:=fun b h=>by
  obtain ⟨o,e,_⟩:=F.prv b h.1
  exact ⟨o,(Qe6 h.2).trans e⟩
theorem FI.transR (F:FI B H G σ ρ) (hO:∀ a,¬ B.O a) (F1:FI (bsB H G σ ρ) H1 G1 σ1 ρ1):FI B H1 G1 σ1 ρ1 where
 len:=F1.len
 slot:=F1.slot
 apart:=F1.apart
 prv:=F1.prv
 chg:=fun b o h1 h2 e=>by
  have z:¬ OwA σ ρ b:=fun z=>(F.newO b z).elim (fun q=>by rw [q] at e;cases e) (hO b)
  exact F1.chg b o (fun q=>q) (fun q=>h2 (F.newM b q)) ((Qe6 z).trans (F.chg b o h1 h2 e))
 keep:=fun b o e=>by
  have z:¬ OwA σ ρ b:=fun z=>(F.newO b z).elim (fun q=>by rw [q] at e;cases e) (hO b)
  obtain ⟨o',e'⟩:=F.keep b o e
  exact F1.keep b o' ((Qe6 z).trans e')
 newO:=fun a h=>by
  rcases F1.newO a h with q | q
  ·by_cases z:OwA σ ρ a
   ·exact F.newO a z
   ·exact .inl (F.free ((Qe6 z).symm.trans q))
  ·exact q.elim
 newM:=fun a h=>F.newM a (F1.newM a h)
 fix:=fun i a h=>F.fix i a (F1.fix i a h)
 gg:=fun b h=>by
  have z:¬ OwA σ ρ b:=fun z=>by
   obtain ⟨o,e⟩:=F.bp b h
   exact (F.newO b z).elim (fun q=>by rw [q] at e;cases e) (hO b)
  exact F1.gg b ⟨F.gg b h,z⟩
 gn:=fun b h=>by
  rcases F1.gn b h with q | q
  ·exact F.gn b q.1
  ·by_cases z:OwA σ ρ b
   ·exact .inr ((F.newO b z).resolve_right (hO b))
   ·exact .inr (F.free ((Qe6 z).symm.trans q))
 bp:=F.bp
noncomputable def RowR (H:Hp) (G:Fw→Prop) (r:Fw) (is:List Int):Prop:=¬ G r∧H r=some (.lst (is.map V.int))∧is.length≤1000
noncomputable def TabR (H:Hp) (G:Fw→Prop) (q:Fw×List Fw) (M:List (List Int)):Prop:=¬ G q.1∧H q.1=some (.lst (q.2.map V.ref))∧Paired (RowR H G) q.2 M∧M.length≤1000
abbrev Q3e (ps:List (Fw×List Fw)):List Fw:=ps.map (·.1)++ps.flatMap (·.2)
structure Tree (H:Hp) (G:Fw→Prop) (lf:Fw) (ps:List (Fw×List Fw)) (Ms:List (List (List Int))):Prop where
 own:G lf
 top:H lf=some (.lst (ps.map fun q=>V.ref q.1))
 tabs:Paired (TabR H G) ps Ms
 nd:(Q3e ps).Nodup
structure Lv (B:Bs) (iF iR:Nat) (H:Hp) (G:Fw→Prop) (σ:St) (ρ:En) (lf lr:Fw) (ps:List (Fw×List Fw)) (Ms:List (List (List Int))) (rs:List Fw) (R:List (List Int)):Prop where
 F:FI B H G σ ρ
 sF:Qa ρ iF=.ow (.lst (Ms.map Qej))
 eF:σ[iF]?=some (some (.ref lf))
 sR:Qa ρ iR=.ow (.lst (R.map Qn6))
 eR:σ[iR]?=some (some (.ref lr))
 tr:Tree H G lf ps Ms
 hr:H lr=some (.lst (rs.map V.ref))
 rows:Paired (RowR H G) rs R
 nd:(rs++Q3e ps).Nodup
 fr:∀ b∈rs++Q3e ps,B.H b=none
structure Lf (B:Bs) (iF:Nat) (H:Hp) (G:Fw→Prop) (σ:St) (ρ:En) (lf:Fw) (ps:List (Fw×List Fw)) (Ms:List (List (List Int))):Prop where
 F:FI B H G σ ρ
 sF:Qa ρ iF=.ow (.lst (Ms.map Qej))
 eF:σ[iF]?=some (some (.ref lf))
 tr:Tree H G lf ps Ms
 fr:∀ b∈Q3e ps,B.H b=none
variable {iF iR iH:Nat} {lf lr:Fw} {ps:List (Fw×List Fw)} {Ms:List (List (List Int))} {rs:List Fw} {R:List (List Int)} {is:List Int}
theorem FI.sameR (F:FI B H G σ ρ) (F1:FI (bsB H G σ ρ) H1 G1 σ1 ρ1):Same (dls H G) (dls H1 G1):=fun b o e=>by
 obtain ⟨g,e'⟩:=Qs e
 have nO:¬ OwA σ ρ b:=fun ⟨i,t,ei,si⟩=>by
  obtain ⟨a,x,ga,_⟩:=F.prvAt (i:=i) (t:=t) (by rw [ei];rfl)
  rw [si] at x
  cases x
  exact g ga
 have nM:¬ MlA σ ρ b:=fun ⟨i,t,ei,si⟩=>by
  obtain ⟨a,x,ga,_⟩:=F.prvAt (i:=i) (t:=t) (by rw [ei];rfl)
  rw [si] at x
  cases x
  exact g ga
 have h1:=F1.chg b o (fun q=>q) nM ((Qe6 nO).trans e')
 have ng:¬ G1 b:=fun z=>by
  rcases F1.gn b z with q | q
  ·exact g q.1
  ·have:=(Qe6 (H:=H) nO).symm.trans q
   rw [e'] at this
   cases this
 rw [Qby ng]
 exact h1
end
theorem argR.mono {H H':Hp} {dx:Option Fw} (s:Same H H'):∀ {arg:List Int},argR H dx arg→argR H' dx arg
 | [],h=>h
 | [_],⟨d,e,q⟩=>⟨d,e,s _ _ q⟩
 | [_,_],⟨d,e,q⟩=>⟨d,e,s _ _ q⟩
 | _::_::_::_,h=>h.elim
noncomputable def ExAt (mg:Str→Option Fx) (H:Hp) (a:Fw) (c:Nat) (arg:List Int):Prop:=∃ nm dx,Qbm[c]?=some nm∧H a=some (Qsg a (.ref (cad mg nm)) dx)∧argR H dx arg
section
variable {X:Cx} {p:Pr} {body aM:List Fs} {b0:Fs} {n:Str} {np bz pos:Pos} {i:Nat} {b:S} {h:Nat→List Int→Option T}
end
section
variable {X:Cx} {p:Pr} {e:Fr} {es:List Fr} {aw:Es} {x nm:Str} {np ah pos:Pos} {c k:Nat} {D:Ends} {σ:St} {H:Hp}
theorem Qwf (hx:Qbm[c]?=some nm) (hc:c<6) (h:tS p (.raise c aw) D σ H):tA p aw σ H (fun vs H1=>vs.length≤sizeLine∧p.R (.ref (cad p.mg nm)) none σ H1):=by
 obtain ⟨B,G,ρ,F,hO,h⟩:=h
 unfold exS at h
 refine Q5a F (Qfu h) fun rs ρ2 vs H2 G2 k F2 _ r2=>?_
 split at k
 ·rw [Zg (by omega)] at k
  exact Zef k
 ·rw [Zf hc] at k
  cases r2 with
  | cons pv r3 =>
   cases r3
   exact ⟨by show 1≤sizeLine;decide,k _ _ σ H2 G2 F2 ⟨nm,hx,rfl,rfl⟩⟩
 ·rw [Zg (by omega)] at k
  exact Zef k
 ·exact Zef k
theorem Qzi (c:Nat) (pz:Qgl X p.R) (hc:X.calm=true) (ex:Exs X.K p.mg) (hx:Qbm[c]?=some x) (h6:c<6) (ha:QA X (e::es) (tA p aw)) (hm:X.mg x=p.mg x:=by rfl) (hg:Gl X x:=by rfl)
  (ay:(x==("__debug__" : Str))=false:=by decide) (he:starEach (e::es) X.env=(false,eval e X.env)::starEach es X.env:=by rfl) (aI:(backTo ah (starEach es X.env)).any (·.1)=false:=by rfl) :
  QS X (.Raise (some (.Call (.Name x np) (e::es) [] ah)) none pos) (tS p (.raise c aw)) :=
 (Q2k pz hc F.excBase_ValueError (ex.rz c h6 hx) (hm.trans (ex.m c x hx)) ha hg ay he aI).weak fun D σ H h=>Qwf hx h6 h
end
section
variable {X:Cx} {p:Pr} {body aM:List Fs} {b0:Fs} {n:Str} {np bz pos:Pos} {i:Nat} {b:S} {h:Nat→List Int→Option T}
end
noncomputable def Qzj (mg:Str→Option Fx) (i j n:Nat) (h:Nat→List Int→Option T):TS:=fun D σ H=>∃ a c arg w l vs,σ.length=n∧σ[i]?=some (some (.ref a))∧ExAt mg H a c arg∧h c arg=some (.str w)∧σ[j]?=some (some (.ref l))∧H l=some (.lst vs)∧vs.length<sizeLine∧∀ H2,Same H H2→D.nx σ (upd H2 l (.lst (vs++[.str w])))
section
variable {X:Cx} {p:Pr} {body aM:List Fs} {b0:Fs} {n:Str} {np bz pos:Pos} {i j:Nat} {b:S} {h:Nat→List Int→Option T}
theorem Q3f (ex:Exs X.K p.mg) {D:Ends} {σ:St} {H:Hp} (cy:j≠i) (hi:i<σ.length) (q:tS p (.tryA i j b h) D σ H):tTry i X.K (cad p.mg "NoughtError") (fun R=>tS ⟨p.cf,R,p.mg⟩ b) (Qzj p.mg i j σ.length h) D σ H:=by
 obtain ⟨B,G,ρ,F,hO,q⟩:=q
 unfold exS at q
 refine ⟨fun cls dx σ' H'=>∃ x ρ1 G',FI (bsB H G σ ρ) H' G' σ' ρ1∧Q2t p.mg H' x cls dx∧exS p.cf b ρ=.xn x ρ1,⟨bsB H G σ ρ,G,ρ,F.rebase,fun _ z=>z,?_⟩,?_⟩
 ·cases e:exS p.cf b ρ with
  | nx ρ1=>rw [e] at q;exact fun σ1 H1 G1 F1 s=>q σ1 H1 G1 (F.transR hO F1) s
  | rt r ρ1=>rw [e] at q;exact q.elim
  | bk ρ1=>rw [e] at q;exact q.elim
  | ct ρ1=>rw [e] at q;exact q.elim
  | no=>rw [e] at q;exact q.elim
  | xn x ρ1=>exact fun cls dx σ1 H1 G1 F1 xr=>⟨x,ρ1,G1,F1,xr,rfl⟩
 ·rintro cls dx σ' H' a ⟨x,ρ1,G',F1,xr,e⟩ ha hl
  have s0:=F.sameR F1
  have F2:=F.transR hO F1
  rw [e] at q
  obtain ⟨nm,hn,rfl,hd⟩:=xr
  refine ⟨⟨_,rfl,ex.sub x.c hn⟩,?_⟩
  dsimp only at q
  split at q
  ·rename_i w ht
   split at q
   ·rename_i ts hs
    by_cases zt:ts.length<100000
    ·rw [Zf zt] at q
     obtain ⟨l,el,g,o1⟩:=F2.prvAt (i:=j) (t:=.lst ts) (by rw [hs];rfl)
     obtain ⟨vs,z,ev,il⟩:=o1.lst_inv
     have lz:=il.length
     have sa:Same H' (upd H' a (Qsg a (.ref (cad p.mg nm)) dx)):=Same.upd ha
     refine ⟨a,x.c,x.arg,w,l,vs,by rw [Zby,hl],st_set (by rw [hl];exact hi),⟨nm,dx,hn,Qn,hd.mono sa⟩,ht,(Qe4 cy).trans el,sa _ _ ev,by rw [lz,Zbo];omega,fun H2 s2=>?_⟩
     have s3:=sa.trans s2
     have F3:FI B H' G' (σ'.set i none) (ρ1.set i .un):=F2.lay (by rw [←F2.len,hl];exact hi) trivial (fun a h=>by obtain ⟨u,e⟩:=h;cases e) (fun _ _ e=>by cases e) (fun _ e=>by cases e) (fun _ e=>by cases e)
     have F4:=F3.grow s3
     obtain ⟨F5,s5⟩:=F4.change (i:=j) (us:=ts++[.str w]) (.inl ⟨by rw [Qbz,Zg fun z=>cy z.1];exact hs,rfl⟩) ((Qe4 cy).trans el) ((il.mono (Qau s3)).append (.one Is.str)) (by rw [Zo,Z4];omega)
     have r:=q _ _ G' F5 ((s0.trans (Qau s3)).trans s5)
     show D.nx ((σ'.set i (some (.ref a))).set i none) _
     rw [set_set]
     exact r
    ·rw [Zg zt] at q;exact q.elim
   ·exact q.elim
  ·exact q.elim
theorem Q86 (ex:Exs X.K p.mg) (cy:j≠i) (hb:∀ (aa:List (Fw×Obj)) (R:XR),Qgl (Qlt X aa R) R→QB (Qlt X aa R) body (tS ⟨p.cf,R,p.mg⟩ b)) (hs:∀ (aa:List (Fw×Obj)) (e:Fw),QB (Qlu X aa e) (b0::aM) (Qzj p.mg i j X.N.length h))
  (hN:X.N.Nodup) (hm:X.mg "NoughtError" = p.mg "NoughtError" := by rfl) (hi:X.N[i]?=some n:=by rfl) (hl:X.env.scope.names.lookup n=some .local:=by rfl) (hg:Gl X "NoughtError" := by rfl)
  (bn:∃ env outer L,X.stack=env::outer∧X.env=env∧env.frame=some L:=by exact ⟨_,_,_,rfl,rfl,rfl⟩):QS X (.Try body [.ExceptHandler (some (.Name "NoughtError" np)) (some n) (b0::aM) bz] [] [] pos) (tS p (.tryA i j b h)) :=
 ⟨fun aa s σ H D I z=>(Qacb hb hs hN ex.nou F.excBase_ValueError.hasBase (hm.trans ex.m0) hi hl hg bn (by decide)).h aa s σ H D I (I.len ▸ Q3f ex cy (by rw [I.len];exact (List.getElem?_eq_some_iff.mp hi).1) z)⟩
end
section
variable {X:Cx} {p:Pr} {a b c:Fr} {a' b' c':E} {pos:Pos}
end
section
variable {prog:Fu} {w:Ft} {A:Fv} {E:Fx→Fy→Prop} {s:Fy}
end
section
variable {X:Cx} {a b:Fr} {rest:List Fr} {ta tb:TE} {pos:Pos}
end
section
variable {cf:CF} {ρ:En}
end
section
variable {X:Cx} {aa:List (Fw×Obj)} {σ:St} {H:Hp} {s:Fy}
end
section
variable {X:Cx} {p:Pr}
end
section
variable {X:Cx} {p:Pr} {x:Str} {i n:Nat} {e:Fr} {es:List Fr} {aw:Es} {p1 pos:Pos}
end
structure LamSc (l:LamT):Prop where
 kind:l.scope.kind=.function
 co:l.scope.isCoroutine=false
 gen:l.scope.isGenerator=false
 nd:(l.ps++l.caps).Nodup
 par:∀ x∈l.ps,l.scope.names.lookup x=some .local
 cap:∀ x∈l.caps,l.scope.names.lookup x=some .free
 nocell:∀ y∈l.scope.names,y.2≠.cell
 free:∀ y∈l.scope.names,y.2=.free→y.1∈l.caps
 bind:∀ (cl:List (Str×Fw)) (pm ae dG:Fx) (us:List Fx),us.length=l.ps.length→bindArgs (PySem.W.kla_fn "<lambda>" l.qual l.params l.body l.scope cl pm ae dG) ⟨us,[]⟩=pure (l.ps.zip us)
section
variable {P:Fu} {w:Ft} {K:Fz} {mg:Str→Option Fx} {base:Fq}
abbrev swX (X:Cx) (g:Str→Bool):Cx:={ X with fn:=g }
structure QB0 (X:Cx) (g:Str→Bool) (st:List Fs) (t:TS):Prop where
 h:∀ (aa:List (Fw×Obj)) (s:Fy) (σ:St) (H:Hp) (D:Ends),Inv X aa σ H s→t D σ H→wpAny (model X.prog X.w) X.A (execs st X.env) (SP (swX X g) aa D) X.xe s
end
section
variable {K:Fz} {tb:Fw} {qn:Str} {mg:Str→Option Fx}
structure MakesL (K:Fz) (mg:Str→Option Fx) (x:Str) (c tb:Fw):Prop where
 tab:K.lookup tb=none
 of:Qse K mg x (.ref c)
 hd:∃ o vs fY tf dX tg jO gr tt,K.lookup c=some o∧o.cls=.type "code" ∧ o.data=.fields vs∧vs[11]?=some (.ref tb)∧vs.getD 11 .none=.ref tb∧vs.getD 18 .none=.str fY tf∧vs.getD 7 .none=.int dX tg∧vs.getD 9 .none=.bool jO∧vs.getD 10 .none=.int gr tt
end
section
variable {X:Cx} {p:Pr} {x:Str} {e:Fr} {es:List Fr} {aw:Es} {p1 pos:Pos}
end
abbrev uns (n:Nat):En:=List.replicate n .un
theorem Qc9 (n i:Nat):Qa (uns n) i=.un:=by
 unfold Qa uns
 rw [Zbj]
 split <;> rename_i e
 ·split at e <;> cases e
  rfl
 ·rfl
abbrev bs0 (H:Hp):Bs:=⟨H,fun _=>False,fun _=>False,fun _=>False,fun _ _=>False⟩
theorem Qzk (H:Hp) {σ:St} {n:Nat} (hl:σ.length=n):FI (bs0 H) H (fun _=>False) σ (uns n) where
 len:=by rw [hl,Zag]
 slot:=fun i=>by rw [Qc9];trivial
 apart:=fun i j a h _=>by obtain ⟨⟨t,e⟩,_⟩:=h;rw [Qc9] at e;cases e
 prv:=fun b h=>h.elim
 chg:=fun _ _ _ _ e=>e
 keep:=fun _ o e=>⟨o,e⟩
 newO:=fun a h=>by obtain ⟨i,t,e,_⟩:=h;rw [Qc9] at e;cases e
 newM:=fun a h=>by obtain ⟨i,t,e,_⟩:=h;rw [Qc9] at e;cases e
 fix:=fun i a h=>by obtain ⟨⟨t,e⟩,_⟩:=h;rw [Qc9] at e;rcases e with e | e | e <;> cases e
 gg:=fun _ h=>h
 gn:=fun _ h=>.inl h
 bp:=fun _ h=>h.elim
theorem Q87 {p:Pr} {c':E} {σ:St} {H:Hp} {n:Nat} {ρ1:En} {Q:Bool→Hp→Prop} {b:Bool} (hl:σ.length=n) (e:Qal (evE p.cf c' (uns n))=.ok b ρ1) (q:∀ H1,Same H H1→Q b H1):tT p c' σ H Q:=by
 refine ⟨fun _=>False,uns n,(Qzk H hl).self,?_⟩
 rw [e]
 intro H1 G1 F1
 refine q H1 fun b o eb=>F1.chg b o (fun h=>?_) (fun h=>?_) eb
 ·obtain ⟨i,t,e,_⟩:=h;rw [Qc9] at e;cases e
 ·obtain ⟨i,t,e,_⟩:=h;rw [Qc9] at e;cases e
noncomputable def Qme (K:Fz):Sp:=fun vs H Q _=>∃ (a:Fw) (ns:List Int) (k:Nat),vs=[.ref a,.int k]∧SqL K H a (ns.map V.int)∧∀ i:Int,Q (.int i) H
noncomputable abbrev Qzl (K:Fz) (hi:Int):TI:=Q17 K (tOp (Qnv K) (Q4v (Qil (Qnr (Qme K) [] E0 (Qil (Qos 0) (Qil (tC (.int 0)) Qr2))) Qr2)) (tSl (Qxu K) (Qos 0) (Qtr (tC (.int 1))) (Qtr (tC (.int hi)))))
theorem Qzm {p:Pr} {K:Fz} {σ:St} {H:Hp} {D:Ends} {a:Fw} {ns:List Int} {ic n:Nat} {body:S} {hi:Int} (hσ:σ[0]?=some (some (.ref a))) (hs:SqL K H a (ns.map V.int)) (bQ:ns.length≤63) (hl:σ.length=n) (f7:ic<n)
  (hb:∀ m:Int,∃ ρ',exS p.cf body ((uns n).set ic (.fz (.int m)))=.nx ρ'∧ρ'.length=n) (hD:∀ σ' H',D.nx σ' H'):Qxa (Qzl K hi) (Qgk ic) (tS p body) D σ H:=by
 refine ⟨_,hσ,a,ns,0,rfl,hs,fun c0=>⟨by show 1≤sizeLine;decide,fun l7 n7=>?_⟩⟩
 have jZ:=(Same.upd (o:=.lst [.int c0]) n7).seq hs
 refine ⟨_,hσ,_,rfl,_,rfl,.inl ⟨a,_,rfl,jZ,fun l8 n8=>?_⟩⟩
 have jq:l7≠l8:=Qbk Qn n8
 have jP:=Qgu (ns.map V.int) (some 1) (some hi)
 refine .inr (.inl ⟨l7,l8,_,_,rfl,rfl,by rw [Q7 jq,Qn],Qn,?_,fun l9 n9=>?_⟩)
 ·refine Qc6 ?_
  rw [Zd] at jP
  show 1+_≤100000
  omega
 generalize hH9:upd (upd (upd H l7 (.lst [.int c0])) l8 (.lst (Qgt (ns.map V.int) (some 1) (some hi)))) l9 (.lst ([.int c0]++Qgt (ns.map V.int) (some 1) (some hi)))=H9
 have e9:H9 l9=some (.lst ([.int c0]++Qgt (ns.map V.int) (some 1) (some hi))):=by rw [←hH9,Qn]
 have gy:∀ x∈[V.int c0]++Qgt (ns.map V.int) (some 1) (some hi),∃ i:Int,x=.int i:=fun x hx=>by
  rcases Zad.mp hx with hx | hx
  ·exact ⟨c0,Zv.mp hx⟩
  ·have hx:=Zbn (Zbe hx)
   obtain ⟨n,_,e⟩:=Z7.mp hx
   exact ⟨n,e.symm⟩
 refine ⟨l9,rfl,.inl ⟨⟨_,SqL.of e9⟩,Qxb (K:=K) (a:=l9) (xs:=[V.int c0]++Qgt (ns.map V.int) (some 1) (some hi)) (fun i σ H10=>σ.length=n∧H10 l9=some (.lst ([.int c0]++Qgt (ns.map V.int) (some 1) (some hi)))) ⟨hl,e9⟩ (fun i σ H10 _ h=>SqL.of h.2) ?_ ?_⟩⟩
 ·rintro i x σ2 H2 hx ⟨dg,e2⟩
  obtain ⟨m,rfl⟩:=gy x (Z1 hx)
  obtain ⟨ρ',eb,lb⟩:=hb m
  have F0:=(Qzk H2 dg).setFz (i:=ic) (v:=.int m) (t:=.int m) (by rw [Zag];exact f7) Is.int
  refine ⟨bs0 H2,fun _=>False,_,F0,fun _ z=>z,?_⟩
  rw [eb]
  exact fun σ1 H1 G1 F1 _=>⟨by rw [F1.len,lb],F1.chg l9 _ (fun z=>z) (fun z=>z) e2⟩
 ·rintro σ2 H2 _
  exact hD σ2 H2
noncomputable def Qsv (K:Fz):Sp:=fun vs H Q _=>∃ (a:Fw) (ns:List Int),vs=[.ref a]∧SqL K H a (ns.map V.int)∧ns.length≤63∧∀ H',Q (.bl true) H'
noncomputable abbrev Q5j (p:Pr) (K:Fz) (c:E) (ic:Nat) (hi:Int) (body:S):TS:=Qw4 (Q59 (tT p c) (fun _ _ _=>False) Qw3) (Qw4 (Qxa (Qzl K hi) (Qgk ic) (tS p body)) (Q57 (tC (.bl true))))
theorem Q3g {p:Pr} {K:Fz} {H:Hp} {vs:List V} {Q:VK} {E:XK} {N:List Str} {c:L2.E} {ic:Nat} {hi:Int} {body:S} {ρ1:En} (h:Qsv K vs H Q E) (hN:1≤N.length) (f7:ic<N.length) (hc:Qal (evE p.cf c (uns N.length))=.ok false ρ1)
  (hb:∀ m:Int,∃ ρ',exS p.cf body ((uns N.length).set ic (.fz (.int m)))=.nx ρ'∧ρ'.length=N.length):Q5j p K c ic hi body { nx:=fun _ H'=>Q .non H',rt:=Q } (Qbl N vs) H:=by
 obtain ⟨a,ns,rfl,hs,bQ,q⟩:=h
 have hl:(Qbl N [.ref a]).length=N.length:=by unfold Qbl;simp only [Zo,Zd,Zag,Ze,Zp];omega
 refine Q87 hl hc fun H1 s1=>?_
 refine Q63 ?_
 refine Qzm (Qog rfl) (s1.seq hs) bQ hl f7 hb fun σ' H'=>q H'
def Qg2:Slot→Bool
 | .ml _=>false
 | _=>true
theorem Quc:∀ {ρ:En},ρ.all Qg2=true→∀ k t,Qa ρ k≠.ml t
 | [],_,k,t,e=>by rw [Qf6] at e;cases e
 | s::ρ,h,0,t,e=>by
  rw [Qb] at e
  subst e
  simp [Qg2] at h
 | s::ρ,h,k+1,t,e=>by
  rw [Zal,Zt] at h
  rw [Qd] at e
  exact Quc h.2 k t e
theorem Qmf {js:List (Option Nat)} {ρi:En} (h:ρi.all Qg2=true):∀ (ρ:En) (n:Nat),Qd1 js ρi n ρ=ρ
 | [],_=>rfl
 | s::ρ,n=>by
  unfold Qd1
  rw [Qmf h ρ (n+1)]
  rcases Qd8 js ρi n s with e | ⟨k,t,_,e,_⟩
  ·rw [e]
  ·exact absurd e (Quc h k t)
theorem Qud {js:List (Option Nat)} {ρi ρ:En} (h:ρi.all Qg2=true):Qlz js ρi ρ=ρ:=Qmf h ρ 0
theorem Qmg:∀ {ρ0 ρ:En},ρ0.all Qg2=true→ρ0.length=ρ.length→Qfs ρ0 ρ=true
 | [],[],_,_=>rfl
 | [],_::_,_,h=>by cases h
 | _::_,[],_,h=>by cases h
 | s0::ρ0,s::ρ,h,hl=>by
  rw [Zal,Zt] at h
  have q:=Qmg (ρ0:=ρ0) (ρ:=ρ) h.2 (by simpa using hl)
  cases s0 <;> first | exact q | (simp [Qg2] at h)
def Qas:Slot→Bool
 | .un=>true
 | .fz _=>true
 | _=>false
theorem Qzn {s:Slot} {rest:En} {x:T} (h:Qas s=true):Qdk (.nm 0) x (s::rest)=some (.fz x::rest):=by
 cases s <;> first | rfl | cases h
theorem Qmh {c:En→Out Bool} {el:En→Out PV} {rest:En} {g:T→Bool} {f:T→T}:∀ {xs acc:List T} {s0:Slot},Qas s0=true→(∀ x∈xs,c (.fz x::rest)=.ok (g x) (.fz x::rest))→(∀ x∈xs,g x=true→∃ r,el (.fz x::rest)=.ok r (.fz x::rest)∧frz r=some (f x))→acc.length+xs.length≤100000 →
  ∃ s,Qei (.nm 0) c el xs acc (s0::rest)=.ok (acc++(xs.filter g).map f) (s::rest)∧Qas s=true
 | [],acc,s0,h0,hc,he,hz=>⟨s0,by unfold Qei;simp,h0⟩
 | x::xs,acc,s0,h0,hc,he,hz=>by
  rw [Ze] at hz
  have ih:=fun dS (iQ:dS.length+xs.length≤100000)=>Qmh (c:=c) (el:=el) (rest:=rest) (g:=g) (f:=f) (xs:=xs) (acc:=dS) (s0:=.fz x) rfl (fun y hy=>hc y (Z5 _ hy)) (fun y hy=>he y (Z5 _ hy)) iQ
  unfold Qei
  rw [Qzn h0]
  simp only [hc x Zaj,Out.bind]
  cases hg:g x with
  | false =>
   obtain ⟨s,e,o⟩:=ih acc (by omega)
   refine ⟨s,?_,o⟩
   simp only [Zb2,Za0,e,Zd1,hg]
  | true =>
   obtain ⟨r,er,fr⟩:=he x Zaj hg
   simp only [Zl,er,fr]
   have za:acc.length<100000:=by omega
   rw [Zf za]
   obtain ⟨s,e,o⟩:=ih (acc++[f x]) (by rw [Zo,Z4];omega)
   refine ⟨s,?_,o⟩
   simp only [e,Zd1,hg,Zl,Z6,Zdm,List.singleton_append]
theorem Q3h {cf:CF} {w:W} {js:List (Option Nat)} {cs:Es} {e:E} {ρ rest:En} {xs:List T} {g:T→Bool} {f:T→T} (hw:evW cf w ρ=.ok (xs,none) ρ) (aP:Qd6 js ρ=.un::rest) (cg:rest.all Qg2=true) (cL:Qcn js=true)
  (hc:∀ x∈xs,evC cf cs (.fz x::rest)=.ok (g x) (.fz x::rest)) (he:∀ x∈xs,g x=true→∃ r,evE cf e (.fz x::rest)=.ok r (.fz x::rest)∧frz r=some (f x)) (hz:xs.length≤100000) :
  evE cf (.comp w js (.nm 0) cs e) ρ=.ok (.ow (.lst ((xs.filter g).map f))) ρ:=by
 obtain ⟨s,e1,o⟩:=Qmh (c:=evC cf cs) (el:=evE cf e) (rest:=rest) (g:=g) (f:=f) (xs:=xs) (acc:=[]) (s0:=.un) rfl hc he (by simpa using hz)
 have hs:(s::rest).all Qg2=true:=by
  rw [Zal,cg]
  cases s <;> first | rfl | cases o
 unfold evE
 rw [hw]
 simp only [Out.bind,aP,e1]
 rw [Zf ⟨Qmg (by rw [Zal,cg];rfl) rfl,cL⟩,Qud hs]
 rfl
theorem Qco {cf:CF} {w:W} {js:List (Option Nat)} {e:E} {ρ rest:En} {xs:List T} {f:T→T} (hw:evW cf w ρ=.ok (xs,none) ρ) (aP:Qd6 js ρ=.un::rest) (cg:rest.all Qg2=true) (cL:Qcn js=true)
  (he:∀ x∈xs,∃ r,evE cf e (.fz x::rest)=.ok r (.fz x::rest)∧frz r=some (f x)) (hz:xs.length≤100000) :
  evE cf (.comp w js (.nm 0) .nil e) ρ=.ok (.ow (.lst (xs.map f))) ρ:=by
 rw [Q3h (g:=fun _=>true) (f:=f) hw aP cg cL (fun x _=>by unfold evC;rfl) (fun x hx _=>he x hx) hz,List.filter_eq_self.mpr (fun _ _=>rfl)]
theorem Qey {tg:Tg} {b:En→SO} (J:Nat→En→Prop):∀ {xs:List T} {n:Nat} {ρ:En},J n ρ→(∀ (i:Nat) x ρ,xs[i]?=some x→J (n+i) ρ→∃ ρ1 ρ2,Qdk tg x ρ=some ρ1∧(b ρ1=.nx ρ2∨b ρ1=.ct ρ2)∧J (n+i+1) ρ2)→∃ ρ',Qb0 tg b xs ρ=.nx ρ'∧J (n+xs.length) ρ'
 | [],n,ρ,h,_=>⟨ρ,rfl,h⟩
 | x::xs,n,ρ,h,hs=>by
  obtain ⟨ρ1,ρ2,e1,e2,j⟩:=hs 0 x ρ rfl h
  obtain ⟨ρ',e3,j3⟩:=Qey (tg:=tg) (b:=b) J (xs:=xs) (n:=n+1) (ρ:=ρ2) (by simpa using j) fun i y ρ hy hj=>by
   have:=hs (i+1) y ρ (by rw [Zq];exact hy) (by rw [show n+(i+1)=n+1+i by omega];exact hj)
   rw [show n+(i+1)+1=n+1+i+1 by omega] at this
   exact this
  refine ⟨ρ',?_,by rw [Ze,show n+(xs.length+1)=n+1+xs.length by omega];exact j3⟩
  unfold Qb0
  rw [e1]
  rcases e2 with e2 | e2 <;> simp only [e2] <;> exact e3
def isF:Out Bool→Bool
 | .ok false _=>true
 | _=>false
theorem Q88 {o:Out Bool} (h:isF o=true):∃ ρ,o=.ok false ρ:=by
 cases o with
 | ok b ρ=>cases b <;> first | exact ⟨ρ,rfl⟩ | cases h
 | xn x ρ=>cases h
 | no=>cases h
def Q89 (Q:Df→Prop):List Df→Prop
 | []=>True
 | d::ds=>Q d∧Q89 Q ds
theorem Qzo {Q:Df→Prop}:∀ {ds:List Df},Q89 Q ds→∀ (f:Nat) (d:Df),ds[f]?=some d→Q d
 | [],_,f,d,e=>by simp at e
 | c::ds,h,0,d,e=>by simp at e;subst e;exact h.1
 | c::ds,h,f+1,d,e=>by rw [Zq] at e;exact Qzo h.2 f d e
theorem Qzp {X:Cx} {cb:List Fs}:QB X cb (fun _ _ _=>False):=⟨fun _ _ _ _ _ _ h=>h.elim⟩
variable {cf:CF} {ρ ρ1 ρ2:En} {α β:Type}
theorem Q0 {a:α} {k:α→En→Out β}:(Out.ok a ρ).bind k=k a ρ:=rfl
noncomputable def Q6 (i:Nat) (ρ:En):Slot→Out PV
 | .fz t=>.ok (.fz t) ρ
 | .un=>.no
 | .pin _=>.no
 | .fx t=>.ok (.fz t) ρ
 | _=>.ok (.sl i) ρ
theorem Qm {i:Nat}:evE cf (.var i) ρ=Q6 i ρ (Qa ρ i):=by rw [evE];cases Qa ρ i <;> rfl
theorem Qag {i:Int}:evE cf (.int i) ρ=.ok (.fz (.int i)) ρ:=by rw [evE]
theorem Qnc {i:Bool}:evE cf (.bl i) ρ=.ok (.fz (.bl i)) ρ:=by rw [evE]
theorem Qi5:evE cf .non ρ=.ok (.fz .non) ρ:=by rw [evE]
theorem Que {i:Str}:evE cf (.str i) ρ=.ok (.fz (.str i)) ρ:=by rw [evE]
noncomputable def Qnd (rs:List PV) (ρ:En):Out PV:=match Qc8 rs with
 | some ts=>if ts.length≤100000 then .ok (.fz (.tup ts)) ρ else .no
 | none=>.no
noncomputable def Qf8 (rs:List PV) (ρ:En):Out PV:=match Qc8 rs with
 | some ts=>if ts.length≤100000 then .ok (.ow (.lst ts)) ρ else .no
 | none=>.no
theorem Qi6 {es:Es}:evE cf (.tup es) ρ=(evA cf es ρ).bind Qnd:=by rw [evE];rfl
theorem Qdq {es:Es}:evE cf (.lst es) ρ=(evA cf es ρ).bind Qf8:=by rw [evE];rfl
noncomputable def Qca (o:BOp) (ρ:En):Option T→Option T→Out PV
 | some x,some y=>.opt (opB o x y) ρ
 | _,_=>.no
def Qcb (o:BOp) (ra rb:PV) (ρ:En):Out PV:=Qca o ρ (cont ρ ra) (cont ρ rb)
def Qcc (cf:CF) (o:BOp) (b:E) (ra:PV) (ρ:En):Out PV:=(evE cf b ρ).bind (Qcb o ra)
theorem Qcg {o:BOp} {a b:E}:evE cf (.bin o a b) ρ=(evE cf a ρ).bind (Qcc cf o b):=by rw [evE];rfl
def Qne:PV→En→Out PV
 | .fz (.int i),ρ=>.ok (.fz (.int (-i))) ρ
 | _,_=>.no
theorem Qi7 {a:E}:evE cf (.neg a) ρ=(evE cf a ρ).bind Qne:=by rw [evE];congr 1;funext r ρ1;cases r with
 | fz t=>cases t <;> rfl
 | ow t=>rfl
 | sl i=>rfl
def yBl:PV→En→Out Bool
 | .fz (.bl b),ρ=>.ok b ρ
 | _,_=>.no
theorem Qv {o:Out PV}:Qal o=o.bind yBl:=by unfold Qal;congr 1;funext r ρ1;cases r with
 | fz t=>cases t <;> rfl
 | ow t=>rfl
 | sl i=>rfl
def Qfm (b:Bool) (ρ:En):Out PV:=.ok (.fz (.bl (!b))) ρ
theorem Qdc {a:E}:evE cf (.not a) ρ=(Qal (evE cf a ρ)).bind Qfm:=by rw [evE];rfl
def yB (b:Bool) (ρ:En):Out PV:=.ok (.fz (.bl b)) ρ
noncomputable def Q3i (cf:CF) (b:E):Bool→En→Out PV
 | true,ρ=>(Qal (evE cf b ρ)).bind yB
 | false,ρ=>.ok (.fz (.bl false)) ρ
noncomputable def yOr (cf:CF) (b:E):Bool→En→Out PV
 | false,ρ=>(Qal (evE cf b ρ)).bind yB
 | true,ρ=>.ok (.fz (.bl true)) ρ
theorem Qzq {a b:E}:evE cf (.and a b) ρ=(Qal (evE cf a ρ)).bind (Q3i cf b):=by rw [evE];congr 1;funext c ρ1;cases c <;> rfl
theorem Qic {a b:E}:evE cf (.or a b) ρ=(Qal (evE cf a ρ)).bind (yOr cf b):=by rw [evE];congr 1;funext c ρ1;cases c <;> rfl
def Qa5 (ρ:En):Option Bool→Out PV
 | some k=>.ok (.fz (.bl k)) ρ
 | none=>.no
noncomputable def Qa6 (o:COp) (ρ:En):Option T→Option T→Out PV
 | some x,some y=>Qa5 ρ (opC o x y)
 | _,_=>.no
def Qa7 (o:COp) (ra rb:PV) (ρ:En):Out PV:=Qa6 o ρ (cont ρ ra) (cont ρ rb)
def Qa8 (cf:CF) (o:COp) (b:E) (ra:PV) (ρ:En):Out PV:=(evE cf b ρ).bind (Qa7 o ra)
theorem Qbb {o:COp} {a b:E}:evE cf (.cmp o a b) ρ=(evE cf a ρ).bind (Qa8 cf o b):=by
 rw [evE]
 rfl
noncomputable def Qe7 (n:String) (ρ:En):Option T→Out PV
 | some t=>if Qn5 n && !Qdg t then .ok (.fz (.bl (Qnw (tyT t) n))) ρ else .no
 | none=>.no
def Qi8 (n:String) (ra:PV) (ρ:En):Out PV:=Qe7 n ρ (cont ρ ra)
theorem Qfx {a:E} {n:String}:evE cf (.isI a n) ρ=(evE cf a ρ).bind (Qi8 n):=by
 rw [evE]
 rfl
theorem Qab {f:Nat} {es:Es}:evE cf (.call f es) ρ=(evA cf es ρ).bind (Qiw cf f):=by rw [evE]
theorem Qadq {t:T}:evE cf (.lit t) ρ=.ok (.fz t) ρ:=by rw [evE]
def Qb1 (b:Bi) (ρ:En):Option (List T)→Out PV
 | some ts=>.opt (Qgq b ts) ρ
 | none=>.no
def yBi (b:Bi) (rs:List PV) (ρ:En):Out PV:=Qb1 b ρ (Qao ρ rs)
theorem Qb5 {b:Bi} {es:Es}:evE cf (.bi b es) ρ=(evA cf es ρ).bind (yBi b):=by
 rw [evE]
 rfl
def Qg3 (ρ:En):Option T→Out PV
 | some t=>.ok (.fz t) ρ
 | none=>.no
def Qg4 (ρ:En):Option T→Option T→Out PV
 | some x,some y=>Qg3 ρ (Qyx x y)
 | _,_=>.no
def Qg5 (ra rb:PV) (ρ:En):Out PV:=Qg4 ρ (cont ρ ra) (cont ρ rb)
def Qg6 (cf:CF) (b:E) (ra:PV) (ρ:En):Out PV:=(evE cf b ρ).bind (Qg5 ra)
theorem Qhv {a b:E}:evE cf (.ix a b) ρ=(evE cf a ρ).bind (Qg6 cf b):=by
 rw [evE]
 rfl
noncomputable def Qadr (ρ:En):PV→Option (List Int)→Out PV
 | .fz (.int j),some is=>.ok (.fz (.int (is.count j:Nat))) ρ
 | _,_=>.no
def Qads (ts:List T) (rb:PV) (ρ:En):Out PV:=Qadr ρ rb (Qfk ts)
noncomputable def yCnt1 (cf:CF) (b:E):PV→En→Out PV
 | .fz (.tup ts),ρ=>(evE cf b ρ).bind (Qads ts)
 | _,_=>.no
def Qnf (l h:Option Int) (ρ:En):Option T→Out PV
 | some x=>.opt (Qyy x l h) ρ
 | none=>.no
noncomputable def Qh2 (ra:PV) (l:Option Int) (ρ:En):Option (Option Int)→Out PV
 | none=>.no
 | some h=>Qnf l h ρ (cont ρ ra)
def Qng (ra:PV) (l:Option Int) (rh:List PV) (ρ:En):Out PV:=Qh2 ra l ρ (Qgx rh)
noncomputable def Qh3 (cf:CF) (hi:Es) (ra:PV) (ρ:En):Option (Option Int)→Out PV
 | none=>.no
 | some l=>(evA cf hi ρ).bind (Qng ra l)
def Qnh (cf:CF) (hi:Es) (ra:PV) (rl:List PV) (ρ:En):Out PV:=Qh3 cf hi ra ρ (Qgx rl)
def Qni (cf:CF) (lo hi:Es) (ra:PV) (ρ:En):Out PV:=(evA cf lo ρ).bind (Qnh cf hi ra)
theorem Qi9 {a:E} {lo hi:Es}:evE cf (.slc a lo hi) ρ=(evE cf a ρ).bind (Qni cf lo hi):=by
 rw [evE]
 rfl
theorem Qq:evA cf .nil ρ=.ok [] ρ:=by rw [evA]
def yC2 (r:PV) (rs:List PV) (ρ:En):Out (List PV):=.ok (r::rs) ρ
def yC1 (cf:CF) (es:Es) (r:PV) (ρ:En):Out (List PV):=(evA cf es ρ).bind (yC2 r)
theorem Qk {e:E} {es:Es}:evA cf (.cons e es) ρ=(evE cf e ρ).bind (yC1 cf es):=by rw [evA];rfl
noncomputable def Qe8 (r:PV) (ρ:En):Option (List T)→Out (List T×Option Nat)
 | some ts=>.ok (ts,Qet r) ρ
 | none=>.no
noncomputable def Qe9 (r:PV) (ρ:En):Option T→Out (List T×Option Nat)
 | some t=>Qe8 r ρ (Qdj t)
 | none=>.no
def Qja (r:PV) (ρ:En):Out (List T×Option Nat):=Qe9 r ρ (cont ρ r)
theorem Qfy {e:E}:evW cf (.seq e) ρ=(evE cf e ρ).bind Qja:=by
 rw [evW]
 rfl
noncomputable def Qon:PV→En→Out (List T×Option Nat)
 | .fz (.int j),ρ=>if j.natAbs≤100000 then .ok (Qbh 0 j.toNat,none) ρ else .no
 | _,_=>.no
theorem Qid {a:E}:evW cf (.rng1 a) ρ=(evE cf a ρ).bind Qon:=by
 rw [evW]
 congr 1;funext r ρ1
 cases r with
 | fz t=>cases t <;> rfl
 | ow t=>rfl
 | sl i=>rfl
noncomputable def yRng2':PV→PV→En→Out (List T×Option Nat)
 | .fz (.int i),.fz (.int j),ρ=>if i.natAbs≤100000∧j.natAbs≤100000 then .ok (Qbh i (j-i).toNat,none) ρ else .no
 | _,_,_=>.no
noncomputable def Q9a:PV→PV→En→Out (List T×Option Nat)
 | .fz (.int i),.fz (.int j),ρ=>if i.natAbs≤100000∧j.natAbs≤100000 then .ok (dnT i (i-j).toNat,none) ρ else .no
 | _,_,_=>.no
def Qadt (cf:CF) (b:E) (r:PV) (ρ:En):Out (List T×Option Nat):=(evE cf b ρ).bind (Q9a r)
theorem Q9b {a b:E}:evW cf (.rngD a b) ρ=(evE cf a ρ).bind (Qadt cf b):=by
 rw [evW]
 congr 1;funext r ρ1
 show _=(evE cf b ρ1).bind _
 congr 1;funext r2 ρ2
 cases r with
 | fz t=>cases t <;> cases r2 <;> first | rfl | (rename_i u;cases u <;> rfl)
 | ow t=>cases r2 <;> rfl
 | sl i=>cases r2 <;> rfl
noncomputable def Q5k:PV→PV→En→Out (List T×Option Nat)
 | .fz (.tup xs),.fz (.tup ys),ρ=>.ok (Qgy xs ys,none) ρ
 | .fz (.lst xs),.fz (.tup ys),ρ=>.ok (Qgy xs ys,none) ρ
 | .fz (.lst xs),.fz (.lst ys),ρ=>.ok (Qgy xs ys,none) ρ
 | _,_,_=>.no
def yZip (cf:CF) (b:E) (r:PV) (ρ:En):Out (List T×Option Nat):=(evE cf b ρ).bind (Q5k r)
theorem Qadv {a b:E}:evW cf (.zip a b) ρ=(evE cf a ρ).bind (yZip cf b):=by
 rw [evW]
 congr 1;funext r ρ1
 show _=(evE cf b ρ1).bind _
 congr 1;funext r2 ρ2
 cases r with
 | fz t=>cases t <;> cases r2 <;> first | rfl | (rename_i u;cases u <;> rfl)
 | ow t=>cases r2 <;> rfl
 | sl i=>cases r2 <;> rfl
noncomputable def Q5l (r:PV) (ρ:En):Option T→Out (List T×Option Nat)
 | some (.lst ts)=>.ok (Qk9 0 ts,Qet r) ρ
 | some (.tup ts)=>.ok (Qk9 0 ts,Qet r) ρ
 | _=>.no
def yEnm (r:PV) (ρ:En):Out (List T×Option Nat):=Q5l r ρ (cont ρ r)
theorem Qadx {e:E}:evW cf (.enm e) ρ=(evE cf e ρ).bind yEnm:=by
 rw [evW]
 rfl
noncomputable def Q9 (rs:List PV) (ρ:En):FR→Out PV
 | .ok r fin=>.ok r (Qay ρ rs fin)
 | .xn x fin=>.xn x (Qay ρ rs fin)
 | .no=>.no
noncomputable def Qaa (cf:CF) (f:Nat) (rs:List PV) (ρ:En):Option (List Arg)→Out PV
 | some as=>Q9 rs ρ (cf f as)
 | none=>.no
theorem Q3j {f:Nat} {rs:List PV} (h:Qu rs=true):Qiw cf f rs ρ=Qaa cf f rs ρ (Qw ρ rs):=by
 unfold Qiw
 rw [Zf h]
 cases Qw ρ rs with
 | none=>rfl
 | some as =>
  show (match cf f as with | .ok r fin=>Out.ok r (Qay ρ rs fin) | .xn x fin=>.xn x (Qay ρ rs fin) | .no=>.no)=Q9 rs ρ (cf f as)
  cases cf f as <;> rfl
theorem Qae {a:α} {k:α→En→SO}:ofO (.ok a ρ) k=k a ρ:=rfl
theorem Qbp {k:En→SO}:(SO.nx ρ).seq k=k ρ:=rfl
theorem Qmi {r:PV} {k:En→SO}:(SO.rt r ρ).seq k=.rt r ρ:=rfl
theorem Qch:exS cf .nil ρ=.nx ρ:=by rw [exS]
theorem Qad {a b:S}:exS cf (.seq a b) ρ=(exS cf a ρ).seq (exS cf b):=by rw [exS]
def Qzr (_:PV) (ρ:En):SO:=.nx ρ
theorem Qj4 {e:E}:exS cf (.expr e) ρ=ofO (evE cf e ρ) Qzr:=by rw [exS];rfl
theorem Qmj {i:Nat} {e:E}:exS cf (.set i e) ρ=ofO (evE cf e ρ) (Qnb i):=by rw [exS]
def Qaz (i:Nat) (ρ:En):Option T→SO
 | some t=>Q8 (Qba i (.fz t) ρ) .nx
 | none=>.no
def Qbv (i:Nat) (r:PV) (ρ:En):SO:=Qaz i ρ (frz r)
theorem Qax {i:Nat} {e:E}:exS cf (.setF i e) ρ=ofO (evE cf e ρ) (Qbv i):=by
 rw [exS]
 rfl
def yUnp (is:List Nat):PV→En→SO
 | .fz (.tup ts),ρ=>Q8 (Qbj is ts ρ) .nx
 | _,_=>.no
theorem Qadz {is:List Nat} {e:E}:exS cf (.unp is e) ρ=ofO (evE cf e ρ) (yUnp is):=by
 rw [exS]
 congr 1;funext r ρ1
 cases r with
 | fz t=>cases t <;> rfl
 | ow t=>rfl
 | sl i=>rfl
def Quf (i j:Nat):PV→PV→En→SO
 | .fz x,.fz y,ρ=>Q8 (Qbj [i,j] [x,y] ρ) .nx
 | _,_,_=>.no
def Qug (cf:CF) (i j:Nat) (b:E) (ra:PV) (ρ:En):SO:=ofO (evE cf b ρ) (Quf i j ra)
theorem Qzs {i j:Nat} {a b:E}:exS cf (.par i j a b) ρ=ofO (evE cf a ρ) (Qug cf i j b):=by
 rw [exS]
 congr 1;funext ra ρ1
 show _=ofO (evE cf b ρ1) _
 congr 1;funext rb ρ2
 cases ra <;> cases rb <;> rfl
noncomputable def Qmk (i:Nat) (ρ:En) (t:T):Slot→SO
 | .ow (.lst ts)=>if ts.length<100000 then .nx (ρ.set i (.ow (.lst (ts++[t])))) else .no
 | .ml (.lst ts)=>if ts.length<100000 then .nx (ρ.set i (.ml (.lst (ts++[t])))) else .no
 | _=>.no
def Qml (i:Nat) (ρ:En):Option T→SO
 | none=>.no
 | some t=>Qmk i ρ t (Qa ρ i)
def Qq6 (i:Nat) (r:PV) (ρ:En):SO:=Qml i ρ (frz r)
theorem Qad0 {i:Nat} {e:E} (h:(Qa ρ i).mut=true):exS cf (.app i e) ρ=ofO (evE cf e ρ) (Qq6 i):=by
 rw [exS,Zf h]
 rfl
noncomputable def Qzt (i:Nat) (t:T) (j:Int) (ρ:En):Slot→SO
 | .ow (.lst ts)=>Q8 (ixN ts.length j) fun n=>.nx (ρ.set i (.ow (.lst (ts.set n t))))
 | .ml (.lst ts)=>Q8 (ixN ts.length j) fun n=>.nx (ρ.set i (.ml (.lst (ts.set n t))))
 | _=>.no
def Quh (i:Nat) (t:T):PV→En→SO
 | .fz (.int j),ρ=>Qzt i t j ρ (Qa ρ i)
 | _,_=>.no
noncomputable def Qzu (cf:CF) (i:Nat) (k:E) (ρ:En):Option T→SO
 | none=>.no
 | some t=>if (Qa ρ i).mut=true then ofO (evE cf k ρ) (Quh i t) else .no
def Q3k (cf:CF) (i:Nat) (k:E) (r:PV) (ρ:En):SO:=Qzu cf i k ρ (frz r)
theorem Q5m {i:Nat} {k e:E}:exS cf (.put i k e) ρ=ofO (evE cf e ρ) (Q3k cf i k):=by
 rw [exS]
 congr 1;funext r ρ1
 unfold Q3k
 cases frz r with
 | none=>rfl
 | some t =>
  show _=(if (Qa ρ1 i).mut=true then ofO (evE cf k ρ1) (Quh i t) else .no)
  by_cases h:(Qa ρ1 i).mut=true
  ·simp only [Zf h]
   congr 1;funext rk ρ2
   cases rk with
   | fz u=>cases u <;> rfl
   | ow u=>rfl
   | sl j=>rfl
  ·simp only [Zg h]
theorem Qj5 {i:Nat} {e:E}:exS cf (.app i e) ρ=if (Qa ρ i).mut=true then ofO (evE cf e ρ) (Qq6 i) else .no:=by
 by_cases h:(Qa ρ i).mut=true
 ·rw [Zf h,Qad0 h]
 ·rw [Zg h,exS,Zg h]
theorem Qx {f:Nat} {rs:List PV}:Qiw cf f rs ρ=if Qu rs=true then Qaa cf f rs ρ (Qw ρ rs) else .no:=by
 by_cases h:Qu rs=true
 ·rw [Zf h,Q3j h]
 ·rw [Zg h];unfold Qiw;rw [Zg h]
def Qcj (r:PV) (ρ:En):SO:=.rt r ρ
theorem Qbd {e:E}:exS cf (.ret e) ρ=ofO (evE cf e ρ) Qcj:=by rw [exS];rfl
def yIf (cf:CF) (a b:S):Bool→En→SO
 | true,ρ=>exS cf a ρ
 | false,ρ=>exS cf b ρ
theorem Qaw {c:E} {a b:S}:exS cf (.ite c a b) ρ=ofO (Qal (evE cf c ρ)) (yIf cf a b):=by rw [exS];congr 1;funext k ρ1;cases k <;> rfl
noncomputable def Qgr (cf:CF) (tg:Tg) (b:S):List T×Option Nat→En→SO
 | (ts,none),ρ=>Qb0 tg (exS cf b) ts ρ
 | (_,some _),_=>.no
theorem Qdd {w:W} {tg:Tg} {b:S}:exS cf (.for_ w tg b) ρ=Qh1 (ofO (evW cf w ρ) (Qgr cf tg b)):=by
 rw [exS]
 congr 2;funext ac ρ1
 obtain ⟨ts,lk⟩:=ac
 cases lk <;> rfl
def Qa0 (r:PV):Option (List T)→FR
 | some fin=>.ok r fin
 | none=>.no
def Qbc (o:Option (List T)):Option PV→FR
 | some r=>Qa0 r o
 | none=>.no
noncomputable def Qcp (as:List Arg):SO→FR
 | .nx ρ=>Qa0 (.fz .non) (Q4 as ρ)
 | .rt r ρ=>Qbc (Q4 as ρ) (Qav ρ r)
 | .xn x ρ=>match Q4 as ρ with
  | some fin=>.xn x fin
  | none=>.no
 | _=>.no
theorem Qbn {fn:Fn} {as:List Arg} (h:as.length=fn.ps):Qb4 cf fn as=Qcp as (exS cf fn.body (Qfl fn as)):=by
 unfold Qb4
 rw [Zf h]
 cases exS cf fn.body (Qfl fn as) with
 | nx ρ=>show (match Q4 as ρ with | some fin=>FR.ok (.fz .non) fin | none=>.no)=Qa0 _ (Q4 as ρ);cases Q4 as ρ <;> rfl
 | rt r ρ =>
  show (match Qav ρ r,Q4 as ρ with | some r,some fin=>FR.ok r fin | _,_=>.no)=Qbc (Q4 as ρ) (Qav ρ r)
  cases Qav ρ r <;> cases Q4 as ρ <;> rfl
 | xn x ρ=>rfl
 | bk ρ=>rfl
 | ct ρ=>rfl
 | no=>rfl
section
variable {b:Bool} {i:Int} {x:Str} {ts:List T}
theorem Qb2:Qn5 "tuple" = true:=rfl
theorem Qaq:Qnw (tyT (.tup ts)) "tuple" = true:=rfl
end
theorem Q9c {as:List Arg} {ρ:En}:Qcp as (.nx ρ)=Qa0 (.fz .non) (Q4 as ρ):=rfl
theorem Qar {as:List Arg} {ρ:En} {r:PV}:Qcp as (.rt r ρ)=Qbc (Q4 as ρ) (Qav ρ r):=rfl
theorem Qcu {ρ:En}:Qh1 (.nx ρ)=.nx ρ:=rfl
theorem Qle {ρ:En} {r:PV}:Qh1 (.rt r ρ)=.rt r ρ:=rfl
theorem Qfz {α:Type} (g:α→Bool):∀ (xs:List α),Qk7 (xs.map fun x=>T.bl (g x))=some (xs.map g)
 | []=>rfl
 | x::xs=>by
  rw [Z6,Z6]
  unfold Qk7
  rw [Qfz g xs]
  rfl
theorem Q9d {a:T} {l:List T}:atI (a::l) 0=some a:=by
 have:atI (a::l) ((0:Nat):Int)=some a:=Qf3 rfl
 exact this
theorem at_1 {a b:T} {l:List T}:atI (a::b::l) 1=some b:=by
 have:atI (a::b::l) ((1:Nat):Int)=some b:=Qf3 rfl
 exact this
theorem Q5n {n:Nat}:ixN (n+1) 0=some 0:=by
 unfold ixN
 rw [Zf (by omega),Zf (by omega)]
 rfl
inductive All2 (F:T→T→Prop):List T→List T→Prop where
 | nil:All2 F [] []
 | cons {x y xs ys}:F x y→All2 F xs ys→All2 F (x::xs) (y::ys)
inductive Ran (F:T→T→Prop):List T→List T→Prop where
 | nil:Ran F [] []
 | skip {x xs ys}:Ran F xs ys→Ran F (x::xs) ys
 | take {x y xs ys}:F x y→Ran F xs ys→Ran F (x::xs) (y::ys)
variable {cf:CF} {P:T→Prop} {F:T→T→Prop} {rest:T→En}
theorem Qzv {s t:Slot} {rest:En} {x y:T} (hs:Qas s=true) (ht:Qas t=true):Qdk (.tp [0,1]) (.tup [x,y]) (s::t::rest)=some (.fz x::.fz y::rest):=by
 cases s <;> first | (cases hs;done) | (cases t <;> first | (cases ht;done) | rfl)
theorem Qmm {α:Type} {el:En→Out PV} {rest:En} {a b f:α→T}:∀ {xs:List α} {acc:List T} {s0 s1:Slot},Qas s0=true→Qas s1=true→(∀ p∈xs,∃ r,el (.fz (a p)::.fz (b p)::rest)=.ok r (.fz (a p)::.fz (b p)::rest)∧frz r=some (f p))→acc.length+xs.length≤100000 →
  ∃ s t,Qei (.tp [0,1]) (evC cf .nil) el (xs.map fun p=>T.tup [a p,b p]) acc (s0::s1::rest)=.ok (acc++xs.map f) (s::t::rest)∧Qas s=true∧Qas t=true
 | [],acc,s0,s1,h0,h1,he,hz=>⟨s0,s1,by rw [Zde];unfold Qei;simp,h0,h1⟩
 | p::xs,acc,s0,s1,h0,h1,he,hz=>by
  rw [Ze] at hz
  obtain ⟨r,er,fr⟩:=he p Zaj
  obtain ⟨s,t,e,o,o1⟩:=Qmm (el:=el) (rest:=rest) (a:=a) (b:=b) (f:=f) (xs:=xs) (acc:=acc++[f p]) (s0:=.fz (a p)) (s1:=.fz (b p)) rfl rfl (fun z hz=>he z (Z5 _ hz)) (by rw [Zo,Z4];omega)
  refine ⟨s,t,?_,o,o1⟩
  rw [Z6]
  unfold Qei
  rw [Qzv h0 h1]
  have ec:evC cf .nil (.fz (a p)::.fz (b p)::rest)=.ok true (.fz (a p)::.fz (b p)::rest):=by rw [evC]
  simp only [ec,Out.bind,Zl,er,fr]
  have za:acc.length<100000:=by omega
  rw [Zf za,e,Zdm,List.singleton_append,Z6]
theorem Qwg {α:Type} {w:W} {js:List (Option Nat)} {e:E} {ρ rest:En} {xs:List α} {a b f:α→T} (hw:evW cf w ρ=.ok (xs.map fun p=>T.tup [a p,b p],none) ρ) (aP:Qd6 js ρ=.un::.un::rest) (cg:rest.all Qg2=true) (cL:Qcn js=true)
  (he:∀ p∈xs,∃ r,evE cf e (.fz (a p)::.fz (b p)::rest)=.ok r (.fz (a p)::.fz (b p)::rest)∧frz r=some (f p)) (hz:xs.length≤100000) :
  evE cf (.comp w js (.tp [0,1]) .nil e) ρ=.ok (.ow (.lst (xs.map f))) ρ:=by
 obtain ⟨s,t,e1,o,o1⟩:=Qmm (cf:=cf) (el:=evE cf e) (rest:=rest) (a:=a) (b:=b) (f:=f) (xs:=xs) (acc:=[]) (s0:=.un) (s1:=.un) rfl rfl he (by simpa using hz)
 have hs:(s::t::rest).all Qg2=true:=by
  rw [Zal,Zal,cg]
  cases s <;> first | (cases o;done) | (cases t <;> first | rfl | (cases o1;done))
 unfold evE
 rw [hw]
 simp only [Out.bind,aP,e1]
 rw [Zf ⟨Qmg (by rw [Zal,Zal,cg];rfl) rfl,cL⟩,Qud hs]
 rfl
theorem rngI {j:Int} {ρ:En} (h0:0≤j) (h:j≤100000):Qon (.fz (.int j)) ρ=.ok (Qbh 0 j.toNat,none) ρ:=by
 show (if j.natAbs≤100000 then _ else _)=_
 rw [Zf (by omega)]
theorem Qwh {n:Nat} {ρ:En} (h:n≤100000):Qon (.fz (.int (n:Int))) ρ=.ok (Qbh 0 n,none) ρ:=by
 rw [rngI (by omega) (by omega),Int.toNat_natCast]
theorem Qui {α:Type} {xs:List α}:Qk7 (xs.map fun _=>T.bl true)=some (xs.map fun _=>true):=Qfz (fun _=>true) xs
theorem Qzw {α:Type} {xs:List α}:(xs.map fun _=>true).all id=true:=by rw [Zah];intro b hb;obtain ⟨_,_,rfl⟩:=Z7.mp hb;rfl
theorem Qa1 {i j:Int}:eqO (.int i) (.int j)=some (decide (i=j)):=rfl
end L2
namespace L2
variable {i j:Int} {a b:List T} {x y:T} {lo hi:Option Int} {c:Bool}
theorem uo1:opB .add (.int i) (.int j)=some (.fz (.int (i+j))):=rfl
theorem uo2:opB .add (.tup a) (.tup b)=if a.length+b.length≤100000 then some (.fz (.tup (a++b))) else none:=rfl
theorem uo3:opB .add (.lst a) (.lst b)=if a.length+b.length≤100000 then some (.ow (.lst (a++b))) else none:=rfl
theorem uo4:opB .sub (.int i) (.int j)=some (.fz (.int (i-j))):=rfl
theorem uo5:opB .mul (.int i) (.int j)=if Qb9 i j=true then some (.fz (.int (i*j))) else none:=rfl
theorem uo7:opB .fdv (.int i) (.int j)=if 0<j∧j.natAbs<2^64 then some (.fz (.int (i / j))) else if j≠0∧j.natAbs<2^400 then some (.fz (.int (i.fdiv j))) else none:=rfl
theorem uo8:opB .mod (.int i) (.int j)=if 0<j then some (.fz (.int (i%j))) else if j<0 then some (.fz (.int (i.fmod j))) else none:=rfl
theorem uo9:opB .pow (.int i) (.int j)=if 0≤j∧j.natAbs≤1000000∧i.natAbs<2^64 then some (.fz (.int (i^j.toNat))) else none:=rfl
theorem uc1:opC .eq x y=eqO x y:=rfl
theorem uc2:opC .ne x y=(eqO x y).map (!·):=rfl
theorem uc3:opC .lt (.int i) (.int j)=some (decide (i<j)):=rfl
theorem uc5:opC .gt (.int i) (.int j)=some (decide (j<i)):=rfl
theorem uc6:opC .ge (.int i) (.int j)=some (decide (j≤i)):=rfl
theorem uc7:opC .isn x .non=some (Qfr x):=rfl
theorem uc8:opC .isnn x .non=some (!Qfr x):=rfl
theorem ui1:Qyx (.lst a) (.int i)=atI a i:=rfl
theorem ui2:Qyx (.tup a) (.int i)=atI a i:=rfl
theorem ui4:Qyy (.tup a) lo hi=some (.fz (.tup (Qce a lo hi))):=rfl
theorem ub1:Qgq .len [.lst a]=some (.fz (.int a.length)):=rfl
theorem ub2:Qgq .len [.tup a]=some (.fz (.int a.length)):=rfl
theorem ub3:Qgq .all [.lst a]=(Qk7 a).map fun bs=>.fz (.bl (bs.all id)):=rfl
theorem ub6:Qgq .max [.int i,.int j]=some (.fz (.int (if j>i then j else i))):=rfl
theorem ub7:Qgq .dvm [.int i,.int j]=if 0<j∧j.natAbs<2^64 then some (.fz (.tup [.int (i / j),.int (i%j)])) else none:=rfl
theorem ub8:Qgq .int [.bl c]=some (.fz (.int (if c then 1 else 0))):=rfl
theorem ub9:Qgq .tup [.lst a]=some (.fz (.tup a)):=rfl
section
variable {cf:CF} {ρ:En}
end
section
variable {cf:CF} {ρ ρ1 ρ2:En}
noncomputable def Q9e (i:Nat) (ρ:En):Slot→SO
 | .ow t=>.nx (ρ.set i (.fz t))
 | .ml _=>.no
 | .ro _=>.no
 | _=>.nx ρ
theorem Q5o {i:Nat}:exS cf (.frz i) ρ=Q9e i ρ (Qa ρ i):=by
 rw [exS]
 cases Qa ρ i <;> rfl
theorem Quj {c:En→Out Bool} {b:En→SO} {Z:En→Prop} (J:Nat→En→Prop) (h:∀ i ρ,J i ρ→(∃ ρ1,c ρ=.ok false ρ1∧Z ρ1)∨(∃ i' ρ1 ρ2,i=i'+1∧c ρ=.ok true ρ1∧b ρ1=.nx ρ2∧J i' ρ2)) :
  ∀ (i b7:Nat) (ρ:En),i<b7→J i ρ→∃ ρ',Qj0 c b b7 ρ=.nx ρ'∧Z ρ'
 | i,0,ρ,hf,_=>absurd hf (Zdv _)
 | i,b7+1,ρ,hf,hj=>by
  rcases h i ρ hj with ⟨ρ1,e,z⟩ | ⟨i',ρ1,ρ2,rfl,e1,e2,j⟩
  ·refine ⟨ρ1,?_,z⟩
   unfold Qj0
   rw [e]
   rfl
  ·obtain ⟨ρ',e3,z⟩:=Quj J h i' b7 ρ2 (by omega) j
   refine ⟨ρ',?_,z⟩
   unfold Qj0
   rw [e1]
   show (match b ρ1 with | .nx ρ2=>Qj0 c b b7 ρ2 | .ct ρ2=>Qj0 c b b7 ρ2 | .bk ρ2=>.nx ρ2 | o=>o)=_
   rw [e2]
   exact e3
end
section
variable {fA f0:En→SO} {fc:En→Out Bool} {fV f1 f2:En→Out PV} {iF iR iH iW iS iT iN:Nat} {Ms:List (List (List Int))} {R M:List (List Int)} {is:List Int} {ρ ρ1 ρ2 ρ3:En}
end
noncomputable def Quk (K:Fz):Bool:=match K.getLast? with
 | some (_,o)=>(match o.data with
  | .fields a=>a.size != 2
  | _=>true)
 | none=>true
theorem Qad2 {K:Fz} (h:Quk K=true) (a:PySem.Addr) (q:PySem.Str):¬ Qwz K a q:=fun ⟨b,t,e⟩=>by
 unfold Quk at h
 rw [e] at h
 cases h
section
variable {cf:CF} {ρ ρ1 ρ2:En}
end
section
variable {cf:CF} {ρ:En} {x:Xn} {α β:Type}
theorem o_xn {k:α→En→SO}:ofO (Out.xn x ρ:Out α) k=.xn x ρ:=rfl
def yRev:PV→En→Out PV
 | .fz (.tup ts),ρ=>.ok (.fz (.tup ts.reverse)) ρ
 | _,_=>.no
def yXn (x:Xn):Option (List T)→FR
 | some fin=>.xn x fin
 | none=>.no
theorem Q9f {as:List Arg}:Qcp as (.xn x ρ)=yXn x (Q4 as ρ):=by
 show (match Q4 as ρ with | some fin=>FR.xn x fin | none=>.no)=_
 cases Q4 as ρ <;> rfl
theorem Qzx {fin:List T}:yXn x (some fin)=.xn x fin:=rfl
noncomputable def Qzy (c:Nat) (rs:List PV) (ρ1:En):SO:=match rs with
 | [.fz (.int i)]=>if 6≤c∧c<9 then .xn ⟨c,[i]⟩ ρ1 else .no
 | [.fz (.str _)]=>if c<6 then .xn ⟨c,[]⟩ ρ1 else .no
 | [.fz (.int i),.fz (.int j)]=>if c=9 then .xn ⟨c,[i,j]⟩ ρ1 else .no
 | _=>.no
theorem Q3l {c:Nat} {es:Es}:exS cf (.raise c es) ρ=ofO (evA cf es ρ) (Qzy c):=by rw [exS];rfl
noncomputable def Qad4 (i j:Nat) (h:Nat→List Int→Option T):SO→SO
 | .xn x ρ1=>match h x.c x.arg with
  | some (.str w)=>match Qa ρ1 j with
   | .ow (.lst ts)=>if ts.length<100000 then .nx ((ρ1.set i .un).set j (.ow (.lst (ts++[.str w])))) else .no
   | _=>.no
  | _=>.no
 | .nx ρ1=>.nx ρ1
 | _=>.no
theorem Q9g {i j:Nat} {b:S} {h:Nat→List Int→Option T}:exS cf (.tryA i j b h) ρ=Qad4 i j h (exS cf b ρ):=by
 rw [exS]
 cases exS cf b ρ <;> rfl
end
end L2
set_option maxHeartbeats 4000000
namespace My
open PySem L2
noncomputable def top (i:Nat):Fs:=PySem.Challenge.pw_noughtways_k05_ranks_and_determinants.main.body.getD i (.Pass ⟨0,0,0,0⟩)
theorem Qf9 {x:Str} {st:Fs} {p0:Str} (h:∀ (kV az pm:Fx) (an:Option Fw) (ae ct:Fx) (a0:Fx),bindArgs (PySem.W.fnOf x x (Qel st) (Qbi st) (Qg st) .none kV az pm an ae ct) ⟨[a0],[]⟩=pure [(p0,a0)]):Qai x st [p0]:=fun a b c d e f us hl=>match us,hl with | [a0],_=>h a b c d e f a0
theorem Qpe {x:Str} {st:Fs} {p0 p1:Str} (h:∀ (kV az pm:Fx) (an:Option Fw) (ae ct:Fx) (a0 a1:Fx),bindArgs (PySem.W.fnOf x x (Qel st) (Qbi st) (Qg st) .none kV az pm an ae ct) ⟨[a0,a1],[]⟩=pure [(p0,a0),(p1,a1)]):Qai x st [p0,p1]:=fun a b c d e f us hl=>match us,hl with | [a0,a1],_=>h a b c d e f a0 a1
theorem bdN3 {x:Str} {st:Fs} {p0 p1 p2:Str} (h:∀ (kV az pm:Fx) (an:Option Fw) (ae ct:Fx) (a0 a1 a2:Fx),bindArgs (PySem.W.fnOf x x (Qel st) (Qbi st) (Qg st) .none kV az pm an ae ct) ⟨[a0,a1,a2],[]⟩=pure [(p0,a0),(p1,a1),(p2,a2)]):Qai x st [p0,p1,p2]:=fun a b c d e f us hl=>match us,hl with | [a0,a1,a2],_=>h a b c d e f a0 a1 a2
abbrev Qga:Fs:=top 14
theorem Qq7:FnScope ["thing"] ["thing"] (Qg Qga):=by constructor<;>first|exact rfl|decide +kernel
theorem Qq8:Qai "is_whole" Qga ["thing"]:=Qf9 fun _ _ _ _ _ _ _=>rfl
abbrev Qjb:Fs:=top 15
theorem Qwi:FnScope ["thing","size"] ["thing","size"] (Qg Qjb):=by constructor<;>first|exact rfl|decide +kernel
theorem Qwj:Qai "is_row" Qjb ["thing","size"]:=Qpe fun _ _ _ _ _ _ _ _=>rfl
abbrev Qhj:Fs:=top 16
theorem Qsw:FnScope ["thing"] ["thing"] (Qg Qhj):=by constructor<;>first|exact rfl|decide +kernel
theorem Qsx:Qai "is_grid" Qhj ["thing"]:=Qf9 fun _ _ _ _ _ _ _=>rfl
abbrev Qep:Fs:=top 17
theorem Qnj:FnScope ["thing"] ["thing"] (Qg Qep):=by constructor<;>first|exact rfl|decide +kernel
theorem Qnk:Qai "need_table" Qep ["thing"]:=Qf9 fun _ _ _ _ _ _ _=>rfl
abbrev Qcv:Fs:=top 19
theorem Qci:FnScope ["one","other","rest"] ["one","other"] (Qg Qcv):=by constructor<;>first|exact rfl|decide +kernel
theorem Qjc:Qai "shared_divisor" Qcv ["one","other"]:=Qpe fun _ _ _ _ _ _ _ _=>rfl
abbrev Qhk:Fs:=top 20
theorem Qmn:FnScope ["row","at"] ["row"] (Qg Qhk):=by constructor<;>first|exact rfl|decide +kernel
theorem Qsy:Qai "lead_of" Qhk ["row"]:=Qf9 fun _ _ _ _ _ _ _=>rfl
abbrev Qhl:Fs:=top 21
theorem Qdt:FnScope ["row","lead","divisor","number"] ["row"] (Qg Qhl):=by constructor<;>first|exact rfl|decide +kernel
theorem Qsz:Qai "line_of" Qhl ["row"]:=Qf9 fun _ _ _ _ _ _ _=>rfl
abbrev Qhm:Fs:=top 22
theorem Qmo:FnScope ["row","step","lead"] ["row","step"] (Qg Qhm):=by constructor<;>first|exact rfl|decide +kernel
theorem Qs0:Qai "cleared" Qhm ["row","step"]:=Qpe fun _ _ _ _ _ _ _ _=>rfl
abbrev Qhn:Fs:=top 23
theorem Qie:FnScope ["row","steps","step"] ["row","steps"] (Qg Qhn):=by constructor<;>first|exact rfl|decide +kernel
theorem Qs1:Qai "left_of" Qhn ["row","steps"]:=Qpe fun _ _ _ _ _ _ _ _=>rfl
abbrev Qgb:Fs:=top 24
theorem Qfa:FnScope ["rows","steps","row","line"] ["rows"] (Qg Qgb):=by constructor<;>first|exact rfl|decide +kernel
theorem Qq9:Qai "steps_of" Qgb ["rows"]:=Qf9 fun _ _ _ _ _ _ _=>rfl
abbrev Qpf:Fs:=top 25
theorem Q3m:FnScope ["table"] ["table"] (Qg Qpf):=by constructor<;>first|exact rfl|decide +kernel
theorem Q3n:Qai "rank" Qpf ["table"]:=Qf9 fun _ _ _ _ _ _ _=>rfl
abbrev Qcw:Fs:=top 26
theorem Qjd:FnScope ["rows","at"] ["rows","at"] (Qg Qcw):=by constructor<;>first|exact rfl|decide +kernel
theorem Qje:Qai "without_column" Qcw ["rows","at"]:=Qpe fun _ _ _ _ _ _ _ _=>rfl
abbrev Qcx:Fs:=top 27
theorem Qbf:FnScope ["rows","told","sign","at"] ["rows"] (Qg Qcx):=by constructor<;>first|exact rfl|decide +kernel
theorem Qjf:Qai "determinant_of" Qcx ["rows"]:=Qf9 fun _ _ _ _ _ _ _=>rfl
abbrev Qd2:Fs:=top 28
theorem Qmp:FnScope ["table"] ["table"] (Qg Qd2):=by constructor<;>first|exact rfl|decide +kernel
theorem Qmq:Qai "determinant" Qd2 ["table"]:=Qf9 fun _ _ _ _ _ _ _=>rfl
abbrev Qez:Fs:=top 30
theorem Qra:FnScope ["_law_script","_law_k"] ["_law_script","_law_k"] (Qg Qez):=by constructor<;>first|exact rfl|decide +kernel
theorem Qrb:Qai "_law_cell" Qez ["_law_script","_law_k"]:=Qpe fun _ _ _ _ _ _ _ _=>rfl
abbrev Qho:Fs:=top 31
theorem Qmr:FnScope ["_law_cell_here","_law_left"] ["_law_cell_here"] (Qg Qho):=by constructor<;>first|exact rfl|decide +kernel
theorem Qs2:Qai "_law_pen" Qho ["_law_cell_here"]:=Qf9 fun _ _ _ _ _ _ _=>rfl
abbrev Qgc:Fs:=top 32
theorem Qeb:FnScope ["_law_pen_here","_law_many","_law_left","_law_found","_law_stir"] ["_law_pen_here","_law_many"] (Qg Qgc):=by constructor<;>first|exact rfl|decide +kernel
theorem Qrc:Qai "_law_draw" Qgc ["_law_pen_here","_law_many"]:=Qpe fun _ _ _ _ _ _ _ _=>rfl
abbrev Qfb:Fs:=top 33
theorem Qpg:FnScope ["_law_thing"] ["_law_thing"] (Qg Qfb):=by constructor<;>first|exact rfl|decide +kernel
theorem Qph:Qai "_law_whole" Qfb ["_law_thing"]:=Qf9 fun _ _ _ _ _ _ _=>rfl
abbrev Qhp:Fs:=top 34
theorem Qms:FnScope ["_law_pen_here","_law_some"] ["_law_pen_here"] (Qg Qhp):=by constructor<;>first|exact rfl|decide +kernel
theorem Qs3:Qai "_law_odd" Qhp ["_law_pen_here"]:=Qf9 fun _ _ _ _ _ _ _=>rfl
abbrev Qe0:Fs:=top 35
theorem Qec:FnScope ["_law_e","_law_marks","_law_words"] ["_law_e"] (Qg Qe0):=by constructor<;>first|exact rfl|decide +kernel
theorem Qrd:Qai "_law_kind" Qe0 ["_law_e"]:=Qf9 fun _ _ _ _ _ _ _=>rfl
abbrev Qfc:Fs:=top 36
theorem Qbw:FnScope ["_law_pen_here","_law_size","_law_way","_law_rows","_law_row","_law_numbers","_law_column","_law_number"] ["_law_pen_here","_law_size","_law_way"] (Qg Qfc):=by constructor<;>first|exact rfl|decide +kernel
theorem Qpi:Qai "_law_table" Qfc ["_law_pen_here","_law_size","_law_way"]:=bdN3 fun _ _ _ _ _ _ _ _ _=>rfl
abbrev Qc3:Fs:=top 37
theorem Qf0:FnScope ["_law_thing","_law_row"] ["_law_thing"] (Qg Qc3):=by constructor<;>first|exact rfl|decide +kernel
theorem Qj6:Qai "_law_is_square" Qc3 ["_law_thing"]:=Qf9 fun _ _ _ _ _ _ _=>rfl
abbrev Qgd:Fs:=top 38
theorem Qbx:FnScope ["_law_pen_here","_law_table_here","_law_size","_law_at","_law_to","_law_row","_law_odd_here","_law_rows","_law_here","_law_some"] ["_law_pen_here","_law_table_here"] (Qg Qgd):=by constructor<;>first|exact rfl|decide +kernel
theorem Qre:Qai "_law_bent" Qgd ["_law_pen_here","_law_table_here"]:=Qpe fun _ _ _ _ _ _ _ _=>rfl
abbrev Qfd:Fs:=top 39
theorem Qb8:FnScope ["_law_rows","_law_total","_law_at","_law_number","_law_less","_law_sign"] ["_law_rows"] (Qg Qfd):=by constructor<;>first|exact rfl|decide +kernel
theorem Qpj:Qai "_law_worth" Qfd ["_law_rows"]:=Qf9 fun _ _ _ _ _ _ _=>rfl
abbrev Qge:Fs:=top 40
theorem Qfe:FnScope ["_law_size","_law_many","_law_found","_law_place"] ["_law_size","_law_many"] (Qg Qge):=by constructor<;>first|exact rfl|decide +kernel
theorem Qrf:Qai "_law_sets" Qge ["_law_size","_law_many"]:=Qpe fun _ _ _ _ _ _ _ _=>rfl
abbrev Qgf:Fs:=top 41
theorem Qcq:FnScope ["_law_table_here","_law_size","_law_many","_law_rows","_law_columns","_law_part","_law_row"] ["_law_table_here"] (Qg Qgf):=by constructor<;>first|exact rfl|decide +kernel
theorem Qrg:Qai "_law_rank" Qgf ["_law_table_here"]:=Qf9 fun _ _ _ _ _ _ _=>rfl
abbrev Qff:Fs:=top 42
theorem Qjg:FnScope ["_law_table_here","_law_found","_law_many"] ["_law_table_here"] (Qg Qff):=by constructor<;>first|exact rfl|decide +kernel
theorem Qpk:Qai "_law_right" Qff ["_law_table_here"]:=Qf9 fun _ _ _ _ _ _ _=>rfl
abbrev Qd3:Fs:=top 43
theorem Qdn:FnScope ["_law_thing","_law_words","_law_way","_law_e"] ["_law_thing"] (Qg Qd3):=by constructor<;>first|exact rfl|decide +kernel
theorem Qmt:Qai "_law_refused" Qd3 ["_law_thing"]:=Qf9 fun _ _ _ _ _ _ _=>rfl
abbrev Qkz:Fs:=top 44
theorem Qgg:FnScope ["_law_script","_law_cell_here","_law_pen_here","_law_size","_law_way","_law_table_here","_law_often","_law_last","_law_one","_law_bad"] ["_law_script"] (Qg Qkz):=by constructor<;>first|exact rfl|decide +kernel
theorem Q9h:Qai "law" Qkz ["_law_script"]:=Qf9 fun _ _ _ _ _ _ _=>rfl
theorem Qnl:PySem.bootBuiltins "ValueError" = some (.type "ValueError"):=by decide +kernel
theorem Q9i:PySem.bootBuiltins "abs" = some (.builtin "abs"):=by decide +kernel
theorem Qs4:PySem.bootBuiltins "all" = some (.builtin "all"):=by decide +kernel
theorem Qul:PySem.bootBuiltins "bool" = some (.type "bool"):=by decide +kernel
theorem Qwk:PySem.bootBuiltins "divmod" = some (.builtin "divmod"):=by decide +kernel
theorem Qpl:PySem.bootBuiltins "enumerate" = some (.type "enumerate"):=by decide +kernel
theorem Qs5:PySem.bootBuiltins "int" = some (.type "int"):=by decide +kernel
theorem Qy:PySem.bootBuiltins "isinstance" = some (.builtin "isinstance"):=by decide +kernel
theorem Qcr:PySem.bootBuiltins "len" = some (.builtin "len"):=by decide +kernel
theorem Qjh:PySem.bootBuiltins "list" = some (.type "list"):=by decide +kernel
theorem Qzz:PySem.bootBuiltins "max" = some (.builtin "max"):=by decide +kernel
theorem Qz0:PySem.bootBuiltins "range" = some (.type "range"):=by decide +kernel
theorem Qc0:PySem.bootBuiltins "tuple" = some (.type "tuple"):=by decide +kernel
theorem Q9j:PySem.bootBuiltins "zip" = some (.type "zip"):=by decide +kernel
structure Txt (K:Fz) (mg:Str→Option Fx):Prop where
 n_ValueError:mg "ValueError" = none
 n_abs:mg "abs" = none
 n_all:mg "all" = none
 n_bool:mg "bool" = none
 n_divmod:mg "divmod" = none
 n_enumerate:mg "enumerate" = none
 n_int:mg "int" = none
 n_isinstance:mg "isinstance" = none
 n_len:mg "len" = none
 n_list:mg "list" = none
 n_max:mg "max" = none
 n_range:mg "range" = none
 n_tuple:mg "tuple" = none
 n_zip:mg "zip" = none
 m_MOST_ROWS:∃ u,mg "MOST_ROWS" = some u∧RelV (.int (4)) u
 ex:Exs K mg
 k_kind:Dfn K mg "_law_kind" Qe0
def Qrh:List Str:=["table","way","set","rest","line","row","tables","below","text","great"]
def Qmu:Nat→List Int→Option T:=fun c _=>(Qrh[c]?).map T.str
abbrev Qs6:L2.S:=(.ret (.and (.isI (.var 0) "int") (.not (.isI (.var 0) "bool"))))
abbrev Qif:L2.Df:=⟨"is_whole",Qga,["thing"],["thing"],⟨1,1,Qs6⟩,fun _=>true,fun _=>true⟩
noncomputable abbrev Qg7:L2.S:=(.seq (.ite (.or (.not (.isI (.var 0) "tuple")) (.cmp .ne (.bi .len (.cons (.var 0) .nil)) (.var 1))) (.ret (.bl false)) .nil)
 (.ret (.bi .all (.cons (.comp (.seq (.var 0)) [none] (.nm 0) .nil (.call 0 (.cons (.var 0) .nil))) .nil))))
noncomputable abbrev Qmv:L2.Df:=⟨"is_row",Qjb,["thing","size"],["thing","size"],⟨2,2,Qg7⟩,fun _=>true,fun _=>true⟩
noncomputable abbrev Qf1:L2.S:=(.seq (.ite (.or (.not (.isI (.var 0) "tuple")) (.or (.cmp .lt (.bi .len (.cons (.var 0) .nil)) (.int 1)) (.cmp .gt (.bi .len (.cons (.var 0) .nil)) (.int (4))))) (.ret (.bl false)) .nil)
 (.ret (.bi .all (.cons (.comp (.seq (.var 0)) [none,some 0] (.nm 0) .nil (.call 1 (.cons (.var 0) (.cons (.bi .len (.cons (.var 1) .nil)) .nil)))) .nil))))
abbrev Qj7:L2.Df:=⟨"is_grid",Qhj,["thing"],["thing"],⟨1,1,Qf1⟩,fun _=>true,fun _=>true⟩
noncomputable abbrev Qdo:L2.S:=(.ite (.not (.call 2 (.cons (.var 0) .nil))) (.raise 0 (.cons (.str "this is no table") .nil)) .nil)
abbrev Qeq:L2.Df:=⟨"need_table",Qep,["thing"],["thing"],⟨1,1,Qdo⟩,fun _=>true,fun _=>true⟩
noncomputable abbrev Qdu:L2.S:=(.seq (.whl (.cmp .ne (.var 1) (.int 0)) (.seq (.setF 2 (.bin .mod (.var 0) (.var 1)))
 (.seq (.setF 0 (.var 1))
 (.setF 1 (.var 2)))))
 (.ret (.bi .abs (.cons (.var 0) .nil))))
noncomputable abbrev Qdv:L2.Df:=⟨"shared_divisor",Qcv,["one","other","rest"],["one","other"],⟨2,3,Qdu⟩,fun _=>true,fun _=>true⟩
noncomputable abbrev Qj8:L2.S:=(.seq (.for_ (.rng1 (.bi .len (.cons (.var 0) .nil))) (.nm 1) (.ite (.cmp .ne (.ix (.var 0) (.var 1)) (.int 0)) (.ret (.var 1)) .nil))
 (.ret .non))
abbrev Qhq:L2.Df:=⟨"lead_of",Qhk,["row","at"],["row"],⟨1,2,Qj8⟩,fun _=>true,fun _=>true⟩
noncomputable abbrev Qj9:L2.S:=(.seq (.setF 1 (.call 5 (.cons (.var 0) .nil)))
 (.seq (.ite (.cmp .isn (.var 1) .non) (.ret .non) .nil)
 (.seq (.setF 2 (.int 0))
 (.seq (.for_ (.seq (.var 0)) (.nm 3) (.setF 2 (.call 4 (.cons (.var 2) (.cons (.var 3) .nil)))))
 (.seq (.ite (.cmp .lt (.ix (.var 0) (.var 1)) (.int 0)) (.setF 2 (.neg (.var 2))) .nil)
 (.ret (.bi .tup (.cons (.comp (.seq (.var 0)) [none,some 2] (.nm 0) .nil (.bin .fdv (.var 0) (.var 1))) .nil))))))))
noncomputable abbrev Qka:L2.Df:=⟨"line_of",Qhl,["row","lead","divisor","number"],["row"],⟨1,4,Qj9⟩,fun _=>true,fun _=>true⟩
noncomputable abbrev Qkb:L2.S:=(.seq (.setF 2 (.call 5 (.cons (.var 1) .nil)))
 (.ret (.bi .tup (.cons (.comp (.rng1 (.bi .len (.cons (.var 0) .nil))) [none,some 0,some 1,some 2] (.nm 0) .nil (.bin .sub (.bin .mul (.ix (.var 1) (.var 0)) (.ix (.var 2) (.var 3))) (.bin .mul (.ix (.var 2) (.var 0)) (.ix (.var 1) (.var 3))))) .nil))))
noncomputable abbrev Qkc:L2.Df:=⟨"cleared",Qhm,["row","step","lead"],["row","step"],⟨2,3,Qkb⟩,fun _=>true,fun _=>true⟩
noncomputable abbrev Qkd:L2.S:=(.seq (.for_ (.seq (.var 1)) (.nm 2) (.setF 0 (.call 7 (.cons (.var 0) (.cons (.var 2) .nil)))))
 (.ret (.var 0)))
noncomputable abbrev Qke:L2.Df:=⟨"left_of",Qhn,["row","steps","step"],["row","steps"],⟨2,3,Qkd⟩,fun _=>true,fun _=>true⟩
noncomputable abbrev Qmw:L2.S:=(.seq (.set 1 (.lst .nil))
 (.seq (.for_ (.seq (.var 0)) (.nm 2) (.seq (.look 1 (.setF 3 (.call 6 (.cons (.call 8 (.cons (.var 2) (.cons (.var 1) .nil))) .nil))))
 (.ite (.cmp .isnn (.var 3) .non) (.app 1 (.var 3)) .nil)))
 (.ret (.var 1))))
noncomputable abbrev Qig:L2.Df:=⟨"steps_of",Qgb,["rows","steps","row","line"],["rows"],⟨1,4,Qmw⟩,fun _=>true,fun _=>true⟩
noncomputable abbrev Qmx:L2.S:=(.seq (.expr (.call 3 (.cons (.var 0) .nil)))
 (.ret (.bi .len (.cons (.call 9 (.cons (.var 0) .nil)) .nil))))
abbrev Qmy:L2.Df:=⟨"rank",Qpf,["table"],["table"],⟨1,1,Qmx⟩,fun _=>true,fun _=>true⟩
noncomputable abbrev Qdw:L2.S:=(.ret (.comp (.seq (.var 0)) [none,some 1] (.nm 0) .nil (.bin .add (.slc (.var 0) .nil (.cons (.var 1) .nil)) (.slc (.var 0) (.cons (.bin .add (.var 1) (.int 1)) .nil) .nil))))
noncomputable abbrev Qdx:L2.Df:=⟨"without_column",Qcw,["rows","at"],["rows","at"],⟨2,2,Qdw⟩,fun _=>true,fun _=>true⟩
noncomputable abbrev Qb3:L2.S:=(.seq (.ite (.cmp .eq (.bi .len (.cons (.var 0) .nil)) (.int 0)) (.ret (.int 1)) .nil)
 (.seq (.setF 1 (.int 0))
 (.seq (.setF 2 (.int 1))
 (.seq (.for_ (.rng1 (.bi .len (.cons (.var 0) .nil))) (.nm 3) (.seq (.setF 1 (.bin .add (.var 1) (.bin .mul (.bin .mul (.var 2) (.ix (.ix (.var 0) (.int 0)) (.var 3))) (.call 12 (.cons (.call 11 (.cons (.slc (.var 0) (.cons (.int 1) .nil) .nil) (.cons (.var 3) .nil))) .nil)))))
 (.setF 2 (.neg (.var 2)))))
 (.ret (.var 1))))))
noncomputable abbrev Qcy:L2.Df:=⟨"determinant_of",Qcx,["rows","told","sign","at"],["rows"],⟨1,4,Qb3⟩,fun _=>true,fun _=>true⟩
noncomputable abbrev Qc1:L2.S:=(.seq (.expr (.call 3 (.cons (.var 0) .nil)))
 (.ret (.call 12 (.cons (.var 0) .nil))))
abbrev Qd4:L2.Df:=⟨"determinant",Qd2,["table"],["table"],⟨1,1,Qc1⟩,fun _=>true,fun _=>true⟩
noncomputable abbrev Qkf:L2.S:=(.seq (.setF 1 (.bi .max (.cons (.var 0) (.cons (.bin .sub (.int 0) (.var 0)) .nil))))
 (.ret (.lst (.cons (.var 1) (.cons (.bi .int (.cons (.cmp .ge (.var 1) (.bin .pow (.int 10) (.int 18))) .nil)) .nil)))))
noncomputable abbrev Qkg:L2.Df:=⟨"_law_pen",Qho,["_law_cell_here","_law_left"],["_law_cell_here"],⟨1,2,Qkf⟩,fun _=>true,fun _=>true⟩
noncomputable abbrev Qe1:L2.S:=(.seq (.ite (.cmp .eq (.ix (.var 0) (.int 1)) (.int 1)) (.seq (.unp [2,3] (.bi .dvm (.cons (.ix (.var 0) (.int 0)) (.cons (.var 1) .nil))))
 (.seq (.put 0 (.int 0) (.var 2))
 (.ret (.var 3)))) .nil)
 (.seq (.setF 4 (.bin .mod (.bin .mul (.bin .add (.bin .mod (.ix (.var 0) (.int 0)) (.int 2147483647)) (.int 40503)) (.int 69621)) (.int 2147483629)))
 (.seq (.setF 4 (.bin .mod (.bin .add (.bin .mul (.var 4) (.var 4)) (.int 7817)) (.int 2147483587)))
 (.seq (.put 0 (.int 0) (.bin .mod (.bin .add (.bin .mul (.var 4) (.int 48271)) (.int 11)) (.int 2147483629)))
 (.ret (.bin .mod (.bin .fdv (.ix (.var 0) (.int 0)) (.int 32)) (.var 1)))))))
noncomputable abbrev Qa2:L2.Df:=⟨"_law_draw",Qgc,["_law_pen_here","_law_many","_law_left","_law_found","_law_stir"],["_law_pen_here","_law_many"],⟨2,5,Qe1⟩,fun _=>true,fun _=>true⟩
abbrev Qri:L2.S:=(.ret (.and (.isI (.var 0) "int") (.not (.isI (.var 0) "bool"))))
noncomputable abbrev Qed:L2.Df:=⟨"_law_whole",Qfb,["_law_thing"],["_law_thing"],⟨1,1,Qri⟩,fun _=>true,fun _=>true⟩
noncomputable abbrev Qkh:L2.S:=(.seq (.setF 1 (.lst (.cons .non (.cons (.bl true) (.cons (.bl false) (.cons (.neg (.int 1)) (.cons (.str "1") (.cons (.str "") (.cons (.tup .nil) (.cons (.lst .nil) (.cons (.tup (.cons (.int 0) .nil)) (.cons (.lst (.cons (.int 0) .nil)) (.cons (.lit (.dct [Sum.inr "a"] [.int 1])) (.cons (.tup (.cons (.tup (.cons (.int 0) .nil)) .nil)) (.cons (.bin .pow (.int 10) (.int 30)) (.cons (.tup (.cons (.tup (.cons (.int 0) (.cons (.int 1) .nil))) .nil)) (.cons (.tup (.cons (.str "ab") .nil)) .nil)))))))))))))))))
 (.ret (.ix (.bin .add (.var 1) (.lst (.cons (.tup (.cons (.tup (.cons (.bl true) .nil)) .nil)) .nil))) (.call 15 (.cons (.var 0) (.cons (.int 16) .nil))))))
noncomputable abbrev Qki:L2.Df:=⟨"_law_odd",Qhp,["_law_pen_here","_law_some"],["_law_pen_here"],⟨1,2,Qkh⟩,fun _=>true,fun _=>true⟩
noncomputable abbrev Qk0:L2.S:=(.seq (.set 3 (.lst .nil))
 (.seq (.for_ (.rng1 (.var 1)) (.nm 4) (.seq (.set 5 (.lst .nil))
 (.seq (.for_ (.rng1 (.var 1)) (.nm 6) (.seq (.setF 7 (.bi .max (.cons (.int 0) (.cons (.bin .sub (.call 15 (.cons (.var 0) (.cons (.int 5) .nil))) (.int 2)) .nil))))
 (.seq (.ite (.cmp .eq (.var 2) (.int 1)) (.setF 7 (.bin .sub (.call 15 (.cons (.var 0) (.cons (.int 5) .nil))) (.int 2))) .nil)
 (.seq (.ite (.cmp .eq (.var 2) (.int 2)) (.setF 7 (.bin .sub (.call 15 (.cons (.var 0) (.cons (.bin .add (.bin .mul (.int 2) (.bin .pow (.int 10) (.int 11))) (.int 1)) .nil))) (.bin .pow (.int 10) (.int 11)))) .nil)
 (.app 5 (.var 7))))))
 (.app 3 (.bi .tup (.cons (.var 5) .nil))))))
 (.ret (.bi .tup (.cons (.var 3) .nil)))))
noncomputable abbrev Qg8:L2.Df:=⟨"_law_table",Qfc,["_law_pen_here","_law_size","_law_way","_law_rows","_law_row","_law_numbers","_law_column","_law_number"],["_law_pen_here","_law_size","_law_way"],⟨3,8,Qk0⟩,fun _=>true,fun _=>true⟩
noncomputable abbrev Qgo:L2.S:=(.seq (.ite (.or (.not (.isI (.var 0) "tuple")) (.inR true (.bi .len (.cons (.var 0) .nil)) (.int 1) (.int 5))) (.ret (.bl false)) .nil)
 (.seq (.for_ (.seq (.var 0)) (.nm 1) (.ite (.or (.not (.isI (.var 1) "tuple")) (.or (.cmp .ne (.bi .len (.cons (.var 1) .nil)) (.bi .len (.cons (.var 0) .nil))) (.not (.bi .all (.cons (.comp (.seq (.var 1)) [none] (.nm 0) .nil (.call 16 (.cons (.var 0) .nil))) .nil))))) (.ret (.bl false)) .nil))
 (.ret (.bl true))))
noncomputable abbrev Qef:L2.Df:=⟨"_law_is_square",Qc3,["_law_thing","_law_row"],["_law_thing"],⟨1,2,Qgo⟩,fun _=>true,fun _=>true⟩
noncomputable abbrev Qmz:L2.S:=(.seq (.setF 2 (.bi .len (.cons (.var 1) .nil)))
 (.seq (.par 3 4 (.call 15 (.cons (.var 0) (.cons (.var 2) .nil))) (.call 15 (.cons (.var 0) (.cons (.var 2) .nil))))
 (.seq (.setF 5 (.ix (.var 1) (.var 3)))
 (.seq (.setF 6 (.ix (.lst (.cons (.bl true) (.cons .non (.cons (.str "0") (.cons (.tup (.cons (.int 0) .nil)) (.cons (.bin .pow (.int 10) (.int 12)) (.cons (.bin .sub (.int 1) (.bin .pow (.int 10) (.int 12))) (.cons (.bin .sub (.bin .pow (.int 10) (.int 12)) (.int 1)) (.cons (.bin .sub (.int 0) (.bin .pow (.int 10) (.int 12))) (.cons (.bl false) .nil)))))))))) (.call 15 (.cons (.var 0) (.cons (.int 9) .nil)))))
 (.seq (.setF 7 (.lst (.cons (.bin .add (.bin .add (.slc (.var 5) .nil (.cons (.var 4) .nil)) (.tup (.cons (.var 6) .nil))) (.slc (.var 5) (.cons (.bin .add (.var 4) (.int 1)) .nil) .nil)) (.cons (.slc (.var 5) (.cons (.int 1) .nil) .nil) (.cons (.bin .add (.var 5) (.tup (.cons (.int 0) .nil))) (.cons (.bi .list (.cons (.var 5) .nil)) (.cons .non (.cons (.int 0) (.cons (.rev (.var 5)) .nil)))))))))
 (.seq (.setF 8 (.ix (.var 7) (.call 15 (.cons (.var 0) (.cons (.int 7) .nil)))))
 (.seq (.setF 9 (.lst (.cons (.bin .add (.bin .add (.slc (.var 1) .nil (.cons (.var 3) .nil)) (.tup (.cons (.var 8) .nil))) (.slc (.var 1) (.cons (.bin .add (.var 3) (.int 1)) .nil) .nil)) (.cons (.slc (.var 1) (.cons (.int 1) .nil) .nil) (.cons (.bin .add (.var 1) (.slc (.var 1) .nil (.cons (.int 1) .nil))) (.cons (.bi .list (.cons (.var 1) .nil)) .nil))))))
 (.seq (.setF 9 (.bin .add (.var 9) (.lst (.cons (.tup (.cons (.var 1) .nil)) (.cons (.ix (.var 1) (.int 0)) (.cons (.comp (.seq (.var 1)) [none] (.nm 0) .nil (.bi .list (.cons (.var 0) .nil))) .nil))))))
 (.ret (.ix (.var 9) (.ix (.lst (.cons (.int 0) (.cons (.int 0) (.cons (.int 0) (.cons (.int 0) (.cons (.int 1) (.cons (.int 2) (.cons (.int 3) (.cons (.int 4) (.cons (.int 5) (.cons (.int 6) .nil))))))))))) (.call 15 (.cons (.var 0) (.cons (.int 10) .nil))))))))))))))
noncomputable abbrev Qih:L2.Df:=⟨"_law_bent",Qgd,["_law_pen_here","_law_table_here","_law_size","_law_at","_law_to","_law_row","_law_odd_here","_law_rows","_law_here","_law_some"],["_law_pen_here","_law_table_here"],⟨2,10,Qmz⟩,fun _=>true,fun _=>true⟩
noncomputable abbrev Qfg:L2.S:=(.seq (.ite (.cmp .eq (.var 0) (.lst .nil)) (.ret (.int 1)) .nil)
 (.seq (.setF 1 (.int 0))
 (.seq (.for_ (.enm (.ix (.var 0) (.neg (.int 1)))) (.tp [2,3]) (.ite (.cmp .ne (.var 3) (.int 0)) (.seq (.setF 4 (.comp (.seq (.slc (.var 0) .nil (.cons (.neg (.int 1)) .nil))) [none,some 2] (.nm 0) .nil (.bin .add (.slc (.var 0) .nil (.cons (.var 1) .nil)) (.slc (.var 0) (.cons (.bin .add (.var 1) (.int 1)) .nil) .nil))))
 (.seq (.setF 5 (.bin .sub (.int 1) (.bin .mul (.int 2) (.bin .mod (.bin .add (.bin .sub (.bi .len (.cons (.var 0) .nil)) (.int 1)) (.var 2)) (.int 2)))))
 (.setF 1 (.bin .add (.var 1) (.bin .mul (.bin .mul (.var 3) (.var 5)) (.call 21 (.cons (.var 4) .nil))))))) .nil))
 (.ret (.var 1)))))
noncomputable abbrev Qee:L2.Df:=⟨"_law_worth",Qfd,["_law_rows","_law_total","_law_at","_law_number","_law_less","_law_sign"],["_law_rows"],⟨1,6,Qfg⟩,fun _=>true,fun _=>true⟩
noncomputable abbrev Qs7:L2.S:=(.seq (.setF 2 (.lst (.cons (.tup .nil) .nil)))
 (.seq (.for_ (.rng1 (.var 0)) (.nm 3) (.setF 2 (.bin .add (.var 2) (.comp (.seq (.var 2)) [none,some 3] (.nm 0) .nil (.bin .add (.var 0) (.tup (.cons (.var 1) .nil)))))))
 (.ret (.comp (.seq (.var 2)) [none,some 1] (.nm 0) (.cons (.cmp .eq (.bi .len (.cons (.var 0) .nil)) (.var 1)) .nil) (.var 0)))))
noncomputable abbrev Qgh:L2.Df:=⟨"_law_sets",Qge,["_law_size","_law_many","_law_found","_law_place"],["_law_size","_law_many"],⟨2,4,Qs7⟩,fun _=>true,fun _=>true⟩
noncomputable abbrev Qm0:L2.S:=(.seq (.setF 1 (.bi .len (.cons (.var 0) .nil)))
 (.seq (.for_ (.rngD (.var 1) (.int 0)) (.nm 2) (.for_ (.seq (.call 22 (.cons (.var 1) (.cons (.var 2) .nil)))) (.nm 3) (.for_ (.seq (.call 22 (.cons (.var 1) (.cons (.var 2) .nil)))) (.nm 4) (.seq (.set 5 (.lst .nil))
 (.seq (.for_ (.seq (.var 3)) (.nm 6) (.app 5 (.bi .tup (.cons (.comp (.seq (.var 4)) [none,some 0,some 6] (.nm 0) .nil (.ix (.ix (.var 1) (.var 2)) (.var 0))) .nil))))
 (.seq (.frz 5) (.ite (.cmp .ne (.call 21 (.cons (.var 5) .nil)) (.int 0)) (.ret (.var 2)) .nil)))))))
 (.ret (.int 0))))
noncomputable abbrev Qii:L2.Df:=⟨"_law_rank",Qgf,["_law_table_here","_law_size","_law_many","_law_rows","_law_columns","_law_part","_law_row"],["_law_table_here"],⟨1,7,Qm0⟩,fun _=>true,fun _=>true⟩
noncomputable abbrev Qg9:L2.S:=(.seq (.par 1 2 (.call 13 (.cons (.var 0) .nil)) (.call 10 (.cons (.var 0) .nil)))
 (.seq (.ite (.or (.not (.call 16 (.cons (.var 1) .nil))) (.cmp .ne (.var 1) (.call 21 (.cons (.bi .list (.cons (.var 0) .nil)) .nil)))) (.ret (.bl false)) .nil)
 (.ret (.and (.call 16 (.cons (.var 2) .nil)) (.and (.cmp .eq (.var 2) (.call 23 (.cons (.var 0) .nil))) (.cmp .eq (.call 10 (.cons (.var 0) .nil)) (.var 2)))))))
noncomputable abbrev Qde:L2.Df:=⟨"_law_right",Qff,["_law_table_here","_law_found","_law_many"],["_law_table_here"],⟨1,3,Qg9⟩,fun _=>true,fun _=>true⟩
noncomputable abbrev Qh4:L2.S:=(.seq (.set 1 (.lst .nil))
 (.seq (.for_ (.rng1 (.int 2)) (.nm 2) (.tryA 3 1 (.ite (.cmp .eq (.var 2) (.int 0)) (.expr (.call 13 (.cons (.var 0) .nil))) (.expr (.call 10 (.cons (.var 0) .nil)))) Qmu))
 (.ret (.cmp .eq (.var 1) (.lst (.cons (.str "table") (.cons (.str "table") .nil)))))))
noncomputable abbrev Qfn:L2.Df:=⟨"_law_refused",Qd3,["_law_thing","_law_words","_law_way","_law_e"],["_law_thing"],⟨1,4,Qh4⟩,fun _=>true,fun _=>true⟩
noncomputable abbrev ds:List L2.Df:=[Qif,Qmv,Qj7,Qeq,Qdv,Qhq,Qka,Qkc,Qke,Qig,Qmy,Qdx,Qcy,Qd4,Qkg,Qa2,Qed,Qki,Qg8,Qef,Qih,Qee,Qgh,Qii,Qde,Qfn]
section
variable {P:Fu} {w:Ft} {K:Fz} {mg:Str→Option Fx} {base:Fq}
noncomputable def XcAt (mg:Str→Option Fx) (H:Hp) (a:Fw) (i:Nat):Prop:=∃ x dx,Qbm[i]?=some x∧H a=some (Qsg a (.ref (cad mg x)) dx)∧∀ d,dx=some d→∃ fs,H d=some (.xd fs)
noncomputable def Qum (mg:Str→Option Fx):Sp:=fun vs H Q _=>∃ a i x,vs=[.ref a]∧XcAt mg H a i∧Qrh[i]?=some x∧∀ H',Same H H'→Q (.str x) H'
theorem Qfo {H:Hp} {a:Fw} {i:Nat} {y:Str} {Q:VK} (ex:Exs K mg) (j:Nat) (h:XcAt mg H a i) (hy:Qbm[j]?=some y) (k:Q (.bl (i==j)) H):Qo5 K [.ref a,.ref (cad mg y)] H Q:=by
 obtain ⟨x,dx,hx,ha,hd⟩:=h
 exact ⟨a,_,dx,_,_,rfl,ha,hd,ex.xc i hx,.inl ⟨_,rfl⟩,ex.kit i j hx hy,k⟩
theorem Q9k {H:Hp} {a:Fw} {i:Nat} {Q:VK} (ex:Exs K mg) (h:XcAt mg H a i) (k:Q (.bl true) H):Qo5 K [.ref a,.ty "ValueError"] H Q:=by
 obtain ⟨x,dx,hx,ha,hd⟩:=h
 exact ⟨a,_,dx,_,_,rfl,ha,hd,ex.xc i hx,.inr ⟨_,rfl⟩,ex.val i hx,k⟩
theorem XcAt.mono {H H':Hp} {a:Fw} {i:Nat} (h:XcAt mg H a i) (s:Same H H'):XcAt mg H' a i:=by
 obtain ⟨x,dx,hx,ha,hd⟩:=h
 exact ⟨x,dx,hx,s _ _ ha,fun d e=>let ⟨fs,q⟩:=hd d e;⟨fs,s _ _ q⟩⟩
def Qhr (i:Nat):List Bool:=[i==0,i==1,i==2,i==3]++[i==4,i==5,i==6,i==7]++[i==8,i==9]
theorem Qz1:∀ i,i<10→(Qhr i).count true=1∧(Qhr i)[i]?=some true∧∀ m,m<i→(Qhr i)[m]?≠some true:=by decide
theorem Qpm (d:Dfn K mg "_law_kind" Qe0) (tx:Txt K mg):Q70 P w K mg base "_law_kind" ["_law_e"] 1 (Qum mg):=by
 refine Q71 (k:=0) d Qec Qrd (fun vs H Q E h=>?_) (fun f ae A outer s H vs Q E hr h=>?_)
 ·obtain ⟨a,i,x,rfl,_⟩:=h
  rfl
 ·obtain ⟨a,i,x,rfl,xa,hi,q⟩:=h
  refine ⟨_,(Qem (Qan (i:=1) Qec.nd (Qqj (Qr (Qiu (Qdi K rfl) tx.n_isinstance Qy (Qr (Qc7 0) (Qr (Qhz (tx.ex.m 0 _ rfl)) Qbg))) (Qr (Qiu (Qdi K rfl) tx.n_isinstance Qy (Qr (Qc7 0) (Qr (Qhz (tx.ex.m 1 _ rfl)) Qbg))) (Qr (Qiu (Qdi K rfl) tx.n_isinstance Qy (Qr (Qc7 0) (Qr (Qhz (tx.ex.m 2 _ rfl)) Qbg))) (Qr (Qiu (Qdi K rfl) tx.n_isinstance Qy (Qr (Qc7 0) (Qr (Qhz (tx.ex.m 3 _ rfl)) Qbg))) Qbg))))))
   (Qem (Qan (i:=1) Qec.nd (Q2d (Qtv K rfl) (Qc7 1) (Qqj (Qr (Qiu (Qdi K rfl) tx.n_isinstance Qy (Qr (Qc7 0) (Qr (Qhz (tx.ex.m 4 _ rfl)) Qbg))) (Qr (Qiu (Qdi K rfl) tx.n_isinstance Qy (Qr (Qc7 0) (Qr (Qhz (tx.ex.m 5 _ rfl)) Qbg))) (Qr (Qiu (Qdi K rfl) tx.n_isinstance Qy (Qr (Qc7 0) (Qr (Qhz (tx.ex.m 6 _ rfl)) Qbg))) (Qr (Qiu (Qdi K rfl) tx.n_isinstance Qy (Qr (Qc7 0) (Qr (Qhz (tx.ex.m 7 _ rfl)) Qbg))) Qbg)))))))
   (Qem (Qan (i:=1) Qec.nd (Q2d (Qtv K rfl) (Qc7 1) (Qqj (Qr (Qiu (Qdi K rfl) tx.n_isinstance Qy (Qr (Qc7 0) (Qr (Qhz (tx.ex.m 8 _ rfl)) Qbg))) (Qr (Qiu (Qdi K rfl) tx.n_isinstance Qy (Qr (Qc7 0) (Qr (Qhz (tx.ex.m 9 _ rfl)) Qbg))) Qbg)))))
   (Qem (Qtu (q_wt (Q4x (Qx1 (Qx0 (Qiu (Qdi K rfl) tx.n_isinstance Qy (Qr (Qc7 0) (Qr (Qo1 "ValueError" tx.n_ValueError Qnl) Qbg))))) (Qx2 (Qo2 o_ne (Qsa K rfl Zar PySem.F.slot_list_count PySem.F.type_list_count (Qyk K rfl) (Qc7 1) (Qr Q2c Qbg)) Qkr (Qxd _))))) (Qh6 (Qnx Q4w)) Qo3)
   (Qem (Qan (i:=2) Qec.nd (Qabs (Qfj Qhy (Qfj Qhy (Qfj Qhy (Qfj Qhy (Qfj Qhy (Qfj Qhy (Qfj Qhy (Qfj Qhy (Qfj Qhy (Qfj Qhy Qabr))))))))))))
   (Qh6 (Qnx (Q7g (Q7l K rfl) (Qc7 2) (Qsa K rfl Zar PySem.F.slot_list_index PySem.F.type_list_index (Qyl K rfl) (Qc7 1) (Qr Q2c Qbg)))))))))),?_⟩
  have fK:i<10:=(List.getElem?_eq_some_iff.mp hi).1
  obtain ⟨mc,mi,mn⟩:=Qz1 i fK
  refine ⟨_,rfl,Qfo tx.ex 0 xa rfl ⟨_,rfl,Qfo tx.ex 1 xa rfl ⟨_,rfl,Qfo tx.ex 2 xa rfl ⟨_,rfl,Qfo tx.ex 3 xa rfl ⟨by show 4≤sizeLine;decide,fun l1 n1=>?_⟩⟩⟩⟩⟩
  have dB:=xa.mono (Same.upd (o:=.lst [.bl (i==0),.bl (i==1),.bl (i==2),.bl (i==3)]) n1)
  refine ⟨_,rfl,_,rfl,Qfo tx.ex 4 dB rfl ⟨_,rfl,Qfo tx.ex 5 dB rfl ⟨_,rfl,Qfo tx.ex 6 dB rfl ⟨_,rfl,Qfo tx.ex 7 dB rfl ⟨by show 4≤sizeLine;decide,fun l2 n2=>?_⟩⟩⟩⟩⟩
  have jE:l1≠l2:=Qbk Qn n2
  have S2:=Same.upd (o:=.lst [.bl (i==4),.bl (i==5),.bl (i==6),.bl (i==7)]) n2
  refine .inr (.inl ⟨l1,l2,_,_,rfl,rfl,by rw [Q7 jE,Qn],Qn,by show 4+4≤sizeLine;decide,fun l3 n3=>?_⟩)
  have S3:=S2.trans (Same.upd (o:=.lst ([.bl (i==0),.bl (i==1),.bl (i==2),.bl (i==3)]++[.bl (i==4),.bl (i==5),.bl (i==6),.bl (i==7)])) n3)
  have gW:=dB.mono S3
  refine ⟨_,rfl,_,rfl,Qfo tx.ex 8 gW rfl ⟨_,rfl,Qfo tx.ex 9 gW rfl ⟨by show 2≤sizeLine;decide,fun l4 n4=>?_⟩⟩⟩
  have jT:l3≠l4:=Qbk Qn n4
  have S4:=S3.trans (Same.upd (o:=.lst [.bl (i==8),.bl (i==9)]) n4)
  refine .inr (.inl ⟨l3,l4,_,_,rfl,rfl,by rw [Q7 jT,Qn],Qn,by show 8+2≤sizeLine;decide,fun l5 n5=>?_⟩)
  have S5:=S4.trans (Same.upd (o:=.lst ([.bl (i==0),.bl (i==1),.bl (i==2),.bl (i==3)]++[.bl (i==4),.bl (i==5),.bl (i==6),.bl (i==7)]++[.bl (i==8),.bl (i==9)])) n5)
  have iA:=dB.mono S5
  generalize hH5:upd _ l5 _=H5 at iA S5 ⊢
  have e5:H5 l5=some (.lst ((Qhr i).map V.bl)):=by rw [←hH5,Qn];rfl
  have S50:=(Same.upd (o:=.lst [.bl (i==0),.bl (i==1),.bl (i==2),.bl (i==3)]) n1).trans S5
  refine ⟨_,rfl,Q9k tx.ex iA ⟨_,rfl,Q63 ?_⟩⟩
  refine ⟨_,rfl,.inl ⟨rfl,_,SqL.of e5⟩,l5,Qhr i,true,rfl,rfl,e5,rfl,_,rfl,?_⟩
  rw [mc]
  refine Q63 ?_
  intro v6 H6 s6 r6
  obtain ⟨l6,ws,rfl,e6,i6⟩:=r6.lst_inv
  obtain ⟨n6,e6⟩:=Qgv e6
  refine ⟨_,rfl,_,rfl,.inl ⟨rfl,_,SqL.of (s6 _ _ e5)⟩,l5,Qhr i,true,i,rfl,rfl,s6 _ _ e5,by show 10≤1000;decide,mi,mn,?_⟩
  have ht:(Qrh.map T.str)[i]?=some (.str x):=by rw [Zab,hi];rfl
  obtain ⟨v,hv,iv⟩:=IsL.getT (ts:=Qrh.map T.str) i6 ht
  have:v=.str x:=by unfold Is at iv;exact iv
  subst this
  exact .inl ⟨l6,_,_,_,rfl,rfl,SqL.of e6,Qf3 hv,q H6 (S50.trans s6)⟩
theorem Qad5 {H:Hp} {a:Fw} {c:Nat} {arg:List Int} (h:ExAt mg H a c arg):XcAt mg H a c:=by
 obtain ⟨nm,dx,hn,ha,hd⟩:=h
 refine ⟨nm,dx,hn,ha,fun d e=>?_⟩
 match arg,hd with
 | [],hd=>exact nomatch (hd.symm.trans e)
 | [_],⟨_,e',q⟩=>cases e'.symm.trans e;exact ⟨_,q⟩
 | [_,_],⟨_,e',q⟩=>cases e'.symm.trans e;exact ⟨_,q⟩
theorem Qz2 {X:Cx} {K:Fz} {st:Fs} {i j m:Nat} (hq:QS X st (Qtl (tBM K "list" Qin (Qos j) (Qil (Qnr (Qum mg) [] E0 (Qil (Qos i) Qr2)) Qr2)))):QB X [st] (Qzj mg i j m Qmu) :=
 (Qh6 hq).weak fun D σ H ⟨a,c,arg,w,l,vs,_,hs,xa,e,sj,hl,hz,q⟩=>by
  unfold Qmu at e
  cases hx:Qrh[c]? with
  | none=>rw [hx] at e;cases e
  | some x =>
   rw [hx] at e
   cases e
   refine ⟨_,sj,.inl ⟨rfl,_,SqL.of hl⟩,_,hs,a,c,w,rfl,Qad5 xa,hx,fun H2 s2=>?_⟩
   exact ⟨l,vs,_,rfl,rfl,s2 _ _ hl,hz,q _ s2⟩
theorem Qs8 (tx:Txt K mg):Qa9 P w K mg base ds Qif:=fun cf n R f ae A outer s H E hc h1 co pz hr =>
 (Q5 (Qa4 (Qt1 (Qky tx.n_isinstance Qy (Qe 0) (Qo1 "int" tx.n_int Qs5)) (Qy2 (Q5c (Qky tx.n_isinstance Qy (Qe 0) (Qo1 "bool" tx.n_bool Qul)))))))
theorem Qz3 (tx:Txt K mg):Qa9 P w K mg base ds Qmv:=fun cf n R f ae A outer s H E hc h1 co pz hr =>
 (Qp (Qfw (t_w (Qo8 (Qft (Qds (Qky tx.n_isinstance Qy (Qe 0) (Qo1 "tuple" tx.n_tuple Qc0)))) (Ql4 (Qsu hr.units (Qew (Qd5 K rfl) (Qcz K) tx.n_len Qcr (Qc (Qe 0) Qh)) (Qe 1))))) (Q5 (Qa4 Qj1)) Qdl)
  (Q5 (Qa4 (Qew (Qx8 K rfl) (Qsp K) tx.n_all Qs4 (Qc (Qex ["number"] [none] rfl (Qb7 rfl (Qe 0)) (fun _ _ _=>(Qap (Qam (i:=0) (show List.Nodup (["number"]:List PySem.Str) by decide +kernel)))) (fun _ _ _=>Qev) (fun _ _ _=>(Q3 (hc 0 Qif rfl) Q2 hr (Qc (Qe 0) Qh)))) Qh)))))
theorem Qwl (tx:Txt K mg):Qa9 P w K mg base ds Qj7:=fun cf n R f ae A outer s H E hc h1 co pz hr =>
 (Qp (Qfw (t_w (Qo8 (Qft (Qds (Qky tx.n_isinstance Qy (Qe 0) (Qo1 "tuple" tx.n_tuple Qc0)))) (Qo8 (t_lt (Qew (Qd5 K rfl) (Qcz K) tx.n_len Qcr (Qc (Qe 0) Qh)) Qi) (Ql4 (t_gt (Qew (Qd5 K rfl) (Qcz K) tx.n_len Qcr (Qc (Qe 0) Qh)) (Q80 tx.m_MOST_ROWS)))))) (Q5 (Qa4 Qj1)) Qdl)
  (Q5 (Qa4 (Qew (Qx8 K rfl) (Qsp K) tx.n_all Qs4 (Qc (Qex ["row","thing"] [none,some 0] rfl (Qb7 rfl (Qe 0)) (fun _ _ _=>(Qap (Qam (i:=0) (show List.Nodup (["row","thing"]:List PySem.Str) by decide +kernel)))) (fun _ _ _=>Qev) (fun _ _ _=>(Q3 (hc 1 Qmv rfl) Q2 hr (Qc (Qe 0) (Qc (Qew (Qd5 K rfl) (Qcz K) tx.n_len Qcr (Qc (Qe 1) Qh)) Qh))))) Qh)))))
theorem Qpn (tx:Txt K mg):Qa9 P w K mg base ds Qeq:=fun cf n R f ae A outer s H E hc h1 co pz hr =>
 (Q5 (Qfw (Qft (Qds (Q3 (hc 2 Qj7 rfl) pz hr (Qc (Qe 0) Qh)))) (Q5 (Qzi 0 pz rfl tx.ex rfl (by decide) (Qc Ql2 Qh))) Qdl))
theorem Qkj (tx:Txt K mg):Qa9 P w K mg base ds Qdv:=fun cf n R f ae A outer s H E hc h1 co pz hr =>
 (Qp (Qadg (Qsu hr.units (Qe 1) Qi) (Qp (Qaf (Qan (i:=2) Qci.nd (Qmc (Qe 0) (Qe 1))))
  (Qp (Qaf (Qan (i:=0) Qci.nd (Qe 1)))
  (Q5 (Qaf (Qan (i:=1) Qci.nd (Qe 2)))))))
  (Q5 (Qa4 (Qew Qab3 Q8n tx.n_abs Q9i (Qc (Qe 0) Qh)))))
theorem Qwm (tx:Txt K mg):Qa9 P w K mg base ds Qhq:=fun cf n R f ae A outer s H E hc h1 co pz hr =>
 (Qp (Qea rfl (Qia tx.n_range (Qew (Qd5 K rfl) (Qcz K) tx.n_len Qcr (Qc (Qe 0) Qh))) (Qap (Qam (i:=1) Qmn.nd)) (Q5 (Qfw (Qsu hr.units (Qeo rfl (Qe 0) (Qe 1)) Qi) (Q5 (Qa4 (Qe 1))) Qdl)))
  (Q5 (Qa4 Qks)))
theorem Qwn (tx:Txt K mg):Qa9 P w K mg base ds Qka:=fun cf n R f ae A outer s H E hc h1 co pz hr =>
 (Qp (Qaf (Qan (i:=1) Qdt.nd (Q3 (hc 5 Qhq rfl) pz hr (Qc (Qe 0) Qh))))
  (Qp (Qfw (Qadk (Qe 1) Qks) (Q5 (Qa4 Qks)) Qdl)
  (Qp (Qaf (Qan (i:=2) Qdt.nd Qi))
  (Qp (Qea rfl (Qb7 rfl (Qe 0)) (Qap (Qam (i:=3) Qdt.nd)) (Q5 (Qaf (Qan (i:=2) Qdt.nd (Q3 (hc 4 Qdv rfl) Q2 hr (Qc (Qe 2) (Qc (Qe 3) Qh)))))))
  (Qp (Qfw (t_lt (Qeo rfl (Qe 0) (Qe 1)) Qi) (Q5 (Qaf (Qan (i:=2) Qdt.nd (Qkt (Qe 2))))) Qdl)
  (Q5 (Qa4 (Qgn (Qhf K rfl) (Qj2 K) tx.n_tuple Qc0 (Qc (Qex ["number","divisor"] [none,some 2] rfl (Qb7 rfl (Qe 0)) (fun _ _ _=>(Qap (Qam (i:=0) (show List.Nodup (["number","divisor"]:List PySem.Str) by decide +kernel)))) (fun _ _ _=>Qev) (fun _ _ _=>(Q5i (Qe 0) (Qe 1)))) Qh)))))))))
theorem Qwo (tx:Txt K mg):Qa9 P w K mg base ds Qkc:=fun cf n R f ae A outer s H E hc h1 co pz hr =>
 (Qp (Qaf (Qan (i:=2) Qmo.nd (Q3 (hc 5 Qhq rfl) pz hr (Qc (Qe 1) Qh))))
  (Q5 (Qa4 (Qgn (Qhf K rfl) (Qj2 K) tx.n_tuple Qc0 (Qc (Qex ["k","row","step","lead"] [none,some 0,some 1,some 2] rfl (Qia tx.n_range (Qew (Qd5 K rfl) (Qcz K) tx.n_len Qcr (Qc (Qe 0) Qh))) (fun _ _ _=>(Qap (Qam (i:=0) (show List.Nodup (["k","row","step","lead"]:List PySem.Str) by decide +kernel)))) (fun _ _ _=>Qev) (fun _ _ _=>(Qg1 (Qe5 (Qeo rfl (Qe 1) (Qe 0)) (Qeo rfl (Qe 2) (Qe 3))) (Qe5 (Qeo rfl (Qe 2) (Qe 0)) (Qeo rfl (Qe 1) (Qe 3)))))) Qh)))))
theorem Qwp (tx:Txt K mg):Qa9 P w K mg base ds Qke:=fun cf n R f ae A outer s H E hc h1 co pz hr =>
 (Qp (Qea rfl (Qb7 rfl (Qe 1)) (Qap (Qam (i:=2) Qie.nd)) (Q5 (Qaf (Qan (i:=0) Qie.nd (Q3 (hc 7 Qkc rfl) Q2 hr (Qc (Qe 0) (Qc (Qe 2) Qh)))))))
  (Q5 (Qa4 (Qe 0))))
theorem Qs9 (tx:Txt K mg):Qa9 P w K mg base ds Qig:=fun cf n R f ae A outer s H E hc h1 co pz hr =>
 (Qp (Qod (Qan (i:=1) Qfa.nd (Qda Qh)))
  (Qp (Qea rfl (Qb7 rfl (Qe 0)) (Qap (Qam (i:=2) Qfa.nd)) (Qp (Q85 (i:=1) (Qaf (Qan (i:=3) Qfa.nd (Q3 (hc 6 Qka rfl) Q2 hr (Qc (Q3 (hc 8 Qke rfl) Q2 hr (Qc (Qe 2) (Qc (Qe 1) Qh))) Qh)))))
  (Q5 (Qfw (Q82 (Qe 3) Qks) (Q5 (Qt9 (Qjx (Qsa K rfl Zar Zba Zbb Qgw (Qc7 1) (Qr (Qe 3) Qbg))))) Qdl))))
  (Q5 (Qa4 (Qe 1)))))
theorem Q9l (tx:Txt K mg):Qa9 P w K mg base ds Qmy:=fun cf n R f ae A outer s H E hc h1 co pz hr =>
 (Qp (Qpc (Q3 (hc 3 Qeq rfl) pz hr (Qc (Qe 0) Qh)))
  (Q5 (Qa4 (Qew (Qd5 K rfl) (Qcz K) tx.n_len Qcr (Qc (Q3 (hc 9 Qig rfl) pz hr (Qc (Qe 0) Qh)) Qh)))))
theorem Qkk (tx:Txt K mg):Qa9 P w K mg base ds Qdx:=fun cf n R f ae A outer s H E hc h1 co pz hr =>
 (Q5 (Qa4 (Qex ["row","at"] [none,some 1] rfl (Qb7 rfl (Qe 0)) (fun _ _ _=>(Qap (Qam (i:=0) (show List.Nodup (["row","at"]:List PySem.Str) by decide +kernel)))) (fun _ _ _=>Qev) (fun _ _ _=>(Qbu rfl (Qd9 rfl (Qe 0) Qbs (Qbt (Qe 1))) (Qd9 rfl (Qe 0) (Qbt (Qbu rfl (Qe 1) Qi)) Qbs))))))
theorem Qkl (tx:Txt K mg):Qa9 P w K mg base ds Qcy:=fun cf n R f ae A outer s H E hc h1 co pz hr =>
 (Qp (Qfw (Qst hr.units (Qew (Qd5 K rfl) (Qcz K) tx.n_len Qcr (Qc (Qe 0) Qh)) Qi) (Q5 (Qa4 Qi)) Qdl)
  (Qp (Qaf (Qan (i:=1) Qbf.nd Qi))
  (Qp (Qaf (Qan (i:=2) Qbf.nd Qi))
  (Qp (Qea rfl (Qia tx.n_range (Qew (Qd5 K rfl) (Qcz K) tx.n_len Qcr (Qc (Qe 0) Qh))) (Qap (Qam (i:=3) Qbf.nd)) (Qp (Qaf (Qan (i:=1) Qbf.nd (Qbu rfl (Qe 1) (Qe5 (Qe5 (Qe 2) (Qeo rfl (Qeo rfl (Qe 0) Qi) (Qe 3))) (Q3 (hc 12 Qcy rfl) Q2 hr (Qc (Q3 (hc 11 Qdx rfl) Q2 hr (Qc (Qd9 rfl (Qe 0) (Qbt Qi) Qbs) (Qc (Qe 3) Qh))) Qh))))))
  (Q5 (Qaf (Qan (i:=2) Qbf.nd (Qkt (Qe 2)))))))
  (Q5 (Qa4 (Qe 1)))))))
theorem Qnm (tx:Txt K mg):Qa9 P w K mg base ds Qd4:=fun cf n R f ae A outer s H E hc h1 co pz hr =>
 (Qp (Qpc (Q3 (hc 3 Qeq rfl) pz hr (Qc (Qe 0) Qh)))
  (Q5 (Qa4 (Q3 (hc 12 Qcy rfl) pz hr (Qc (Qe 0) Qh)))))
theorem Qwq (tx:Txt K mg):Qa9 P w K mg base ds Qkg:=fun cf n R f ae A outer s H E hc h1 co pz hr =>
 (Qp (Qaf (Qan (i:=1) Qmr.nd (Qew (Qy7 K rfl rfl) (Qy8 K) tx.n_max Qzz (Qc (Qe 0) (Qc (Qg1 Qi (Qe 0)) Qh)))))
  (Q5 (Qa4 (Qda (Qc (Qe 1) (Qc (Qgn Q7p Q8p tx.n_int Qs5 (Qc (g_ge (Qe 1) (Qkx Qi Qi)) Qh)) Qh))))))
theorem Qta (tx:Txt K mg):Qa9 P w K mg base ds Qa2:=fun cf n R f ae A outer s H E hc h1 co pz hr =>
 (Qp (Qfw (Qst hr.units (Qeo rfl (Qe 0) Qi) Qi) (Qp (Qadf (Qx4 (Qew Qab5 Q8o tx.n_divmod Qwk (Qc (Qeo rfl (Qe 0) Qi) (Qc (Qe 1) Qh))) (Qsq (is:=[2,3]) (Qsd K rfl rfl (Qhe (Qam (i:=2) Qeb.nd) (Qhe (Qam (i:=3) Qeb.nd) Qsc))) rfl)))
  (Qp (Q5h (Qx4 (Qe 2) (Qx3 (Qc7 0) Qi)))
  (Q5 (Qa4 (Qe 3))))) Qdl)
  (Qp (Qaf (Qan (i:=4) Qeb.nd (Qmc (Qe5 (Qbu rfl (Qmc (Qeo rfl (Qe 0) Qi) Qi) Qi) Qi) Qi)))
  (Qp (Qaf (Qan (i:=4) Qeb.nd (Qmc (Qbu rfl (Qe5 (Qe 4) (Qe 4)) Qi) Qi)))
  (Qp (Q5h (Qx4 (Qmc (Qbu rfl (Qe5 (Qe 4) Qi) Qi) Qi) (Qx3 (Qc7 0) Qi)))
  (Q5 (Qa4 (Qmc (Q5i (Qeo rfl (Qe 0) Qi) Qi) (Qe 1))))))))
theorem Qrj (tx:Txt K mg):Qa9 P w K mg base ds Qed:=fun cf n R f ae A outer s H E hc h1 co pz hr =>
 (Q5 (Qa4 (Qt1 (Qky tx.n_isinstance Qy (Qe 0) (Qo1 "int" tx.n_int Qs5)) (Qy2 (Q5c (Qky tx.n_isinstance Qy (Qe 0) (Qo1 "bool" tx.n_bool Qul)))))))
theorem Qwr (tx:Txt K mg):Qa9 P w K mg base ds Qki:=fun cf n R f ae A outer s H E hc h1 co pz hr =>
 (Qp (Qaf (Qan (i:=1) Qms.nd (Qda (Qc Qks (Qc Qj1 (Qc Qj1 (Qc (Qkt Qi) (Qc Ql2 (Qc Ql2 (Qc (Qbr Qh) (Qc (Qda Qh) (Qc (Qbr (Qc Qi Qh)) (Qc (Qda (Qc Qi Qh)) (Qc (Qadi (Q2f Qabq)) (Qc (Qbr (Qc (Qbr (Qc Qi Qh)) Qh)) (Qc (Qkx Qi Qi) (Qc (Qbr (Qc (Qbr (Qc Qi (Qc Qi Qh))) Qh)) (Qc (Qbr (Qc Ql2 Qh)) Qh))))))))))))))))))
  (Q5 (Qa4 (Qeo rfl (Qbu rfl (Qe 1) (Qda (Qc (Qbr (Qc (Qbr (Qc Qj1 Qh)) Qh)) Qh))) (Q3 (hc 15 Qa2 rfl) pz hr (Qc (Qe 0) (Qc Qi Qh)))))))
theorem Qrk (tx:Txt K mg):Qa9 P w K mg base ds Qg8:=fun cf n R f ae A outer s H E hc h1 co pz hr =>
 (Qp (Qod (Qan (i:=3) Qbw.nd (Qda Qh)))
  (Qp (Qea rfl (Qia tx.n_range (Qe 1)) (Qap (Qam (i:=4) Qbw.nd)) (Qp (Qod (Qan (i:=5) Qbw.nd (Qda Qh)))
  (Qp (Qea rfl (Qia tx.n_range (Qe 1)) (Qap (Qam (i:=6) Qbw.nd)) (Qp (Qaf (Qan (i:=7) Qbw.nd (Qew (Qy7 K rfl rfl) (Qy8 K) tx.n_max Qzz (Qc Qi (Qc (Qg1 (Q3 (hc 15 Qa2 rfl) Q2 hr (Qc (Qe 0) (Qc Qi Qh))) Qi) Qh)))))
  (Qp (Qfw (Qst hr.units (Qe 2) Qi) (Q5 (Qaf (Qan (i:=7) Qbw.nd (Qg1 (Q3 (hc 15 Qa2 rfl) Q2 hr (Qc (Qe 0) (Qc Qi Qh))) Qi)))) Qdl)
  (Qp (Qfw (Qst hr.units (Qe 2) Qi) (Q5 (Qaf (Qan (i:=7) Qbw.nd (Qg1 (Q3 (hc 15 Qa2 rfl) Q2 hr (Qc (Qe 0) (Qc (Qbu rfl (Qe5 Qi (Qkx Qi Qi)) Qi) Qh))) (Qkx Qi Qi))))) Qdl)
  (Q5 (Qt9 (Qjx (Qsa K rfl Zar Zba Zbb Qgw (Qc7 5) (Qr (Qe 7) Qbg)))))))))
  (Q5 (Qt9 (Qjx (Qsa K rfl Zar Zba Zbb Qgw (Qc7 3) (Qr (Qgn (Qhf K rfl) (Qj2 K) tx.n_tuple Qc0 (Qc (Qe 5) Qh)) Qbg))))))))
  (Q5 (Qa4 (Qgn (Qhf K rfl) (Qj2 K) tx.n_tuple Qc0 (Qc (Qe 3) Qh))))))
theorem Qla (tx:Txt K mg):Qa9 P w K mg base ds Qef:=fun cf n R f ae A outer s H E hc h1 co pz hr =>
 (Qp (Qfw (t_w (Qo8 (Qft (Qds (Qky tx.n_isinstance Qy (Qe 0) (Qo1 "tuple" tx.n_tuple Qc0)))) (Ql4 (Qadn tx.n_range Qz0 (Qew (Qd5 K rfl) (Qcz K) tx.n_len Qcr (Qc (Qe 0) Qh)) Qi Qi)))) (Q5 (Qa4 Qj1)) Qdl)
  (Qp (Qea rfl (Qb7 rfl (Qe 0)) (Qap (Qam (i:=1) Qf0.nd)) (Q5 (Qfw (t_w (Qo8 (Qft (Qds (Qky tx.n_isinstance Qy (Qe 1) (Qo1 "tuple" tx.n_tuple Qc0)))) (Qo8 (Qsu hr.units (Qew (Qd5 K rfl) (Qcz K) tx.n_len Qcr (Qc (Qe 1) Qh)) (Qew (Qd5 K rfl) (Qcz K) tx.n_len Qcr (Qc (Qe 0) Qh))) (Ql4 (Qft (Qds (Qew (Qx8 K rfl) (Qsp K) tx.n_all Qs4 (Qc (Qex ["_law_one"] [none] rfl (Qb7 rfl (Qe 1)) (fun _ _ _=>(Qap (Qam (i:=0) (show List.Nodup (["_law_one"]:List PySem.Str) by decide +kernel)))) (fun _ _ _=>Qev) (fun _ _ _=>(Q3 (hc 16 Qed rfl) Q2 hr (Qc (Qe 0) Qh)))) Qh)))))))) (Q5 (Qa4 Qj1)) Qdl)))
  (Q5 (Qa4 Qj1))))
theorem Qtb (tx:Txt K mg):Qa9 P w K mg base ds Qih:=fun cf n R f ae A outer s H E hc h1 co pz hr =>
 (Qp (Qaf (Qan (i:=2) Qbx.nd (Qew (Qd5 K rfl) (Qcz K) tx.n_len Qcr (Qc (Qe 1) Qh))))
  (Qp (Qze (Qx5 3 4 Qbx.nd (by decide) (Qc (Q3 (hc 15 Qa2 rfl) pz hr (Qc (Qe 0) (Qc (Qe 2) Qh))) (Qc (Q3 (hc 15 Qa2 rfl) pz hr (Qc (Qe 0) (Qc (Qe 2) Qh))) Qh))))
  (Qp (Qaf (Qan (i:=5) Qbx.nd (Qeo rfl (Qe 1) (Qe 3))))
  (Qp (Qaf (Qan (i:=6) Qbx.nd (Qeo rfl (Qda (Qc Qj1 (Qc Qks (Qc Ql2 (Qc (Qbr (Qc Qi Qh)) (Qc (Qkx Qi Qi) (Qc (Qg1 Qi (Qkx Qi Qi)) (Qc (Qg1 (Qkx Qi Qi) Qi) (Qc (Qg1 Qi (Qkx Qi Qi)) (Qc Qj1 Qh)))))))))) (Q3 (hc 15 Qa2 rfl) pz hr (Qc (Qe 0) (Qc Qi Qh))))))
  (Qp (Qaf (Qan (i:=7) Qbx.nd (Qda (Qc (Qbu rfl (Qbu rfl (Qd9 rfl (Qe 5) Qbs (Qbt (Qe 4))) (Qbr (Qc (Qe 6) Qh))) (Qd9 rfl (Qe 5) (Qbt (Qbu rfl (Qe 4) Qi)) Qbs)) (Qc (Qd9 rfl (Qe 5) (Qbt Qi) Qbs) (Qc (Qbu rfl (Qe 5) (Qbr (Qc Qi Qh))) (Qc (Qgn (Qls K rfl) (Qix K) tx.n_list Qjh (Qc (Qe 5) Qh)) (Qc Qks (Qc Qi (Qc (Qac8 (Qe 5) q_m1) Qh))))))))))
  (Qp (Qaf (Qan (i:=8) Qbx.nd (Qeo rfl (Qe 7) (Q3 (hc 15 Qa2 rfl) pz hr (Qc (Qe 0) (Qc Qi Qh))))))
  (Qp (Qaf (Qan (i:=9) Qbx.nd (Qda (Qc (Qbu rfl (Qbu rfl (Qd9 rfl (Qe 1) Qbs (Qbt (Qe 3))) (Qbr (Qc (Qe 8) Qh))) (Qd9 rfl (Qe 1) (Qbt (Qbu rfl (Qe 3) Qi)) Qbs)) (Qc (Qd9 rfl (Qe 1) (Qbt Qi) Qbs) (Qc (Qbu rfl (Qe 1) (Qd9 rfl (Qe 1) Qbs (Qbt Qi))) (Qc (Qgn (Qls K rfl) (Qix K) tx.n_list Qjh (Qc (Qe 1) Qh)) Qh)))))))
  (Qp (Qaf (Qan (i:=9) Qbx.nd (Qbu rfl (Qe 9) (Qda (Qc (Qbr (Qc (Qe 1) Qh)) (Qc (Qeo rfl (Qe 1) Qi) (Qc (Qex ["_law_one"] [none] rfl (Qb7 rfl (Qe 1)) (fun _ _ _=>(Qap (Qam (i:=0) (show List.Nodup (["_law_one"]:List PySem.Str) by decide +kernel)))) (fun _ _ _=>Qev) (fun _ _ _=>(Qgn (Qls K rfl) (Qix K) tx.n_list Qjh (Qc (Qe 0) Qh)))) Qh)))))))
  (Q5 (Qa4 (Qeo rfl (Qe 9) (Qeo rfl (Qda (Qc Qi (Qc Qi (Qc Qi (Qc Qi (Qc Qi (Qc Qi (Qc Qi (Qc Qi (Qc Qi (Qc Qi Qh))))))))))) (Q3 (hc 15 Qa2 rfl) pz hr (Qc (Qe 0) (Qc Qi Qh)))))))))))))))
theorem Qrl (tx:Txt K mg):Qa9 P w K mg base ds Qee:=fun cf n R f ae A outer s H E hc h1 co pz hr =>
 (Qp (Qfw (Qst hr.units (Qe 0) (Qda Qh)) (Q5 (Qa4 Qi)) Qdl)
  (Qp (Qaf (Qan (i:=1) Qb8.nd Qi))
  (Qp (Qea rfl (Qadl rfl tx.n_enumerate Qpl (Qeo rfl (Qe 0) (Qkt Qi))) (Qsq (is:=[2,3]) (Qsd K rfl rfl (Qhe (Qam (i:=2) Qb8.nd) (Qhe (Qam (i:=3) Qb8.nd) Qsc))) rfl) (Q5 (Qfw (Qsu hr.units (Qe 3) Qi) (Qp (Qaf (Q83 ["_law_row","_law_at"] [none,some 2] rfl (Qb7 rfl (Qd9 rfl (Qe 0) Qbs (Qbt (Qkt Qi)))) (fun _ _ _=>(Qap (Qam (i:=0) (show List.Nodup (["_law_row","_law_at"]:List PySem.Str) by decide +kernel)))) (fun _ _ _=>Qev) (fun _ _ _=>(Qbu rfl (Qd9 rfl (Qe 0) Qbs (Qbt (Qe 1))) (Qd9 rfl (Qe 0) (Qbt (Qbu rfl (Qe 1) Qi)) Qbs))) (Qam (i:=4) Qb8.nd)))
  (Qp (Qaf (Qan (i:=5) Qb8.nd (Qg1 Qi (Qe5 Qi (Qmc (Qbu rfl (Qg1 (Qew (Qd5 K rfl) (Qcz K) tx.n_len Qcr (Qc (Qe 0) Qh)) Qi) (Qe 2)) Qi)))))
  (Q5 (Qaf (Qan (i:=1) Qb8.nd (Qbu rfl (Qe 1) (Qe5 (Qe5 (Qe 3) (Qe 5)) (Q3 (hc 21 Qee rfl) Q2 hr (Qc (Qe 4) Qh))))))))) Qdl)))
  (Q5 (Qa4 (Qe 1))))))
theorem Qtc (tx:Txt K mg):Qa9 P w K mg base ds Qgh:=fun cf n R f ae A outer s H E hc h1 co pz hr =>
 (Qp (Qaf (Qan (i:=2) Qfe.nd (Qda (Qc (Qbr Qh) Qh))))
  (Qp (Qea rfl (Qia tx.n_range (Qe 0)) (Qap (Qam (i:=3) Qfe.nd)) (Q5 (Qaf (Qan (i:=2) Qfe.nd (Qbu rfl (Qe 2) (Qex ["_law_one","_law_place"] [none,some 3] rfl (Qb7 rfl (Qe 2)) (fun _ _ _=>(Qap (Qam (i:=0) (show List.Nodup (["_law_one","_law_place"]:List PySem.Str) by decide +kernel)))) (fun _ _ _=>Qev) (fun _ _ _=>(Qbu rfl (Qe 0) (Qbr (Qc (Qe 1) Qh))))))))))
  (Q5 (Qa4 (Qex ["_law_one","_law_many"] [none,some 1] rfl (Qb7 rfl (Qe 2)) (fun _ _ _=>(Qap (Qam (i:=0) (show List.Nodup (["_law_one","_law_many"]:List PySem.Str) by decide +kernel)))) (fun _ _ _=>(Q8u (Qst hr.units (Qew (Qd5 K rfl) (Qcz K) tx.n_len Qcr (Qc (Qe 0) Qh)) (Qe 1)))) (fun _ _ _=>(Qe 0)))))))
theorem Qtd (tx:Txt K mg):Qa9 P w K mg base ds Qii:=fun cf n R f ae A outer s H E hc h1 co pz hr =>
 (Qp (Qaf (Qan (i:=1) Qcq.nd (Qew (Qd5 K rfl) (Qcz K) tx.n_len Qcr (Qc (Qe 0) Qh))))
  (Qp (Qea rfl (Q84 tx.n_range (Qe 1) Qi) (Qap (Qam (i:=2) Qcq.nd)) (Q5 (Qea rfl (Qb7 rfl (Q3 (hc 22 Qgh rfl) Q2 hr (Qc (Qe 1) (Qc (Qe 2) Qh)))) (Qap (Qam (i:=3) Qcq.nd)) (Q5 (Qea rfl (Qb7 rfl (Q3 (hc 22 Qgh rfl) Q2 hr (Qc (Qe 1) (Qc (Qe 2) Qh)))) (Qap (Qam (i:=4) Qcq.nd)) (Qp (Qod (Qan (i:=5) Qcq.nd (Qda Qh)))
  (Qp (Qea rfl (Qb7 rfl (Qe 3)) (Qap (Qam (i:=6) Qcq.nd)) (Q5 (Qt9 (Qjx (Qsa K rfl Zar Zba Zbb Qgw (Qc7 5) (Qr (Qgn (Qhf K rfl) (Qj2 K) tx.n_tuple Qc0 (Qc (Qex ["_law_column","_law_table_here","_law_row"] [none,some 0,some 6] rfl (Qb7 rfl (Qe 4)) (fun _ _ _=>(Qap (Qam (i:=0) (show List.Nodup (["_law_column","_law_table_here","_law_row"]:List PySem.Str) by decide +kernel)))) (fun _ _ _=>Qev) (fun _ _ _=>(Qeo rfl (Qeo rfl (Qe 1) (Qe 2)) (Qe 0)))) Qh)) Qbg))))))
  (Qade (Q5 (Qfw (Qsu hr.units (Q3 (hc 21 Qee rfl) Q2 hr (Qc (Qe 5) Qh)) Qi) (Q5 (Qa4 (Qe 2))) Qdl))))))))))
  (Q5 (Qa4 Qi))))
theorem Qrm (tx:Txt K mg):Qa9 P w K mg base ds Qde:=fun cf n R f ae A outer s H E hc h1 co pz hr =>
 (Qp (Qze (Qx5 1 2 Qjg.nd (by decide) (Qc (Q3 (hc 13 Qd4 rfl) pz hr (Qc (Qe 0) Qh)) (Qc (Q3 (hc 10 Qmy rfl) pz hr (Qc (Qe 0) Qh)) Qh))))
  (Qp (Qfw (t_w (Qo8 (Qft (Qds (Q3 (hc 16 Qed rfl) pz hr (Qc (Qe 1) Qh)))) (Ql4 (Qsu hr.units (Qe 1) (Q3 (hc 21 Qee rfl) pz hr (Qc (Qgn (Qls K rfl) (Qix K) tx.n_list Qjh (Qc (Qe 0) Qh)) Qh)))))) (Q5 (Qa4 Qj1)) Qdl)
  (Q5 (Qa4 (Qt1 (Q3 (hc 16 Qed rfl) pz hr (Qc (Qe 2) Qh)) (Qt1 (Q81 hr.units (Qe 2) (Q3 (hc 23 Qii rfl) pz hr (Qc (Qe 0) Qh))) (Qy2 (Q81 hr.units (Q3 (hc 10 Qmy rfl) pz hr (Qc (Qe 0) Qh)) (Qe 2)))))))))
theorem Qnn (tx:Txt K mg):Qa9 P w K mg base ds Qfn:=fun cf n R f ae A outer s H E hc h1 co pz hr =>
 (Qp (Qod (Qan (i:=1) Qdn.nd (Qda Qh)))
  (Qp (Qea rfl (Qia tx.n_range Qi) (Qap (Qam (i:=2) Qdn.nd)) (Q5 (Q86 (i:=3) (j:=1) tx.ex (by decide) (fun aa R' gS=>(Q5 (Qfw (Qst hr.units (Qe 2) Qi) (Q5 (Qpc (Q3 (hc 13 Qd4 rfl) gS hr (Qc (Qe 0) Qh)))) (Q5 (Qpc (Q3 (hc 10 Qmy rfl) gS hr (Qc (Qe 0) Qh))))))) (fun aa e=>Qz2 (Qjx (Qsa K rfl Zar Zba Zbb Qgw (Qc7 1) (Qr (Qach (Qpm tx.k_kind tx) ((hr.mono h1.1).mark _) (Qr (Qc7 3) Qbg)) Qbg)))) Qdn.nd)))
  (Q5 (Qa4 (Q81 hr.units (Qe 1) (Qda (Qc Ql2 (Qc Ql2 Qh))))))))
theorem Qpo (d:Dfn K mg "_law_cell" Qez) (tx:Txt K mg):Has P w K mg base "_law_cell" ["_law_script","_law_k"] 1 (Qme K):=by
 refine Qab6 (k:=0) d Qra Qrb (fun vs H Q E h=>?_) (fun f ae A outer s H vs Q E hr h=>?_)
 ·obtain ⟨a,ns,k,rfl,_⟩:=h
  rfl
 ·obtain ⟨a,ns,k,rfl,hs,q⟩:=h
  refine ⟨_,(Qem (Qtu (Qo2 o_lt (Qc7 1) (Qiu (Qd5 K rfl) tx.n_len Qcr (Qr (Qc7 0) Qbg)) (Qxd _)) (Qh6 (Qnx (Q7g (Q7l K rfl) (Qc7 0) (Qc7 1)))) Qo3)
   (Qh6 (Qnx Qkr))),?_⟩
  refine ⟨_,rfl,_,rfl,a,_,rfl,.inl hs,_,_,rfl,rfl,_,rfl,?_⟩
  refine ite2 (fun c=>?_) (fun c=>?_)
  ·have c:(k:Int)<(ns.map V.int).length:=by simpa using c
   have hk:k<ns.length:=by rw [Zd] at c;omega
   refine ⟨_,rfl,_,rfl,.inl ⟨a,_,_,_,rfl,rfl,hs,Qf3 (v:=V.int ns[k]) ?_,q _⟩⟩
   rw [Zab,Zc hk]
   rfl
  ·exact q _
noncomputable abbrev Qun:L2.E:=(.or (.not (.call 24 (.cons (.tup (.cons (.tup (.cons (.int 0) .nil)) .nil)) .nil))) (.or (.not (.call 24 (.cons (.tup (.cons (.tup (.cons (.neg (.int 7)) .nil)) .nil)) .nil))) (.not (.call 24 (.cons (.tup (.cons (.tup (.cons (.int 0) (.cons (.int 1) .nil))) (.cons (.tup (.cons (.int 1) (.cons (.int 0) .nil))) .nil))) .nil)))))
noncomputable abbrev Qz4:L2.S:=(.seq (.set 2 (.call 14 (.cons (.var 1) .nil)))
 (.seq (.par 3 4 (.bin .add (.int 1) (.call 15 (.cons (.var 2) (.cons (.int 4) .nil)))) (.call 15 (.cons (.var 2) (.cons (.int 3) .nil))))
 (.seq (.setF 5 (.call 18 (.cons (.var 2) (.cons (.var 3) (.cons (.var 4) .nil)))))
 (.seq (.setF 6 (.bin .sub (.call 15 (.cons (.var 2) (.cons (.int 5) .nil))) (.int 2)))
 (.seq (.setF 7 (.bi .tup (.cons (.comp (.zip (.ix (.var 5) (.int 0)) (.ix (.var 5) (.neg (.int 1)))) [none,none,some 6] (.tp [0,1]) .nil (.bin .add (.var 0) (.bin .mul (.var 2) (.var 1)))) .nil)))
 (.seq (.for_ (.seq (.lst (.cons (.var 5) (.cons (.bin .add (.slc (.var 5) .nil (.cons (.neg (.int 1)) .nil)) (.tup (.cons (.var 7) .nil))) (.cons (.bin .add (.tup (.cons (.var 7) .nil)) (.slc (.var 5) (.cons (.int 1) .nil) .nil)) (.cons (.bin .add (.tup (.cons (.bin .mul (.tup (.cons (.int 0) .nil)) (.var 3)) .nil)) (.slc (.var 5) (.cons (.int 1) .nil) .nil)) .nil)))))) (.nm 8) (.ite (.not (.call 24 (.cons (.var 8) .nil))) (.ret (.bl false)) .nil))
 (.for_ (.seq (.lst (.cons (.call 17 (.cons (.var 2) .nil)) (.cons (.bi .list (.cons (.var 5) .nil)) (.cons (.bin .add (.slc (.var 5) (.cons (.int 1) .nil) .nil) (.bin .mul (.tup (.cons (.tup (.cons (.int 0) .nil)) .nil)) (.int 5))) (.cons .non (.cons (.call 20 (.cons (.var 2) (.cons (.var 5) .nil))) .nil))))))) (.nm 9) (.ite (.and (.not (.call 19 (.cons (.var 9) .nil))) (.not (.call 25 (.cons (.var 9) .nil)))) (.ret (.bl false)) .nil))))))))
theorem Qad6 (tx:Txt K mg) {cf:CF} {f:Fw} {ae:Fx} {A:Fv} {outer:List Env} {s:Fy} {H:Hp} {E:XK} (hc:Qpb P w K mg base ds cf 29) (cZ:Has P w K mg base "_law_cell" ["_law_script","_law_k"] 1 (Qme K)) (hr:Room 29 (A.deeper (PyProof.Rows.envOfC "law" (Qg Qkz) s.heap.objs.size f ae))) :
  QB (Qhu (fun _=>true) CX0 P w K mg base ["_law_script","_law_cell_here","_law_pen_here","_law_size","_law_way","_law_table_here","_law_often","_law_last","_law_one","_law_bad"] "law" (Qg Qkz) f ae A outer s H E).nox (Qbi Qkz) (Q5j ⟨cf,fun _ _ _ _=>False,mg⟩ K Qun 1 5 Qz4) :=
 Qem (Qtu (t_w (Qo8 (Qft (Qds (Q3 (hc 24 Qde rfl) Q2 hr (Qc (Qbr (Qc (Qbr (Qc Qi Qh)) Qh)) Qh)))) (Qo8 (Qft (Qds (Q3 (hc 24 Qde rfl) Q2 hr (Qc (Qbr (Qc (Qbr (Qc (Qkt Qi) Qh)) Qh)) Qh)))) (Ql4 (Qft (Qds (Q3 (hc 24 Qde rfl) Q2 hr (Qc (Qbr (Qc (Qbr (Qc Qi (Qc Qi Qh))) (Qc (Qbr (Qc Qi (Qc Qi Qh))) Qh))) Qh)))))))) Qzp Qo3)
  (Qem (Q40 Zdu rfl (Q4z K rfl (Q2d (Qtv K rfl) (Qqj (Qr (q_fn cZ (hr.mono (by decide)) (Qr (Qc7 0) (Qr Qkr Qbg))) Qbg)) (q_sl (o_sl K rfl) (Qc7 0) (Qsb Qkr) (Qsb Qkr)))) (Qam (i:=1) Qgg.nd)
   (Qp (Qod (Qan (i:=2) Qgg.nd (Q3 (hc 14 Qkg rfl) Q2 hr (Qc (Qe 1) Qh))))
  (Qp (Qze (Qx5 3 4 Qgg.nd (by decide) (Qc (Qbu rfl Qi (Q3 (hc 15 Qa2 rfl) Q2 hr (Qc (Qe 2) (Qc Qi Qh)))) (Qc (Q3 (hc 15 Qa2 rfl) Q2 hr (Qc (Qe 2) (Qc Qi Qh))) Qh))))
  (Qp (Qaf (Qan (i:=5) Qgg.nd (Q3 (hc 18 Qg8 rfl) Q2 hr (Qc (Qe 2) (Qc (Qe 3) (Qc (Qe 4) Qh))))))
  (Qp (Qaf (Qan (i:=6) Qgg.nd (Qg1 (Q3 (hc 15 Qa2 rfl) Q2 hr (Qc (Qe 2) (Qc Qi Qh))) Qi)))
  (Qp (Qaf (Qan (i:=7) Qgg.nd (Qgn (Qhf K rfl) (Qj2 K) tx.n_tuple Qc0 (Qc (Qex ["_law_one","_law_other","_law_often"] [none,none,some 6] rfl (Qadm rfl tx.n_zip Q9j (Qeo rfl (Qe 5) Qi) (Qeo rfl (Qe 5) (Qkt Qi))) (fun _ _ _=>(Qsq (is:=[0,1]) (Qsd K rfl rfl (Qhe (Qam (i:=0) (show List.Nodup (["_law_one","_law_other","_law_often"]:List PySem.Str) by decide +kernel)) (Qhe (Qam (i:=1) (show List.Nodup (["_law_one","_law_other","_law_often"]:List PySem.Str) by decide +kernel)) Qsc))) rfl)) (fun _ _ _=>Qev) (fun _ _ _=>(Qbu rfl (Qe 0) (Qe5 (Qe 2) (Qe 1))))) Qh))))
  (Qp (Qea rfl (Qb7 rfl (Qda (Qc (Qe 5) (Qc (Qbu rfl (Qd9 rfl (Qe 5) Qbs (Qbt (Qkt Qi))) (Qbr (Qc (Qe 7) Qh))) (Qc (Qbu rfl (Qbr (Qc (Qe 7) Qh)) (Qd9 rfl (Qe 5) (Qbt Qi) Qbs)) (Qc (Qbu rfl (Qbr (Qc (Qe5 (Qbr (Qc Qi Qh)) (Qe 3)) Qh)) (Qd9 rfl (Qe 5) (Qbt Qi) Qbs)) Qh)))))) (Qap (Qam (i:=8) Qgg.nd)) (Q5 (Qfw (Qft (Qds (Q3 (hc 24 Qde rfl) Q2 hr (Qc (Qe 8) Qh)))) (Q5 (Qa4 Qj1)) Qdl)))
  (Q5 (Qea rfl (Qb7 rfl (Qda (Qc (Q3 (hc 17 Qki rfl) Q2 hr (Qc (Qe 2) Qh)) (Qc (Qgn (Qls K rfl) (Qix K) tx.n_list Qjh (Qc (Qe 5) Qh)) (Qc (Qbu rfl (Qd9 rfl (Qe 5) (Qbt Qi) Qbs) (Qe5 (Qbr (Qc (Qbr (Qc Qi Qh)) Qh)) Qi)) (Qc Qks (Qc (Q3 (hc 20 Qih rfl) Q2 hr (Qc (Qe 2) (Qc (Qe 5) Qh))) Qh))))))) (Qap (Qam (i:=9) Qgg.nd)) (Q5 (Qfw (t_w (Qac1 (Qft (Qds (Q3 (hc 19 Qef rfl) Q2 hr (Qc (Qe 9) Qh)))) (Ql4 (Qft (Qds (Q3 (hc 25 Qfn rfl) Q2 hr (Qc (Qe 9) Qh))))))) (Q5 (Qa4 Qj1)) Qdl)))))))))))
  (Qh6 (Qnx Q2c)))
end
end My
set_option maxHeartbeats 8000000
namespace My
abbrev Tb:=List (List Int)
def ge (r:List Int) (k:Nat):Int:=r.getD k 0
def Q9m (r c:List Int):Int:=((List.range r.length).map fun k=>ge r k*ge c k).sum
def col (M:Tb) (j:Nat):List Int:=M.map fun l=>ge l j
def rb (M:Tb) (r:List Int):List Int:=(List.range M.length).map fun j=>Q9m r (col M j)
def tms (A M:Tb):Tb:=A.map (rb M)
structure Shp (n:Nat) (M:Tb):Prop where
 len:M.length=n
 row:∀ r∈M,r.length=n
def woc (rows:Tb) (j:Nat):Tb:=rows.map fun r=>r.take j++r.drop (j+1)
def sg:Nat→Int
 | 0=>1
 | j+1=>-sg j
def Qck (f:Nat→Int):Nat→Int
 | 0=>0
 | j+1=>Qck f j+f j
noncomputable def Qaj:Nat→Tb→Int
 | 0,_=>1
 | m+1,M=>Qck (fun j=>sg j*ge (M.headD []) j*Qaj m (woc M.tail j)) (m+1)
noncomputable def sp (M:Tb) (r c:Nat):Int:=if (r+c)%2=0 then Qaj (M.length-1) (woc (M.take r++M.drop (r+1)) c) else -Qaj (M.length-1) (woc (M.take r++M.drop (r+1)) c)
noncomputable def sc (n:Nat) (x:Int):Tb:=(List.range n).map fun i=>(List.range n).map fun j=>if i=j then x else 0
theorem Qm1 {P:Nat→Tb→Prop} (p1:∀ a,P 1 [[a]]) (p2:∀ a b c d,P 2 [[a,b],[c,d]]) (p3:∀ a b c d e f g h i,P 3 [[a,b,c],[d,e,f],[g,h,i]])
  (p4:∀ a b c d e f g h i j k l m n o p,P 4 [[a,b,c,d],[e,f,g,h],[i,j,k,l],[m,n,o,p]]) {n:Nat} {M:Tb} (h:Shp n M) (h1:1≤n) (h4:n≤4):P n M:=by
 obtain ⟨hl,hr⟩:=h
 match n,M,hl with
 | 1,[r],_=>match r,hr r (by simp) with
  | [a],_=>exact p1 ..
 | 2,[r,s],_=>match r,s,hr r (by simp),hr s (by simp) with
  | [a,b],[c,d],_,_=>exact p2 ..
 | 3,[r,s,t],_=>match r,s,t,hr r (by simp),hr s (by simp),hr t (by simp) with
  | [a,b,c],[d,e,f],[g,h,i],_,_,_=>exact p3 ..
 | 4,[r,s,t,u],_=>match r,s,t,u,hr r (by simp),hr s (by simp),hr t (by simp),hr u (by simp) with
  | [a,b,c,d],[e,f,g,h],[i,j,k,l],[m,n,o,p],_,_,_,_=>exact p4 ..
theorem Q3o {n:Nat} {A B:Tb} (hA:Shp n A) (hB:Shp n B) (h1:1≤n) (h4:n≤4):Qaj n (tms A B)=Qaj n A*Qaj n B:=by
 refine Qm1 (P:=fun n A=>∀ B,Shp n B→Qaj n (tms A B)=Qaj n A*Qaj n B) ?_ ?_ ?_ ?_ hA h1 h4 B hB <;> intros <;> rename_i B hB <;>
  refine Qm1 (P:=fun m B=>m=_→Qaj m (tms _ B)=Qaj m _*Qaj m B) ?_ ?_ ?_ ?_ hB (by omega) (by omega) rfl <;> intros <;> first | omega | (simp [tms,rb,Q9m,col,Qaj,woc,ge,sg,Qck,List.range,List.range.loop] <;> grind)
theorem Quo {n:Nat} {M:Tb} (h:Shp n M) (h1:1≤n) (h4:n≤4):tms (sc n 1) M=M∧tms M (sc n 1)=M:=by
 refine Qm1 (P:=fun n M=>tms (sc n 1) M=M∧tms M (sc n 1)=M) ?_ ?_ ?_ ?_ h h1 h4 <;> simp [tms,rb,Q9m,col,sc,ge,List.range,List.range.loop]
theorem Qz5 {n k:Nat} (hk:k<n) (x:Int):(sc n x).getD k []=(List.range n).map fun j=>if k=j then x else 0:=by
 simp [sc,hk]
theorem Qz6 {n:Nat} {M:Tb} (h:Shp n M) (h1:1≤n) (h4:n≤4) {k:Nat} (hk:k<n):rb M ((sc n 1).getD k [])=M.getD k []:=by
 have e:=congrArg (·.getD k []) (Quo h h1 h4).1
 rw [Qz5 hk]
 simpa [tms,sc,hk] using e
theorem Q9n {n:Nat} {x:Nat} {r:List Int} (hr:r.length=n):Shp n ((sc n 1).set x r):=⟨by simp [sc],fun s hs=>by
 rcases List.mem_or_eq_of_mem_set hs with z | rfl
 ·obtain ⟨i,_,rfl⟩:=Z7.mp z
  simp
 ·exact hr⟩
theorem Qz7 {n:Nat} {M:Tb} (h:Shp n M) (h1:1≤n) (h4:n≤4) {x y:Nat} (hx:x<n) (hy:y<n) (kH:x≠y):Qaj n ((M.set x (M.getD y [])).set y (M.getD x [])) = -Qaj n M:=by
 have lr:∀ {k},k<n→((sc n 1).getD k []).length=n:=fun h=>by rw [Qz5 h];simp
 have e:tms (((sc n 1).set x ((sc n 1).getD y [])).set y ((sc n 1).getD x [])) M=(M.set x (M.getD y [])).set y (M.getD x []):=by
  rw [tms,List.map_set,List.map_set,Qz6 h h1 h4 hx,Qz6 h h1 h4 hy]
  exact congrArg (fun z:Tb=>(z.set x _).set y _) (Quo h h1 h4).1
 have s:Shp n (((sc n 1).set x ((sc n 1).getD y [])).set y ((sc n 1).getD x [])):=⟨by simp [sc],fun r hr=>(List.mem_or_eq_of_mem_set hr).elim (fun z=>(Q9n (lr hy)).row _ z) fun z=>z ▸ lr hx⟩
 rw [←e,Q3o s h h1 h4,←Int.neg_one_mul]
 congr 1
 clear e lr h s
 rcases (by omega:n=1∨n=2∨n=3∨n=4) with rfl | rfl | rfl | rfl <;> rcases (by omega:x=0∨x=1∨x=2∨x=3) with rfl | rfl | rfl | rfl <;> rcases (by omega:y=0∨y=1∨y=2∨y=3) with rfl | rfl | rfl | rfl <;>
  first | omega | decide
end My
set_option maxHeartbeats 4000000
namespace My
def lin (a b:Int) (u v:List Int):List Int:=List.zipWith (fun x y=>a*x+b*y) u v
theorem Qc4 {a b:Int} {u v:List Int} {k:Nat} (hu:u.length=k) (hv:v.length=k):(lin a b u v).length=k:=by unfold lin;rw [List.length_zipWith,hu,hv,Zdo]
theorem Qpp {k:Nat} {M:Tb} (h:Shp k M) (h1:1≤k) (h4:k≤4) {t:Nat} (ht:t<k) (a b:Int) {u v:List Int} (hu:u.length=k) (hv:v.length=k) :
  Qaj k (M.set t (lin a b u v))=a*Qaj k (M.set t u)+b*Qaj k (M.set t v):=by
 refine Qm1 (P:=fun k M=>∀ t u v,t<k→u.length=k→v.length=k→Qaj k (M.set t (lin a b u v))=a*Qaj k (M.set t u)+b*Qaj k (M.set t v)) ?_ ?_ ?_ ?_ h h1 h4 t u v ht hu hv
 ·intro p t u v ht hu hv
  match t,u,v,ht,hu,hv with
  | 0,[x],[y],_,_,_=>simp [lin,Qaj,woc,ge,sg,Qck]
 ·intro p q r s t u v ht hu hv
  match t,u,v,ht,hu,hv with
  | 0,[x,x'],[y,y'],_,_,_=>simp [lin,Qaj,woc,ge,sg,Qck];grind
  | 1,[x,x'],[y,y'],_,_,_=>simp [lin,Qaj,woc,ge,sg,Qck];grind
 ·intro c0 c1 c2 c3 c4 c5 c6 c7 c8 t u v ht hu hv
  match t,u,v,ht,hu,hv with
  | 0,[x,x',x2],[y,y',y2],_,_,_=>simp [lin,Qaj,woc,ge,sg,Qck];grind
  | 1,[x,x',x2],[y,y',y2],_,_,_=>simp [lin,Qaj,woc,ge,sg,Qck];grind
  | 2,[x,x',x2],[y,y',y2],_,_,_=>simp [lin,Qaj,woc,ge,sg,Qck];grind
 ·intro c0 c1 c2 c3 c4 c5 c6 c7 c8 c9 d0 d1 d2 d3 d4 d5 t u v ht hu hv
  match t,u,v,ht,hu,hv with
  | 0,[x,x',x2,x3],[y,y',y2,y3],_,_,_=>simp [lin,Qaj,woc,ge,sg,Qck];grind
  | 1,[x,x',x2,x3],[y,y',y2,y3],_,_,_=>simp [lin,Qaj,woc,ge,sg,Qck];grind
  | 2,[x,x',x2,x3],[y,y',y2,y3],_,_,_=>simp [lin,Qaj,woc,ge,sg,Qck];grind
  | 3,[x,x',x2,x3],[y,y',y2,y3],_,_,_=>simp [lin,Qaj,woc,ge,sg,Qck];grind
def Vn (k:Nat) (R:List (List Int)):Prop:=∀ I:Tb,I.length=k→(∀ r∈I,r∈R)→Qaj k I=0
def Lk (k:Nat) (R:List (List Int)):Prop:=∀ r∈R,r.length=k
theorem Vn.sub {k:Nat} {R R':List (List Int)} (h:Vn k R) (e:∀ r∈R',r∈R):Vn k R':=fun I hl hr=>h I hl fun r eO=>e r (hr r eO)
section
variable {k:Nat} (h1:1≤k) (h4:k≤4) {R:List (List Int)} (hL:Lk k R)
include h1 h4 hL
theorem Vn.step (hV:Vn k R) {x:List Int} (hx:x.length=k) (ck:∀ (I:Tb) (t:Nat),Shp k I→t<k→I[t]?=some x→(∀ y,y∈R→Qaj k (I.set t y)=0)→Qaj k I=0):Vn k (x::R):=by
 have gen:∀ (m:Nat) (I:Tb),I.length=k→(∀ r∈I,r∈x::R)→(I.filter fun r=>!R.contains r).length≤m→Qaj k I=0:=by
  intro m
  induction m with
  | zero =>
   intro I hl hr hm
   refine hV I hl fun r cJ=>?_
   have:I.filter (fun r=>!R.contains r)=[]:=List.length_eq_zero_iff.mp (by omega)
   have:=List.filter_eq_nil_iff.mp this r cJ
   simpa using this
  | succ m ih =>
   intro I hl hr hm
   have shp:Shp k I:=⟨hl,fun r cJ=>by
    rcases Z9.mp (hr r cJ) with z | z
    ·rw [z];exact hx
    ·exact hL r z⟩
   by_cases b9:∀ r∈I,r∈R
   ·exact hV I hl b9
   ·obtain ⟨r,cJ,iE⟩:∃ r,r∈I∧r∉R:=by
     refine Zae fun z=>b9 fun r hr=>Zae fun w=>z ⟨r,hr,w⟩
    have ex:r=x:=by
     rcases Z9.mp (hr r cJ) with z | z
     ·exact z
     ·exact absurd z iE
    subst ex
    obtain ⟨t,ht,et⟩:=List.getElem_of_mem cJ
    refine ck I t shp (by omega) (by rw [Zc ht,et]) fun y hy=>ih (I.set t y) (by rw [Zby];exact hl) (fun s hs=>?_) ?_
    ·rcases List.mem_or_eq_of_mem_set hs with z | z
     ·exact hr s z
     ·rw [z];exact .tail _ hy
    ·have e1:I=I.take t++r::I.drop (t+1):=by rw [←et];simp
     have e2:I.set t y=I.take t++y::I.drop (t+1):=List.set_eq_take_append_cons_drop.trans (by rw [Zf ht])
     rw [e2]
     have e3:(I.filter fun r=>!R.contains r).length=((I.take t).filter fun r=>!R.contains r).length+(1+((I.drop (t+1)).filter fun r=>!R.contains r).length):=by
      conv=>lhs;rw [e1]
      rw [List.filter_append,Zo,Zd1,Zf (by simpa using iE),Ze]
      omega
     rw [List.filter_append,Zo,Zd1,Zg (by simpa using hy)]
     omega
 exact fun I hl hr=>gen _ I hl hr (Zk _)
omit h1 h4 hL in
theorem Qm2 {I:Tb} {t:Nat} {x:List Int} (h:I[t]?=some x):I.set t x=I:=by
 obtain ⟨ht,e⟩:=List.getElem?_eq_some_iff.mp h
 rw [←e]
 exact List.set_getElem_self ht
theorem Vn.lin (hV:Vn k R) {u v:List Int} (hu:u∈R) (hv:v∈R) (a b:Int):Vn k (lin a b u v::R):=by
 refine Vn.step h1 h4 hL hV (Qc4 (hL u hu) (hL v hv)) fun I t shp ht hx hy=>?_
 have e:=Qpp shp h1 h4 ht a b (hL u hu) (hL v hv)
 rw [Qm2 hx,hy u hu,hy v hv,Int.mul_zero,Int.mul_zero] at e
 exact e
theorem Vn.div (hV:Vn k R) {x:List Int} {c:Int} (hc:c≠0) (hx:x.map (c * ·)∈R):Vn k (x::R):=by
 have hl:x.length=k:=by have:=hL _ hx;rwa [Zd] at this
 refine Vn.step h1 h4 hL hV hl fun I t shp ht eT hy=>?_
 have e:=Qpp shp h1 h4 ht c 0 hl hl
 have ex:My.lin c 0 x x=x.map (c * ·):=by
  unfold My.lin
  clear hx hl eT e
  induction x with
  | nil=>rfl
  | cons y x ih=>rw [List.zipWith_cons_cons,Z6,ih,Int.zero_mul,Int.add_zero]
 rw [ex,hy _ hx,Qm2 eT,Int.zero_mul,Int.add_zero] at e
 exact (Int.mul_eq_zero.mp e.symm).resolve_left hc
theorem Vn.zero (hV:Vn k R):Vn k (List.replicate k 0::R):=by
 refine Vn.step h1 h4 hL hV Zag fun I t shp ht eT hy=>?_
 have e:=Qpp shp h1 h4 ht 0 0 (u:=List.replicate k 0) (v:=List.replicate k 0) Zag Zag
 have ex:My.lin 0 0 (List.replicate k 0) (List.replicate k 0)=List.replicate k 0:=by
  unfold My.lin
  rw [List.zipWith_replicate,Zdo]
  rfl
 rw [ex,Qm2 eT,Int.zero_mul,Int.add_zero] at e
 exact e
end
def res (J:List Nat) (r:List Int):List Int:=J.map fun j=>ge r j
theorem Qpq {J:List Nat} {k:Nat} (h:J.length=k) (r:List Int):(res J r).length=k:=by unfold res;rw [Zd,h]
theorem Qkm {n:Nat} {a b:Int} {u v:List Int} (hu:u.length=n) (hv:v.length=n) (j:Nat):ge (lin a b u v) j=a*ge u j+b*ge v j:=by
 unfold ge lin
 rw [Zh,List.getElem?_zipWith,Zh,Zh]
 by_cases h:j<n
 ·rw [Zc (by omega),Zc (by omega)]
  rfl
 ·rw [Zbg (by omega),Zbg (by omega)]
  simp
theorem Qup {n:Nat} {a b:Int} {u v:List Int} (hu:u.length=n) (hv:v.length=n) (J:List Nat):res J (lin a b u v)=lin a b (res J u) (res J v):=by
 unfold res
 show _=List.zipWith (fun x y=>a*x+b*y) _ _
 rw [List.zipWith_map]
 induction J with
 | nil=>rfl
 | cons j J ih=>rw [Z6,List.zipWith_cons_cons,ih,Qkm hu hv]
theorem Qji {c:Int}:∀ x:List Int,lin c 0 x x=x.map (c * ·)
 | []=>rfl
 | y::x=>by
  show (c*y+0*y)::lin c 0 x x=_
  rw [Qji x,Int.zero_mul,Int.add_zero]
  rfl
noncomputable def Cl (n:Nat) (R:List (List Int)) (x:List Int):Prop:=x.length=n∧∀ (k:Nat) (J:List Nat) (R':List (List Int)),1≤k→k≤4→J.length=k→Lk n R'→(∀ r∈R,r∈R')→Vn k (R'.map (res J))→Vn k ((x::R').map (res J))
section
variable {n:Nat} {R:List (List Int)}
theorem Qpr {k:Nat} {J:List Nat} (hJ:J.length=k) (R':List (List Int)):Lk k (R'.map (res J)):=fun r hr=>by
 obtain ⟨s,_,rfl⟩:=Z7.mp hr
 exact Qpq hJ s
theorem Lk.cons {x:List Int} (hx:x.length=n) (h:Lk n R):Lk n (x::R):=fun r hr=>by
 rcases Z9.mp hr with rfl | z
 ·exact hx
 ·exact h r z
theorem Qps (hR:Lk n R) {x:List Int} (h:x∈R):Cl n R x:=⟨hR x h,fun k J R' _ _ _ _ hs hV=>hV.sub fun r hr=>by
 rw [Z6] at hr
 rcases Z9.mp hr with rfl | z
 ·exact List.mem_map_of_mem (hs x h)
 ·exact z⟩
theorem Qte {u v:List Int} (hu:Cl n R u) (hv:Cl n R v) (a b:Int):Cl n R (lin a b u v):=by
 refine ⟨Qc4 hu.1 hv.1,fun k J R' k1 k4 hJ hL hs hV=>?_⟩
 have h1:=hu.2 k J R' k1 k4 hJ hL hs hV
 have h2:=hv.2 k J (u::R') k1 k4 hJ (hL.cons hu.1) (fun r hr=>.tail _ (hs r hr)) h1
 have h3:=Vn.lin k1 k4 (Qpr hJ (v::u::R')) h2 (u:=res J u) (v:=res J v) (by simp) (by simp) a b
 refine h3.sub fun r hr=>?_
 rw [Z6] at hr
 rcases Z9.mp hr with rfl | z
 ·rw [Qup hu.1 hv.1];exact .head _
 ·exact .tail _ (by rw [Z6,Z6];exact .tail _ (.tail _ z))
theorem Qz8 {x:List Int} {c:Int} (hc:c≠0) (hx:Cl n R (x.map (c * ·))):Cl n R x:=by
 have hl:x.length=n:=by have:=hx.1;rwa [Zd] at this
 refine ⟨hl,fun k J R' k1 k4 hJ hL hs hV=>?_⟩
 have h1:=hx.2 k J R' k1 k4 hJ hL hs hV
 have e:(res J x).map (c * ·)=res J (x.map (c * ·)):=by rw [←Qji,←Qji,Qup hl hl]
 have h2:=Vn.div k1 k4 (Qpr hJ (x.map (c * ·)::R')) h1 (x:=res J x) hc (by rw [e];simp)
 refine h2.sub fun r hr=>?_
 rw [Z6] at hr
 rcases Z9.mp hr with rfl | z
 ·exact .head _
 ·exact .tail _ (by rw [Z6];exact .tail _ z)
theorem Q3p:Cl n R (List.replicate n 0):=by
 refine ⟨Zag,fun k J R' k1 k4 hJ hL hs hV=>?_⟩
 have e:res J (List.replicate n 0)=List.replicate k 0:=by
  unfold res
  rw [←hJ]
  clear hs hV hJ k1 k4
  induction J with
  | nil=>rfl
  | cons j J ih =>
   rw [Z6,ih,Ze,Za2]
   congr 1
   unfold ge
   rw [Zh,Zbj]
   split <;> rfl
 have h1:=Vn.zero k1 k4 (Qpr hJ R') hV
 rw [Z6,e]
 exact h1
theorem Cl.mono {R2:List (List Int)} {x:List Int} (h:Cl n R x) (e:∀ r∈R,r∈R2):Cl n R2 x:=⟨h.1,fun k J R' k1 k4 hJ hL hs hV=>h.2 k J R' k1 k4 hJ hL (fun r hr=>hs r (e r hr)) hV⟩
theorem Qz9 (hR:Lk n R) {k:Nat} {J:List Nat} (k1:1≤k) (k4:k≤4) (hJ:J.length=k) (hV:Vn k (R.map (res J))):∀ (S:List (List Int)),(∀ x∈S,Cl n R x)→Vn k (S.map (res J)):=by
 have gen:∀ (S:List (List Int)),(∀ x∈S,Cl n R x)→Vn k ((S++R).map (res J))∧Lk n (S++R):=by
  intro S
  induction S with
  | nil=>exact fun _=>⟨hV,hR⟩
  | cons x S ih =>
   intro h
   obtain ⟨a,b⟩:=ih fun y hy=>h y (.tail _ hy)
   have hx:=h x (.head _)
   exact ⟨hx.2 k J (S++R) k1 k4 hJ b (fun r hr=>Zz _ hr) a,b.cons hx.1⟩
 exact fun S h=>(gen S h).1.sub fun r hr=>by
  obtain ⟨s,hs,rfl⟩:=Z7.mp hr
  exact List.mem_map_of_mem (Zax _ hs)
end
def nzI (x:Int):Bool:=!decide (x=0)
def ld (r:List Int):Nat:=r.findIdx nzI
def isZ (r:List Int):Prop:=∀ x∈r,x=0
theorem Qk1 {r:List Int} (h:¬ isZ r):ld r<r.length∧ge r (ld r)≠0∧∀ j,j<ld r→ge r j=0:=by
 have ex:∃ x∈r,nzI x=true:=by
  refine Zae fun z=>h fun x hx=>Zae fun w=>z ⟨x,hx,?_⟩
  unfold nzI
  rw [Zx w]
  rfl
 have hl:ld r<r.length:=List.findIdx_lt_length.mpr ex
 refine ⟨hl,?_,fun j hj=>?_⟩
 ·have q:nzI r[ld r]=true:=List.findIdx_getElem (w:=hl)
  unfold ge
  rw [Zh,Zc hl]
  intro z
  have z:r[ld r]=0:=z
  rw [z] at q
  exact absurd q (by decide)
 ·have:=List.not_of_lt_findIdx hj
  unfold nzI at this
  unfold ge
  rw [Zh,Zc (by unfold ld at hl hj;omega)]
  simpa using this
def clr (row step:List Int):List Int:=lin (ge step (ld step)) (-ge row (ld step)) row step
def lft (row:List Int) (S:List (List Int)):List Int:=S.foldl clr row
structure Lin (ln:List Int→Option (List Int)):Prop where
 no:∀ r,ln r=none↔isZ r
 yes:∀ r l,ln r=some l→∃ g:Int,g≠0∧r=l.map (g * ·)
section
variable (ln:List Int→Option (List Int))
noncomputable def stp (S:List (List Int)) (row:List Int):List (List Int):=match ln (lft row S) with
 | none=>S
 | some l=>S++[l]
def Qcf (rows:List (List Int)):List (List Int):=rows.foldl (stp ln) []
variable {ln} (hl:Lin ln) {n:Nat}
theorem Q0a {R:List (List Int)}:∀ {S:List (List Int)} {row:List Int},(∀ s∈S,Cl n R s)→Cl n R row→Cl n R (lft row S)
 | [],row,_,h=>h
 | s::S,row,hS,h=>Q0a (S:=S) (fun x hx=>hS x (.tail _ hx)) (Qte h (hS s (.head _)) _ _)
theorem Qrn {R:List (List Int)}:∀ {S:List (List Int)} {row:List Int},row.length=n→(∀ s∈S,Cl n R s∧¬ isZ s)→Cl n R (lft row S)→Cl n R row
 | [],row,_,_,h=>h
 | s::S,row,hr,hS,h=>by
  obtain ⟨hs,hz⟩:=hS s (.head _)
  have h1:=Qrn (S:=S) (row:=clr row s) (Qc4 hr hs.1) (fun x hx=>hS x (.tail _ hx)) h
  obtain ⟨l1,l2,_⟩:=Qk1 hz
  refine Qz8 l2 ?_
  have h2:=Qte h1 hs 1 (ge row (ld s))
  have e:lin 1 (ge row (ld s)) (clr row s) s=row.map (ge s (ld s) * ·):=by
   refine List.ext_getElem (by rw [Qc4 h1.1 hs.1,Zd,hr]) fun i a b=>?_
   have hi:i<n:=by rw [Qc4 h1.1 hs.1] at a;exact a
   have g:∀ (x:List Int) (h:i<x.length),x[i]=ge x i:=fun x h=>by unfold ge;rw [Zh,Zc h];rfl
   rw [g,List.getElem_map,g,Qkm h1.1 hs.1]
   unfold clr
   rw [Qkm hr hs.1]
   grind
  rwa [e] at h2
include hl
theorem Quq:∀ (rows S0:List (List Int)) (R0:List (List Int)),Lk n rows→Lk n R0→(∀ s∈S0,Cl n R0 s∧¬ isZ s)→(∀ r∈R0,Cl n S0 r) →
  (∀ s∈rows.foldl (stp ln) S0,Cl n (R0++rows) s∧¬ isZ s)∧∀ r∈R0++rows,Cl n (rows.foldl (stp ln) S0) r
 | [],S0,R0,_,_,h1,h2=>by rw [Za6];exact ⟨h1,h2⟩
 | row::rows,S0,R0,hL,hR,h1,h2=>by
  have bM:=hL row (.head _)
  have jX:Lk n rows:=fun r hr=>hL r (.tail _ hr)
  have ig:Lk n (R0++[row]):=fun r hr=>by
   rcases Zad.mp hr with z | z
   ·exact hR r z
   ·rw [Zv.mp z];exact bM
  have e:R0++row::rows=(R0++[row])++rows:=by simp
  rw [e,Zd9]
  have m1:∀ s∈S0,Cl n (R0++[row]) s:=fun s hs=>(h1 s hs).1.mono fun r hr=>Zax _ hr
  have m2:Cl n (R0++[row]) (lft row S0):=Q0a m1 (Qps ig (by simp))
  refine Quq rows (stp ln S0 row) (R0++[row]) jX ig ?_ ?_
  ·intro s hs
   unfold stp at hs
   cases hln:ln (lft row S0) with
   | none=>rw [hln] at hs;exact ⟨m1 s hs,(h1 s hs).2⟩
   | some l =>
    rw [hln] at hs
    rcases Zad.mp hs with z | z
    ·exact ⟨m1 s z,(h1 s z).2⟩
    ·rw [Zv.mp z]
     obtain ⟨g,g0,eg⟩:=hl.yes _ _ hln
     refine ⟨Qz8 g0 (by rw [←eg];exact m2),fun hz=>?_⟩
     have:isZ (lft row S0):=fun x hx=>by
      rw [eg] at hx
      obtain ⟨y,hy,rfl⟩:=Z7.mp hx
      rw [hz y hy,Int.mul_zero]
     rw [(hl.no _).mpr this] at hln
     cases hln
  ·have hS:Lk n S0:=fun s hs=>(h1 s hs).1.1
   have sub:∀ s∈S0,s∈stp ln S0 row:=fun s hs=>by
    unfold stp
    cases ln (lft row S0) with
    | none=>exact hs
    | some l=>exact Zax _ hs
   have dy:Lk n (stp ln S0 row):=fun s hs=>by
    unfold stp at hs
    cases hln:ln (lft row S0) with
    | none=>rw [hln] at hs;exact hS s hs
    | some l =>
     rw [hln] at hs
     rcases Zad.mp hs with z | z
     ·exact hS s z
     ·rw [Zv.mp z]
      obtain ⟨g,g0,eg⟩:=hl.yes _ _ hln
      have:=m2.1
      rw [eg,Zd] at this
      exact this
   intro r hr
   rcases Zad.mp hr with z | z
   ·exact (h2 r z).mono sub
   ·rw [Zv.mp z]
    refine Qrn (S:=S0) bM (fun s hs=>⟨Qps dy (sub s hs),(h1 s hs).2⟩) ?_
    cases hln:ln (lft row S0) with
    | none =>
     have hz:=(hl.no _).mp hln
     have e0:lft row S0=List.replicate n 0:=List.eq_replicate_iff.mpr ⟨m2.1,hz⟩
     rw [e0]
     exact Q3p
    | some l =>
     obtain ⟨g,g0,eg⟩:=hl.yes _ _ hln
     have lm:l∈stp ln S0 row:=by unfold stp;rw [hln];simp
     rw [eg,←Qji]
     exact Qte (Qps dy lm) (Qps dy lm) _ _
end
theorem Q0b (pre post:Tb) (x y:List Int):(((pre++x::y::post).set pre.length ((pre++x::y::post).getD (pre.length+1) [])).set (pre.length+1) ((pre++x::y::post).getD pre.length []))=pre++y::x::post:=by
 have e1:(pre++x::y::post).getD (pre.length+1) []=y:=by
  rw [Zh,Za5 (by omega)]
  simp
 have e2:(pre++x::y::post).getD pre.length []=x:=by
  rw [Zh,Za5 (by omega)]
  simp
 rw [e1,e2,List.set_append_right _ _ (by omega),List.set_append_right _ _ (by omega)]
 simp
section
variable {k:Nat} (h1:1≤k) (h4:k≤4)
include h1 h4
theorem Qur {pre post:Tb} {x y:List Int} (h:Shp k (pre++x::y::post)):Qaj k (pre++y::x::post) = -Qaj k (pre++x::y::post):=by
 have hl:=h.len
 rw [Zo,Ze,Ze] at hl
 have:=Qz7 h h1 h4 (x:=pre.length) (y:=pre.length+1) (by omega) (by omega) (by omega)
 rwa [Q0b] at this
theorem Qro:∀ {l l':Tb},l.Perm l'→∀ pre:Tb,Shp k (pre++l)→Qaj k (pre++l)≠0→Qaj k (pre++l')≠0:=by
 intro l l' p
 induction p with
 | nil=>exact fun _ _ h=>h
 | cons x p ih =>
  intro pre hs h
  have:=ih (pre++[x]) (by simpa using hs) (by simpa using h)
  simpa using this
 | swap x y l =>
  intro pre hs h
  rw [Qur h1 h4 hs]
  omega
 | trans p q ih1 ih2 =>
  intro pre hs h
  refine ih2 pre ⟨?_,fun r hr=>?_⟩ (ih1 pre hs h)
  ·rw [Zo,←p.length_eq,←Zo];exact hs.len
  ·rcases Zad.mp hr with z | z
   ·exact hs.row r (Zax _ z)
   ·exact hs.row r (Zz _ (p.mem_iff.mpr z))
theorem Q0c {u:List Int} {rest:Tb} (h:Shp k (u::u::rest)):Qaj k (u::u::rest)=0:=by
 have:=Qur h1 h4 (pre:=[]) h
 have:Qaj k (u::u::rest) = -Qaj k (u::u::rest):=this
 omega
omit h1 h4 in
theorem Qrp {α:Type} [DecidableEq α]:∀ {l:List α},¬ l.Nodup→∃ x rest,l.Perm (x::x::rest)
 | [],h=>absurd List.nodup_nil h
 | y::t,h=>by
  by_cases c:y∈t
  ·exact ⟨y,t.erase y,List.Perm.cons y (List.perm_cons_erase c)⟩
  ·obtain ⟨x,rest,p⟩:=Qrp (l:=t) fun z=>h (Zcx.mpr ⟨c,z⟩)
   exact ⟨x,y::rest,(List.Perm.cons y p).trans ((List.Perm.swap x y (x::rest)).trans (List.Perm.cons x (List.Perm.swap x y rest)))⟩
theorem Q0d {l:Tb} (h:Shp k l) (hd:Qaj k l≠0):l.Nodup:=Zae fun z=>by
 obtain ⟨x,rest,p⟩:=Qrp z
 have hs:Shp k (x::x::rest):=⟨by rw [←p.length_eq];exact h.len,fun r hr=>h.row r (p.mem_iff.mpr hr)⟩
 exact Qro h1 h4 p [] h hd (Q0c h1 h4 hs)
omit h1 h4 in
theorem Qlf {α:Type} [DecidableEq α]:∀ (L K:List α),L.Nodup→(∀ x∈L,x∈K)→L.length≤K.length
 | [],K,_,_=>Zb7 _
 | x::L,K,nd,hK=>by
  have hx:=hK x (.head _)
  obtain ⟨n1,n2⟩:=Zcx.mp nd
  have:=Qlf L (K.erase x) n2 fun y hy=>(List.mem_erase_of_ne (fun e=>n1 (by rw [←e];exact hy))).mpr (hK y (.tail _ hy))
  rw [List.length_erase_of_mem hx] at this
  have:=List.length_pos_of_mem hx
  rw [Ze]
  omega
theorem Vn.few {R:List (List Int)} (hR:Lk k R) (h:R.length<k):Vn k R:=fun I hl hr=>Zae fun z=>by
 have nd:=Q0d h1 h4 ⟨hl,fun r cJ=>hR r (hr r cJ)⟩ z
 have:=Qlf I R nd hr
 omega
end
theorem Q9o (g:Int) (l:List Int) (p:Nat):ge (l.map (g * ·)) p=g*ge l p:=by
 unfold ge
 rw [Zh,Zab,Zh]
 cases l[p]? with
 | none=>simp
 | some v=>rfl
section
variable {n:Nat} {ln:List Int→Option (List Int)} (hl:Lin ln)
theorem Qrq {p:Nat}:∀ {S:List (List Int)} {x:List Int},x.length=n→Lk n S→(∀ s∈S,ge s p=0)→ge x p=0→ge (lft x S) p=0
 | [],x,_,_,_,h=>h
 | s::S,x,hx,hS,hp,h=>by
  have hs:=hS s (.head _)
  refine Qrq (S:=S) (x:=clr x s) (Qc4 hx hs) (fun y hy=>hS y (.tail _ hy)) (fun y hy=>hp y (.tail _ hy)) ?_
  unfold clr
  rw [Qkm hx hs,h,hp s (.head _)]
  simp
theorem Qrr:∀ {S:List (List Int)} {x:List Int},x.length=n→Lk n S→S.Pairwise (fun s t=>ge t (ld s)=0)→∀ s∈S,ge (lft x S) (ld s)=0
 | s::S,x,hx,hS,hp,s',eN=>by
  have hs:=hS s (.head _)
  have dy:Lk n S:=fun y hy=>hS y (.tail _ hy)
  obtain ⟨p1,p2⟩:=List.pairwise_cons.mp hp
  show ge (lft (clr x s) S) (ld s')=0
  rcases Z9.mp eN with rfl | z
  ·refine Qrq (n:=n) (Qc4 hx hs) dy p1 ?_
   unfold clr
   rw [Qkm hx hs]
   grind
  ·exact Qrr (S:=S) (Qc4 hx hs) dy p2 s' z
include hl
theorem Qus:∀ (rows S0:List (List Int)),Lk n rows→Lk n S0→S0.Pairwise (fun s t=>ge t (ld s)=0)→(rows.foldl (stp ln) S0).Pairwise (fun s t=>ge t (ld s)=0)
 | [],S0,_,_,h=>h
 | row::rows,S0,hL,hS,h=>by
  have bM:=hL row (.head _)
  rw [Zd9]
  have ll:(lft row S0).length=n:=by
   have:∀ (S:List (List Int)) (x:List Int),x.length=n→Lk n S→(lft x S).length=n:=by
    intro S
    induction S with
    | nil=>exact fun x hx _=>hx
    | cons s S ih=>exact fun x hx hS=>ih (clr x s) (Qc4 hx (hS s (.head _))) fun y hy=>hS y (.tail _ hy)
   exact this S0 row bM hS
  refine Qus rows (stp ln S0 row) (fun r hr=>hL r (.tail _ hr)) ?_ ?_
  ·intro s hs
   unfold stp at hs
   cases hln:ln (lft row S0) with
   | none=>rw [hln] at hs;exact hS s hs
   | some l =>
    rw [hln] at hs
    rcases Zad.mp hs with z | z
    ·exact hS s z
    ·rw [Zv.mp z]
     obtain ⟨g,g0,eg⟩:=hl.yes _ _ hln
     rw [eg,Zd] at ll
     exact ll
  ·unfold stp
   cases hln:ln (lft row S0) with
   | none=>exact h
   | some l =>
    obtain ⟨g,g0,eg⟩:=hl.yes _ _ hln
    refine List.pairwise_append.mpr ⟨h,List.pairwise_singleton _ _,fun s hs t ht=>?_⟩
    rw [Zv.mp ht]
    have:=Qrr bM hS h s hs
    rw [eg,Q9o] at this
    exact (Int.mul_eq_zero.mp this).resolve_left g0
end
theorem Q3q {J:List Nat} {A:Nat→Nat→Int} (hs:J.Pairwise (· < ·)) (hz:∀ c∈J,∀ d∈J,d<c→A c d=0) (hd:∀ c∈J,A c c≠0) (h1:1≤J.length) (h4:J.length≤4):Qaj J.length (J.map fun c=>J.map fun d=>A c d)≠0:=by
 match J,hs,hz,hd,h1,h4 with
 | [a],_,_,hd,_,_ =>
  have:=hd a (by simp)
  simpa [Qaj,woc,ge,sg,Qck] using this
 | [a,b],hs,hz,hd,_,_ =>
  simp only [List.pairwise_cons,Z9,Zaz,Zbu] at hs
  have z1:=hz b (by simp) a (by simp) (hs.1 b (by simp))
  have d1:=hd a (by simp)
  have d2:=hd b (by simp)
  have e:Qaj 2 [[A a a,A a b],[A b a,A b b]]=A a a*A b b:=by simp [Qaj,woc,ge,sg,Qck,z1]
  show Qaj 2 [[A a a,A a b],[A b a,A b b]]≠0
  rw [e]
  exact Int.mul_ne_zero d1 d2
 | [a,b,c],hs,hz,hd,_,_ =>
  simp only [List.pairwise_cons,Z9,Zaz,Zbu] at hs
  have z1:=hz b (by simp) a (by simp) (hs.1 b (by simp))
  have z2:=hz c (by simp) a (by simp) (hs.1 c (by simp))
  have z3:=hz c (by simp) b (by simp) (hs.2.1 c (by simp))
  have d1:=hd a (by simp)
  have d2:=hd b (by simp)
  have d3:=hd c (by simp)
  have e:Qaj 3 [[A a a,A a b,A a c],[A b a,A b b,A b c],[A c a,A c b,A c c]]=A a a*(A b b*A c c):=by simp [Qaj,woc,ge,sg,Qck,z1,z2,z3]
  show Qaj 3 [[A a a,A a b,A a c],[A b a,A b b,A b c],[A c a,A c b,A c c]]≠0
  rw [e]
  exact Int.mul_ne_zero d1 (Int.mul_ne_zero d2 d3)
 | [a,b,c,d],hs,hz,hd,_,_ =>
  simp only [List.pairwise_cons,Z9,Zaz,Zbu] at hs
  have z1:=hz b (by simp) a (by simp) (hs.1 b (by simp))
  have z2:=hz c (by simp) a (by simp) (hs.1 c (by simp))
  have z3:=hz d (by simp) a (by simp) (hs.1 d (by simp))
  have z4:=hz c (by simp) b (by simp) (hs.2.1 c (by simp))
  have z5:=hz d (by simp) b (by simp) (hs.2.1 d (by simp))
  have z6:=hz d (by simp) c (by simp) (hs.2.2.1 d (by simp))
  have d1:=hd a (by simp)
  have d2:=hd b (by simp)
  have d3:=hd c (by simp)
  have d4:=hd d (by simp)
  have e:Qaj 4 [[A a a,A a b,A a c,A a d],[A b a,A b b,A b c,A b d],[A c a,A c b,A c c,A c d],[A d a,A d b,A d c,A d d]]=A a a*(A b b*(A c c*A d d)):=by simp [Qaj,woc,ge,sg,Qck,z1,z2,z3,z4,z5,z6]
  show Qaj 4 [[A a a,A a b,A a c,A a d],[A b a,A b b,A b c,A b d],[A c a,A c b,A c c,A c d],[A d a,A d b,A d c,A d d]]≠0
  rw [e]
  exact Int.mul_ne_zero d1 (Int.mul_ne_zero d2 (Int.mul_ne_zero d3 d4))
def mnr (M:Tb) (I J:List Nat):Tb:=I.map fun i=>res J (M.getD i [])
def Qws (n:Nat) (I:List Nat):Prop:=I.Pairwise (· < ·)∧∀ i∈I,i<n
theorem Qk2 (n:Nat) (L:List Nat) (nd:L.Nodup) (hL:∀ i∈L,i<n):Qws n ((List.range n).filter fun c=>L.contains c)∧((List.range n).filter fun c=>L.contains c).Perm L:=by
 refine ⟨⟨List.pairwise_lt_range.sublist List.filter_sublist,fun i hi=>Zb9.mp (Zdf.mp hi).1⟩,?_⟩
 refine (List.perm_ext_iff_of_nodup (List.nodup_range.sublist List.filter_sublist) nd).mpr fun a=>?_
 rw [Zdf,Zb9]
 constructor
 ·rintro ⟨_,h⟩
  simpa using h
 ·intro h
  exact ⟨hL a h,by simpa using h⟩
section
variable {n:Nat} {M:Tb} (hM:Shp n M) (h4:n≤4) {ln:List Int→Option (List Int)} (hl:Lin ln)
include hM hl
theorem Qjj:(∀ s∈Qcf ln M,Cl n M s∧¬ isZ s)∧(∀ r∈M,Cl n (Qcf ln M) r)∧(Qcf ln M).Pairwise (fun s t=>ge t (ld s)=0):=by
 obtain ⟨a,b⟩:=Quq hl (n:=n) M [] [] hM.row (fun r hr=>(nomatch hr)) (fun r hr=>(nomatch hr)) (fun r hr=>(nomatch hr))
 exact ⟨a,b,Qus hl (n:=n) M [] hM.row (fun r hr=>(nomatch hr)) .nil⟩
theorem Q3r {k:Nat} (hk:(Qcf ln M).length<k) (k4:k≤4) {I J:List Nat} (hI:I.length=k) (hJ:J.length=k) (hi:∀ i∈I,i<n):Qaj k (mnr M I J)=0:=by
 obtain ⟨a,b,_⟩:=Qjj hM hl
 have hS:Lk n (Qcf ln M):=fun s hs=>(a s hs).1.1
 have v:=Vn.few (by omega) k4 (Qpr hJ (Qcf ln M)) (by rw [Zd];exact hk)
 have w:=Qz9 hS (by omega) k4 hJ v M b
 refine w _ (by unfold mnr;rw [Zd,hI]) fun r hr=>?_
 obtain ⟨i,fH,rfl⟩:=Z7.mp hr
 have:i<M.length:=by rw [hM.len];exact hi i fH
 rw [Zh,Zc this]
 exact List.mem_map_of_mem (Zco this)
theorem Q0e:((Qcf ln M).map ld).Nodup:=by
 obtain ⟨a,_,c⟩:=Qjj hM hl
 unfold List.Nodup
 rw [List.pairwise_map]
 refine c.imp_of_mem fun {s t} hs ht h e=>?_
 have:=(Qk1 (a t ht).2).2.1
 rw [←e] at this
 exact this h
theorem Qut:(Qcf ln M).length≤n:=by
 obtain ⟨a,_,_⟩:=Qjj hM hl
 have:=Qlf ((Qcf ln M).map ld) (List.range n) (Q0e hM hl) fun x hx=>by
  obtain ⟨s,hs,rfl⟩:=Z7.mp hx
  have:=(Qk1 (a s hs).2).1
  rw [(a s hs).1.1] at this
  exact Zb9.mpr this
 rwa [Zd,Zb0] at this
include h4
theorem Q0f (h1:1≤(Qcf ln M).length):∃ I J,Qws n I∧Qws n J∧I.length=(Qcf ln M).length∧J.length=(Qcf ln M).length∧Qaj (Qcf ln M).length (mnr M I J)≠0:=by
 obtain ⟨a,b,_⟩:=Qjj hM hl
 have rl:=Qut hM hl
 have nd:=Q0e hM hl
 have lt:∀ i∈(Qcf ln M).map ld,i<n:=fun x hx=>by
  obtain ⟨s,hs,rfl⟩:=Z7.mp hx
  have:=(Qk1 (a s hs).2).1
  rwa [(a s hs).1.1] at this
 obtain ⟨rJ,pJ⟩:=Qk2 n _ nd lt
 generalize hJ:((List.range n).filter fun c=>((Qcf ln M).map ld).contains c)=J at rJ pJ
 have lJ:J.length=(Qcf ln M).length:=by rw [pJ.length_eq,Zd]
 have ex:∀ c,∃ s,c∈J→s∈Qcf ln M∧ld s=c:=fun c=>by
  by_cases h:c∈J
  ·obtain ⟨s,hs,e⟩:=Z7.mp (pJ.mem_iff.mp h)
   exact ⟨s,fun _=>⟨hs,e⟩⟩
  ·exact ⟨[],fun z=>absurd z h⟩
 have F0:∃ f:Nat→List Int,∀ c,c∈J→f c∈Qcf ln M∧ld (f c)=c:=⟨fun c=>Classical.choose (ex c),fun c=>Classical.choose_spec (ex c)⟩
 obtain ⟨f,hf⟩:=F0
 have td:=Q3q (J:=J) (A:=fun c d=>ge (f c) d) rJ.1 (fun c hc d _ hd=>by
  obtain ⟨m,e⟩:=hf c hc
  exact (Qk1 (a _ m).2).2.2 d (by rw [e];exact hd)) (fun c hc=>by
  obtain ⟨m,e⟩:=hf c hc
  have:=(Qk1 (a _ m).2).2.1
  rwa [e] at this) (by omega) (by omega)
 rw [lJ] at td
 have nv:¬ Vn (Qcf ln M).length ((Qcf ln M).map (res J)):=fun v=>td (v _ (by rw [Zd,lJ]) fun r hr=>by
  obtain ⟨c,hc,rfl⟩:=Z7.mp hr
  exact Z7.mpr ⟨f c,(hf c hc).1,rfl⟩)
 have nm:¬ Vn (Qcf ln M).length (M.map (res J)):=fun v=>nv (Qz9 hM.row h1 (by omega) lJ v _ fun s hs=>(a s hs).1)
 obtain ⟨L,gf,ko,ik⟩:∃ L:Tb,L.length=(Qcf ln M).length∧(∀ r∈L,r∈M.map (res J))∧Qaj (Qcf ln M).length L≠0:=by
  refine Zae fun z=>nm fun L h1 h2=>Zae fun w=>z ⟨L,h1,h2,w⟩
 have jp:∀ L:Tb,(∀ r∈L,r∈M.map (res J))→∃ I:List Nat,(∀ i∈I,i<n)∧mnr M I J=L:=by
  intro L
  induction L with
  | nil=>exact fun _=>⟨[],fun i hi=>(nomatch hi),rfl⟩
  | cons r L ih =>
   intro h
   obtain ⟨I,i1,i2⟩:=ih fun x hx=>h x (.tail _ hx)
   obtain ⟨m,hm,rfl⟩:=Z7.mp (h r (.head _))
   obtain ⟨i,hi,rfl⟩:=List.getElem_of_mem hm
   refine ⟨i::I,fun j hj=>?_,?_⟩
   ·rcases Z9.mp hj with rfl | z
    ·rw [←hM.len];exact hi
    ·exact i1 j z
   ·show res J (M.getD i [])::mnr M I J=_
    rw [i2,Zh,Zc hi]
    rfl
 obtain ⟨I,iI,rfl⟩:=jp L ko
 have lI:I.length=(Qcf ln M).length:=by unfold mnr at gf;rwa [Zd] at gf
 have shp:Shp (Qcf ln M).length (mnr M I J):=⟨gf,fun r hr=>by
  obtain ⟨i,_,rfl⟩:=Z7.mp hr
  exact Qpq lJ _⟩
 have kh:I.Nodup:=by
  have:=Q0d h1 (by omega) shp ik
  unfold mnr List.Nodup at this
  rw [List.pairwise_map] at this
  exact this.imp fun {x y} h e=>h (by rw [e])
 obtain ⟨rI,pI⟩:=Qk2 n I kh iI
 refine ⟨_,J,rI,rJ,by rw [pI.length_eq,lI],lJ,?_⟩
 exact Qro h1 (by omega) (pI.symm.map _) [] shp ik
end
def gF (d:Int) (r:List Int):Int:=r.foldl (fun d x=>((Int.gcd d x:Nat):Int)) d
theorem Q0g:∀ (r:List Int) (d:Int),gF d r ∣ d∧∀ x∈r,gF d r ∣ x
 | [],d=>⟨Int.dvd_refl _,fun x h=>by cases h⟩
 | y::r,d=>by
  obtain ⟨h1,h2⟩:=Q0g r ((Int.gcd d y:Nat):Int)
  have e:gF d (y::r)=gF ((Int.gcd d y:Nat):Int) r:=rfl
  rw [e]
  refine ⟨Int.dvd_trans h1 (Int.gcd_dvd_left ..),fun x hx=>?_⟩
  rcases Z9.mp hx with rfl | hx
  ·exact Int.dvd_trans h1 (Int.gcd_dvd_right ..)
  ·exact h2 x hx
theorem Q0h {N:Nat}:∀ (r:List Int) (d:Int),d.natAbs<N→(∀ x∈r,x.natAbs<N)→(gF d r).natAbs<N
 | [],d,h,_=>h
 | y::r,d,h,hr=>by
  have e:gF d (y::r)=gF ((Int.gcd d y:Nat):Int) r:=rfl
  rw [e]
  refine Q0h r _ ?_ fun x hx=>hr x (.tail _ hx)
  rw [Int.natAbs_natCast]
  have hy:=hr y (.head _)
  rw [Int.gcd_eq_natAbs_gcd_natAbs]
  by_cases z:y.natAbs=0
  ·rw [z,Nat.gcd_zero_right];exact h
  ·exact Nat.lt_of_le_of_lt (Nat.gcd_le_right _ (by omega)) hy
def dvr (r:List Int):Int:=if ge r (ld r)<0 then -gF 0 r else gF 0 r
theorem Qpt (r:List Int):∀ x∈r,dvr r ∣ x:=fun x hx=>by
 have h:=(Q0g r 0).2 x hx
 unfold dvr
 split
 ·exact Int.neg_dvd.mpr h
 ·exact h
theorem Qjk {r:List Int} {j:Nat} (h:j<r.length):ge r j∈r:=by
 unfold ge
 rw [Zh,Zc h]
 exact Zco h
theorem Qpu (r:List Int):ld r<r.length↔¬ isZ r:=by
 constructor
 ·intro h z
  have:=List.findIdx_getElem (p:=nzI) (xs:=r) (w:=h)
  have e:=z _ (Zco h)
  unfold ld at e
  rw [e] at this
  exact absurd this (by decide)
 ·exact fun h=>(Qk1 h).1
theorem Qtf {r:List Int} (h:ld r<r.length):dvr r≠0:=fun z=>by
 have h1:=Qpt r _ (Qjk h)
 rw [z] at h1
 exact (Qk1 ((Qpu r).mp h)).2.1 (Int.zero_dvd.mp h1)
theorem Q9p {N:Nat} (h0:0<N) {r:List Int} (h:∀ x∈r,x.natAbs<N):(dvr r).natAbs<N:=by
 have:=Q0h r 0 (by exact h0) h
 unfold dvr
 split
 ·rw [Int.natAbs_neg];exact this
 ·exact this
noncomputable def lnR (r:List Int):Option (List Int):=if ld r<r.length then some (r.map fun x=>x.fdiv (dvr r)) else none
theorem Qm3:Lin lnR where
 no:=fun r=>by
  unfold lnR
  split
  ·rename_i h
   exact ⟨fun z=>(nomatch z),fun z=>absurd z ((Qpu r).mp h)⟩
  ·rename_i h
   exact ⟨fun _=>Zae fun z=>h ((Qpu r).mpr z),fun _=>rfl⟩
 yes:=fun r l e=>by
  unfold lnR at e
  split at e
  ·rename_i h
   cases e
   refine ⟨dvr r,Qtf h,?_⟩
   rw [Zb8]
   conv=>lhs;rw [←List.map_id r]
   apply Zbw
   intro x hx
   show x=dvr r*x.fdiv (dvr r)
   exact (Int.mul_fdiv_cancel' (Qpt r x hx)).symm
  ·cases e
theorem Qad7 {N:Nat} {x g:Int} (hg:g≠0) (hd:g ∣ x) (hx:x.natAbs<N):(x.fdiv g).natAbs<N:=by
 obtain ⟨c,rfl⟩:=hd
 rw [Int.mul_fdiv_cancel_left _ hg]
 rw [Int.natAbs_mul] at hx
 have:1*c.natAbs≤g.natAbs*c.natAbs:=Nat.mul_le_mul_right _ (by omega)
 omega
theorem Qad8 {N:Nat} {r l:List Int} (h:∀ x∈r,x.natAbs<N) (e:lnR r=some l):l.length=r.length∧∀ x∈l,x.natAbs<N:=by
 unfold lnR at e
 split at e
 ·rename_i z
  cases e
  refine ⟨Zd ..,fun x hx=>?_⟩
  obtain ⟨y,hy,rfl⟩:=Z7.mp hx
  exact Qad7 (Qtf z) (Qpt r y hy) (h y hy)
 ·cases e
end My
set_option maxHeartbeats 8000000
namespace My
def sgw (m j:Nat):Int:=1-2*(((m:Int)+(j:Int))%2)
noncomputable def woR:Nat→Tb→Int
 | 0,_=>1
 | m+1,M=>Qck (fun j=>ge (M.getD m []) j*sgw m j*woR m (woc (M.take m) j)) (m+1)
theorem Quu {n:Nat} {M:Tb} (h:Shp n M) (h1:1≤n) (h4:n≤4):woR n M=Qaj n M:=by
 refine Qm1 (P:=fun n M=>woR n M=Qaj n M) ?_ ?_ ?_ ?_ h h1 h4
 all_goals (intros;simp [woR,Qaj,Qck,sg,sgw,ge,woc];try grind)
end My
set_option maxHeartbeats 4000000
namespace My
open PySem L2
abbrev cfn (k:Nat):CF:=evF (Qi4 ds) k
abbrev Qf (r:List Int):T:=.tup (r.map .int)
abbrev Q1 (M:Tb):T:=.tup (M.map Qf)
structure Sq (n:Nat) (M:Tb):Prop where
 len:M.length=n
 row:∀ r∈M,r.length=n
 bd:∀ r∈M,∀ x∈r,(x:Int).natAbs≤1000000000000
theorem Sq.shp {n:Nat} {M:Tb} (h:Sq n M):Shp n M:=⟨h.len,h.row⟩
def whole:T→Bool
 | .int _=>true
 | _=>false
def nc:T→Bool
 | .clo _ _=>false
 | _=>true
theorem Qtg (k:Nat) (t:T) (h:nc t=true:=by rfl):cfn (k+1) 0 [.fz t]=.ok (.fz (.bl (whole t))) [.non]:=by cases t <;> first | (cases h;done) | rfl
theorem Qk3 (k:Nat) (t:T) (h:nc t=true:=by rfl):cfn (k+1) 16 [.fz t]=.ok (.fz (.bl (whole t))) [.non]:=by cases t <;> first | (cases h;done) | rfl
theorem Q0i (k:Nat) (r:List Int) (hr:r.length≤1000):cfn (k+2) 1 [.fz (Qf r),.fz (.int r.length)]=.ok (.fz (.bl true)) [.non,.non]:=by
 have ak:evE (cfn (k+1)) (.comp (.seq (.var 0)) [none] (.nm 0) .nil (.call 0 (.cons (.var 0) .nil))) [.fz (Qf r),.fz (.int r.length)]=.ok (.ow (.lst ((r.map T.int).map fun _=>T.bl true))) [.fz (Qf r),.fz (.int r.length)] :=
  Qco (rest:=[]) rfl rfl rfl rfl (fun x hx=>by
   obtain ⟨i,_,rfl⟩:=Z7.mp hx
   exact ⟨.fz (.bl true),rfl,rfl⟩) (by rw [Zd];omega)
 show Qb4 (cfn (k+1)) ⟨2,2,Qg7⟩ _=_
 rw [Qbn rfl]
 show Qcp _ (exS _ Qg7 [.fz (Qf r),.fz (.int r.length)])=_
 simp only [Qad,Qaw,Qic,Qdc,Qfx,Qm,Q6,Qb,Q0,Qi8,Qe7,cont,Qb2,Qdg,Z8,Zy,Qaq,Zl,Qv,yBl,Qfm,Z3,yOr,Qbb,Qb5,Qk,yC1,Qq,yC2,yBi,Qb1,Qao,Out.opt,ub2,Zd,Qa8,Qd,Qa7,Qa6,Qa5,uc2,Option.map,Qa1,Zan,yB,Qae,yIf,Qch,Qbp,Qbd,ak,ub3,Qui,Qzw,Qcj,Qar,Qbc,Qav,Qa0,Q4]
theorem Qwt (k:Nat) {n:Nat} {M:Tb} (h:Shp n M) (h1:1≤n) (h4:n≤4):cfn (k+3) 2 [.fz (Q1 M)]=.ok (.fz (.bl true)) [.non]:=by
 have hl:=h.len
 have ak:evE (cfn (k+2)) (.comp (.seq (.var 0)) [none,some 0] (.nm 0) .nil (.call 1 (.cons (.var 0) (.cons (.bi .len (.cons (.var 1) .nil)) .nil)))) [.fz (Q1 M)]=.ok (.ow (.lst ((M.map Qf).map fun _=>T.bl true))) [.fz (Q1 M)] :=
  Qco (rest:=[.fz (Q1 M)]) rfl rfl rfl rfl (fun x hx=>by
   obtain ⟨r,hr,rfl⟩:=Z7.mp hx
   have kA:=h.row r hr
   have q:=Q0i k r (by omega)
   rw [show ((r.length:Nat):Int)=(M.length:Nat) by omega] at q
   refine ⟨.fz (.bl true),?_,rfl⟩
   simp only [Qab,Qk,Qm,Q6,Qb,Q0,yC1,Qb5,Qd,Qq,yC2,yBi,Qb1,Qao,cont,Out.opt,ub2,Zd,Qx,Qu,Qaa,Qw,Qak,Q9,q,Qay,Ql,Qz,L2.Qj,Option.map,Zl]) (by rw [Zd];omega)
 show Qb4 (cfn (k+2)) ⟨1,1,Qf1⟩ _=_
 rw [Qbn rfl]
 show Qcp _ (exS _ Qf1 [.fz (Q1 M)])=_
 have c1:¬ ((M.length:Int)<1):=by omega
 have c2:¬ (4<(M.length:Int)):=by omega
 simp only [Qad,Qaw,Qic,Qdc,Qfx,Qm,Q6,Qb,Q0,Qi8,Qe7,cont,Qb2,Qdg,Z8,Zy,Qaq,Zl,Qv,yBl,Qfm,Z3,yOr,Qbb,Qb5,Qk,yC1,Qq,yC2,yBi,Qb1,Qao,Out.opt,ub2,Zd,Qa8,Qag,Qa7,Qa6,Qa5,uc3,c1,Zap,uc5,c2,yB,Qae,yIf,Qch,Qbp,Qbd,ak,ub3,Option.map,Qui,Qzw,Qcj,Qar,Qbc,Qav,Qa0,Q4]
noncomputable def gd:Nat→T→Bool
 | _,.clo _ _=>false
 | n+1,.tup ts=>decide (ts.length≤1000)&&ts.all (gd n)
 | n+1,.lst ts=>decide (ts.length≤1000)&&ts.all (gd n)
 | 0,.tup _=>false
 | 0,.lst _=>false
 | _,_=>true
theorem Qoo {n:Nat} {t:T} (h:gd n t=true):nc t=true:=by
 cases t <;> first | rfl | (cases n <;> cases h)
theorem Qpv {n:Nat} {ts:List T} (h:gd (n+1) (.tup ts)=true):ts.length≤1000∧∀ x∈ts,gd n x=true:=by
 have h:(decide (ts.length≤1000)&&ts.all (gd n))=true:=h
 rw [Zt,Zav,Zah] at h
 exact h
theorem Qek {n:Nat} {ts:List T} (h:ts.length≤1000) (h2:∀ x∈ts,gd n x=true):gd (n+1) (.tup ts)=true∧gd (n+1) (.lst ts)=true:=by
 have q:(decide (ts.length≤1000)&&ts.all (gd n))=true:=by rw [Zt,Zav,Zah];exact ⟨h,h2⟩
 exact ⟨q,q⟩
def Qth:T→Bool
 | .tup _=>true
 | _=>false
def Qha (n:Nat):T→Bool
 | .tup ts=>decide (ts.length=n)&&ts.all whole
 | _=>false
noncomputable def Qf2:T→Bool
 | .tup ts=>decide (1≤ts.length∧ts.length≤4)&&ts.all (Qha ts.length)
 | _=>false
theorem Q9q (k:Nat) (n:Nat) {t:T} (hn:nc t=true) (ht:Qth t=false):cfn (k+2) 1 [.fz t,.fz (.int n)]=.ok (.fz (.bl false)) [.non,.non]:=by
 cases t <;> first | (cases hn;done) | (cases ht;done) | rfl
theorem Q9r (k:Nat) (n:Nat) {m:Nat} {t:T} (hg:gd (m+1) t=true):cfn (k+2) 1 [.fz t,.fz (.int n)]=.ok (.fz (.bl (Qha n t))) [.non,.non]:=by
 cases hi:Qth t with
 | false =>
  have e:=Q9q k n (Qoo hg) hi
  cases t <;> first | exact e | (cases hi;done)
 | true =>
  cases t <;> first | (cases hi;done) | skip
  rename_i ts
  obtain ⟨hl,hx⟩:=Qpv hg
  show Qb4 (cfn (k+1)) ⟨2,2,Qg7⟩ _=_
  rw [Qbn rfl]
  show Qcp _ (exS _ Qg7 [.fz (.tup ts),.fz (.int n)])=_
  by_cases hn:ts.length=n
  ·have c1:(ts.length:Int)=(n:Int):=by omega
   have ak:evE (cfn (k+1)) (.comp (.seq (.var 0)) [none] (.nm 0) .nil (.call 0 (.cons (.var 0) .nil))) [.fz (.tup ts),.fz (.int n)]=.ok (.ow (.lst (ts.map fun x=>T.bl (whole x)))) [.fz (.tup ts),.fz (.int n)] :=
    Qco (rest:=[]) rfl rfl rfl rfl (fun x bC=>by
     have q:=Qtg k x (Qoo (hx x bC))
     refine ⟨.fz (.bl (whole x)),?_,rfl⟩
     simp only [Qab,Qk,Qm,Q6,Qb,Q0,yC1,Qq,yC2,Qx,Qu,Qaa,Qw,Qak,Q9,q,Qay,Ql,Qz,L2.Qj,Option.map,Zl]) (by omega)
   have ea:(ts.map whole).all id=ts.all whole:=by rw [all_map];rfl
   have er:Qha n (.tup ts)=ts.all whole:=by show (decide (ts.length=n)&&_)=_;rw [Zbh hn,Zcn]
   simp only [Qad,Qaw,Qic,Qdc,Qfx,Qm,Q6,Qb,Q0,Qi8,Qe7,cont,Qb2,Qdg,Z8,Zy,Qaq,Zl,Qv,yBl,Qfm,Z3,yOr,Qbb,Qb5,Qk,yC1,Qq,yC2,yBi,Qb1,Qao,Out.opt,ub2,c1,Qa8,Qd,Qa7,Qa6,Qa5,uc2,Option.map,Qa1,Zan,yB,Qae,yIf,Qch,Qbp,Qbd,ak,ub3,Qfz,ea,Qcj,Qar,Qbc,Qav,Qa0,Q4,er]
  ·have c1:¬ (ts.length:Int)=(n:Int):=by omega
   have er:Qha n (.tup ts)=false:=by show (decide (ts.length=n)&&_)=_;rw [Zx hn,Zbv]
   simp only [Qad,Qaw,Qic,Qdc,Qfx,Qm,Q6,Qb,Q0,Qi8,Qe7,cont,Qb2,Qdg,Z8,Zy,Qaq,Zl,Qv,yBl,Qfm,Z3,yOr,Qbb,Qb5,Qk,yC1,Qq,yC2,yBi,Qb1,Qao,Out.opt,ub2,Qa8,Qd,Qa7,Qa6,Qa5,uc2,Option.map,Qa1,c1,Zap,yB,Qae,yIf,Qbd,Qnc,Qcj,Qmi,Qar,Qbc,Qav,Qa0,Q4,er]
theorem Q3s (k:Nat) {t:T} (hn:nc t=true) (ht:Qth t=false):cfn (k+3) 2 [.fz t]=.ok (.fz (.bl false)) [.non]:=by
 cases t <;> first | (cases hn;done) | (cases ht;done) | rfl
theorem Q3t (k:Nat) {m:Nat} {t:T} (hg:gd (m+2) t=true):cfn (k+3) 2 [.fz t]=.ok (.fz (.bl (Qf2 t))) [.non]:=by
 cases hi:Qth t with
 | false =>
  have e:=Q3s k (Qoo hg) hi
  cases t <;> first | exact e | (cases hi;done)
 | true =>
  cases t <;> first | (cases hi;done) | skip
  rename_i ts
  obtain ⟨hl,hx⟩:=Qpv hg
  show Qb4 (cfn (k+2)) ⟨1,1,Qf1⟩ _=_
  rw [Qbn rfl]
  show Qcp _ (exS _ Qf1 [.fz (.tup ts)])=_
  have ak:evE (cfn (k+2)) (.comp (.seq (.var 0)) [none,some 0] (.nm 0) .nil (.call 1 (.cons (.var 0) (.cons (.bi .len (.cons (.var 1) .nil)) .nil)))) [.fz (.tup ts)]=.ok (.ow (.lst (ts.map fun x=>T.bl (Qha ts.length x)))) [.fz (.tup ts)] :=
   Qco (rest:=[.fz (.tup ts)]) rfl rfl rfl rfl (fun x bC=>by
    have q:=Q9r k ts.length (hx x bC)
    refine ⟨.fz (.bl (Qha ts.length x)),?_,rfl⟩
    simp only [Qab,Qk,Qm,Q6,Qb,Q0,yC1,Qb5,Qd,Qq,yC2,yBi,Qb1,Qao,cont,Out.opt,ub2,Qx,Qu,Qaa,Qw,Qak,Q9,q,Qay,Ql,Qz,L2.Qj,Option.map,Zl]) (by omega)
  have ea:(ts.map (Qha ts.length)).all id=ts.all (Qha ts.length):=by rw [all_map];rfl
  by_cases h1:(ts.length:Int)<1
  ·have er:Qf2 (.tup ts)=false:=by show (decide (1≤ts.length∧ts.length≤4)&&_)=_;rw [Zx (by omega),Zbv]
   simp only [Qad,Qaw,Qic,Qdc,Qfx,Qm,Q6,Qb,Q0,Qi8,Qe7,cont,Qb2,Qdg,Z8,Zy,Qaq,Zl,Qv,yBl,Qfm,Z3,yOr,Qbb,Qb5,Qk,yC1,Qq,yC2,yBi,Qb1,Qao,Out.opt,ub2,Qa8,Qag,Qa7,Qa6,Qa5,uc3,h1,Zan,yB,Qae,yIf,Qbd,Qnc,Qcj,Qmi,Qar,Qbc,Qav,Qa0,Q4,Option.map,er]
  ·by_cases h4:(4:Int)<(ts.length:Int)
   ·have er:Qf2 (.tup ts)=false:=by show (decide (1≤ts.length∧ts.length≤4)&&_)=_;rw [Zx (by omega),Zbv]
    simp only [Qad,Qaw,Qic,Qdc,Qfx,Qm,Q6,Qb,Q0,Qi8,Qe7,cont,Qb2,Qdg,Z8,Zy,Qaq,Zl,Qv,yBl,Qfm,Z3,yOr,Qbb,Qb5,Qk,yC1,Qq,yC2,yBi,Qb1,Qao,Out.opt,ub2,Qa8,Qag,Qa7,Qa6,Qa5,uc3,h1,Zap,uc5,h4,Zan,yB,Qae,yIf,Qbd,Qnc,Qcj,Qmi,Qar,Qbc,Qav,Qa0,Q4,Option.map,er]
   ·have er:Qf2 (.tup ts)=ts.all (Qha ts.length):=by show (decide (1≤ts.length∧ts.length≤4)&&_)=_;rw [Zbh (by omega),Zcn]
    simp only [Qad,Qaw,Qic,Qdc,Qfx,Qm,Q6,Qb,Q0,Qi8,Qe7,cont,Qb2,Qdg,Z8,Zy,Qaq,Zl,Qv,yBl,Qfm,Z3,yOr,Qbb,Qb5,Qk,yC1,Qq,yC2,yBi,Qb1,Qao,Out.opt,ub2,Qa8,Qag,Qa7,Qa6,Qa5,uc3,h1,Zap,uc5,h4,yB,Qae,yIf,Qch,Qbp,Qbd,ak,ub3,Option.map,Qfz,ea,Qcj,Qar,Qbc,Qav,Qa0,Q4,er]
theorem Qjl (k:Nat) {n:Nat} {M:Tb} (h:Sq n M) (h1:1≤n) (h4:n≤4):cfn (k+4) 3 [.fz (Q1 M)]=.ok (.fz .non) [.non]:=by
 have e1:=Qwt k h.shp h1 h4
 show Qb4 (cfn (k+3)) ⟨1,1,Qdo⟩ _=_
 rw [Qbn rfl]
 show Qcp _ (exS _ Qdo [.fz (Q1 M)])=_
 simp only [Qaw,Qdc,Qab,Qk,Qm,Q6,Qb,Q0,yC1,Qq,yC2,Qx,Qu,Qaa,Qw,Qak,Q9,e1,Qay,Ql,Qz,L2.Qj,Option.map,Zl,Qv,yBl,Qfm,Z3,Qae,yIf,Qch,Q9c,Qa0,Q4]
theorem Qjm (k:Nat) {m:Nat} {t:T} (hg:gd (m+2) t=true) (hb:Qf2 t=false):cfn (k+4) 3 [.fz t]=.xn ⟨0,[]⟩ [.non]:=by
 have r0:∀ s ρ,Qzy 0 [.fz (.str s)] ρ=.xn ⟨0,[]⟩ ρ:=fun _ _=>rfl
 have e:=Q3t k hg
 rw [hb] at e
 show Qb4 (cfn (k+3)) ⟨1,1,Qdo⟩ _=_
 rw [Qbn rfl]
 show Qcp _ (exS _ Qdo [.fz t])=_
 simp only [Qaw,Qdc,Qab,Qk,Qm,Q6,Qb,Q0,yC1,Qq,yC2,Qx,Qu,Qaa,Qw,Qak,Q9,e,Qay,Ql,Qz,L2.Qj,Option.map,Zl,Qv,yBl,Qfm,Z8,Qae,yIf,Q3l,Que,r0,Q9f,Q4,Qzx]
theorem Qk4 {r:List Int} {j:Nat} (h:j<r.length):atI (r.map T.int) (j:Int)=some (.int (ge r j)):=by
 refine Qf3 ?_
 rw [Zab,Zc h]
 show some (T.int _)=some (T.int _)
 congr 2
 unfold ge
 rw [Zh,Zc h,Zbx]
def jOf:T→Nat
 | .int i=>i.toNat
 | _=>0
def iOf:T→List Int
 | .tup ts=>ts.map fun t=>match t with | .int i=>i | _=>0
 | _=>[]
theorem Qlg (r:List Int):iOf (Qf r)=r:=by
 show (r.map T.int).map _=r
 rw [Zb8]
 conv=>rhs;rw [←List.map_id r]
 rfl
theorem Q0j (j:Nat):jOf (.int (0+(j:Int)))=j:=by
 show (0+(j:Int)).toNat=j
 rw [Int.zero_add,Int.toNat_natCast]
theorem Q9s {f:Nat→T} (n:Nat):((Qbh 0 n).map fun x=>f (jOf x))=(List.range n).map f:=by
 unfold Qbh
 rw [Zb8]
 apply Zbw
 intro j _
 show f (jOf (.int (0+(j:Int))))=f j
 rw [Q0j]
theorem Quv {c:List Int} (h:∀ x∈c,(x:Int).natAbs≤1000000000000) (k:Nat):(ge c k).natAbs≤1000000000000:=by
 unfold ge
 rw [Zh]
 cases e:c[k]? with
 | none=>decide
 | some v=>exact h v (Z1 e)
def Seq (M:Tb) (t:T):Prop:=t=.tup (M.map Qf)∨t=.lst (M.map Qf)
theorem Q0k (xs:List T) (k:Nat):Qce xs none (some (k:Int))=xs.take k:=by
 unfold Qce
 rw [HT.sIx_none,HT.sIx_nat,List.drop_zero,Nat.sub_zero]
 by_cases h:k≤xs.length
 ·rw [Nat.min_eq_left h]
 ·rw [Nat.min_eq_right (by omega),List.take_length,List.take_of_length_le (by omega)]
theorem Qrs (xs:List T) (i:Nat):Qce xs (some ((i:Int)+1)) none=xs.drop (i+1):=by
 unfold Qce
 rw [show ((i:Int)+1)=((i+1:Nat):Int) by omega,HT.sIx_none,HT.sIx_nat]
 by_cases h:i+1≤xs.length
 ·rw [Nat.min_eq_left h,List.take_of_length_le (by rw [Zbc];omega)]
 ·rw [Nat.min_eq_right (by omega),List.drop_eq_nil_of_le (Zk _),List.drop_eq_nil_of_le (by omega),List.take_nil]
theorem cut1 (x:T) (xs:List T):Qce (x::xs) (some 1) none=xs:=by
 unfold Qce HT.sIx
 simp
theorem Seq.walk {M:Tb} {t:T} (h:Seq M t) {cf:CF} {a:Slot}:evW cf (.seq (.var 0)) [.fz t,a]=.ok (M.map Qf,none) [.fz t,a]:=by
 rcases h with rfl | rfl <;> rfl
theorem Quw {r:List Int} {j:Nat} (hr:r.length≤1000):opB .add (.tup (Qce (r.map T.int) none (some (j:Int)))) (.tup (Qce (r.map T.int) (some ((j:Int)+1)) none))=some (.fz (Qf (r.take j++r.drop (j+1)))):=by
 rw [Q0k,Qrs,←map_take,←map_drop]
 show (if _ then _ else _)=_
 rw [Zf (by rw [Zd,Zd,Za4,Zbc];omega),←Zck]
noncomputable def Q3u (j:Nat):T→T
 | .tup ts=>Qf (((iOf (.tup ts)).take j)++((iOf (.tup ts)).drop (j+1)))
 | t=>t
theorem Q5p (k:Nat) {M:Tb} {t:T} (ht:Seq M t) (hz:M.length≤1000) (hr:∀ r∈M,r.length≤1000) (j:Nat):cfn (k+1) 11 [.fz t,.fz (.int j)]=.ok (.ow (.lst ((woc M j).map Qf))) [.non,.non]:=by
 have ak:evE (cfn k) (.comp (.seq (.var 0)) [none,some 1] (.nm 0) .nil (.bin .add (.slc (.var 0) .nil (.cons (.var 1) .nil)) (.slc (.var 0) (.cons (.bin .add (.var 1) (.int 1)) .nil) .nil))) [.fz t,.fz (.int j)]=.ok (.ow (.lst ((M.map Qf).map (Q3u j)))) [.fz t,.fz (.int j)] :=
  Qco (rest:=[.fz (.int j)]) ht.walk rfl rfl rfl (fun x hx=>by
   obtain ⟨r,hm,rfl⟩:=Z7.mp hx
   have o:=Quw (j:=j) (hr r hm)
   refine ⟨.fz (Qf (r.take j++r.drop (j+1))),?_,?_⟩
   ·simp only [Qcg,Qi9,Qm,Q6,Qb,Q0,Qni,Qq,Qnh,Qh3,Qgx,Qk,Qd,yC1,yC2,Qng,Qh2,Qnf,cont,Out.opt,ui4,Qcc,Qag,Qcb,Qca,uo1,o]
   ·show some (Qf (r.take j++r.drop (j+1)))=some (Qf ((iOf (Qf r)).take j++(iOf (Qf r)).drop (j+1)))
    rw [Qlg]) (by rw [Zd];omega)
 have em:(M.map Qf).map (Q3u j)=(woc M j).map Qf:=by
  unfold woc
  rw [Zb8,Zb8]
  apply Zbw
  intro r _
  show Qf ((iOf (Qf r)).take j++(iOf (Qf r)).drop (j+1))=Qf (r.take j++r.drop (j+1))
  rw [Qlg]
 rw [em] at ak
 show Qb4 (cfn k) ⟨2,2,Qdw⟩ _=_
 rw [Qbn rfl]
 show Qcp _ (exS _ Qdw [.fz t,.fz (.int j)])=_
 simp only [Qbd,ak,Qae,Qcj,Qar,Qbc,Qav,Qa0,Q4,Option.map]
theorem Q9t {m:Nat} {r0:List Int} {Ms:Tb} (h:Sq (m+1) (r0::Ms)) {j:Nat} (hj:j<m+1):Sq m (woc Ms j):=by
 have hl:=h.len
 rw [Ze] at hl
 unfold woc
 refine ⟨by rw [Zd];omega,fun r hr=>?_,fun r hr x hx=>?_⟩
 ·obtain ⟨s,hs,rfl⟩:=Z7.mp hr
  have:=h.row s (Z5 _ hs)
  rw [Zo,Za4,Zbc]
  omega
 ·obtain ⟨s,hs,rfl⟩:=Z7.mp hr
  refine h.bd s (Z5 _ hs) x ?_
  rcases Zad.mp hx with z | z
  ·exact Zbe z
  ·exact Zbn z
theorem Qti:∀ j:Nat,(sg j).natAbs=1
 | 0=>rfl
 | j+1=>by show (-sg j).natAbs=1;rw [Int.natAbs_neg,Qti j]
noncomputable abbrev Q3v:S:=(.seq (.setF 1 (.bin .add (.var 1) (.bin .mul (.bin .mul (.var 2) (.ix (.ix (.var 0) (.int 0)) (.var 3))) (.call 12 (.cons (.call 11 (.cons (.slc (.var 0) (.cons (.int 1) .nil) .nil) (.cons (.var 3) .nil))) .nil)))))
 (.setF 2 (.neg (.var 2))))
theorem Seq.len {M:Tb} {t:T} (h:Seq M t):Qgq .len [t]=some (.fz (.int M.length)):=by
 rcases h with rfl | rfl
 ·show some (PV.fz (.int (M.map Qf).length))=_;rw [Zd]
 ·show some (PV.fz (.int (M.map Qf).length))=_;rw [Zd]
theorem Qjn {i j:Int} (h:i.natAbs≤1000000000000):Qb9 i j=true:=by
 unfold Qb9
 simp only [Zb5,Zav]
 exact .inl (by omega)
theorem Q5q:∀ (m k:Nat) (M:Tb) (t:T),m≤1000→Seq M t→Sq m M→cfn (k+m+2) 12 [.fz t]=.ok (.fz (.int (Qaj m M))) [.non]
 | 0,k,M,t,hm,ht,h=>by
  have e:=ht.len
  rw [h.len] at e
  have e:Qgq .len [t]=some (.fz (.int 0)):=e
  show Qb4 (cfn (k+0+1)) ⟨1,4,Qb3⟩ _=_
  rw [Qbn rfl]
  show Qcp _ (exS _ Qb3 [.fz t,.un,.un,.un])=_
  have eb:evE (cfn (k+0+1)) (.bi .len (.cons (.var 0) .nil)) [.fz t,.un,.un,.un]=.ok (.fz (.int 0)) [.fz t,.un,.un,.un]:=by
   rcases ht with rfl | rfl <;> simp only [Qb5,Qk,Qm,Q6,Qb,Q0,yC1,Qq,yC2,yBi,Qb1,Qao,cont,Out.opt,e]
  simp only [Qad,Qaw,Qbb,eb,Q0,Qa8,Qag,Qa7,Qa6,cont,Qa5,uc1,Qa1,Zan,Qv,yBl,Qae,yIf,Qbd,Qcj,Qmi,Qar,Qbc,Qav,Qa0,Q4,Option.map,Qaj]
 | m+1,k,[],t,hm,ht,h=>by have:=h.len;cases this
 | m+1,k,r0::Ms,t,hm,ht,h=>by
  have hl:=h.len
  have fe:Ms.length=m:=by rw [Ze] at hl;omega
  have e:=ht.len
  rw [hl] at e
  have c0:¬ (((m+1:Nat):Int)=0):=by omega
  have c:m+1≤100000:=by omega
  have kG:=h.row r0 Zaj
  obtain ⟨ρ',ef,s3,_,rfl⟩:=Qey (fun j ρ=>∃ s3,Qas s3=true∧ρ=[.fz t,.fz (.int (Qck (fun j=>sg j*ge r0 j*Qaj m (woc Ms j)) j)),.fz (.int (sg j)),s3]) (tg:=.nm 3) (b:=exS (cfn (k+m+2)) Q3v) (xs:=Qbh 0 (m+1)) (n:=0) (ρ:=[.fz t,.fz (.int 0),.fz (.int 1),.un]) ⟨.un,rfl,rfl⟩ (by
   rintro j x ρ hx ⟨s3,o3,rfl⟩
   have hj:j<m+1:=by have:=(List.getElem?_eq_some_iff.mp hx).1;rwa [Qcd] at this
   rw [Qob hj] at hx
   cases hx
   rw [Zak,Int.zero_add]
   refine ⟨[.fz t,.fz (.int (Qck (fun j=>sg j*ge r0 j*Qaj m (woc Ms j)) j)),.fz (.int (sg j)),.fz (.int j)],_,(by cases s3 <;> first | rfl | cases o3),.inl ?_,.fz (.int j),rfl,rfl⟩
   have a1:=Qk4 (r:=r0) (j:=j) (by omega)
   have ew:=Q5p (k+m+1) (M:=Ms) (t:=.tup (Ms.map Qf)) (.inl rfl) (by omega) (fun r hr=>by have:=h.row r (Z5 _ hr);omega) j
   have fQ:=Q5p (k+m+1) (M:=Ms) (t:=.lst (Ms.map Qf)) (.inr rfl) (by omega) (fun r hr=>by have:=h.row r (Z5 _ hr);omega) j
   have ed:=Q5q m k (woc Ms j) (.lst ((woc Ms j).map Qf)) (by omega) (.inr rfl) (Q9t h hj)
   have m1:Qb9 (sg j) (ge r0 j)=true:=Qjn (by rw [Qti];decide)
   have m2:Qb9 (sg j*ge r0 j) (Qaj m (woc Ms j))=true:=Qjn (by rw [Int.natAbs_mul,Qti,Nat.one_mul];exact Quv (h.bd r0 Zaj) j)
   have a0:atI ((r0::Ms).map Qf) 0=some (Qf r0):=by rw [Z6];exact Q9d
   have c1:Qce ((r0::Ms).map Qf) (some 1) none=Ms.map Qf:=by rw [Z6];exact cut1 _ _
   show _=SO.nx [.fz t,.fz (.int (Qck (fun j=>sg j*ge r0 j*Qaj m (woc Ms j)) j+sg j*ge r0 j*Qaj m (woc Ms j))),.fz (.int (-sg j)),.fz (.int j)]
   generalize Qck (fun j=>sg j*ge r0 j*Qaj m (woc Ms j)) j=ps
   rcases ht with rfl | rfl
   ·generalize (r0::Ms).map Qf=L at a0 c1
    simp only [Qad,Qax,Qcg,Qm,Q6,Qd,Qb,Q0,Qcc,Qhv,Qg6,Qag,Qg5,Qg4,cont,Qg3,ui2,a0,a1,Qcb,Qca,Out.opt,uo5,m1,Zl,Qab,Qk,Qi9,Qni,yC1,Qq,yC2,Qnh,Qh3,Qgx,Qng,Qh2,Qnf,ui4,c1,Qx,Qu,Qaa,Qw,Qak,Q9,ew,Qay,Ql,Qz,L2.Qj,Option.map,ed,m2,uo1,Qae,Qbv,Qaz,frz,Q8,Qba,Ze,Zp,Nat.reduceAdd,Nat.reduceLT,List.set,Qbp,Qi7,Qne]
   ·have sl:Qyy (.lst ((r0::Ms).map Qf)) (some 1) none=some (.ow (.lst (Ms.map Qf))):=by rw [←c1];rfl
    generalize (r0::Ms).map Qf=L at a0 sl
    simp only [Qad,Qax,Qcg,Qm,Q6,Qd,Qb,Q0,Qcc,Qhv,Qg6,Qag,Qg5,Qg4,cont,Qg3,ui1,a0,ui2,a1,Qcb,Qca,Out.opt,uo5,m1,Zl,Qab,Qk,Qi9,Qni,yC1,Qq,yC2,Qnh,Qh3,Qgx,Qng,Qh2,Qnf,sl,Qx,Qu,Qaa,Qw,Qak,Q9,fQ,Qay,Ql,Qz,L2.Qj,Option.map,ed,m2,uo1,Qae,Qbv,Qaz,frz,Q8,Qba,Ze,Zp,Nat.reduceAdd,Nat.reduceLT,List.set,Qbp,Qi7,Qne])
  rw [Qcd,Zak] at ef
  have eb:∀ a b c,evE (cfn (k+m+2)) (.bi .len (.cons (.var 0) .nil)) [.fz t,a,b,c]=.ok (.fz (.int ((m+1:Nat):Int))) [.fz t,a,b,c]:=by
   intro a b c
   rcases ht with rfl | rfl <;> simp only [Qb5,Qk,Qm,Q6,Qb,Q0,yC1,Qq,yC2,yBi,Qb1,Qao,cont,Out.opt,e]
  show Qb4 (cfn (k+m+2)) ⟨1,4,Qb3⟩ _=_
  rw [Qbn rfl]
  show Qcp _ (exS _ Qb3 [.fz t,.un,.un,.un])=_
  have ed:Qaj (m+1) (r0::Ms)=Qck (fun j=>sg j*ge r0 j*Qaj m (woc Ms j)) (m+1):=rfl
  rw [ed]
  simp only [Qad,Qaw,Qbb,eb,Q0,Qa8,Qag,Qa7,Qa6,cont,Qa5,uc1,Qa1,c0,Zap,Qv,yBl,Qae,yIf,Qch,Qbp,Qax,Qbv,Qaz,frz,Q8,Qba,Ze,Zp,Nat.reduceAdd,Nat.reduceLT,Qd,Qb,List.set,Zl,Qdd,Qid,Qwh c,Qgr,ef,Qcu,Qbd,Qm,Q6,Qcj,Qar,Qbc,Qav,Qa0,Q4,Option.map]
open PySem L2
theorem Q3w {a b:Int} (h:b≠0):opB .mod (.int a) (.int b)=some (.fz (.int (a.fmod b))):=by
 show opN .mod a b=_
 unfold opN
 dsimp only
 by_cases c:0<b
 ·rw [Zf c,Int.fmod_eq_emod_of_nonneg a (by omega)]
 ·rw [Zg c,Zf (by omega)]
theorem Q3x {a b:Int} (h:b≠0) (hb:b.natAbs<2^330):opB .fdv (.int a) (.int b)=some (.fz (.int (a.fdiv b))):=by
 show opN .fdv a b=_
 unfold opN
 dsimp only
 by_cases c:0<b∧b.natAbs<2^64
 ·rw [Zf c,Int.fdiv_eq_ediv_of_nonneg a (by omega)]
 ·have hc:b≠0∧b.natAbs<2^400:=⟨h,by omega⟩
  rw [Zg c,Zf hc]
noncomputable def Eu (G:Nat) (i:Nat) (a b:Int):Prop:=a.gcd b=G∧a.natAbs<2^330∧b.natAbs<2^330∧(i=662∨((0≤a∧0≤b∨a≤0∧b≤0)∧b.natAbs≤a.natAbs∧a.natAbs*b.natAbs<2^i))
theorem Q0l (a:Int) {b:Int} (h:b≠0):((0≤b∧0≤a.fmod b)∨(b≤0∧a.fmod b≤0))∧(a.fmod b).natAbs<b.natAbs:=by
 by_cases c:0<b
 ·rw [Int.fmod_eq_emod_of_nonneg a (by omega)]
  have m0:=Int.emod_nonneg a h
  have m1:=Int.emod_lt_of_pos a c
  exact ⟨.inl ⟨by omega,m0⟩,by omega⟩
 ·have e:=Int.neg_fmod_neg (-a) (-b)
  rw [Int.neg_neg,Int.neg_neg,Int.fmod_eq_emod_of_nonneg (-a) (show 0 ≤ -b by omega)] at e
  have m0:=Int.emod_nonneg (-a) (show -b≠0 by omega)
  have m1:=Int.emod_lt_of_pos (-a) (show 0 < -b by omega)
  rw [e]
  exact ⟨.inr ⟨by omega,by omega⟩,by omega⟩
theorem Q0m {a b:Int} (h:0≤a∧0≤b∨a≤0∧b≤0):(a.fmod b).natAbs=a.natAbs%b.natAbs:=by
 rcases h with ⟨ha,hb⟩ | ⟨ha,hb⟩
 ·obtain ⟨m,rfl⟩:=Int.eq_ofNat_of_zero_le ha
  obtain ⟨n,rfl⟩:=Int.eq_ofNat_of_zero_le hb
  rw [Int.fmod_eq_emod_of_nonneg _ hb,←Int.natCast_emod,Int.natAbs_natCast,Int.natAbs_natCast,Int.natAbs_natCast]
 ·obtain ⟨m,hm⟩:=Int.eq_ofNat_of_zero_le (show 0 ≤ -a by omega)
  obtain ⟨n,hn⟩:=Int.eq_ofNat_of_zero_le (show 0 ≤ -b by omega)
  have e:=Int.neg_fmod_neg (-a) (-b)
  rw [Int.neg_neg,Int.neg_neg] at e
  rw [e,hm,hn,Int.fmod_eq_emod_of_nonneg _ (by omega),←Int.natCast_emod,Int.natAbs_neg,Int.natAbs_natCast]
  have h1:a.natAbs=m:=by omega
  have h2:b.natAbs=n:=by omega
  rw [h1,h2]
theorem Q9u {A B i:Nat} (b1:0<B) (ba:B≤A) (cP:A*B<2^i):∃ i',i=i'+1∧B*(A%B)<2^i':=by
 have hm:=Nat.mod_lt A b1
 have hq:1≤A / B:=(Nat.le_div_iff_mul_le b1).mpr (by omega)
 have hd:=Nat.mod_add_div A B
 have h1:B*1≤B*(A / B):=Zct _ hq
 have h2:2*(A%B)≤A:=by omega
 have h4:B*(2*(A%B))≤B*A:=Zct _ h2
 have h5:B*A=A*B:=Zbz _ _
 have h6:B*(2*(A%B))=2*(B*(A%B)):=by rw [←Nat.mul_assoc,Zbz B 2,Nat.mul_assoc]
 cases i with
 | zero =>
  have:1*1≤A*B:=Nat.mul_le_mul (by omega) b1
  have h3:(2:Nat)^0=1:=rfl
  omega
 | succ i =>
  refine ⟨i,rfl,?_⟩
  have h7:(2:Nat)^(i+1)=2^i*2:=Zec 2 i
  omega
theorem Q0n {a b:Int} (ha:a.natAbs<2^330) (hb:b.natAbs<2^330):Eu (a.gcd b) 662 a b:=⟨rfl,ha,hb,.inl rfl⟩
theorem Qad9 {G i:Nat} {a b:Int} (h:Eu G i a b) (hb:b≠0):∃ i',i=i'+1∧Eu G i' b (a.fmod b):=by
 obtain ⟨e,za,zb,h⟩:=h
 obtain ⟨s,l⟩:=Q0l a hb
 have eg:b.gcd (a.fmod b)=G:=by rw [Int.fmod_def,Int.gcd_sub_mul_left_right,Int.gcd_comm,e]
 have b1:0<b.natAbs:=by omega
 rcases h with rfl | ⟨sg,ba,cP⟩
 ·refine ⟨661,rfl,eg,zb,by omega,.inr ⟨s,by omega,?_⟩⟩
  have h1:b.natAbs*(a.fmod b).natAbs≤b.natAbs*b.natAbs:=Zct _ (by omega)
  have h2:b.natAbs*b.natAbs<2^330*2^330:=Zdd zb zb
  have h3:(2:Nat)^330*2^330<2^661:=by decide
  omega
 ·obtain ⟨i',ei,hi⟩:=Q9u b1 ba cP
  rw [←Q0m sg] at hi
  exact ⟨i',ei,eg,zb,by omega,.inr ⟨s,by omega,hi⟩⟩
theorem Q9v {G i:Nat} {a:Int} (h:Eu G i a 0):a.natAbs=G:=by
 have:=h.1
 rwa [Int.gcd_zero_right] at this
theorem Qdp {tg:Tg} {b:En→SO} {x:T} {xs:List T} {ρ ρ1 ρ2:En} (h:Qdk tg x ρ=some ρ1) (hb:b ρ1=.nx ρ2):Qb0 tg b (x::xs) ρ=Qb0 tg b xs ρ2:=by
 rw [Qb0]
 simp only [h,hb]
theorem Qm4 {tg:Tg} {b:En→SO} {x:T} {xs:List T} {ρ ρ1 ρ2:En} {v:PV} (h:Qdk tg x ρ=some ρ1) (hb:b ρ1=.rt v ρ2):Qb0 tg b (x::xs) ρ=.rt v ρ2:=by
 rw [Qb0]
 simp only [h,hb]
abbrev Qpw:E:=.cmp .ne (.var 1) (.int 0)
noncomputable abbrev Qux:S:=.seq (.setF 2 (.bin .mod (.var 0) (.var 1))) (.seq (.setF 0 (.var 1)) (.setF 1 (.var 2)))
theorem Q9w (G:Int):Qgq .abs [.int G]=some (.fz (.int (G.natAbs:Int))):=by
 show some (PV.fz (.int (if G<0 then -G else G)))=_
 congr 3
 split <;> omega
theorem Q0o (k:Nat) {a b:Int} (ha:a.natAbs<2^330) (hb:b.natAbs<2^330):cfn (k+1) 4 [.fz (.int a),.fz (.int b)]=.ok (.fz (.int (a.gcd b:Nat))) [.non,.non]:=by
 obtain ⟨ρ',e,a',s1,s2,g0,rfl⟩:=Quj (c:=fun ρ=>Qal (evE (cfn k) Qpw ρ)) (b:=exS (cfn k) Qux)
  (Z:=fun ρ=>∃ (a':Int) (s1 s2:Slot),a'.natAbs=a.gcd b∧ρ=[.fz (.int a'),s1,s2])
  (fun i ρ=>∃ (x y:Int) (s2:Slot),Qas s2=true∧Eu (a.gcd b) i x y∧ρ=[.fz (.int x),.fz (.int y),s2]) (by
  rintro i ρ ⟨x,y,s2,o2,h,rfl⟩
  have et:Qal (evE (cfn k) Qpw [.fz (.int x),.fz (.int y),s2])=.ok (!decide (y=0)) [.fz (.int x),.fz (.int y),s2]:=by
   simp only [Qbb,Qm,Q6,Qd,Qb,Q0,Qa8,Qag,Qa7,Qa6,cont,Qa5,uc2,Option.map,Qa1,Qv,yBl]
  by_cases hy:y=0
  ·left
   subst hy
   exact ⟨[.fz (.int x),.fz (.int 0),s2],by show Qal _=_;rw [et];rfl,x,.fz (.int 0),s2,Q9v h,rfl⟩
  ·right
   obtain ⟨i',ei,h'⟩:=Qad9 h hy
   have om:=Q3w (a:=x) hy
   refine ⟨i',[.fz (.int x),.fz (.int y),s2],[.fz (.int y),.fz (.int (x.fmod y)),.fz (.int (x.fmod y))],ei,?_,?_,y,x.fmod y,_,rfl,h',rfl⟩
   ·show Qal _=_
    rw [et,Zx hy]
    rfl
   ·have es:exS (cfn k) (.setF 2 (.bin .mod (.var 0) (.var 1))) [.fz (.int x),.fz (.int y),s2]=.nx [.fz (.int x),.fz (.int y),.fz (.int (x.fmod y))]:=by
     have e':evE (cfn k) (.bin .mod (.var 0) (.var 1)) [.fz (.int x),.fz (.int y),s2]=.ok (.fz (.int (x.fmod y))) [.fz (.int x),.fz (.int y),s2]:=by
      simp only [Qcg,Qm,Q6,Qb,Q0,Qcc,Qd,Qcb,Qca,cont,Out.opt,om]
     rw [Qax,e']
     cases s2 <;> first | rfl | (cases o2;done)
    rw [Qad,es,Qbp]
    simp only [Qad,Qax,Qm,Q6,Qd,Qb,Qae,Qbv,Qaz,frz,Q8,Qba,Ze,Zp,Nat.reduceAdd,Nat.reduceLT,List.set,Zl,Qbp])
  662 1000000 [.fz (.int a),.fz (.int b),.un] (by decide) ⟨a,b,.un,rfl,Q0n ha hb,rfl⟩
 have ew:exS (cfn k) (.whl Qpw Qux) [.fz (.int a),.fz (.int b),.un]=.nx [.fz (.int a'),s1,s2]:=by
  rw [exS,e]
  rfl
 have ab:=Q9w a'
 rw [g0] at ab
 show Qb4 (cfn k) ⟨2,3,Qdu⟩ _=_
 rw [Qbn rfl]
 show Qcp _ (exS _ Qdu [.fz (.int a),.fz (.int b),.un])=_
 simp only [Qad,ew,Qbp,Qbd,Qb5,Qk,Qm,Q6,Qb,Q0,yC1,Qq,yC2,yBi,Qb1,Qao,cont,Out.opt,ab,Qae,Qcj,Qar,Qbc,Qav,Qa0,Q4,Option.map]
abbrev Qlh:S:=.ite (.cmp .ne (.ix (.var 0) (.var 1)) (.int 0)) (.ret (.var 1)) .nil
theorem Q3y (i:Int) (m:Nat):Qbh i (m+1)=.int i::Qbh (i+1) m:=by
 unfold Qbh
 rw [List.range_succ_eq_map,Z6,Zb8]
 congr 1
 ·show T.int (i+((0:Nat):Int))=_
  congr 1
  omega
 ·apply Zbw
  intro j _
  show T.int (i+((j+1:Nat):Int))=T.int (i+1+(j:Int))
  congr 1
  omega
theorem Quy (cf:CF) (r:List Int):∀ (m i:Nat) (s:Slot),i+m=r.length→Qas s=true→∃ s',Qb0 (.nm 1) (exS cf Qlh) (Qbh (i:Int) m) [.fz (Qf r),s]=if (r.drop i).findIdx nzI<m then .rt (.fz (.int ((i+(r.drop i).findIdx nzI:Nat):Int))) [.fz (Qf r),s'] else .nx [.fz (Qf r),s']
 | 0,i,s,_,_=>⟨s,by rw [Zg (Zdv _)];rfl⟩
 | m+1,i,s,hi,hs=>by
  have hl:i<r.length:=by omega
  have hg:ge r i=r[i]:=by
   unfold ge
   rw [Zh,Zc hl]
   rfl
  have ea:=Qk4 hl
  have ed:r.drop i=ge r i::r.drop (i+1):=by rw [hg];exact List.drop_eq_getElem_cons hl
  have st:Qdk (.nm 1) (.int (i:Int)) [.fz (Qf r),s]=some [.fz (Qf r),.fz (.int (i:Int))]:=by
   cases s <;> first | rfl | (cases hs;done)
  rw [Q3y,ed,List.findIdx_cons]
  by_cases h0:ge r i=0
  ·have n0:nzI (ge r i)=false:=by unfold nzI;rw [Zbh h0];rfl
   rw [h0] at ea
   have b0:exS cf Qlh [.fz (Qf r),.fz (.int (i:Int))]=.nx [.fz (Qf r),.fz (.int (i:Int))]:=by simp only [Qaw,Qbb,Qhv,Qm,Q6,Qb,Q0,Qg6,Qd,Qg5,Qg4,cont,Qg3,ui2,ea,Qa8,Qag,Qa7,Qa6,Qa5,uc2,Option.map,Qa1,Zan,Z3,Qv,yBl,Qae,yIf,Qch]
   rw [Qdp st b0,n0]
   obtain ⟨s',e⟩:=Quy cf r m (i+1) (.fz (.int (i:Int))) (by omega) rfl
   refine ⟨s',?_⟩
   have e':((i+1:Nat):Int)=(i:Int)+1:=by omega
   rw [e'] at e
   rw [e,cond_false]
   by_cases z:(r.drop (i+1)).findIdx nzI<m
   ·rw [Zf z,Zf (by omega),Nat.add_right_comm,Nat.add_assoc]
   ·rw [Zg z,Zg (by omega)]
  ·have n0:nzI (ge r i)=true:=by unfold nzI;rw [Zx h0];rfl
   have b0:exS cf Qlh [.fz (Qf r),.fz (.int (i:Int))]=.rt (.fz (.int (i:Int))) [.fz (Qf r),.fz (.int (i:Int))]:=by simp only [Qaw,Qbb,Qhv,Qm,Q6,Qb,Q0,Qg6,Qd,Qg5,Qg4,cont,Qg3,ui2,ea,Qa8,Qag,Qa7,Qa6,Qa5,uc2,Option.map,Qa1,h0,Zap,Z8,Qv,yBl,Qae,yIf,Qbd,Qcj]
   rw [Qm4 st b0,n0]
   exact ⟨_,by rw [cond_true,Zf (by omega),Nat.add_zero]⟩
def ldT (r:List Int):T:=if ld r<r.length then .int (ld r:Int) else .non
theorem Q0p (k:Nat) {r:List Int} (hr:r.length≤1000):cfn (k+1) 5 [.fz (Qf r)]=.ok (.fz (ldT r)) [.non]:=by
 obtain ⟨s',e⟩:=Quy (cfn k) r r.length 0 .un (by omega) rfl
 rw [List.drop_zero] at e
 have hc:r.length≤100000:=by omega
 have rn:∀ ρ,Qon (.fz (.int (r.length:Int))) ρ=.ok (Qbh 0 r.length,none) ρ:=fun ρ=>Qwh hc
 have e':Qb0 (.nm 1) (exS (cfn k) Qlh) (Qbh 0 r.length) [.fz (Qf r),.un]=_:=e
 show Qb4 (cfn k) ⟨1,2,Qj8⟩ _=_
 rw [Qbn rfl]
 show Qcp _ (exS _ Qj8 [.fz (Qf r),.un])=_
 unfold ldT
 by_cases z:ld r<r.length
 ·have z':r.findIdx nzI<r.length:=z
  rw [Zf z',Zak] at e'
  rw [Zf z]
  simp only [Qad,Qdd,Qid,Qb5,Qk,Qm,Q6,Qb,Q0,yC1,Qq,yC2,yBi,Qb1,Qao,cont,Out.opt,ub2,Zd,rn,Qae,Qgr,e',Qle,Qmi,Qar,Qbc,Qav,Qa0,Q4,Option.map]
  rfl
 ·have z':¬ r.findIdx nzI<r.length:=z
  rw [Zg z'] at e'
  rw [Zg z]
  simp only [Qad,Qdd,Qid,Qb5,Qk,Qm,Q6,Qb,Q0,yC1,Qq,yC2,yBi,Qb1,Qao,cont,Out.opt,ub2,Zd,rn,Qae,Qgr,e',Qcu,Qbp,Qbd,Qi5,Qcj,Qar,Qbc,Qav,Qa0,Q4,Option.map]
open PySem L2
abbrev Quz:S:=.setF 2 (.call 4 (.cons (.var 2) (.cons (.var 3) .nil)))
def lnT:Option (List Int)→T
 | none=>.non
 | some l=>Qf l
theorem Qu0 (k:Nat) (r:List Int) (l:Int):∀ (xs:List Int) (d:Int) (s3:Slot),d.natAbs<2^330→(∀ x∈xs,x.natAbs<2^330)→Qas s3=true→∃ bU,Qb0 (.nm 3) (exS (cfn (k+1)) Quz) (xs.map T.int) [.fz (Qf r),.fz (.int l),.fz (.int d),s3]=.nx [.fz (Qf r),.fz (.int l),.fz (.int (gF d xs)),bU]
 | [],d,s3,_,_,_=>⟨s3,rfl⟩
 | x::xs,d,s3,hd,hx,hs=>by
  have gI:=hx x (.head _)
  have e1:=Q0o k hd gI
  have st:Qdk (.nm 3) (.int x) [.fz (Qf r),.fz (.int l),.fz (.int d),s3]=some [.fz (Qf r),.fz (.int l),.fz (.int d),.fz (.int x)]:=by
   cases s3 <;> first | rfl | (cases hs;done)
  have b0:exS (cfn (k+1)) Quz [.fz (Qf r),.fz (.int l),.fz (.int d),.fz (.int x)]=.nx [.fz (Qf r),.fz (.int l),.fz (.int ((Int.gcd d x:Nat):Int)),.fz (.int x)]:=by simp only [Qax,Qab,Qk,Qm,Q6,Qd,Qb,Q0,yC1,Qq,yC2,Qx,Qu,Qaa,Qw,Qak,Q9,e1,Qay,Ql,Qz,L2.Qj,Option.map,Zl,Qae,Qbv,Qaz,frz,Q8,Qba,Ze,Zp,Nat.reduceAdd,Nat.reduceLT,List.set]
  have g1:(((Int.gcd d x:Nat):Int)).natAbs<2^330:=Q0h (N:=2^330) [x] d hd fun y hy=>by rw [Zv.mp hy];exact gI
  rw [Z6,Qdp st b0]
  exact Qu0 k r l xs _ _ g1 (fun y hy=>hx y (.tail _ hy)) rfl
abbrev Q0q:E:=.bin .fdv (.var 0) (.var 1)
theorem Q3z {cf:CF} {ρ:En} {js:List (Option Nat)} {r:List Int} {s:Int} {e:E} (hr:r.length≤1000) (hw:evW cf (.seq e) ρ=.ok (r.map T.int,none) ρ) (hj:Qd6 js ρ=[.un,.fz (.int s)]) (hp:Qcn js=true) (s0:s≠0) (sb:s.natAbs<2^330):evE cf (.comp (.seq e) js (.nm 0) .nil Q0q) ρ=.ok (.ow (.lst ((r.map fun x=>x.fdiv s).map T.int))) ρ:=by
 have q:=Qco (cf:=cf) (w:=.seq e) (js:=js) (e:=Q0q) (ρ:=ρ) (rest:=[.fz (.int s)]) (xs:=r.map T.int) (f:=fun t=>match t with | .int v=>T.int (v.fdiv s) | t=>t) hw hj rfl hp (fun t ht=>by
  obtain ⟨v,hv,rfl⟩:=Z7.mp ht
  have o:∀ v:Int,opB .fdv (.int v) (.int s)=_:=fun v=>Q3x s0 sb
  refine ⟨.fz (.int (v.fdiv s)),?_,rfl⟩
  simp only [Qcg,Qm,Q6,Qb,Q0,Qcc,Qd,Qcb,Qca,cont,Out.opt,o]) (by rw [Zd];omega)
 rw [q,Zb8,Zb8]
 rfl
theorem Qwu (k:Nat) {r:List Int} (hr:r.length≤1000) (hb:∀ x∈r,x.natAbs<2^330):cfn (k+2) 6 [.fz (Qf r)]=.ok (.fz (lnT (lnR r))) [.non]:=by
 have e1:=Q0p k hr
 show Qb4 (cfn (k+1)) ⟨1,4,Qj9⟩ _=_
 rw [Qbn rfl]
 show Qcp _ (exS _ Qj9 [.fz (Qf r),.un,.un,.un])=_
 by_cases z:ld r<r.length
 ·have en:lnR r=some (r.map fun x=>x.fdiv (dvr r)):=Zf z
  have el:cfn (k+1) 5 [.fz (Qf r)]=.ok (.fz (.int (ld r:Int))) [.non]:=by rw [e1];unfold ldT;rw [Zf z]
  have hv:=Qk4 z
  obtain ⟨s3,ef⟩:=Qu0 k r (ld r:Int) r 0 .un (by decide) hb rfl
  have es:exS (cfn (k+1)) (.ite (.cmp .lt (.ix (.var 0) (.var 1)) (.int 0)) (.setF 2 (.neg (.var 2))) .nil) [.fz (Qf r),.fz (.int (ld r:Int)),.fz (.int (gF 0 r)),s3]=.nx [.fz (Qf r),.fz (.int (ld r:Int)),.fz (.int (dvr r)),s3]:=by
   unfold dvr
   by_cases cv:ge r (ld r)<0
   ·rw [Zf cv]
    simp only [Qaw,Qbb,Qhv,Qm,Q6,Qb,Q0,Qg6,Qd,Qg5,Qg4,cont,Qg3,ui2,hv,Qa8,Qag,Qa7,Qa6,Qa5,uc3,cv,Zan,Qv,yBl,Qae,yIf,Qax,Qi7,Qne,Qbv,Qaz,frz,Q8,Qba,Ze,Zp,Nat.reduceAdd,Nat.reduceLT,List.set,Zl]
   ·rw [Zg cv]
    simp only [Qaw,Qbb,Qhv,Qm,Q6,Qb,Q0,Qg6,Qd,Qg5,Qg4,cont,Qg3,ui2,hv,Qa8,Qag,Qa7,Qa6,Qa5,uc3,cv,Zap,Qv,yBl,Qae,yIf,Qch]
  have ec:=Q3z (cf:=cfn (k+1)) (e:=.var 0) (ρ:=[.fz (Qf r),.fz (.int (ld r:Int)),.fz (.int (dvr r)),s3]) (js:=[none,some 2]) (s:=dvr r) hr rfl rfl rfl (Qtf z) (Q9p (by decide) hb)
  simp only [Qad,Qax,Qab,Qk,Qm,Q6,Qb,Q0,yC1,Qq,yC2,Qx,Qu,Qaa,Qw,Qak,Q9,el,Qay,Ql,Qz,L2.Qj,Option.map,Zl,Qae,Qbv,Qaz,frz,Q8,Qba,Ze,Zp,Nat.reduceAdd,Nat.reduceLT,Qd,List.set,Qbp,Qaw,Qbb,Qa8,Qi5,Qa7,Qa6,cont,Qa5,uc7,Qfr,Qv,yBl,yIf,Qch,Qag,Qdd,Qfy,Qja,Qe9,Qe8,Qdj,Qet,Qgr,ef,Qcu,es,Qbd,Qb5,ec,yBi,Qb1,Qao,Out.opt,ub9,Qcj,Qar,Qbc,Qav,Qa0,Q4,lnT,en]
 ·have en:lnR r=none:=Zg z
  have el:cfn (k+1) 5 [.fz (Qf r)]=.ok (.fz .non) [.non]:=by rw [e1];unfold ldT;rw [Zg z]
  simp only [Qad,Qax,Qab,Qk,Qm,Q6,Qb,Q0,yC1,Qq,yC2,Qx,Qu,Qaa,Qw,Qak,Q9,el,Qay,Ql,Qz,L2.Qj,Option.map,Zl,Qae,Qbv,Qaz,frz,Q8,Qba,Ze,Zp,Nat.reduceAdd,Nat.reduceLT,Qd,List.set,Qbp,Qaw,Qbb,Qa8,Qi5,Qa7,Qa6,cont,Qa5,uc7,Qfr,Qv,yBl,yIf,Qbd,Qcj,Qmi,Qar,Qbc,Qav,Qa0,Q4,lnT,en]
open PySem L2
noncomputable abbrev Q9x:E:=.bin .sub (.bin .mul (.ix (.var 1) (.var 0)) (.ix (.var 2) (.var 3))) (.bin .mul (.ix (.var 2) (.var 0)) (.ix (.var 1) (.var 3)))
theorem Qu1 {i j:Int} (hi:i.natAbs<2^170) (hj:j.natAbs<2^170):Qb9 i j=true:=by
 have h:(2:Nat)^170<2^250:=by decide
 unfold Qb9
 simp only [Zb5,Zt,Zav]
 exact .inr (.inr (.inl ⟨Zdn hi h,Zdn hj h⟩))
theorem Q9y {r:List Int} {n:Nat} (h:r.length=n):r=(List.range n).map (ge r):=by
 apply List.ext_getElem
 ·rw [Zd,Zb0,h]
 ·intro j h1 h2
  rw [List.getElem_map,List.getElem_range]
  unfold ge
  rw [Zh,Zc h1]
  rfl
theorem Qu2 {r s:List Int} {n:Nat} (hr:r.length=n) (hs:s.length=n):clr r s=(List.range n).map fun j=>ge r j*ge s (ld s)-ge s j*ge r (ld s):=by
 have hl:(clr r s).length=n:=Qc4 hr hs
 rw [Q9y hl]
 apply Zbw
 intro j _
 unfold clr
 rw [Qkm hr hs,Int.neg_mul,Int.mul_comm (ge s (ld s)),Int.mul_comm (ge r (ld s)),←Int.sub_eq_add_neg]
theorem Qwv (k:Nat) {r s:List Int} {n:Nat} (hr:r.length=n) (hs:s.length=n) (hn:n≤1000) (z:ld s<s.length) (br:∀ x∈r,x.natAbs<2^170) (bs:∀ x∈s,x.natAbs<2^170):cfn (k+2) 7 [.fz (Qf r),.fz (Qf s)]=.ok (.fz (Qf (clr r s))) [.non,.non]:=by
 have e1:cfn (k+1) 5 [.fz (Qf s)]=.ok (.fz (.int (ld s:Int))) [.non]:=by
  rw [Q0p k (by omega)];unfold ldT;rw [Zf z]
 have hc:r.length≤100000:=by omega
 have rn:∀ ρ,Qon (.fz (.int (r.length:Int))) ρ=.ok (Qbh 0 r.length,none) ρ:=fun ρ=>Qwh hc
 have al:=Qk4 z
 have am:atI (r.map T.int) (ld s:Int)=some (.int (ge r (ld s))):=Qk4 (by omega)
 have gl:=bs _ (Qjk z)
 have gm:=br _ (Qjk (r:=r) (j:=ld s) (by omega))
 have hw:evW (cfn (k+1)) (.rng1 (.bi .len (.cons (.var 0) .nil))) [.fz (Qf r),.fz (Qf s),.fz (.int (ld s:Int))]=.ok (Qbh 0 r.length,none) [.fz (Qf r),.fz (Qf s),.fz (.int (ld s:Int))]:=by
  simp only [Qid,Qb5,Qk,Qm,Q6,Qb,Q0,yC1,Qq,yC2,yBi,Qb1,Qao,cont,Out.opt,ub2,Zd,rn]
 have ec:=Qco (cf:=cfn (k+1)) (w:=.rng1 (.bi .len (.cons (.var 0) .nil))) (js:=[none,some 0,some 1,some 2]) (e:=Q9x) (ρ:=[.fz (Qf r),.fz (Qf s),.fz (.int (ld s:Int))]) (rest:=[.fz (Qf r),.fz (Qf s),.fz (.int (ld s:Int))]) (xs:=Qbh 0 r.length) (f:=fun t=>.int (ge r (jOf t)*ge s (ld s)-ge s (jOf t)*ge r (ld s))) hw rfl rfl rfl (fun t ht=>by
  obtain ⟨j,hj,rfl⟩:=Z7.mp ht
  have fo:=Zb9.mp hj
  have a1:atI (r.map T.int) (j:Int)=some (.int (ge r j)):=Qk4 fo
  have a2:atI (s.map T.int) (j:Int)=some (.int (ge s j)):=Qk4 (by omega)
  have m1:=Qu1 (br _ (Qjk fo)) gl
  have m2:=Qu1 (bs _ (Qjk (r:=s) (j:=j) (by omega))) gm
  refine ⟨.fz (.int (ge r j*ge s (ld s)-ge s j*ge r (ld s))),?_,by show some _=some _;rw [Q0j]⟩
  simp only [Int.zero_add,Qcg,Qhv,Qm,Q6,Qd,Qb,Q0,Qg6,Qg5,Qg4,cont,Qg3,ui2,a1,Qcc,al,Qcb,Qca,Out.opt,uo5,m1,Zl,a2,am,m2,uo4]) (by rw [Qcd];omega)
 have eu:=Q9s (f:=fun j=>T.int (ge r j*ge s (ld s)-ge s j*ge r (ld s))) r.length
 have ew:(Qf (clr r s))=.tup ((Qbh 0 r.length).map fun t=>.int (ge r (jOf t)*ge s (ld s)-ge s (jOf t)*ge r (ld s))):=by
  rw [eu,Qu2 hr hs,hr]
  show T.tup (((List.range n).map _).map T.int)=_
  rw [Zb8]
  rfl
 rw [ew]
 show Qb4 (cfn (k+1)) ⟨2,3,Qkb⟩ _=_
 rw [Qbn rfl]
 show Qcp _ (exS _ Qkb [.fz (Qf r),.fz (Qf s),.un])=_
 simp only [Qad,Qax,Qab,Qk,Qm,Q6,Qd,Qb,Q0,yC1,Qq,yC2,Qx,Qu,Qaa,Qw,Qak,Q9,e1,Qay,Ql,Qz,L2.Qj,Option.map,Zl,Qae,Qbv,Qaz,frz,Q8,Qba,Ze,Zp,Nat.reduceAdd,Nat.reduceLT,List.set,Qbp,Qbd,Qb5,ec,yBi,Qb1,Qao,cont,Out.opt,ub9,Qcj,Qar,Qbc,Qav,Qa0,Q4]
noncomputable def LOk:List Int→List (List Int)→Prop
 | _,[]=>True
 | r,s::S=>(∀ x∈r,x.natAbs<2^170)∧(∀ x∈s,x.natAbs<2^170)∧LOk (clr r s) S
abbrev Qu3:S:=.setF 0 (.call 7 (.cons (.var 0) (.cons (.var 2) .nil)))
theorem Qu4 (k:Nat) {n:Nat} (hn:n≤1000) (a:Slot):∀ (S:List (List Int)) (r:List Int) (s2:Slot),r.length=n→(∀ s∈S,s.length=n∧ld s<s.length)→LOk r S→Qas s2=true→∃ dR,Qb0 (.nm 2) (exS (cfn (k+2)) Qu3) (S.map Qf) [.fz (Qf r),a,s2]=.nx [.fz (Qf (lft r S)),a,dR]
 | [],r,s2,_,_,_,_=>⟨s2,rfl⟩
 | s::S,r,s2,hr,hS,ok,o2=>by
  obtain ⟨h1,h2⟩:=hS s (.head _)
  have e1:=Qwv k hr h1 hn h2 ok.1 ok.2.1
  have st:Qdk (.nm 2) (Qf s) [.fz (Qf r),a,s2]=some [.fz (Qf r),a,.fz (Qf s)]:=by
   cases s2 <;> first | rfl | (cases o2;done)
  have b0:exS (cfn (k+2)) Qu3 [.fz (Qf r),a,.fz (Qf s)]=.nx [.fz (Qf (clr r s)),a,.fz (Qf s)]:=by simp only [Qax,Qab,Qk,Qm,Q6,Qb,Q0,yC1,Qd,Qq,yC2,Qx,Qu,Qaa,Qw,Qak,Q9,e1,Qay,Ql,Qz,L2.Qj,Option.map,Zl,Qae,Qbv,Qaz,frz,Q8,Qba,Ze,Zp,Nat.reduceAdd,Nat.reduceLT,List.set]
  rw [Z6,Qdp st b0]
  exact Qu4 k hn a S (clr r s) _ (Qc4 hr h1) (fun t ht=>hS t (.tail _ ht)) ok.2.2 rfl
theorem Q9z (k:Nat) {n:Nat} (hn:n≤1000) {S:List (List Int)} {r:List Int} (hr:r.length=n) (hS:∀ s∈S,s.length=n∧ld s<s.length) (ok:LOk r S):cfn (k+3) 8 [.fz (Qf r),.fz (.lst (S.map Qf))]=.ok (.fz (Qf (lft r S))) [.non,.non]:=by
 obtain ⟨s2,e⟩:=Qu4 k hn (.fz (.lst (S.map Qf))) S r .un hr hS ok rfl
 show Qb4 (cfn (k+2)) ⟨2,3,Qkd⟩ _=_
 rw [Qbn rfl]
 show Qcp _ (exS _ Qkd [.fz (Qf r),.fz (.lst (S.map Qf)),.un])=_
 simp only [Qad,Qdd,Qfy,Qm,Q6,Qd,Qb,Q0,Qja,Qe9,cont,Qe8,Qdj,Qet,Qae,Qgr,e,Qcu,Qbp,Qbd,Qcj,Qar,Qbc,Qav,Qa0,Q4,Option.map]
end My
set_option exponentiation.threshold 1000
namespace My
open PySem L2
noncomputable abbrev st_set:S:=.setF 3 (.call 6 (.cons (.call 8 (.cons (.var 2) (.cons (.var 1) .nil))) .nil))
abbrev Q0r:S:=.ite (.cmp .isnn (.var 3) .non) (.app 1 (.var 3)) .nil
theorem Q90 {cf:CF} {i:Nat} {b:S} {ρ:En} {ts:List T} (hs:Qa ρ i=.ow (.lst ts)) (hk:(ρ.set i .un).all Ql0=true):exS cf (.look i b) ρ=lkO i ρ (exS cf b ((ρ.set i (.fz (.lst ts))).map lkS)):=by
 rw [exS,hs]
 simp only [Zf hk]
theorem Qrt (r:List Int):(r.map T.int).all flaT=true:=by
 rw [all_map]
 exact Zah.mpr fun _ _=>rfl
theorem Q5r (r:List Int):lkS (.fz (Qf r))=.fz (Qf r):=by
 show (if (!(r.map T.int).all flaT)=true then Slot.fx (Qf r) else .fz (Qf r))=_
 rw [Qrt]
 rfl
theorem Q5s (r:List Int):Qqr (Qf r)=true:=Qrt r
theorem Qaea (o:Option (List Int)):Qqr (lnT o)=true:=by
 cases o with
 | none=>rfl
 | some l=>exact Q5s l
theorem Qaeb (o:Option (List Int)):lkS (.fz (lnT o))=.fz (lnT o):=by
 cases o with
 | none=>rfl
 | some l=>exact Q5r l
theorem Q91 (o:Option (List Int)):Ql0 (.fz (lnT o))=true:=by
 cases o <;> rfl
theorem Q30 (k:Nat) {R:List T} {L:List (List Int)} (hL:L.length≤10) {x u:List Int} (hu:u.length≤1000) (hv:∀ y∈u,y.natAbs<2^330) (h:cfn (k+3) 8 [.fz (Qf x),.fz (.lst (L.map Qf))]=.ok (.fz (Qf u)) [.non,.non]) {s3:Slot} (o3:s3=.un∨∃ o,s3=.fz (lnT o)) :
  exS (cfn (k+3)) (.seq (.look 1 st_set) Q0r) [.fz (.tup R),.ow (.lst (L.map Qf)),.fz (Qf x),s3]=.nx [.fz (.tup R),.ow (.lst ((L++(lnR u).toList).map Qf)),.fz (Qf x),.fz (lnT (lnR u))]:=by
 have e1:=Qwu (k+1) hu hv
 have w1:exS (cfn (k+3)) (.look 1 st_set) [.fz (.tup R),.ow (.lst (L.map Qf)),.fz (Qf x),s3]=.nx [.fz (.tup R),.ow (.lst (L.map Qf)),.fz (Qf x),.fz (lnT (lnR u))]:=by
  generalize L.map Qf=LL at h ⊢
  obtain ⟨R',jS,jo⟩:∃ R':Slot,lkS (.fz (.tup R))=R'∧lkB (.fz (.tup R)) R'=.fz (.tup R):=by
   refine ⟨_,rfl,?_⟩
   show lkB (.fz (.tup R)) (if (!R.all flaT)=true then .fx (.tup R) else .fz (.tup R))=_
   cases hr:R.all flaT with
   | true=>show (if R.all flaT=true then Slot.fz (.tup R) else .un)=_;rw [Zf hr]
   | false=>rfl
  have e:∀ s:Slot,Qas s=true→exS (cfn (k+3)) st_set [R',.fx (.lst LL),.fz (Qf x),s]=.nx [R',.fx (.lst LL),.fz (Qf x),.fz (lnT (lnR u))]:=fun s os=>by
   (cases s <;> cases os) <;> simp only [Qax,Qab,Qk,Qm,Q6,Qd,Qb,Q0,yC1,Qq,yC2,Qx,Qu,Qaa,Qw,Qak,Q9,h,Qay,Ql,Qz,L2.Qj,Option.map,Zl,e1,Qae,Qbv,Qaz,frz,Q8,Qba,Ze,Zp,Nat.reduceAdd,Nat.reduceLT,List.set]
  have hf:=Qaea (lnR u)
  have hx:=Q5s x
  have fin:∀ s:Slot,lkO 1 [.fz (.tup R),.ow (.lst LL),.fz (Qf x),s] (.nx [R',.fx (.lst LL),.fz (Qf x),.fz (lnT (lnR u))])=.nx [.fz (.tup R),.ow (.lst LL),.fz (Qf x),.fz (lnT (lnR u))]:=fun s=>by
   show SO.nx [lkB (.fz (.tup R)) R',.ow (.lst LL),if Qqr (Qf x)=true then .fz (Qf x) else .un,if Qqr (lnT (lnR u))=true then .fz (lnT (lnR u)) else .un]=_
   rw [Zf hf,Zf hx,jo]
  have go:∀ s:Slot,Qas s=true→Ql0 s=true→lkS s=s→exS (cfn (k+3)) (.look 1 st_set) [.fz (.tup R),.ow (.lst LL),.fz (Qf x),s]=.nx [.fz (.tup R),.ow (.lst LL),.fz (Qf x),.fz (lnT (lnR u))]:=fun s os ok ks=>by
   rw [Q90 (ts:=LL) rfl (by show (true&&(true&&(true&&(Ql0 s&&true))))=true;rw [ok];rfl)]
   show lkO 1 _ (exS (cfn (k+3)) st_set [lkS (.fz (.tup R)),.fx (.lst LL),lkS (.fz (Qf x)),lkS s])=_
   rw [ks,jS,Q5r,e s os,fin]
  rcases o3 with rfl | ⟨o,rfl⟩
  ·exact go _ rfl rfl rfl
  ·exact go _ rfl (Q91 o) (Qaeb o)
 rw [Qad,w1,Qbp]
 cases ho:lnR u with
 | none =>
  rw [Zc1,Za6]
  generalize L.map Qf=LL
  simp only [lnT,Qaw,Qbb,Qm,Q6,Qd,Qb,Q0,Qa8,Qi5,Qa7,Qa6,cont,Qa5,uc8,Qfr,Z3,Qv,yBl,Qae,yIf,Qch]
 | some l =>
  have z:L.length<100000:=by omega
  have ea:L.map Qf++[lnT (some l)]=(L++[l]).map Qf:=by rw [Zck];rfl
  have ne:lnT (some l)=Qf l:=rfl
  rw [Option.toList_some]
  simp only [ne,Qaw,Qbb,Qm,Q6,Qd,Qb,Q0,Qa8,Qi5,Qa7,Qa6,cont,Qa5,uc8,Qfr,Z8,Qv,yBl,Qae,yIf,Qj5,Slot.mut,Qq6,Qml,frz,Qmk,Zd,z,List.set,Zl]
  rw [←ea,ne]
def ex (i:Nat):Nat:=41*2^i-1
theorem Q31 (i:Nat):ex (i+1)=2*ex i+1:=by
 unfold ex
 have:0<2^i:=Nat.two_pow_pos i
 rw [Zec]
 omega
theorem Q92 {r s:List Int} {n i:Nat} (hr:r.length=n) (hs:s.length=n) (z:ld s<s.length) (br:∀ x∈r,x.natAbs<2^ex i) (bs:∀ x∈s,x.natAbs<2^ex i):∀ x∈clr r s,x.natAbs<2^ex (i+1):=fun x hx=>by
 rw [Qu2 hr hs] at hx
 obtain ⟨j,hj,rfl⟩:=Z7.mp hx
 have fo:=Zb9.mp hj
 have a1:=br _ (Qjk (r:=r) (j:=j) (by omega))
 have a2:=br _ (Qjk (r:=r) (j:=ld s) (by omega))
 have a3:=bs _ (Qjk (r:=s) (j:=j) (by omega))
 have a4:=bs _ (Qjk (r:=s) (j:=ld s) (by omega))
 have m1:(ge r j*ge s (ld s)).natAbs<2^ex i*2^ex i:=by rw [Int.natAbs_mul];exact Zdd a1 a4
 have m2:(ge s j*ge r (ld s)).natAbs<2^ex i*2^ex i:=by rw [Int.natAbs_mul];exact Zdd a3 a2
 have e:2^ex (i+1)=2*(2^ex i*2^ex i):=by rw [Q31,Zec,Nat.two_mul,Nat.pow_add,Zbz]
 rw [e]
 omega
noncomputable def BdS:Nat→List (List Int)→Prop
 | _,[]=>True
 | i,s::S=>(∀ x∈s,x.natAbs<2^ex i)∧BdS (i+1) S
theorem BdS.snoc {l:List Int}:∀ {S:List (List Int)} {i:Nat},BdS i S→(∀ x∈l,x.natAbs<2^ex (i+S.length))→BdS i (S++[l])
 | [],i,_,h=>⟨h,trivial⟩
 | s::S,i,hS,h=>⟨hS.1,hS.2.snoc (by rw [Ze] at h;rw [show i+1+S.length=i+(S.length+1) by omega];exact h)⟩
theorem Q93 {i:Nat} (h:i≤2):2^ex i≤2^170:=Nat.pow_le_pow_right (by decide) (by
 rcases (show i=0∨i=1∨i=2 by omega) with rfl | rfl | rfl <;> decide)
theorem Q94 {i:Nat} (h:i≤3):2^ex i≤2^330:=Nat.pow_le_pow_right (by decide) (by
 rcases (show i=0∨i=1∨i=2∨i=3 by omega) with rfl | rfl | rfl | rfl <;> decide)
theorem Q0s {n:Nat}:∀ {S:List (List Int)} {i:Nat} {r:List Int},r.length=n→(∀ s∈S,s.length=n∧ld s<s.length)→(∀ x∈r,x.natAbs<2^ex i)→BdS i S→i+S.length≤3→LOk r S∧(lft r S).length=n∧∀ x∈lft r S,x.natAbs<2^ex (i+S.length)
 | [],i,r,hr,_,b,_,_=>⟨trivial,hr,b⟩
 | s::S,i,r,hr,hS,b,bS,h=>by
  obtain ⟨h1,h2⟩:=hS s (.head _)
  rw [Ze] at h ⊢
  have c:=Q92 hr h1 h2 b bS.1
  obtain ⟨q1,q2,q3⟩:=Q0s (S:=S) (i:=i+1) (r:=clr r s) (Qc4 hr h1) (fun t ht=>hS t (.tail _ ht)) c bS.2 (by omega)
  have z:=Q93 (show i≤2 by omega)
  refine ⟨⟨fun x hx=>Zs (b x hx) z,fun x hx=>Zs (bS.1 x hx) z,q1⟩,q2,?_⟩
  rw [show i+(S.length+1)=i+1+S.length by omega]
  exact q3
open PySem L2
theorem Q32 {u l:List Int} (e:lnR u=some l):l.length=u.length∧ld l<l.length:=by
 have hz:¬ isZ u:=fun z=>by
  rw [(Qm3.no u).mpr z] at e;cases e
 obtain ⟨g,_,hg⟩:=Qm3.yes u l e
 refine ⟨by rw [hg,Zd],(Qpu l).mpr fun z=>hz fun x hx=>?_⟩
 rw [hg] at hx
 obtain ⟨y,hy,rfl⟩:=Z7.mp hx
 rw [z y hy,Int.mul_zero]
abbrev Qli:S:=.seq (.look 1 st_set) Q0r
theorem Qpx (k:Nat) (R:List T) {n:Nat} (hn:n≤1000):∀ (rows S:List (List Int)) (s2 s3:Slot),(∀ r∈rows,r.length=n∧∀ x∈r,x.natAbs<2^ex 0)→S.length+rows.length≤4→(∀ s∈S,s.length=n∧ld s<s.length)→BdS 0 S→Qas s2=true→(s3=.un∨∃ o,s3=.fz (lnT o)) →
  ∃ dR bU,Qb0 (.nm 2) (exS (cfn (k+3)) Qli) (rows.map Qf) [.fz (.tup R),.ow (.lst (S.map Qf)),s2,s3]=.nx [.fz (.tup R),.ow (.lst ((rows.foldl (stp lnR) S).map Qf)),dR,bU]
 | [],S,s2,s3,_,_,_,_,_,_=>⟨s2,s3,rfl⟩
 | r::rows,S,s2,s3,hr,hl,hS,bS,o2,o3=>by
  obtain ⟨h1,h2⟩:=hr r (.head _)
  rw [Ze] at hl
  obtain ⟨q1,q2,q3⟩:=Q0s (i:=0) h1 hS h2 bS (by omega)
  rw [Zak] at q3
  have z:=Q94 (show S.length≤3 by omega)
  have t:=Q30 k (R:=R) (L:=S) (by omega) (x:=r) (u:=lft r S) (by omega) (fun y hy=>Zs (q3 y hy) z) (Q9z k hn h1 hS q1) o3
  have st:Qdk (.nm 2) (Qf r) [.fz (.tup R),.ow (.lst (S.map Qf)),s2,s3]=some [.fz (.tup R),.ow (.lst (S.map Qf)),.fz (Qf r),s3]:=by
   cases s2 <;> first | rfl | (cases o2;done)
  rw [Z6,Qdp st t,Zd9]
  have es:stp lnR S r=S++(lnR (lft r S)).toList:=by
   unfold stp
   cases lnR (lft r S) with
   | none=>rw [Zc1,Za6]
   | some l=>rfl
  rw [es]
  have eO:∀ r∈rows,r.length=n∧∀ x∈r,x.natAbs<2^ex 0:=fun t ht=>hr t (.tail _ ht)
  cases ho:lnR (lft r S) with
  | none =>
   rw [Zc1,Za6]
   exact Qpx k R hn rows S _ _ eO (by omega) hS bS rfl (.inr ⟨_,rfl⟩)
  | some l =>
   rw [Option.toList_some]
   obtain ⟨l1,l2⟩:=Q32 ho
   refine Qpx k R hn rows (S++[l]) _ _ eO (by rw [Zo,Z4];omega) (fun s hs=>?_) (bS.snoc (by rw [Zak];exact (Qad8 q3 ho).2)) rfl (.inr ⟨_,rfl⟩)
   rcases Zad.mp hs with z | z
   ·exact hS s z
   ·rw [Zv.mp z];exact ⟨l1.trans q2,l2⟩
theorem Q33 (k:Nat) {n:Nat} {M:Tb} (h4:M.length≤4) (hM:∀ r∈M,r.length=n∧∀ x∈r,x.natAbs<2^ex 0) (hn:n≤1000):cfn (k+4) 9 [.fz (Q1 M)]=.ok (.ow (.lst ((Qcf lnR M).map Qf))) [.non]:=by
 have z0:(0:Nat)≤100000:=by decide
 obtain ⟨s2,s3,e⟩:=Qpx k (M.map Qf) hn M [] .un .un hM (by rw [Zp];omega) (fun s hs=>by cases hs) trivial rfl (.inl rfl)
 rw [Zde] at e
 have e':Qb0 (.nm 2) (exS (cfn (k+3)) Qli) (M.map Qf) [.fz (Q1 M),.ow (.lst []),.un,.un]=.nx [.fz (Q1 M),.ow (.lst ((Qcf lnR M).map Qf)),s2,s3]:=e
 show Qb4 (cfn (k+3)) ⟨1,4,Qmw⟩ _=_
 rw [Qbn rfl]
 show Qcp _ (exS _ (.seq (.set 1 (.lst .nil)) (.seq (.for_ (.seq (.var 0)) (.nm 2) Qli) (.ret (.var 1)))) [.fz (Q1 M),.un,.un,.un])=_
 generalize Qli=B0 at e' ⊢
 generalize (Qcf lnR M).map Qf=LL at e' ⊢
 simp only [Qad,Qmj,Qdq,Qq,Q0,Qf8,Qc8,Zp,z0,Zl,Qae,Qnb,Q8,Qba,Ze,Nat.reduceAdd,Nat.reduceLT,Qd,Qb,List.set,Qbp,Qdd,Qfy,Qm,Q6,Qja,Qe9,cont,Qe8,Qdj,Qet,Qgr,e',Qcu,Qbd,Qcj,Qar,Qbc,Qav,Qa0,Q4,Option.map]
open PySem L2
theorem Sq.small {n:Nat} {M:Tb} (h:Sq n M):∀ r∈M,r.length=n∧∀ x∈r,x.natAbs<2^ex 0:=fun r hr=>⟨h.row r hr,fun x hx=>by
 have e:2^ex 0=1099511627776:=by decide
 rw [e]
 have:=h.bd r hr x hx
 omega⟩
theorem Q95 (k:Nat) {n:Nat} {M:Tb} (h:Sq n M) (h1:1≤n) (h4:n≤4):cfn (k+5) 10 [.fz (Q1 M)]=.ok (.fz (.int ((Qcf lnR M).length:Nat))) [.non]:=by
 have e1:=Qjl k h h1 h4
 have e2:=Q33 k (n:=n) (M:=M) (by rw [h.len];exact h4) h.small (by omega)
 show Qb4 (cfn (k+4)) ⟨1,1,Qmx⟩ _=_
 rw [Qbn rfl]
 show Qcp _ (exS _ Qmx [.fz (Q1 M)])=_
 simp only [Qad,Qj4,Qab,Qk,Qm,Q6,Qb,Q0,yC1,Qq,yC2,Qx,Qu,Qaa,Qw,Qak,Q9,e1,Qay,Ql,Qz,L2.Qj,Option.map,Zl,Qae,Qzr,Qbp,Qbd,Qb5,e2,yBi,Qb1,Qao,cont,Out.opt,ub1,Zd,Qcj,Qar,Qbc,Qav,Qa0,Q4]
theorem Qno (k:Nat) {n:Nat} {M:Tb} (h:Sq n M) (h1:1≤n) (h4:n≤4):cfn (k+10) 13 [.fz (Q1 M)]=.ok (.fz (.int (Qaj n M))) [.non]:=by
 have e1:=Qjl (k+5) h h1 h4
 have e2:=Q5q n (k+(7-n)) M (Q1 M) (by omega) (by first | exact .inl rfl | exact .inr rfl | constructor) h
 rw [show k+(7-n)+n+2=k+9 by omega] at e2
 show Qb4 (cfn (k+9)) ⟨1,1,Qc1⟩ _=_
 rw [Qbn rfl]
 show Qcp _ (exS _ Qc1 [.fz (Q1 M)])=_
 simp only [Qad,Qj4,Qab,Qk,Qm,Q6,Qb,Q0,yC1,Qq,yC2,Qx,Qu,Qaa,Qw,Qak,Q9,e1,Qay,Ql,Qz,L2.Qj,Option.map,Zl,Qae,Qzr,Qbp,Qbd,e2,Qcj,Qar,Qbc,Qav,Qa0,Q4]
theorem Q96 (k:Nat) {m:Nat} {t:T} (hg:gd (m+2) t=true) (hb:Qf2 t=false):cfn (k+5) 10 [.fz t]=.xn ⟨0,[]⟩ [.non]:=by
 have e1:=Qjm k hg hb
 show Qb4 (cfn (k+4)) ⟨1,1,Qmx⟩ _=_
 rw [Qbn rfl]
 show Qcp _ (exS _ Qmx [.fz t])=_
 simp only [Qad,Qj4,Qab,Qk,Qm,Q6,Qb,Q0,yC1,Qq,yC2,Qx,Qu,Qaa,Qw,Qak,Q9,e1,Qay,Ql,Qz,L2.Qj,Option.map,Zl]
 rfl
theorem Qnp (k:Nat) {m:Nat} {t:T} (hg:gd (m+2) t=true) (hb:Qf2 t=false):cfn (k+5) 13 [.fz t]=.xn ⟨0,[]⟩ [.non]:=by
 have e1:=Qjm k hg hb
 show Qb4 (cfn (k+4)) ⟨1,1,Qc1⟩ _=_
 rw [Qbn rfl]
 show Qcp _ (exS _ Qc1 [.fz t])=_
 simp only [Qad,Qj4,Qab,Qk,Qm,Q6,Qb,Q0,yC1,Qq,yC2,Qx,Qu,Qaa,Qw,Qak,Q9,e1,Qay,Ql,Qz,L2.Qj,Option.map,Zl]
 rfl
open PySem L2
def Qhb (q:T):Prop:=∃ n f:Int,0≤n∧q=.lst [.int n,.int f]
theorem Qeg (k:Nat) {m:Int} (h0:0<m) (h1:m.natAbs<2^64) {q:T} (hq:Qhb q):∃ r q',0≤r∧r<m∧Qhb q'∧cfn (k+1) 15 [.ml q,.fz (.int m)]=.ok (.fz (.int r)) [q',.non]:=by
 obtain ⟨n,f,hn,rfl⟩:=hq
 have cW:m.natAbs<18446744073709551616:=h1
 have jB:(32:Int).natAbs<18446744073709551616:=by decide
 by_cases hf:f=1
 ·refine ⟨n%m,.lst [.int (n / m),.int f],Int.emod_nonneg _ (by omega),Int.emod_lt_of_pos _ h0,⟨_,_,Int.ediv_nonneg hn (by omega),rfl⟩,?_⟩
  show Qb4 (cfn k) ⟨2,5,Qe1⟩ _=_
  rw [Qbn rfl]
  show Qcp _ (exS _ Qe1 [.ml (.lst [.int n,.int f]),.fz (.int m),.un,.un,.un])=_
  subst hf
  simp only [Qad,Qaw,Qbb,Qhv,Qm,Q6,Qb,Q0,Qg6,Qag,Qg5,Qg4,cont,Slot.prv,Qg3,ui1,at_1,Qa8,Qa7,Qa6,Qa5,uc1,Qa1,Zan,Qv,yBl,Qae,yIf,Qadz,Qb5,Qk,Q9d,yC1,Qd,Qq,yC2,yBi,Qb1,Qao,Out.opt,ub7,h0,Nat.reducePow,cW,Zd0,Zl,yUnp,Q8,Qbj,Qba,Ze,Zp,Nat.reduceAdd,Nat.reduceLT,List.set,Qbp,Q5m,Q3k,Qzu,frz,Slot.mut,Quh,Qzt,Q5n,Qbd,Qcj,Qmi,Qar,Qbc,Qav,Qa0,Q4,Option.map]
 ·refine ⟨(((((n%2147483647+40503)*69621%2147483629)*((n%2147483647+40503)*69621%2147483629)+7817)%2147483587)*48271+11)%2147483629 / 32%m,
   .lst [.int ((((((n%2147483647+40503)*69621%2147483629)*((n%2147483647+40503)*69621%2147483629)+7817)%2147483587)*48271+11)%2147483629),.int f],Int.emod_nonneg _ (by omega),Int.emod_lt_of_pos _ h0,⟨_,_,Int.emod_nonneg _ (by decide),rfl⟩,?_⟩
  show Qb4 (cfn k) ⟨2,5,Qe1⟩ _=_
  rw [Qbn rfl]
  show Qcp _ (exS _ Qe1 [.ml (.lst [.int n,.int f]),.fz (.int m),.un,.un,.un])=_
  have b1:Qb9 (n%2147483647+40503) 69621=true:=by unfold Qb9;simp
  have m1:0≤(n%2147483647+40503)*69621%2147483629:=Int.emod_nonneg _ (by decide)
  have m2:(n%2147483647+40503)*69621%2147483629<2147483629:=Int.emod_lt_of_pos _ (by decide)
  generalize hs:(n%2147483647+40503)*69621%2147483629=st at m1 m2 ⊢
  have b2:Qb9 st st=true:=by
   unfold Qb9
   simp only [Zb5,Zav]
   exact .inl (by omega)
  have b3:∀ z,Qb9 z 48271=true:=fun z=>by unfold Qb9;simp
  simp only [Qad,Qaw,Qbb,Qhv,Qm,Q6,Qb,Q0,Qg6,Qag,Qg5,Qg4,cont,Slot.prv,Qg3,ui1,at_1,Qa8,Qa7,Qa6,Qa5,uc1,Qa1,hf,Zap,Qv,yBl,Qae,yIf,Qch,Qbp,Qax,Qcg,Q9d,Qcc,Qcb,Qca,Out.opt,uo8,Int.reduceLT,Za0,Zl,uo1,uo5,b1,hs,Qbv,Qaz,frz,Q8,Qba,Ze,Zp,Nat.reduceAdd,Nat.reduceLT,Qd,List.set,b2,Q5m,b3,Q3k,Qzu,Slot.mut,Quh,Qzt,Q5n,Qbd,uo7,Nat.reducePow,jB,Zd0,h0,Qcj,Qar,Qbc,Qav,Qa0,Q4,Option.map]
theorem Qaec (k:Nat) (c:Int):∃ q,Qhb q∧cfn (k+1) 14 [.fz (.int c)]=.ok (.ow q) [.non]:=by
 refine ⟨.lst [.int (if 0-c>c then 0-c else c),.int (if decide (10^18≤(if 0-c>c then 0-c else c))=true then 1 else 0)],⟨_,_,?_,rfl⟩,?_⟩
 ·split <;> omega
 ·have p1:(18:Int).natAbs≤1000000:=by decide
  have p2:(10:Int).natAbs<18446744073709551616:=by decide
  show Qb4 (cfn k) ⟨1,2,Qkf⟩ _=_
  rw [Qbn rfl]
  show Qcp _ (exS _ Qkf [.fz (.int c),.un])=_
  have z2:(2:Nat)≤100000:=by decide
  simp only [Qad,Qax,Qb5,Qk,Qm,Q6,Qb,Q0,yC1,Qcg,Qag,Qcc,Qcb,Qca,cont,Out.opt,uo4,Qq,yC2,yBi,Qb1,Qao,ub6,Qae,Qbv,Qaz,frz,Q8,Qba,Ze,Zp,Nat.reduceAdd,Nat.reduceLT,Qd,List.set,Zl,Qbp,Qbd,Qdq,Qbb,Qa8,uo9,Int.reduceLE,p1,Nat.reducePow,p2,Zd0,Int.reduceToNat,Int.reducePow,Qa7,Qa6,Qa5,uc6,ub8,Qf8,Qc8,z2,Qcj,Qar,Qbc,Qav,Qa0,Q4,Option.map]
noncomputable abbrev Qru:S:=.ite (.cmp .eq (.var 2) (.int 0)) (.expr (.call 13 (.cons (.var 0) .nil))) (.expr (.call 10 (.cons (.var 0) .nil)))
theorem Qu5 (k:Nat) {m:Nat} {t:T} (hg:gd (m+2) t=true) (hb:Qf2 t=false) (ts:List T) (hz:ts.length<100000) (j:Int) (s3:Slot):exS (cfn (k+5)) (.tryA 3 1 Qru Qmu) [.fz t,.ow (.lst ts),.fz (.int j),s3]=.nx [.fz t,.ow (.lst (ts++[.str "table"])),.fz (.int j),.un]:=by
 have e1:=Qnp k hg hb
 have e2:=Q96 k hg hb
 have eb:exS (cfn (k+5)) Qru [.fz t,.ow (.lst ts),.fz (.int j),s3]=.xn ⟨0,[]⟩ [.fz t,.ow (.lst ts),.fz (.int j),s3]:=by
  by_cases hj:j=0
  ·subst hj
   simp only [Qaw,Qbb,Qm,Q6,Qd,Qb,Q0,Qa8,Qag,Qa7,Qa6,cont,Qa5,uc1,Qa1,Zan,Qv,yBl,Qae,yIf,Qj4,Qab,Qk,yC1,Qq,yC2,Qx,Qu,Qaa,Qw,Qak,Q9,e1,Qay,Ql,Qz,L2.Qj,Option.map,Zl,o_xn]
  ·simp only [Qaw,Qbb,Qm,Q6,Qd,Qb,Q0,Qa8,Qag,Qa7,Qa6,cont,Qa5,uc1,Qa1,hj,Zap,Qv,yBl,Qae,yIf,Qj4,Qab,Qk,yC1,Qq,yC2,Qx,Qu,Qaa,Qw,Qak,Q9,e2,Qay,Ql,Qz,L2.Qj,Option.map,Zl,o_xn]
 rw [Q9g,eb]
 show (if ts.length<100000 then _ else _)=_
 rw [Zf hz]
 rfl
theorem Qww (k:Nat) {m:Nat} {t:T} (hg:gd (m+2) t=true) (hb:Qf2 t=false):cfn (k+6) 25 [.fz t]=.ok (.fz (.bl true)) [.non]:=by
 have z0:(0:Nat)≤100000:=by decide
 have r2:∀ ρ,Qon (.fz (.int 2)) ρ=.ok ([.int 0,.int 1],none) ρ:=fun ρ=>Qwh (n:=2) (by decide)
 have t1:=Qu5 k hg hb [] (by decide) 0 .un
 have t2:=Qu5 k hg hb [.str "table"] (by decide) 1 .un
 have e:Qb0 (.nm 2) (exS (cfn (k+5)) (.tryA 3 1 Qru Qmu)) [.int 0,.int 1] [.fz t,.ow (.lst []),.un,.un]=.nx [.fz t,.ow (.lst [.str "table",.str "table"]),.fz (.int 1),.un]:=by
  rw [Qdp rfl t1,Qdp rfl t2]
  rfl
 show Qb4 (cfn (k+5)) ⟨1,4,Qh4⟩ _=_
 rw [Qbn rfl]
 show Qcp _ (exS _ (.seq (.set 1 (.lst .nil)) (.seq (.for_ (.rng1 (.int 2)) (.nm 2) (.tryA 3 1 Qru Qmu)) (.ret (.cmp .eq (.var 1) (.lst (.cons (.str "table") (.cons (.str "table") .nil))))))) [.fz t,.un,.un,.un])=_
 generalize S.tryA 3 1 Qru Qmu=B0 at e ⊢
 have z2:(2:Nat)≤100000:=by decide
 simp only [Qad,Qmj,Qdq,Qq,Q0,Qf8,Qc8,Zp,z0,Zl,Qae,Qnb,Q8,Qba,Ze,Nat.reduceAdd,Nat.reduceLT,Qd,Qb,List.set,Qbp,Qdd,Qid,Qag,r2,Qgr,e,Qcu,Qbd,Qbb,Qm,Q6,Qa8,Qk,Que,yC1,yC2,frz,z2,Qa7,Qa6,cont,Slot.prv,Qa5,uc1]
 first | rfl | decide
open PySem L2
def Q0t:Nat→List (List Nat)
 | 0=>[[]]
 | n+1=>Q0t n++(Q0t n).map (· ++ [n])
theorem Qkn:∀ {n:Nat} {I:List Nat},I∈Q0t n→Qws n I
 | 0,I,h=>by
  rw [Zv.mp h]
  exact ⟨List.Pairwise.nil,fun i hi=>by cases hi⟩
 | n+1,I,h=>by
  rcases Zad.mp h with z | z
  ·have r:=Qkn z
   exact ⟨r.1,fun i hi=>Zbr (r.2 i hi)⟩
  ·obtain ⟨J,hJ,rfl⟩:=Z7.mp z
   have r:=Qkn hJ
   refine ⟨List.pairwise_append.mpr ⟨r.1,List.pairwise_singleton ..,fun a ha b hb=>by rw [Zv.mp hb];exact r.2 a ha⟩,fun i hi=>?_⟩
   rcases Zad.mp hi with y | y
   ·exact Zbr (r.2 i y)
   ·rw [Zv.mp y];exact Zdc n
theorem Qhs:∀ {n:Nat} {I:List Nat},Qws n I→I∈Q0t n
 | 0,I,h=>by
  cases I with
  | nil=>exact Zv.mpr rfl
  | cons i I=>exact absurd (h.2 i (.head _)) (Zdv _)
 | n+1,I,h=>by
  rcases List.eq_nil_or_concat I with rfl | ⟨J,x,rfl⟩
  ·exact Zax _ (Qhs ⟨List.Pairwise.nil,fun i hi=>by cases hi⟩)
  ·obtain ⟨p,q⟩:=h
   rw [List.concat_eq_append] at p q ⊢
   obtain ⟨p1,_,p3⟩:=List.pairwise_append.mp p
   have hx:=q x (Zz _ (.head _))
   have hJ:∀ i∈J,i<x:=fun i hi=>p3 i hi x (.head _)
   by_cases e:x=n
   ·subst e
    exact Zz _ (Z7.mpr ⟨J,Qhs ⟨p1,hJ⟩,rfl⟩)
   ·refine Zax _ (Qhs ⟨p,fun i hi=>?_⟩)
    rcases Zad.mp hi with y | y
    ·have:=hJ i y;omega
    ·rw [Zv.mp y];omega
def Qm5 (n m:Nat):List (List Nat):=(Q0t n).filter fun I=>decide (I.length=m)
theorem Qe2 {n m:Nat} {I:List Nat}:I∈Qm5 n m↔Qws n I∧I.length=m:=by
 unfold Qm5
 rw [Zdf,Zav]
 exact ⟨fun h=>⟨Qkn h.1,h.2⟩,fun h=>⟨Qhs h.1,h.2⟩⟩
abbrev Qcs (I:List Nat):T:=.tup (I.map fun (i:Nat)=>T.int (i:Int))
theorem Q0u (k:Nat) {n m:Nat} (n1:1≤n) (n4:n≤4) (m1:1≤m) (mn:m≤n):cfn (k+1) 22 [.fz (.int (n:Int)),.fz (.int (m:Int))]=.ok (.ow (.lst ((Qm5 n m).map Qcs))) [.non,.non]:=by
 rcases (show n=1∨n=2∨n=3∨n=4 by omega) with rfl | rfl | rfl | rfl
 ·obtain rfl:m=1:=by omega
  kernel_rfl
 ·rcases (show m=1∨m=2 by omega) with rfl | rfl <;> kernel_rfl
 ·rcases (show m=1∨m=2∨m=3 by omega) with rfl | rfl | rfl <;> kernel_rfl
 ·rcases (show m=1∨m=2∨m=3∨m=4 by omega) with rfl | rfl | rfl | rfl <;> kernel_rfl
open PySem L2
theorem Qrv (xs:List T):Qce xs none (some (-1))=xs.take (xs.length-1):=by
 unfold Qce HT.sIx
 simp
 try omega
noncomputable abbrev Qht:E:=.comp (.seq (.slc (.var 0) .nil (.cons (.neg (.int 1)) .nil))) [none,some 2] (.nm 0) .nil (.bin .add (.slc (.var 0) .nil (.cons (.var 1) .nil)) (.slc (.var 0) (.cons (.bin .add (.var 1) (.int 1)) .nil) .nil))
theorem Q97 (cf:CF) {M:Tb} {m:Nat} (hz:M.length=m+1) (hm:m≤1000) (hr:∀ r∈M,r.length≤1000) (j:Nat) (s1 s3 s4 s5:Slot):evE cf Qht [.fz (.lst (M.map Qf)),s1,.fz (.int j),s3,s4,s5]=.ok (.ow (.lst ((woc (M.take m) j).map Qf))) [.fz (.lst (M.map Qf)),s1,.fz (.int j),s3,s4,s5]:=by
 have ci:Qce (M.map Qf) none (some (-1))=(M.take m).map Qf:=by rw [Qrv,Zd,hz,Nat.add_sub_cancel,map_take]
 have hw:evW cf (.seq (.slc (.var 0) .nil (.cons (.neg (.int 1)) .nil))) [.fz (.lst (M.map Qf)),s1,.fz (.int j),s3,s4,s5]=.ok ((M.take m).map Qf,none) [.fz (.lst (M.map Qf)),s1,.fz (.int j),s3,s4,s5]:=by
  have os:Qyy (.lst (M.map Qf)) none (some (-1))=some (.ow (.lst ((M.take m).map Qf))):=by rw [←ci];rfl
  simp only [Qfy,Qi9,Qm,Q6,Qb,Q0,Qni,Qq,Qnh,Qh3,Qgx,Qk,Qi7,Qag,Qne,Int.reduceNeg,yC1,yC2,Qng,Qh2,Qnf,cont,Out.opt,os,Qja,Qe9,Qe8,Qdj,Qet]
  first | done | rfl
 have ak:evE cf Qht [.fz (.lst (M.map Qf)),s1,.fz (.int j),s3,s4,s5]=.ok (.ow (.lst (((M.take m).map Qf).map (Q3u j)))) [.fz (.lst (M.map Qf)),s1,.fz (.int j),s3,s4,s5] :=
  Qco (rest:=[.fz (.int j)]) hw rfl rfl rfl (fun x hx=>by
   obtain ⟨r,hm,rfl⟩:=Z7.mp hx
   have o:=Quw (j:=j) (hr r (Zbe hm))
   refine ⟨.fz (Qf (r.take j++r.drop (j+1))),?_,?_⟩
   ·simp only [Qcg,Qi9,Qm,Q6,Qb,Q0,Qni,Qq,Qnh,Qh3,Qgx,Qk,Qd,yC1,yC2,Qng,Qh2,Qnf,cont,Out.opt,ui4,Qcc,Qag,Qcb,Qca,uo1,o]
   ·show some (Qf (r.take j++r.drop (j+1)))=some (Qf ((iOf (Qf r)).take j++(iOf (Qf r)).drop (j+1)))
    rw [Qlg]) (by rw [Zd,Za4];omega)
 have em:((M.take m).map Qf).map (Q3u j)=(woc (M.take m) j).map Qf:=by
  unfold woc
  rw [Zb8,Zb8]
  apply Zbw
  intro r _
  show Qf ((iOf (Qf r)).take j++(iOf (Qf r)).drop (j+1))=Qf (r.take j++r.drop (j+1))
  rw [Qlg]
 rw [em] at ak
 exact ak
open PySem L2
abbrev Qcl (M:Tb):T:=.lst (M.map Qf)
theorem Q0v (M:Tb):Qt 50 (Qcl M)=true:=by
 show (M.map Qf).all (Qt 49)=true
 rw [Zah]
 intro t ht
 obtain ⟨r,_,rfl⟩:=Z7.mp ht
 show (r.map T.int).all (Qt 48)=true
 rw [Zah]
 intro u hu
 obtain ⟨i,_,rfl⟩:=Z7.mp hu
 rfl
theorem Qu6 (M:Tb):eqO (Qcl M) (.lst [])=some (decide (M=[])):=by
 show (if Qt 50 (Qcl M)=true∧Qt 50 (.lst [])=true then some (eqT (Qcl M) (.lst [])) else none)=_
 rw [Zf ⟨Q0v _,rfl⟩]
 cases M with
 | nil=>rfl
 | cons r M=>rw [Zx (fun z=>by cases z)];rfl
theorem Qeh {M:Tb} {i:Nat} (h:i<M.length):M.getD i []∈M:=by
 rw [Zh,Zc h]
 exact Zco h
theorem Q0w (xs:List T) (y:T):atI (xs++[y]) (-1)=some y:=by
 unfold atI
 have:ixN (xs++[y]).length (-1)=some xs.length:=by
  unfold ixN
  rw [Zo,Z4]
  simp
  omega
 rw [this]
 show (xs++[y])[xs.length]?=_
 simp
theorem Q0x {M:Tb} {m:Nat} (h:M.length=m+1):atI (M.map Qf) (-1)=some (Qf (M.getD m [])):=by
 have e:M=M.take m++[M.getD m []]:=by
  have a:=List.take_append_drop m M
  have b:M.drop m=[M.getD m []]:=by
   rw [List.drop_eq_getElem_cons (show m<M.length by omega),List.drop_eq_nil_of_le (by omega),Zh,Zc (show m<M.length by omega)]
   rfl
  rw [b] at a
  exact a.symm
 have f:M.map Qf=(M.take m).map Qf++[Qf (M.getD m [])]:=by
  conv=>lhs;rw [e]
  rw [Zck]
  rfl
 rw [f]
 exact Q0w _ _
theorem Q34 (r:List Int):Qk9 0 (r.map T.int)=(List.range r.length).map fun (j:Nat)=>T.tup [.int (j:Int),.int (ge r j)]:=by
 refine List.ext_getElem (by rw [Qeu,Zd,Zd,Zb0]) fun i h1 h2=>?_
 rw [Qeu,Zd] at h1
 have e:=Qi2 (r.map T.int) 0 i (.int (ge r i)) (by rw [Zab,Zc h1];unfold ge;rw [Zh,Zc h1];rfl)
 rw [Zak] at e
 rw [List.getElem_map,List.getElem_range]
 exact (List.getElem?_eq_some_iff.mp e).2
theorem Q35 {m:Nat} {M:Tb} (h:Sq (m+1) M) {c:Nat} (hc:c<m+1):Sq m (woc (M.take m) c):=by
 have hl:=h.len
 unfold woc
 refine ⟨by rw [Zd,Za4];omega,fun s hs=>?_,fun s hs x hx=>?_⟩
 ·obtain ⟨u,hu,rfl⟩:=Z7.mp hs
  have:=h.row u (Zbe hu)
  rw [Zo,Za4,Zbc]
  omega
 ·obtain ⟨u,hu,rfl⟩:=Z7.mp hs
  refine h.bd u (Zbe hu) x ?_
  rcases Zad.mp hx with z | z
  ·exact Zbe z
  ·exact Zbn z
theorem Q36 (m j:Nat):(sgw m j).natAbs=1:=by unfold sgw;omega
theorem Q37 {j:Int}:Qb9 2 j=true:=by unfold Qb9;simp
noncomputable abbrev Qrw (B:S):S:=.ite (.cmp .ne (.var 3) (.int 0)) (.seq B
 (.seq (.setF 5 (.bin .sub (.int 1) (.bin .mul (.int 2) (.bin .mod (.bin .add (.bin .sub (.bi .len (.cons (.var 0) .nil)) (.int 1)) (.var 2)) (.int 2)))))
 (.setF 1 (.bin .add (.var 1) (.bin .mul (.bin .mul (.var 3) (.var 5)) (.call 21 (.cons (.var 4) .nil))))))) .nil
abbrev Qlj:S:=Qrw (.setF 4 Qht)
theorem Qpy:∀ (m k:Nat) (M:Tb),m≤100→Sq m M→cfn (k+m+1) 21 [.fz (Qcl M)]=.ok (.fz (.int (woR m M))) [.non]
 | 0,k,M,hm,h=>by
  have e:M=[]:=List.eq_nil_of_length_eq_zero h.len
  subst e
  have en:=Qu6 []
  have z0:(0:Nat)≤100000:=by decide
  show Qb4 (cfn (k+0)) ⟨1,6,Qfg⟩ _=_
  rw [Qbn rfl]
  show Qcp _ (exS _ Qfg [.fz (Qcl []),.un,.un,.un,.un,.un])=_
  simp only [Qad,Qaw,Qbb,Qm,Q6,Qb,Q0,Qa8,Qdq,Qq,Qf8,Qc8,Zp,z0,Zl,Qa7,Qa6,cont,Qa5,uc1,en,Zan,Qv,yBl,Qae,yIf,Qbd,Qag,Qcj,Qmi,Qar,Qbc,Qav,Qa0,Q4,Option.map,woR]
  first | done | rfl
 | m+1,k,M,hm,h=>by
  have hl:=h.len
  have aH:¬ M=[]:=fun z=>by rw [z] at hl;cases hl
  have en:=Qu6 M
  rw [Zx aH] at en
  have z0:(0:Nat)≤100000:=by decide
  have rl:=h.row _ (Qeh (i:=m) (by omega))
  have bl:=h.bd _ (Qeh (i:=m) (by omega))
  obtain ⟨ρ',ef,s2,s3,s4,s5,_,_,_,_,rfl⟩:=Qey (fun j ρ=>∃ s2 s3 s4 s5:Slot,Qas s2=true∧Qas s3=true∧Qas s4=true∧Qas s5=true∧ρ=[.fz (Qcl M),.fz (.int (Qck (fun j=>ge (M.getD m []) j*sgw m j*woR m (woc (M.take m) j)) j)),s2,s3,s4,s5]) (tg:=.tp [2,3]) (b:=exS (cfn (k+m+1)) Qlj) (xs:=(List.range (m+1)).map fun (j:Nat)=>T.tup [.int (j:Int),.int (ge (M.getD m []) j)]) (n:=0) (ρ:=[.fz (Qcl M),.fz (.int 0),.un,.un,.un,.un]) ⟨.un,.un,.un,.un,rfl,rfl,rfl,rfl,rfl⟩ (by
   rintro j x ρ hx ⟨s2,s3,s4,s5,o2,o3,o4,o5,rfl⟩
   have hj:j<m+1:=by have:=(List.getElem?_eq_some_iff.mp hx).1;rwa [Zd,Zb0] at this
   rw [Zab,List.getElem?_range hj] at hx
   cases hx
   rw [Zak]
   have ed:=Qpy m k (woc (M.take m) j) (by omega) (Q35 h hj)
   have m1:Qb9 (ge (M.getD m []) j) (sgw m j)=true:=Qjn (Quv bl j)
   have m2:Qb9 (ge (M.getD m []) j*sgw m j) (woR m (woc (M.take m) j))=true:=Qjn (by rw [Int.natAbs_mul,Q36,Nat.mul_one];exact Quv bl j)
   have km:1-2*((((M.length:Nat):Int)-1+(j:Int))%2)=sgw m j:=by rw [hl];unfold sgw;congr 2;omega
   have b2:(0:Int)<2:=by decide
   have lM:∀ r∈M,r.length≤1000:=fun r hr=>by rw [h.row r hr];omega
   by_cases hg:ge (M.getD m []) j=0
   ·refine ⟨[.fz (Qcl M),.fz (.int (Qck (fun j=>ge (M.getD m []) j*sgw m j*woR m (woc (M.take m) j)) j)),.fz (.int (j:Int)),.fz (.int (ge (M.getD m []) j)),s4,s5],[.fz (Qcl M),.fz (.int (Qck (fun j=>ge (M.getD m []) j*sgw m j*woR m (woc (M.take m) j)) (j+1))),.fz (.int (j:Int)),.fz (.int (ge (M.getD m []) j)),s4,s5],(by cases s2 <;> first | (cases o2;done) | (cases s3 <;> first | rfl | cases o3)),.inl ?_,_,_,_,_,rfl,rfl,o4,o5,rfl⟩
    show _=SO.nx [.fz (Qcl M),.fz (.int (Qck (fun j=>ge (M.getD m []) j*sgw m j*woR m (woc (M.take m) j)) j+ge (M.getD m []) j*sgw m j*woR m (woc (M.take m) j))),.fz (.int (j:Int)),.fz (.int (ge (M.getD m []) j)),s4,s5]
    rw [hg,Int.zero_mul,Int.zero_mul,Int.add_zero]
    simp only [Qaw,Qbb,Qm,Q6,Qd,Qb,Q0,Qa8,Qag,Qa7,Qa6,cont,Qa5,uc2,Option.map,Qa1,Zan,Z3,Qv,yBl,Qae,yIf,Qch]
   ·refine ⟨[.fz (Qcl M),.fz (.int (Qck (fun j=>ge (M.getD m []) j*sgw m j*woR m (woc (M.take m) j)) j)),.fz (.int (j:Int)),.fz (.int (ge (M.getD m []) j)),s4,s5],[.fz (Qcl M),.fz (.int (Qck (fun j=>ge (M.getD m []) j*sgw m j*woR m (woc (M.take m) j)) (j+1))),.fz (.int (j:Int)),.fz (.int (ge (M.getD m []) j)),.fz (Qcl (woc (M.take m) j)),.fz (.int (sgw m j))],(by cases s2 <;> first | (cases o2;done) | (cases s3 <;> first | rfl | cases o3)),.inl ?_,_,_,_,_,rfl,rfl,rfl,rfl,rfl⟩
    show _=SO.nx [.fz (Qcl M),.fz (.int (Qck (fun j=>ge (M.getD m []) j*sgw m j*woR m (woc (M.take m) j)) j+ge (M.getD m []) j*sgw m j*woR m (woc (M.take m) j))),.fz (.int (j:Int)),.fz (.int (ge (M.getD m []) j)),.fz (Qcl (woc (M.take m) j)),.fz (.int (sgw m j))]
    have el:=Q97 (cfn (k+m+1)) hl (by omega) lM j (.fz (.int (Qck (fun j=>ge (M.getD m []) j*sgw m j*woR m (woc (M.take m) j)) j))) (.fz (.int (ge (M.getD m []) j))) s4 s5
    generalize Qck (fun j=>ge (M.getD m []) j*sgw m j*woR m (woc (M.take m) j)) j=ps at el ⊢
    generalize woR m (woc (M.take m) j)=D at ed m2 ⊢
    generalize woc (M.take m) j=W at ed el ⊢
    generalize ge (M.getD m []) j=g at el m1 m2 hg ⊢
    have es:exS (cfn (k+m+1)) (.setF 4 Qht) [.fz (Qcl M),.fz (.int ps),.fz (.int (j:Int)),.fz (.int g),s4,s5]=.nx [.fz (Qcl M),.fz (.int ps),.fz (.int (j:Int)),.fz (.int g),.fz (Qcl W),s5]:=by
     rw [Qax,el]
     cases s4 <;> first | rfl | (cases o4;done)
    show exS (cfn (k+m+1)) (Qrw (.setF 4 Qht)) _=_
    generalize S.setF 4 Qht=B0 at es ⊢
    cases s5 <;> first | (cases o5;done) | skip
    all_goals simp only [Qaw,Qbb,Qm,Q6,Qd,Qb,Q0,Qa8,Qag,Qa7,Qa6,cont,Qa5,uc2,Option.map,Qa1,hg,Zap,Z8,Qv,yBl,Qae,yIf,Qad,es,Qbp,Qax,Qcg,Qcc,Qb5,Qk,yC1,Qq,yC2,yBi,Qb1,Qao,Out.opt,ub1,Zd,Qcb,Qca,uo4,uo1,uo8,b2,Int.reduceLT,Za0,Zl,uo5,Q37,km,Qbv,Qaz,frz,Q8,Qba,Ze,Zp,Nat.reduceAdd,Nat.reduceLT,List.set,m1,Qab,Qx,Qu,Qaa,Qw,Qak,Q9,ed,Qay,Ql,Qz,L2.Qj,m2])
  rw [Zd,Zb0,Zak] at ef
  have al:=Q0x hl
  have er:=Q34 (M.getD m [])
  rw [rl] at er
  have je:evW (cfn (k+m+1)) (.enm (.ix (.var 0) (.neg (.int 1)))) [.fz (Qcl M),.fz (.int 0),.un,.un,.un,.un]=.ok ((List.range (m+1)).map fun (j:Nat)=>T.tup [.int (j:Int),.int (ge (M.getD m []) j)],none) [.fz (Qcl M),.fz (.int 0),.un,.un,.un,.un]:=by
   simp only [Qadx,Qhv,Qm,Q6,Qb,Q0,Qg6,Qi7,Qag,Qne,Int.reduceNeg,Qg5,Qg4,cont,Qg3,ui1,al,yEnm,Q5l,er,Qet]
  show Qb4 (cfn (k+m+1)) ⟨1,6,Qfg⟩ _=_
  rw [Qbn rfl]
  show Qcp _ (exS _ (.seq (.ite (.cmp .eq (.var 0) (.lst .nil)) (.ret (.int 1)) .nil) (.seq (.setF 1 (.int 0)) (.seq (.for_ (.enm (.ix (.var 0) (.neg (.int 1)))) (.tp [2,3]) Qlj) (.ret (.var 1))))) [.fz (Qcl M),.un,.un,.un,.un,.un])=_
  have ed:woR (m+1) M=Qck (fun j=>ge (M.getD m []) j*sgw m j*woR m (woc (M.take m) j)) (m+1):=rfl
  rw [ed]
  have du:exS (cfn (k+m+1)) (.for_ (.enm (.ix (.var 0) (.neg (.int 1)))) (.tp [2,3]) Qlj) [.fz (Qcl M),.fz (.int 0),.un,.un,.un,.un]=.nx [.fz (Qcl M),.fz (.int (Qck (fun j=>ge (M.getD m []) j*sgw m j*woR m (woc (M.take m) j)) (m+1))),s2,s3,s4,s5]:=by
   rw [Qdd,je]
   simp only [Qae,Qgr,ef,Qcu]
  generalize Qck (fun j=>ge (M.getD m []) j*sgw m j*woR m (woc (M.take m) j)) (m+1)=ps at du ⊢
  generalize S.for_ (.enm (.ix (.var 0) (.neg (.int 1)))) (.tp [2,3]) Qlj=B0 at du ⊢
  simp only [Qad,Qaw,Qbb,Qm,Q6,Qb,Q0,Qa8,Qdq,Qq,Qf8,Qc8,Zp,z0,Zl,Qa7,Qa6,cont,Qa5,uc1,en,Qv,yBl,Qae,yIf,Qch,Qbp,Qax,Qag,Qbv,Qaz,frz,Q8,Qba,Ze,Nat.reduceAdd,Nat.reduceLT,Qd,List.set,du,Qbd,Qcj,Qar,Qbc,Qav,Qa0,Q4,Option.map]
open PySem L2
theorem Qko {α:Type} {tg:Tg} {b:En→SO} (f:α→T) (p:α→Bool) (v:PV) (J:En→Prop):∀ (xs:List α) (ρ:En),J ρ→(∀ x∈xs,∀ ρ,J ρ→∃ ρ1 ρ2,Qdk tg (f x) ρ=some ρ1∧J ρ2∧((p x=true∧b ρ1=.rt v ρ2)∨(p x=false∧b ρ1=.nx ρ2))) →
  ∃ ρ',J ρ'∧((xs.any p=true∧Qb0 tg b (xs.map f) ρ=.rt v ρ')∨(xs.any p=false∧Qb0 tg b (xs.map f) ρ=.nx ρ'))
 | [],ρ,h,_=>⟨ρ,h,.inr ⟨rfl,rfl⟩⟩
 | x::xs,ρ,h,hs=>by
  obtain ⟨ρ1,ρ2,e1,j,e2⟩:=hs x (.head _) ρ h
  rw [Z6,Zdz]
  rcases e2 with ⟨hp,e2⟩ | ⟨hp,e2⟩
  ·exact ⟨ρ2,j,.inl ⟨by rw [hp];rfl,Qm4 e1 e2⟩⟩
  ·obtain ⟨ρ',q⟩:=Qko f p v J xs ρ2 j fun y hy=>hs y (.tail _ hy)
   refine ⟨ρ',?_⟩
   rw [hp,Bool.false_or,Qdp e1 e2]
   exact q
noncomputable abbrev Q0y:E:=.comp (.seq (.var 4)) [none,some 0,some 6] (.nm 0) .nil (.ix (.ix (.var 1) (.var 2)) (.var 0))
theorem Qu7 (j:Nat):jOf (.int (j:Int))=j:=by show ((j:Int)).toNat=j;exact Int.toNat_natCast j
theorem Qpz {M:Tb} {i:Nat} (h:i<M.length):atI (M.map Qf) (i:Int)=some (Qf (M.getD i [])):=by
 refine Qf3 ?_
 rw [Zab,Zc h,Zh,Zc h]
 rfl
theorem Q98 (cf:CF) {n:Nat} {M:Tb} (h:Sq n M) {i:Nat} (hi:i<n) {J:List Nat} (hJ:∀ j∈J,j<n) (hz:J.length≤1000) (s1 s2 s3 s5:Slot):evE cf Q0y [.fz (Q1 M),s1,s2,s3,.fz (Qcs J),s5,.fz (.int (i:Int))]=.ok (.ow (.lst ((res J (M.getD i [])).map T.int))) [.fz (Q1 M),s1,s2,s3,.fz (Qcs J),s5,.fz (.int (i:Int))]:=by
 have hl:=h.len
 have ak:evE cf Q0y [.fz (Q1 M),s1,s2,s3,.fz (Qcs J),s5,.fz (.int (i:Int))]=.ok (.ow (.lst ((J.map fun (j:Nat)=>T.int (j:Int)).map fun x=>T.int (ge (M.getD i []) (jOf x))))) [.fz (Q1 M),s1,s2,s3,.fz (Qcs J),s5,.fz (.int (i:Int))] :=
  Qco (rest:=[.fz (Q1 M),.fz (.int (i:Int))]) rfl rfl rfl rfl (fun x hx=>by
   obtain ⟨j,hj,rfl⟩:=Z7.mp hx
   have a1:=Qpz (M:=M) (i:=i) (by omega)
   have a2:=Qk4 (r:=M.getD i []) (j:=j) (by rw [h.row _ (Qeh (by omega))];exact hJ j hj)
   refine ⟨.fz (.int (ge (M.getD i []) j)),?_,by rw [Qu7];rfl⟩
   simp only [Qhv,Qm,Q6,Qd,Qb,Q0,Qg6,Qg5,Qg4,cont,Qg3,ui2,a1,a2]) (by rw [Zd];omega)
 have em:((J.map fun (j:Nat)=>T.int (j:Int)).map fun x=>T.int (ge (M.getD i []) (jOf x)))=(res J (M.getD i [])).map T.int:=by
  unfold res
  rw [Zb8,Zb8]
  apply Zbw
  intro j _
  show T.int (ge _ (jOf (.int (j:Int))))=T.int _
  rw [Qu7]
 rw [em] at ak
 exact ak
abbrev Qer:S:=.app 5 (.bi .tup (.cons Q0y .nil))
theorem Qu8 (cf:CF) {n:Nat} {M:Tb} (h:Sq n M) {J:List Nat} (hJ:∀ j∈J,j<n) (hz:J.length≤1000) (s1 s2 s3:Slot):∀ (I:List Nat) (acc:Tb) (s6:Slot),Qas s6=true→(∀ i∈I,i<n)→acc.length+I.length≤1000 →
  ∃ aG,Qas aG=true∧Qb0 (.nm 6) (exS cf Qer) (I.map fun (i:Nat)=>T.int (i:Int)) [.fz (Q1 M),s1,s2,s3,.fz (Qcs J),.ow (Qcl acc),s6]=.nx [.fz (Q1 M),s1,s2,s3,.fz (Qcs J),.ow (Qcl (acc++mnr M I J)),aG]
 | [],acc,s6,o6,_,_=>⟨s6,o6,by show SO.nx _=_;unfold mnr;rw [Zde,Za6]⟩
 | i::I,acc,s6,o6,hI,hl=>by
  rw [Ze] at hl
  obtain ⟨aG,dh,e⟩:=Qu8 cf h hJ hz s1 s2 s3 I (acc++[res J (M.getD i [])]) (.fz (.int (i:Int))) rfl (fun x hx=>hI x (.tail _ hx)) (by rw [Zo,Z4];omega)
  have st:Qdk (.nm 6) (.int (i:Int)) [.fz (Q1 M),s1,s2,s3,.fz (Qcs J),.ow (Qcl acc),s6]=some [.fz (Q1 M),s1,s2,s3,.fz (Qcs J),.ow (Qcl acc),.fz (.int (i:Int))]:=by
   cases s6 <;> first | rfl | (cases o6;done)
  have z:acc.length<100000:=by omega
  have ep:=Q98 cf h (hI i (.head _)) hJ hz s1 s2 s3 (.ow (Qcl acc))
  have t:exS cf Qer [.fz (Q1 M),s1,s2,s3,.fz (Qcs J),.ow (Qcl acc),.fz (.int (i:Int))]=.nx [.fz (Q1 M),s1,s2,s3,.fz (Qcs J),.ow (Qcl (acc++[res J (M.getD i [])])),.fz (.int (i:Int))]:=by
   have el:Qcl (acc++[res J (M.getD i [])])=.lst (acc.map Qf++[Qf (res J (M.getD i []))]):=by show T.lst ((acc++[res J (M.getD i [])]).map Qf)=_;rw [Zck];rfl
   rw [el]
   simp only [Qj5,Slot.mut,Qd,Qb,Qb5,Qk,ep,Q0,yC1,Qq,yC2,yBi,Qb1,Qao,cont,Out.opt,ub9,Qae,Qq6,Qml,frz,Qmk,Zd,z,List.set,Zl]
  refine ⟨aG,dh,?_⟩
  rw [Z6,Qdp st t,e,Zdm]
  rfl
theorem Q99 {n c:Nat} {M:Tb} (h:Sq n M) {I J:List Nat} (hI:I.length=c) (hJ:J.length=c) (iI:∀ i∈I,i<n):Sq c (mnr M I J):=by
 unfold mnr
 refine ⟨by rw [Zd,hI],fun r hr=>?_,fun r hr x hx=>?_⟩
 ·obtain ⟨i,_,rfl⟩:=Z7.mp hr
  exact Qpq hJ _
 ·obtain ⟨i,hi,rfl⟩:=Z7.mp hr
  unfold res at hx
  obtain ⟨j,_,rfl⟩:=Z7.mp hx
  exact Quv (h.bd _ (Qeh (by rw [h.len];exact iI i hi))) j
noncomputable abbrev Q38:S:=.seq (.frz 5) (.ite (.cmp .ne (.call 21 (.cons (.var 5) .nil)) (.int 0)) (.ret (.var 2)) .nil)
abbrev Qp0 (B:S):S:=.seq (.set 5 (.lst .nil)) (.seq B Q38)
abbrev Qij:S:=Qp0 (.for_ (.seq (.var 3)) (.nm 6) Qer)
def nzB (M:Tb) (c:Nat) (I J:List Nat):Bool:=!decide (Qaj c (mnr M I J)=0)
theorem Q39 (k:Nat) {n c:Nat} {M:Tb} (h:Sq n M) (c1:1≤c) (c4:c≤4) {I J:List Nat} (hI:I.length=c) (iI:∀ i∈I,i<n) (hJ:J.length=c) (iJ:∀ j∈J,j<n) (s1:Slot) {s5 s6:Slot} (o5:Qas s5=true) (o6:Qas s6=true) :
  ∃ aX aG,Qas aX=true∧Qas aG=true∧((nzB M c I J=true∧exS (cfn (k+6)) Qij [.fz (Q1 M),s1,.fz (.int (c:Int)),.fz (Qcs I),.fz (Qcs J),s5,s6]=.rt (.fz (.int (c:Int))) [.fz (Q1 M),s1,.fz (.int (c:Int)),.fz (Qcs I),.fz (Qcs J),aX,aG]) ∨
   (nzB M c I J=false∧exS (cfn (k+6)) Qij [.fz (Q1 M),s1,.fz (.int (c:Int)),.fz (Qcs I),.fz (Qcs J),s5,s6]=.nx [.fz (Q1 M),s1,.fz (.int (c:Int)),.fz (Qcs I),.fz (Qcs J),aX,aG])):=by
 obtain ⟨aG,dh,e⟩:=Qu8 (cfn (k+6)) h iJ (by omega) s1 (.fz (.int (c:Int))) (.fz (Qcs I)) I [] s6 o6 iI (by rw [Zp];omega)
 rw [List.nil_append] at e
 have sq:=Q99 h hI hJ iI
 have ew:=Qpy c (k+(5-c)) (mnr M I J) (by omega) sq
 rw [show k+(5-c)+c+1=k+6 by omega,Quu sq.shp c1 c4] at ew
 have z0:(0:Nat)≤100000:=by decide
 have ef:exS (cfn (k+6)) (.for_ (.seq (.var 3)) (.nm 6) Qer) [.fz (Q1 M),s1,.fz (.int (c:Int)),.fz (Qcs I),.fz (Qcs J),.ow (.lst []),s6]=.nx [.fz (Q1 M),s1,.fz (.int (c:Int)),.fz (Qcs I),.fz (Qcs J),.ow (Qcl (mnr M I J)),aG]:=by
  have e':Qb0 (.nm 6) (exS (cfn (k+6)) Qer) (I.map fun (i:Nat)=>T.int (i:Int)) [.fz (Q1 M),s1,.fz (.int (c:Int)),.fz (Qcs I),.fz (Qcs J),.ow (.lst []),s6]=.nx [.fz (Q1 M),s1,.fz (.int (c:Int)),.fz (Qcs I),.fz (Qcs J),.ow (Qcl (mnr M I J)),aG]:=e
  generalize Qer=B0 at e' ⊢
  simp only [Qdd,Qfy,Qm,Q6,Qd,Qb,Q0,Qja,Qe9,cont,Qe8,Qdj,Qet,Qae,Qgr,e',Qcu]
 refine ⟨.fz (Qcl (mnr M I J)),aG,rfl,dh,?_⟩
 have jF:nzB M c I J = !decide (Qaj c (mnr M I J)=0):=rfl
 show _∧exS (cfn (k+6)) (Qp0 (.for_ (.seq (.var 3)) (.nm 6) Qer)) _=_∨_∧exS (cfn (k+6)) (Qp0 (.for_ (.seq (.var 3)) (.nm 6) Qer)) _=_
 generalize S.for_ (.seq (.var 3)) (.nm 6) Qer=B0 at ef ⊢
 rw [jF]
 generalize Qaj c (mnr M I J)=D at ew ⊢
 generalize mnr M I J=W at ef ew ⊢
 by_cases hd:D=0
 ·refine .inr ⟨by rw [hd];rfl,?_⟩
  cases s5 <;> first | (cases o5;done) | skip
  all_goals simp only [Qad,Qmj,Qdq,Qq,Q0,Qf8,Qc8,Zp,z0,Zl,Qae,Qnb,Q8,Qba,Ze,Nat.reduceAdd,Nat.reduceLT,Qd,Qb,List.set,Qbp,ef,Q5o,Q9e,Qaw,Qbb,Qab,Qk,Qm,Q6,yC1,yC2,Qx,Qu,Qaa,Qw,Qak,Q9,ew,hd,Qay,Ql,Qz,L2.Qj,Option.map,Qa8,Qag,Qa7,Qa6,cont,Qa5,uc2,Qa1,Zan,Z3,Qv,yBl,yIf,Qch]
 ·refine .inl ⟨by rw [Zx hd];rfl,?_⟩
  cases s5 <;> first | (cases o5;done) | skip
  all_goals simp only [Qad,Qmj,Qdq,Qq,Q0,Qf8,Qc8,Zp,z0,Zl,Qae,Qnb,Q8,Qba,Ze,Nat.reduceAdd,Nat.reduceLT,Qd,Qb,List.set,Qbp,ef,Q5o,Q9e,Qaw,Qbb,Qab,Qk,Qm,Q6,yC1,yC2,Qx,Qu,Qaa,Qw,Qak,Q9,ew,Qay,Ql,Qz,L2.Qj,Option.map,Qa8,Qag,Qa7,Qa6,cont,Qa5,uc2,Qa1,hd,Zap,Z8,Qv,yBl,yIf,Qbd,Qcj]
abbrev Qik:S:=.for_ (.seq (.call 22 (.cons (.var 1) (.cons (.var 2) .nil)))) (.nm 4) Qij
theorem Q4a (k:Nat) {n c:Nat} {M:Tb} (h:Sq n M) (n4:n≤4) (c1:1≤c) (cn:c≤n) {I:List Nat} (hI:I∈Qm5 n c) {s4 s5 s6:Slot} (o4:Qas s4=true) (o5:Qas s5=true) (o6:Qas s6=true) :
  ∃ bB aX aG,(Qas bB=true∧Qas aX=true∧Qas aG=true)∧(((Qm5 n c).any (nzB M c I)=true∧exS (cfn (k+6)) Qik [.fz (Q1 M),.fz (.int (n:Int)),.fz (.int (c:Int)),.fz (Qcs I),s4,s5,s6]=.rt (.fz (.int (c:Int))) [.fz (Q1 M),.fz (.int (n:Int)),.fz (.int (c:Int)),.fz (Qcs I),bB,aX,aG]) ∨
   ((Qm5 n c).any (nzB M c I)=false∧exS (cfn (k+6)) Qik [.fz (Q1 M),.fz (.int (n:Int)),.fz (.int (c:Int)),.fz (Qcs I),s4,s5,s6]=.nx [.fz (Q1 M),.fz (.int (n:Int)),.fz (.int (c:Int)),.fz (Qcs I),bB,aX,aG])):=by
 obtain ⟨⟨_,iI⟩,lI⟩:=Qe2.mp hI
 obtain ⟨ρ',⟨bB,aX,aG,p4,p5,p6,rfl⟩,q⟩:=Qko (tg:=.nm 4) (b:=exS (cfn (k+6)) Qij) Qcs (nzB M c I) (.fz (.int (c:Int))) (fun ρ=>∃ s4 s5 s6:Slot,Qas s4=true∧Qas s5=true∧Qas s6=true∧ρ=[.fz (Q1 M),.fz (.int (n:Int)),.fz (.int (c:Int)),.fz (Qcs I),s4,s5,s6]) (Qm5 n c) _ ⟨s4,s5,s6,o4,o5,o6,rfl⟩ (by
  rintro J hJ ρ ⟨t4,t5,t6,u4,u5,u6,rfl⟩
  obtain ⟨⟨_,iJ⟩,lJ⟩:=Qe2.mp hJ
  obtain ⟨iU,iY,fF,f9,e⟩:=Q39 k h c1 (by omega) lI iI lJ iJ (.fz (.int (n:Int))) u5 u6
  exact ⟨_,_,(by cases t4 <;> first | rfl | (cases u4;done)),⟨_,_,_,rfl,fF,f9,rfl⟩,e⟩)
 have es:=Q0u (k+5) (show 1≤n by omega) n4 c1 cn
 refine ⟨bB,aX,aG,⟨p4,p5,p6⟩,?_⟩
 show _∧exS (cfn (k+6)) (.for_ (.seq (.call 22 (.cons (.var 1) (.cons (.var 2) .nil)))) (.nm 4) Qij) _=_∨_∧exS (cfn (k+6)) (.for_ (.seq (.call 22 (.cons (.var 1) (.cons (.var 2) .nil)))) (.nm 4) Qij) _=_
 generalize Qij=B0 at q ⊢
 rcases q with ⟨qa,qb⟩ | ⟨qa,qb⟩
 ·refine .inl ⟨qa,?_⟩
  simp only [Qdd,Qfy,Qab,Qk,Qm,Q6,Qd,Qb,Q0,yC1,Qq,yC2,Qx,Qu,Qaa,Qw,Qak,Q9,es,Qay,Ql,Qz,L2.Qj,Option.map,Zl,Qja,Qe9,cont,Qe8,Qdj,Qet,Qae,Qgr,qb,Qle]
  first | done | rfl
 ·refine .inr ⟨qa,?_⟩
  simp only [Qdd,Qfy,Qab,Qk,Qm,Q6,Qd,Qb,Q0,yC1,Qq,yC2,Qx,Qu,Qaa,Qw,Qak,Q9,es,Qay,Ql,Qz,L2.Qj,Option.map,Zl,Qja,Qe9,cont,Qe8,Qdj,Qet,Qae,Qgr,qb,Qcu]
  first | done | rfl
def fnd (M:Tb) (n c:Nat):Bool:=(Qm5 n c).any fun I=>(Qm5 n c).any (nzB M c I)
abbrev Qgi:S:=.for_ (.seq (.call 22 (.cons (.var 1) (.cons (.var 2) .nil)))) (.nm 3) Qik
theorem Q4b (k:Nat) {n c:Nat} {M:Tb} (h:Sq n M) (n4:n≤4) (c1:1≤c) (cn:c≤n) {s3 s4 s5 s6:Slot} (o3:Qas s3=true) (o4:Qas s4=true) (o5:Qas s5=true) (o6:Qas s6=true) :
  ∃ bU bB aX aG,(Qas bU=true∧Qas bB=true∧Qas aX=true∧Qas aG=true)∧((fnd M n c=true∧exS (cfn (k+6)) Qgi [.fz (Q1 M),.fz (.int (n:Int)),.fz (.int (c:Int)),s3,s4,s5,s6]=.rt (.fz (.int (c:Int))) [.fz (Q1 M),.fz (.int (n:Int)),.fz (.int (c:Int)),bU,bB,aX,aG]) ∨
   (fnd M n c=false∧exS (cfn (k+6)) Qgi [.fz (Q1 M),.fz (.int (n:Int)),.fz (.int (c:Int)),s3,s4,s5,s6]=.nx [.fz (Q1 M),.fz (.int (n:Int)),.fz (.int (c:Int)),bU,bB,aX,aG])):=by
 obtain ⟨ρ',⟨bU,bB,aX,aG,p3,p4,p5,p6,rfl⟩,q⟩:=Qko (tg:=.nm 3) (b:=exS (cfn (k+6)) Qik) Qcs (fun I=>(Qm5 n c).any (nzB M c I)) (.fz (.int (c:Int))) (fun ρ=>∃ s3 s4 s5 s6:Slot,Qas s3=true∧Qas s4=true∧Qas s5=true∧Qas s6=true∧ρ=[.fz (Q1 M),.fz (.int (n:Int)),.fz (.int (c:Int)),s3,s4,s5,s6]) (Qm5 n c) _ ⟨s3,s4,s5,s6,o3,o4,o5,o6,rfl⟩ (by
  rintro I hI ρ ⟨t3,t4,t5,t6,u3,u4,u5,u6,rfl⟩
  obtain ⟨ky,iU,iY,⟨jG,fF,f9⟩,e⟩:=Q4a k h n4 c1 cn hI u4 u5 u6
  exact ⟨_,_,(by cases t3 <;> first | rfl | (cases u3;done)),⟨_,_,_,_,rfl,jG,fF,f9,rfl⟩,e⟩)
 have es:=Q0u (k+5) (show 1≤n by omega) n4 c1 cn
 refine ⟨bU,bB,aX,aG,⟨p3,p4,p5,p6⟩,?_⟩
 show fnd M n c=true∧exS (cfn (k+6)) (.for_ (.seq (.call 22 (.cons (.var 1) (.cons (.var 2) .nil)))) (.nm 3) Qik) _=_∨_∧exS (cfn (k+6)) (.for_ (.seq (.call 22 (.cons (.var 1) (.cons (.var 2) .nil)))) (.nm 3) Qik) _=_
 generalize Qik=B0 at q ⊢
 rcases q with ⟨qa,qb⟩ | ⟨qa,qb⟩
 ·refine .inl ⟨qa,?_⟩
  simp only [Qdd,Qfy,Qab,Qk,Qm,Q6,Qd,Qb,Q0,yC1,Qq,yC2,Qx,Qu,Qaa,Qw,Qak,Q9,es,Qay,Ql,Qz,L2.Qj,Option.map,Zl,Qja,Qe9,cont,Qe8,Qdj,Qet,Qae,Qgr,qb,Qle]
  first | done | rfl
 ·refine .inr ⟨qa,?_⟩
  simp only [Qdd,Qfy,Qab,Qk,Qm,Q6,Qd,Qb,Q0,yC1,Qq,yC2,Qx,Qu,Qaa,Qw,Qak,Q9,es,Qay,Ql,Qz,L2.Qj,Option.map,Zl,Qja,Qe9,cont,Qe8,Qdj,Qet,Qae,Qgr,qb,Qcu]
  first | done | rfl
open PySem L2
def dn:Nat→List Nat
 | 0=>[]
 | c+1=>(c+1)::dn c
def rkO:Option Nat→En→SO
 | some c,ρ=>.rt (.fz (.int (c:Int))) ρ
 | none,ρ=>.nx ρ
theorem Q0z:∀ {n c:Nat},c∈dn n→1≤c∧c≤n
 | 0,c,h=>by cases h
 | n+1,c,h=>by
  rcases Z9.mp h with rfl | h
  ·omega
  ·have:=Q0z h;omega
theorem Qaed {n:Nat} (n1:1≤n) (n4:n≤4):dnT (n:Int) ((n:Int)-0).toNat=(dn n).map fun (c:Nat)=>T.int (c:Int):=by
 rcases (show n=1∨n=2∨n=3∨n=4 by omega) with rfl | rfl | rfl | rfl <;> rfl
theorem Q00 {r:Nat} (g:Nat→Bool) (no:∀ c,r<c→g c=false) (yes:1≤r→g r=true):∀ c,r≤c→(dn c).find? g=if r=0 then none else some r
 | 0,h=>by rw [Zf (by omega)];rfl
 | c+1,h=>by
  rw [dn,List.find?_cons]
  by_cases e:r=c+1
  ·subst e
   rw [yes (by omega),Zg (by omega)]
  ·rw [no (c+1) (by omega)]
   exact Q00 g no yes c (by omega)
theorem Q01 {n:Nat} {M:Tb} (h:Shp n M) (n4:n≤4):(dn n).find? (fnd M n)=if (Qcf lnR M).length=0 then none else some (Qcf lnR M).length:=by
 refine Q00 _ (fun c hc=>?_) (fun h1=>?_) n (Qut h Qm3)
 ·by_cases c4:c≤4
  ·unfold fnd
   rw [Zdj]
   intro I hI
   rw [Bool.not_eq_true,Zdj]
   intro J hJ
   obtain ⟨⟨_,iI⟩,lI⟩:=Qe2.mp hI
   obtain ⟨_,lJ⟩:=Qe2.mp hJ
   unfold nzB
   rw [Q3r h Qm3 hc c4 lI lJ iI]
   decide
  ·unfold fnd
   rw [Zdj]
   intro I hI
   exfalso
   obtain ⟨⟨pI,iI⟩,lI⟩:=Qe2.mp hI
   have:=Qlf I (List.range n) (pI.imp fun h=>by omega) fun x hx=>Zb9.mpr (iI x hx)
   rw [Zb0] at this
   omega
 ·obtain ⟨I,J,rI,rJ,lI,lJ,hd⟩:=Q0f h n4 Qm3 h1
  unfold fnd
  rw [List.any_eq_true]
  refine ⟨I,Qe2.mpr ⟨rI,lI⟩,?_⟩
  rw [List.any_eq_true]
  refine ⟨J,Qe2.mpr ⟨rJ,lJ⟩,?_⟩
  unfold nzB
  rw [Zx hd]
  rfl
theorem Qrx (k:Nat) {n:Nat} {M:Tb} (h:Sq n M) (n4:n≤4):∀ (L:List Nat),(∀ c∈L,1≤c∧c≤n)→∀ (s2 s3 s4 s5 s6:Slot),Qas s2=true→Qas s3=true→Qas s4=true→Qas s5=true→Qas s6=true →
  ∃ dR bU bB aX aG,Qb0 (.nm 2) (exS (cfn (k+6)) Qgi) (L.map fun (c:Nat)=>T.int (c:Int)) [.fz (Q1 M),.fz (.int (n:Int)),s2,s3,s4,s5,s6]=rkO (L.find? (fnd M n)) [.fz (Q1 M),.fz (.int (n:Int)),dR,bU,bB,aX,aG]
 | [],_,s2,s3,s4,s5,s6,_,_,_,_,_=>⟨s2,s3,s4,s5,s6,rfl⟩
 | c::L,hL,s2,s3,s4,s5,s6,o2,o3,o4,o5,o6=>by
  obtain ⟨c1,cn⟩:=hL c (.head _)
  obtain ⟨t3,t4,t5,t6,⟨u3,u4,u5,u6⟩,q⟩:=Q4b k h n4 c1 cn o3 o4 o5 o6
  have st:Qdk (.nm 2) (.int (c:Int)) [.fz (Q1 M),.fz (.int (n:Int)),s2,s3,s4,s5,s6]=some [.fz (Q1 M),.fz (.int (n:Int)),.fz (.int (c:Int)),s3,s4,s5,s6]:=by
   cases s2 <;> first | rfl | (cases o2;done)
  rw [Z6,List.find?_cons]
  rcases q with ⟨qa,qb⟩ | ⟨qa,qb⟩
  ·rw [qa]
   exact ⟨_,_,_,_,_,Qm4 st qb⟩
  ·rw [qa,Qdp st qb]
   exact Qrx k h n4 L (fun x hx=>hL x (.tail _ hx)) _ _ _ _ _ rfl u3 u4 u5 u6
theorem Qtj (k:Nat) {n:Nat} {M:Tb} (h:Sq n M) (n1:1≤n) (n4:n≤4):cfn (k+7) 23 [.fz (Q1 M)]=.ok (.fz (.int ((Qcf lnR M).length:Nat))) [.non]:=by
 have hl:=h.len
 obtain ⟨s2,s3,s4,s5,s6,e⟩:=Qrx k h n4 (dn n) (fun c hc=>Q0z hc) .un .un .un .un .un rfl rfl rfl rfl rfl
 rw [Q01 h.shp n4] at e
 have hw:evW (cfn (k+6)) (.rngD (.var 1) (.int 0)) [.fz (Q1 M),.fz (.int (n:Int)),.un,.un,.un,.un,.un]=.ok ((dn n).map fun (c:Nat)=>T.int (c:Int),none) [.fz (Q1 M),.fz (.int (n:Int)),.un,.un,.un,.un,.un]:=by
  have c:((n:Int)).natAbs≤100000∧(0:Int).natAbs≤100000:=by omega
  rw [Q9b]
  show (if ((n:Int)).natAbs≤100000∧(0:Int).natAbs≤100000 then Out.ok (dnT (n:Int) ((n:Int)-0).toNat,none) _ else .no)=_
  rw [Zf c,Qaed n1 n4]
 have ef:exS (cfn (k+6)) (.for_ (.rngD (.var 1) (.int 0)) (.nm 2) Qgi) [.fz (Q1 M),.fz (.int (n:Int)),.un,.un,.un,.un,.un]=rkO (if (Qcf lnR M).length=0 then none else some (Qcf lnR M).length) [.fz (Q1 M),.fz (.int (n:Int)),s2,s3,s4,s5,s6]:=by
  generalize Qgi=B0 at e ⊢
  rw [Qdd,hw]
  by_cases hz:(Qcf lnR M).length=0
  ·rw [Zf hz] at e ⊢
   show Qh1 (Qb0 _ _ _ _)=_
   rw [e]
   rfl
  ·rw [Zg hz] at e ⊢
   show Qh1 (Qb0 _ _ _ _)=_
   rw [e]
   rfl
 show Qb4 (cfn (k+6)) ⟨1,7,Qm0⟩ _=_
 rw [Qbn rfl]
 show Qcp _ (exS _ (.seq (.setF 1 (.bi .len (.cons (.var 0) .nil))) (.seq (.for_ (.rngD (.var 1) (.int 0)) (.nm 2) Qgi) (.ret (.int 0)))) [.fz (Q1 M),.un,.un,.un,.un,.un,.un])=_
 generalize S.for_ (.rngD (.var 1) (.int 0)) (.nm 2) Qgi=B0 at ef ⊢
 generalize (Qcf lnR M).length=r at ef ⊢
 by_cases hz:r=0
 ·rw [Zf hz] at ef
  have du:exS (cfn (k+6)) B0 [.fz (Q1 M),.fz (.int (n:Int)),.un,.un,.un,.un,.un]=.nx [.fz (Q1 M),.fz (.int (n:Int)),s2,s3,s4,s5,s6]:=ef
  simp only [Qad,Qax,Qb5,Qk,Qm,Q6,Qb,Q0,yC1,Qq,yC2,yBi,Qb1,Qao,cont,Out.opt,ub2,Zd,hl,Qae,Qbv,Qaz,frz,Q8,Qba,Ze,Zp,Nat.reduceAdd,Nat.reduceLT,Qd,List.set,Zl,Qbp,du,Qbd,Qag,Qcj,Qar,Qbc,Qav,Qa0,Q4,Option.map,hz]
  first | done | rfl
 ·rw [Zg hz] at ef
  have du:exS (cfn (k+6)) B0 [.fz (Q1 M),.fz (.int (n:Int)),.un,.un,.un,.un,.un]=.rt (.fz (.int (r:Int))) [.fz (Q1 M),.fz (.int (n:Int)),s2,s3,s4,s5,s6]:=ef
  simp only [Qad,Qax,Qb5,Qk,Qm,Q6,Qb,Q0,yC1,Qq,yC2,yBi,Qb1,Qao,cont,Out.opt,ub2,Zd,hl,Qae,Qbv,Qaz,frz,Q8,Qba,Ze,Zp,Nat.reduceAdd,Nat.reduceLT,Qd,List.set,Zl,Qbp,du,Qmi,Qar,Qbc,Qav,Qa0,Q4,Option.map]
  first | done | rfl
theorem Qlk (k:Nat) {n:Nat} {M:Tb} (h:Sq n M) (n1:1≤n) (n4:n≤4):cfn (k+11) 24 [.fz (Q1 M)]=.ok (.fz (.bl true)) [.non]:=by
 have e1:=Qno k h n1 n4
 have e2:=Q95 (k+5) h n1 n4
 have e3:=fun i=>Qk3 (k+9) (.int i)
 have e4:=Qpy n (k+(9-n)) M (by omega) h
 rw [show k+(9-n)+n+1=k+10 by omega,Quu h.shp n1 n4] at e4
 have e5:=Qtj (k+3) h n1 n4
 have z:M.length≤100000:=by rw [h.len];omega
 show Qb4 (cfn (k+10)) ⟨1,3,Qg9⟩ _=_
 rw [Qbn rfl]
 show Qcp _ (exS _ Qg9 [.fz (Q1 M),.un,.un])=_
 have ol:Qgq .list [Q1 M]=some (.ow (Qcl M)):=rfl
 generalize Qaj n M=D at e1 e4
 generalize (((Qcf lnR M).length:Nat):Int)=r at e2 e5
 simp only [Qad,Qzs,Qab,Qk,Qm,Q6,Qb,Q0,yC1,Qq,yC2,Qx,Qu,Qaa,Qw,Qak,Q9,e1,Qay,Ql,Qz,L2.Qj,Option.map,Zl,Qae,Qug,e2,Quf,Q8,Qbj,Qba,Ze,Zp,Nat.reduceAdd,Nat.reduceLT,Qd,List.set,Qbp,Qaw,Qic,Qdc,e3,whole,Qv,yBl,Qfm,Z3,yOr,Qbb,Qa8,Qb5,yBi,Qb1,Qao,cont,Out.opt,ol,e4,Qa7,Qa6,Qa5,uc2,Qa1,Zan,yB,yIf,Qch,Qbd,Qzq,Q3i,e5,uc1,Qcj,Qar,Qbc,Qav,Qa0,Q4]
 first | done | rfl
open PySem L2
structure Sm (n:Nat) (M:Tb):Prop where
 len:M.length=n
 row:∀ r∈M,r.length=n
 bd:∀ r∈M,∀ x∈r,(x:Int).natAbs≤100000000000
theorem Qm6 {L:List T} {r:Int} (h0:0≤r) (h1:r<(L.length:Int)):∃ t,atI L r=some t∧t∈L:=by
 obtain ⟨j,rfl⟩:=Int.eq_ofNat_of_zero_le h0
 have hj:j<L.length:=by omega
 exact ⟨_,Qf3 (Zc hj),Zco hj⟩
theorem Qaee {a b:List T} (h:a.length+b.length≤100000):opB .add (.lst a) (.lst b)=some (.ow (.lst (a++b))):=Zf h
noncomputable abbrev Qwx:List T:=[.non,.bl true,.bl false,.int (-1),.str "1",.str "",.tup [],.lst [],.tup [.int 0],.lst [.int 0],.dct [Sum.inr "a"] [.int 1],.tup [.tup [.int 0]],.int 1000000000000000000000000000000,.tup [.tup [.int 0,.int 1]],.tup [.str "ab"]]
theorem Qaef (k:Nat) {q:T} (hq:Qhb q):∃ t q',gd 3 t=true∧Qhb q'∧cfn (k+2) 17 [.ml q]=.ok (.fz t) [q']:=by
 obtain ⟨r,q1,r0,r9,p1,e1⟩:=Qeg k (m:=16) (by decide) (by decide) hq
 obtain ⟨t,ea,ht⟩:=Qm6 (L:=Qwx++[.tup [.tup [.bl true]]]) r0 (by show r<16;exact r9)
 refine ⟨t,q1,?_,p1,?_⟩
 ·have:(Qwx++[T.tup [.tup [.bl true]]]).all (gd 3)=true:=by decide +kernel
  exact Zah.mp this t ht
 have jn:(15:Nat)≤100000:=by decide
 have jH:(15:Nat)+1≤100000:=by decide
 have z1:(1:Nat)≤100000:=by decide
 have z2:(2:Nat)≤100000:=by decide
 have z0:(0:Nat)≤100000:=by decide
 have fI:(30:Int).natAbs≤1000000:=by decide
 have ft:(10:Int).natAbs<18446744073709551616:=by decide
 have es:exS (cfn (k+1)) (.setF 1 (.lst (.cons .non (.cons (.bl true) (.cons (.bl false) (.cons (.neg (.int 1)) (.cons (.str "1") (.cons (.str "") (.cons (.tup .nil) (.cons (.lst .nil) (.cons (.tup (.cons (.int 0) .nil)) (.cons (.lst (.cons (.int 0) .nil)) (.cons (.lit (.dct [Sum.inr "a"] [.int 1])) (.cons (.tup (.cons (.tup (.cons (.int 0) .nil)) .nil)) (.cons (.bin .pow (.int 10) (.int 30)) (.cons (.tup (.cons (.tup (.cons (.int 0) (.cons (.int 1) .nil))) .nil)) (.cons (.tup (.cons (.str "ab") .nil)) .nil))))))))))))))))) [.ml q,.un]=.nx [.ml q,.fz (.lst Qwx)]:=by
  simp only [Qax,Qdq,Qk,Qi5,Q0,yC1,Qnc,Qi7,Qag,Qne,Int.reduceNeg,Que,Qi6,Qq,Qnd,Qc8,Zp,z0,Zl,Qf8,yC2,frz,Ze,Nat.reduceAdd,z1,Qadq,Qcg,Qcc,Qcb,Qca,cont,Out.opt,uo9,Int.reduceLE,fI,Nat.reducePow,ft,Zd0,Int.reduceToNat,Int.reducePow,z2,jn,Qae,Qbv,Qaz,Q8,Qba,Nat.reduceLT,Qd,Qb,List.set]
 have ka:opB .add (.lst Qwx) (.lst [.tup [.tup [.bl true]]])=some (.ow (.lst (Qwx++[T.tup [.tup [.bl true]]]))):=Qaee jH
 show Qb4 (cfn (k+1)) ⟨1,2,Qkh⟩ _=_
 rw [Qbn rfl]
 show Qcp _ (exS _ Qkh [.ml q,.un])=_
 rw [Qad,es,Qbp]
 generalize Qwx=OL at ka ea ⊢
 generalize hL:OL++[T.tup [.tup [.bl true]]]=L at ka ea
 simp only [Qbd,Qhv,Qcg,Qm,Q6,Qd,Qb,Q0,Qcc,Qdq,Qk,Qi6,Qnc,yC1,Qq,yC2,Qnd,Qc8,frz,Ze,Zp,Nat.reduceAdd,z1,Zl,Qf8,Qcb,Qca,cont,Out.opt,ka,Qg6,Qab,Qag,Qx,Qu,Zal,Zcu,Zy,Qaa,Qw,Qak,Q9,e1,Qay,Ql,Qz,L2.Qj,Option.map,Zaf,Slot.put,reduceCtorEq,Za0,Qg5,Qg4,Qg3,ui1,ea,Qae,Qcj,Qar,Qbc,Qav,Qa0,Q4]
noncomputable abbrev Qop:S:=.seq (.setF 7 (.bi .max (.cons (.int 0) (.cons (.bin .sub (.call 15 (.cons (.var 0) (.cons (.int 5) .nil))) (.int 2)) .nil))))
 (.seq (.ite (.cmp .eq (.var 2) (.int 1)) (.setF 7 (.bin .sub (.call 15 (.cons (.var 0) (.cons (.int 5) .nil))) (.int 2))) .nil)
 (.seq (.ite (.cmp .eq (.var 2) (.int 2)) (.setF 7 (.bin .sub (.call 15 (.cons (.var 0) (.cons (.bin .add (.bin .mul (.int 2) (.bin .pow (.int 10) (.int 11))) (.int 1)) .nil))) (.bin .pow (.int 10) (.int 11)))) .nil)
 (.app 5 (.var 7))))
theorem Q4c (k:Nat) {w:Int} {q:T} (hq:Qhb q) {r:List Int} (hr:r.length≤1000) {a b c d s:Slot} (o:Qas s=true):∃ v q',(v:Int).natAbs≤100000000000∧Qhb q'∧exS (cfn (k+1)) Qop [.ml q,a,.fz (.int w),b,c,.ow (.lst (r.map .int)),d,s]=.nx [.ml q',a,.fz (.int w),b,c,.ow (.lst ((r++[v]).map .int)),d,.fz (.int v)]:=by
 obtain ⟨v1,q1,b1,b2,p1,e1⟩:=Qeg k (m:=5) (by decide) (by decide) hq
 have iM:(11:Int).natAbs≤1000000:=by decide
 have iV:(10:Int).natAbs<18446744073709551616:=by decide
 have m2:∀ i:Int,Qb9 2 i=true:=fun i=>by unfold Qb9;simp
 have hz:r.length<100000:=by omega
 have ea:∀ v:Int,r.map T.int++[.int v]=(r++[v]).map T.int:=fun v=>by rw [Zck];rfl
 by_cases h1:w=1
 ·subst h1
  obtain ⟨v2,q2,b3,b4,p2,e2⟩:=Qeg k (m:=5) (by decide) (by decide) p1
  refine ⟨v2-2,q2,by omega,p2,?_⟩
  have ne:¬ (1:Int)=2:=by decide
  (cases s <;> cases o) <;> simp only [Qad,Qax,Qb5,Qk,Qag,Q0,yC1,Qcg,Qab,Qm,Q6,Qb,Qq,yC2,Qx,Qu,Zal,Zcu,Zy,Qaa,Qw,Qak,Q9,e1,Qay,Ql,Qz,L2.Qj,Option.map,Zl,Zaf,Slot.put,Nat.reduceAdd,reduceCtorEq,Za0,Qcc,Qcb,Qca,cont,Out.opt,uo4,yBi,Qb1,Qao,ub6,Qae,Qbv,Qaz,frz,Q8,Qba,Ze,Zp,Nat.reduceLT,Qd,List.set,Qbp,Qaw,Qbb,Qa8,Qa7,Qa6,Qa5,uc1,Qa1,Zan,Qv,yBl,yIf,e2,ne,Zap,Qch,Qj5,Slot.mut,Qq6,Qml,Qmk,Zd,hz,ea]
 ·by_cases h2:w=2
  ·subst h2
   obtain ⟨v2,q2,b3,b4,p2,e2⟩:=Qeg k (m:=200000000001) (by decide) (by decide) p1
   refine ⟨v2-100000000000,q2,by omega,p2,?_⟩
   have ne:¬ (2:Int)=1:=by decide
   (cases s <;> cases o) <;> simp only [Qad,Qax,Qb5,Qk,Qag,Q0,yC1,Qcg,Qab,Qm,Q6,Qb,Qq,yC2,Qx,Qu,Zal,Zcu,Zy,Qaa,Qw,Qak,Q9,e1,Qay,Ql,Qz,L2.Qj,Option.map,Zl,Zaf,Slot.put,Nat.reduceAdd,reduceCtorEq,Za0,Qcc,Qcb,Qca,cont,Out.opt,uo4,yBi,Qb1,Qao,ub6,Qae,Qbv,Qaz,frz,Q8,Qba,Ze,Zp,Nat.reduceLT,Qd,List.set,Qbp,Qaw,Qbb,Qa8,Qa7,Qa6,Qa5,uc1,Qa1,ne,Zap,Qv,yBl,yIf,Qch,Zan,uo9,Int.reduceLE,iM,Nat.reducePow,iV,Zd0,Int.reduceToNat,Int.reducePow,uo5,m2,Int.reduceMul,uo1,Int.reduceAdd,e2,Qj5,Slot.mut,Qq6,Qml,Qmk,Zd,hz,ea]
  ·refine ⟨if v1-2>0 then v1-2 else 0,q1,by split <;> omega,p1,?_⟩
   (cases s <;> cases o) <;> simp only [Qad,Qax,Qb5,Qk,Qag,Q0,yC1,Qcg,Qab,Qm,Q6,Qb,Qq,yC2,Qx,Qu,Zal,Zcu,Zy,Qaa,Qw,Qak,Q9,e1,Qay,Ql,Qz,L2.Qj,Option.map,Zl,Zaf,Slot.put,Nat.reduceAdd,reduceCtorEq,Za0,Qcc,Qcb,Qca,cont,Out.opt,uo4,yBi,Qb1,Qao,ub6,Qae,Qbv,Qaz,frz,Q8,Qba,Ze,Zp,Nat.reduceLT,Qd,List.set,Qbp,Qaw,Qbb,Qa8,Qa7,Qa6,Qa5,uc1,Qa1,h1,Zap,Qv,yBl,yIf,Qch,h2,Qj5,Slot.mut,Qq6,Qml,Qmk,Zd,hz,ea]
theorem Q4d (k:Nat) {n:Nat} (hn:n≤4) {w:Int} {q:T} (hq:Qhb q) {a b c s6 s7:Slot} (o6:Qas s6=true) (o7:Qas s7=true):∃ (r:List Int) (q':T) (t6 t7:Slot),r.length=n∧(∀ x∈r,(x:Int).natAbs≤100000000000)∧Qhb q'∧Qas t6=true∧Qas t7=true ∧
  Qb0 (.nm 6) (exS (cfn (k+1)) Qop) (Qbh 0 n) [.ml q,a,.fz (.int w),b,c,.ow (.lst []),s6,s7]=.nx [.ml q',a,.fz (.int w),b,c,.ow (.lst (r.map .int)),t6,t7]:=by
 obtain ⟨ρ',e,r,q',t6,t7,hr,hb,bu,dh,gx,rfl⟩:=Qey (fun i ρ=>∃ (r:List Int) (q':T) (t6 t7:Slot),r.length=i∧(∀ x∈r,(x:Int).natAbs≤100000000000)∧Qhb q'∧Qas t6=true∧Qas t7=true∧ρ=[.ml q',a,.fz (.int w),b,c,.ow (.lst (r.map .int)),t6,t7]) (tg:=.nm 6) (b:=exS (cfn (k+1)) Qop) (xs:=Qbh 0 n) (n:=0) (ρ:=[.ml q,a,.fz (.int w),b,c,.ow (.lst []),s6,s7]) ⟨[],q,s6,s7,rfl,(fun x hx=>by cases hx),hq,o6,o7,rfl⟩ (by
  rintro i x ρ hx ⟨r,q1,t6,t7,hr,hb,p1,dh,gx,rfl⟩
  have hi:i<n:=by have:=(List.getElem?_eq_some_iff.mp hx).1;rwa [Qcd] at this
  obtain ⟨v,q2,hv,p2,e⟩:=Q4c k (w:=w) p1 (r:=r) (by omega) (a:=a) (b:=b) (c:=c) (d:=.fz x) gx
  exact ⟨[.ml q1,a,.fz (.int w),b,c,.ow (.lst (r.map .int)),.fz x,t7],_,(by cases t6 <;> first | rfl | cases dh),.inl e,r++[v],q2,.fz x,.fz (.int v),by rw [Zo,hr];rfl,(fun y hy=>by rcases Zad.mp hy with z | z;exact hb y z;rw [Zv.mp z];exact hv),p2,rfl,rfl,rfl⟩)
 rw [Qcd,Zak] at hr
 exact ⟨r,q',t6,t7,hr,hb,bu,dh,gx,e⟩
noncomputable abbrev Qp1:S:=.seq (.set 5 (.lst .nil)) (.seq (.for_ (.rng1 (.var 1)) (.nm 6) Qop) (.app 3 (.bi .tup (.cons (.var 5) .nil))))
def own3:Slot→Bool
 | .un=>true
 | .ow _=>true
 | _=>false
theorem Qaaa (k:Nat) {n:Nat} (hn:n≤4) {w:Int} {q:T} (hq:Qhb q):∃ (M:Tb) (q':T) (t4 t5 t6 t7:Slot),Sm n M∧Qhb q'∧Qb0 (.nm 4) (exS (cfn (k+1)) Qp1) (Qbh 0 n) [.ml q,.fz (.int n),.fz (.int w),.ow (.lst []),.un,.un,.un,.un]=.nx [.ml q',.fz (.int n),.fz (.int w),.ow (.lst (M.map Qf)),t4,t5,t6,t7]:=by
 obtain ⟨ρ',e,M,q',t4,t5,t6,t7,⟨hl,hr,hb⟩,bu,_,_,_,_,rfl⟩:=Qey (fun i ρ=>∃ (M:Tb) (q':T) (t4 t5 t6 t7:Slot),(M.length=i∧(∀ r∈M,r.length=n)∧∀ r∈M,∀ x∈r,(x:Int).natAbs≤100000000000)∧Qhb q'∧Qas t4=true∧own3 t5=true∧Qas t6=true∧Qas t7=true∧ρ=[.ml q',.fz (.int n),.fz (.int w),.ow (.lst (M.map Qf)),t4,t5,t6,t7]) (tg:=.nm 4) (b:=exS (cfn (k+1)) Qp1) (xs:=Qbh 0 n) (n:=0) (ρ:=[.ml q,.fz (.int n),.fz (.int w),.ow (.lst []),.un,.un,.un,.un]) ⟨[],q,.un,.un,.un,.un,⟨rfl,(fun r z=>by cases z),fun r z=>by cases z⟩,hq,rfl,rfl,rfl,rfl,rfl⟩ (by
  rintro i x ρ hx ⟨M,q1,t4,t5,t6,t7,⟨hl,hr,hb⟩,p1,o4,o5,o6,o7,rfl⟩
  have hi:i<n:=by have:=(List.getElem?_eq_some_iff.mp hx).1;rwa [Qcd] at this
  obtain ⟨r,q2,u6,u7,lr,br,p2,v6,v7,er⟩:=Q4d k hn (w:=w) p1 (a:=.fz (.int n)) (b:=.ow (.lst (M.map Qf))) (c:=.fz x) o6 o7
  have z0:(0:Nat)≤100000:=by decide
  have zn:n≤100000:=by omega
  have zM:M.length<100000:=by omega
  have zr:r.length≤100000:=by omega
  have ea:M.map Qf++[.tup (r.map T.int)]=(M++[r]).map Qf:=by rw [Zck];rfl
  refine ⟨[.ml q1,.fz (.int n),.fz (.int w),.ow (.lst (M.map Qf)),.fz x,t5,t6,t7],[.ml q2,.fz (.int n),.fz (.int w),.ow (.lst ((M++[r]).map Qf)),.fz x,.ow (.lst (r.map .int)),u6,u7],(by cases t4 <;> first | rfl | cases o4),.inl ?_,M++[r],q2,.fz x,_,u6,u7,⟨by rw [Zo,hl];rfl,fun s hs=>?_,fun s hs=>?_⟩,p2,rfl,rfl,v6,v7,rfl⟩
  ·show exS _ (.seq (.set 5 (.lst .nil)) (.seq (.for_ (.rng1 (.var 1)) (.nm 6) Qop) (.app 3 (.bi .tup (.cons (.var 5) .nil))))) _=_
   generalize Qop=B0 at er ⊢
   (cases t5 <;> cases o5) <;> simp only [Qad,Qmj,Qdq,Qq,Q0,Qf8,Qc8,Zp,z0,Zl,Qae,Qnb,Q8,Qba,Ze,Nat.reduceAdd,Nat.reduceLT,Qd,Qb,List.set,Qbp,Qdd,Qid,Qm,Q6,Qwh zn,Qgr,er,Qcu,Qj5,Slot.mut,Qb5,Qk,yC1,yC2,yBi,Qb1,Qao,cont,Slot.prv,Out.opt,ub9,Qq6,Qml,frz,Qmk,Zd,zM,ea]
  ·rcases Zad.mp hs with z | z
   ·exact hr s z
   ·rw [Zv.mp z];exact lr
  ·rcases Zad.mp hs with z | z
   ·exact hb s z
   ·rw [Zv.mp z];exact br)
 rw [Qcd,Zak] at hl
 exact ⟨M,q',t4,t5,t6,t7,⟨hl,hr,hb⟩,bu,e⟩
theorem Q4e (k:Nat) {n:Nat} (hn:n≤4) {w:Int} {q:T} (hq:Qhb q):∃ (M:Tb) (q':T),Sm n M∧Qhb q'∧cfn (k+2) 18 [.ml q,.fz (.int n),.fz (.int w)]=.ok (.fz (Q1 M)) [q',.non,.non]:=by
 obtain ⟨M,q',t4,t5,t6,t7,h,p,e⟩:=Qaaa k hn (w:=w) hq
 refine ⟨M,q',h,p,?_⟩
 have z0:(0:Nat)≤100000:=by decide
 have zn:n≤100000:=by omega
 have zM:M.length≤100000:=by rw [h.len];omega
 show Qb4 (cfn (k+1)) ⟨3,8,Qk0⟩ _=_
 rw [Qbn rfl]
 show Qcp _ (exS _ (.seq (.set 3 (.lst .nil)) (.seq (.for_ (.rng1 (.var 1)) (.nm 4) Qp1) (.ret (.bi .tup (.cons (.var 3) .nil))))) [.ml q,.fz (.int n),.fz (.int w),.un,.un,.un,.un,.un])=_
 generalize Qp1=B0 at e ⊢
 simp only [Qad,Qmj,Qdq,Qq,Q0,Qf8,Qc8,Zp,z0,Zl,Qae,Qnb,Q8,Qba,Ze,Nat.reduceAdd,Nat.reduceLT,Qd,Qb,List.set,Qbp,Qdd,Qid,Qm,Q6,Qwh zn,Qgr,e,Qcu,Qbd,Qb5,Qk,yC1,yC2,yBi,Qb1,Qao,cont,Slot.prv,Out.opt,ub9,Qcj,Qar,Qbc,Qav,Qa0,Q4,Option.map]
theorem Qaeg {cf:CF} {ng:Bool} {a lo hi:E} {ρ ρ1 ρ2 ρ3:En} {i l h:Int} (ea:evE cf a ρ=.ok (.fz (.int i)) ρ1) (el:evE cf lo ρ1=.ok (.fz (.int l)) ρ2) (eh:evE cf hi ρ2=.ok (.fz (.int h)) ρ3):evE cf (.inR ng a lo hi) ρ=.ok (.fz (.bl (if ng then !decide (l≤i∧i<h) else decide (l≤i∧i<h)))) ρ3:=by
 rw [evE,ea]
 show (evE cf lo ρ1).bind _=_
 rw [el]
 show (evE cf hi ρ2).bind _=_
 rw [eh]
 rfl
theorem Qaeh (k:Nat) {t:T} (hn:nc t=true) (ht:Qth t=false):cfn (k+2) 19 [.fz t]=.ok (.fz (.bl false)) [.non]:=by
 cases t <;> first | (cases hn;done) | (cases ht;done) | rfl
noncomputable abbrev Qll:S:=.ite (.or (.not (.isI (.var 1) "tuple")) (.or (.cmp .ne (.bi .len (.cons (.var 1) .nil)) (.bi .len (.cons (.var 0) .nil))) (.not (.bi .all (.cons (.comp (.seq (.var 1)) [none] (.nm 0) .nil (.call 16 (.cons (.var 0) .nil))) .nil))))) (.ret (.bl false)) .nil
theorem Q4f (k:Nat) {us:List T} {m:Nat} {t:T} (hg:gd (m+1) t=true):exS (cfn (k+1)) Qll [.fz (.tup us),.fz t]=if Qha us.length t=true then .nx [.fz (.tup us),.fz t] else .rt (.fz (.bl false)) [.fz (.tup us),.fz t]:=by
 cases hi:Qth t with
 | false =>
  have er:Qha us.length t=false:=by cases t <;> first | rfl | cases hi
  have hn:=Qoo hg
  rw [er,Zg Zm]
  cases t <;> first | (cases hi;done) | (cases hn;done) | rfl
 | true =>
  cases t <;> first | (cases hi;done) | skip
  rename_i ts
  obtain ⟨hl,hx⟩:=Qpv hg
  by_cases hn:ts.length=us.length
  ·have c1:(ts.length:Int)=(us.length:Int):=by omega
   have hc:evE (cfn (k+1)) (.comp (.seq (.var 1)) [none] (.nm 0) .nil (.call 16 (.cons (.var 0) .nil))) [.fz (.tup us),.fz (.tup ts)]=.ok (.ow (.lst (ts.map fun x=>T.bl (whole x)))) [.fz (.tup us),.fz (.tup ts)] :=
    Qco (rest:=[]) rfl rfl rfl rfl (fun x bC=>by
     have q:=Qk3 k x (Qoo (hx x bC))
     refine ⟨.fz (.bl (whole x)),?_,rfl⟩
     simp only [Qab,Qk,Qm,Q6,Qb,Q0,yC1,Qq,yC2,Qx,Qu,Qaa,Qw,Qak,Q9,q,Qay,Ql,Qz,L2.Qj,Option.map,Zl]) (by omega)
   have ea:(ts.map whole).all id=ts.all whole:=by rw [all_map];rfl
   have er:Qha us.length (.tup ts)=ts.all whole:=by show (decide (ts.length=us.length)&&_)=_;rw [Zbh hn,Zcn]
   rw [er]
   cases hw:ts.all whole with
   | true=>simp only [Qaw,Qic,Qdc,Qfx,Qm,Q6,Qd,Qb,Q0,Qi8,Qe7,cont,Qb2,Qdg,Z8,Zy,Qaq,Zl,Qv,yBl,Qfm,Z3,yOr,Qbb,Qb5,Qk,yC1,Qq,yC2,yBi,Qb1,Qao,Out.opt,ub2,c1,Qa8,Qa7,Qa6,Qa5,uc2,Option.map,Qa1,Zan,hc,ub3,Qfz,ea,hw,yB,Qae,yIf,Qch]
   | false=>simp only [Qaw,Qic,Qdc,Qfx,Qm,Q6,Qd,Qb,Q0,Qi8,Qe7,cont,Qb2,Qdg,Z8,Zy,Qaq,Zl,Qv,yBl,Qfm,Z3,yOr,Qbb,Qb5,Qk,yC1,Qq,yC2,yBi,Qb1,Qao,Out.opt,ub2,c1,Qa8,Qa7,Qa6,Qa5,uc2,Option.map,Qa1,Zan,hc,ub3,Qfz,ea,hw,yB,Qae,yIf,Qbd,Qnc,Qcj,Zb2,Za0]
  ·have c1:¬ (ts.length:Int)=(us.length:Int):=by omega
   have er:Qha us.length (.tup ts)=false:=by show (decide (ts.length=us.length)&&_)=_;rw [Zx hn,Zbv]
   rw [er,Zg Zm]
   simp only [Qaw,Qic,Qdc,Qfx,Qm,Q6,Qd,Qb,Q0,Qi8,Qe7,cont,Qb2,Qdg,Z8,Zy,Qaq,Zl,Qv,yBl,Qfm,Z3,yOr,Qbb,Qb5,Qk,yC1,Qq,yC2,yBi,Qb1,Qao,Out.opt,ub2,Qa8,Qa7,Qa6,Qa5,uc2,Option.map,Qa1,c1,Zap,yB,Qae,yIf,Qbd,Qnc,Qcj]
theorem Qu9 (k:Nat) {us:List T} {m:Nat}:∀ (ts:List T) (s:Slot),Qas s=true→(∀ x∈ts,gd (m+1) x=true)→∃ s',Qb0 (.nm 1) (exS (cfn (k+1)) Qll) ts [.fz (.tup us),s]=if ts.all (Qha us.length)=true then .nx [.fz (.tup us),s'] else .rt (.fz (.bl false)) [.fz (.tup us),s']
 | [],s,_,_=>⟨s,by simp [Qb0]⟩
 | t::ts,s,o,h=>by
  unfold Qb0
  rw [show Qdk (.nm 1) t [.fz (.tup us),s]=some [.fz (.tup us),.fz t] by cases s <;> first | rfl | cases o]
  simp only [Q4f k (us:=us) (h t Zaj)]
  rw [Zal]
  cases hr:Qha us.length t with
  | true =>
   obtain ⟨s',e⟩:=Qu9 k (us:=us) ts (.fz t) rfl fun x z=>h x (Z5 _ z)
   exact ⟨s',by simp only [Zl,Zcn];exact e⟩
  | false=>exact ⟨.fz t,by simp only [Zb2,Za0,Zbv]⟩
theorem Q02 (k:Nat) {m:Nat} {t:T} (hg:gd (m+2) t=true):cfn (k+2) 19 [.fz t]=.ok (.fz (.bl (Qf2 t))) [.non]:=by
 cases hi:Qth t with
 | false =>
  have e:=Qaeh k (Qoo hg) hi
  cases t <;> first | exact e | (cases hi;done)
 | true =>
  cases t <;> first | (cases hi;done) | skip
  rename_i ts
  obtain ⟨hl,hx⟩:=Qpv hg
  obtain ⟨s',e⟩:=Qu9 k (us:=ts) ts .un rfl hx
  show Qb4 (cfn (k+1)) ⟨1,2,Qgo⟩ _=_
  rw [Qbn rfl]
  show Qcp _ (exS _ (.seq (.ite (.or (.not (.isI (.var 0) "tuple")) (.inR true (.bi .len (.cons (.var 0) .nil)) (.int 1) (.int 5))) (.ret (.bl false)) .nil) (.seq (.for_ (.seq (.var 0)) (.nm 1) Qll) (.ret (.bl true)))) [.fz (.tup ts),.un])=_
  have ei:evE (cfn (k+1)) (.inR true (.bi .len (.cons (.var 0) .nil)) (.int 1) (.int 5)) [.fz (.tup ts),.un]=.ok (.fz (.bl (!decide ((1:Int)≤(ts.length:Int)∧(ts.length:Int)<5)))) [.fz (.tup ts),.un] :=
   Qaeg (ng:=true) (i:=(ts.length:Int)) (l:=1) (h:=5) (ρ1:=[.fz (.tup ts),.un]) (ρ2:=[.fz (.tup ts),.un]) (by simp only [Qb5,Qk,Qm,Q6,Qb,Q0,yC1,Qq,yC2,yBi,Qb1,Qao,cont,Out.opt,ub2]) (by simp only [Qag]) (by simp only [Qag])
  generalize Qll=B0 at e
  by_cases h1:1≤ts.length∧ts.length≤4
  ·have er:Qf2 (.tup ts)=ts.all (Qha ts.length):=by show (decide (1≤ts.length∧ts.length≤4)&&_)=_;rw [Zbh h1,Zcn]
   rw [er]
   rw [Zbh (by omega)] at ei
   cases ha:ts.all (Qha ts.length) with
   | true =>
    rw [ha,Zf rfl] at e
    simp only [Qad,Qaw,Qic,Qdc,Qfx,Qm,Q6,Qb,Q0,Qi8,Qe7,cont,Qb2,Qdg,Z8,Zy,Qaq,Zl,Qv,yBl,Qfm,Z3,yOr,ei,yB,Qae,yIf,Qch,Qbp,Qdd,Qfy,Qja,Qe9,Qe8,Qdj,Qet,Qgr,e,Qcu,Qbd,Qnc,Qcj,Qar,Qbc,Qav,Qa0,Q4,Option.map]
   | false =>
    rw [ha,Zg Zm] at e
    simp only [Qad,Qaw,Qic,Qdc,Qfx,Qm,Q6,Qb,Q0,Qi8,Qe7,cont,Qb2,Qdg,Z8,Zy,Qaq,Zl,Qv,yBl,Qfm,Z3,yOr,ei,yB,Qae,yIf,Qch,Qbp,Qdd,Qfy,Qja,Qe9,Qe8,Qdj,Qet,Qgr,e,Qle,Qmi,Qar,Qbc,Qav,Qa0,Q4,Option.map]
  ·have er:Qf2 (.tup ts)=false:=by show (decide (1≤ts.length∧ts.length≤4)&&_)=_;rw [Zx h1,Zbv]
   rw [er]
   rw [Zx (by omega)] at ei
   simp only [Qad,Qaw,Qic,Qdc,Qfx,Qm,Q6,Qb,Q0,Qi8,Qe7,cont,Qb2,Qdg,Z8,Zy,Qaq,Zl,Qv,yBl,Qfm,Z3,yOr,ei,yB,Qae,yIf,Qbd,Qnc,Qcj,Qmi,Qar,Qbc,Qav,Qa0,Q4,Option.map]
open PySem L2
noncomputable abbrev l9:List T:=[.bl true,.non,.str "0",.tup [.int 0],.int 1000000000000,.int (1-1000000000000),.int (1000000000000-1),.int (0-1000000000000),.bl false]
noncomputable abbrev Q03:E:=.lst (.cons (.bl true) (.cons .non (.cons (.str "0") (.cons (.tup (.cons (.int 0) .nil)) (.cons (.bin .pow (.int 10) (.int 12)) (.cons (.bin .sub (.int 1) (.bin .pow (.int 10) (.int 12))) (.cons (.bin .sub (.bin .pow (.int 10) (.int 12)) (.int 1)) (.cons (.bin .sub (.int 0) (.bin .pow (.int 10) (.int 12))) (.cons (.bl false) .nil)))))))))
theorem Qaei {cf:CF} {ρ:En}:evE cf Q03 ρ=.ok (.ow (.lst l9)) ρ:=by
 have z9:(9:Nat)≤100000:=by decide
 have z1:(1:Nat)≤100000:=by decide
 have fI:(12:Int).natAbs≤1000000:=by decide
 have ft:(10:Int).natAbs<18446744073709551616:=by decide
 simp only [Qdq,Qk,Qnc,Q0,yC1,Qi5,Que,Qi6,Qag,Qq,yC2,Qnd,Qc8,frz,Ze,Zp,Nat.reduceAdd,z1,Zl,Qcg,Qcc,Qcb,Qca,cont,Out.opt,uo9,Int.reduceLE,fI,Nat.reducePow,ft,Zd0,Int.reduceToNat,Int.reducePow,uo4,Int.reduceSub,Int.reduceNeg,Qf8,z9]
 first | done | rfl
theorem Qfh {n:Nat} (r:List Int):∀ t∈r.map T.int,gd n t=true:=fun t ht=>by
 obtain ⟨i,_,rfl⟩:=Z7.mp ht
 cases n <;> rfl
theorem Qp2 {n:Nat} {r:List Int} (h:r.length≤1000):gd (n+1) (Qf r)=true:=(Qek (by rw [Zd];exact h) (Qfh r)).1
theorem Qgj {ts:List T} {lo hi:Option Int} {x:T} (h:x∈Qce ts lo hi):x∈ts:=Zbn (Zbe h)
def lsO:T→T
 | .tup ts=>.lst ts
 | t=>t
abbrev bt4:S:=.setF 6 (.ix Q03 (.call 15 (.cons (.var 0) (.cons (.int 9) .nil))))
noncomputable abbrev bt5:S:=.setF 7 (.lst (.cons (.bin .add (.bin .add (.slc (.var 5) .nil (.cons (.var 4) .nil)) (.tup (.cons (.var 6) .nil))) (.slc (.var 5) (.cons (.bin .add (.var 4) (.int 1)) .nil) .nil)) (.cons (.slc (.var 5) (.cons (.int 1) .nil) .nil) (.cons (.bin .add (.var 5) (.tup (.cons (.int 0) .nil))) (.cons (.bi .list (.cons (.var 5) .nil)) (.cons .non (.cons (.int 0) (.cons (.rev (.var 5)) .nil))))))))
noncomputable abbrev bt7:S:=.setF 9 (.lst (.cons (.bin .add (.bin .add (.slc (.var 1) .nil (.cons (.var 3) .nil)) (.tup (.cons (.var 8) .nil))) (.slc (.var 1) (.cons (.bin .add (.var 3) (.int 1)) .nil) .nil)) (.cons (.slc (.var 1) (.cons (.int 1) .nil) .nil) (.cons (.bin .add (.var 1) (.slc (.var 1) .nil (.cons (.int 1) .nil))) (.cons (.bi .list (.cons (.var 1) .nil)) .nil)))))
abbrev Q5t:E:=.comp (.seq (.var 1)) [none] (.nm 0) .nil (.bi .list (.cons (.var 0) .nil))
noncomputable abbrev bt8:S:=.setF 9 (.bin .add (.var 9) (.lst (.cons (.tup (.cons (.var 1) .nil)) (.cons (.ix (.var 1) (.int 0)) (.cons Q5t .nil)))))
abbrev l10:List T:=[.int 0,.int 0,.int 0,.int 0,.int 1,.int 2,.int 3,.int 4,.int 5,.int 6]
noncomputable abbrev Qp3:E:=.lst (.cons (.int 0) (.cons (.int 0) (.cons (.int 0) (.cons (.int 0) (.cons (.int 1) (.cons (.int 2) (.cons (.int 3) (.cons (.int 4) (.cons (.int 5) (.cons (.int 6) .nil))))))))))
theorem Qaab {cf:CF} {ρ:En}:evE cf Qp3 ρ=.ok (.ow (.lst l10)) ρ:=by
 have z:(10:Nat)≤100000:=by decide
 simp only [Qdq,Qk,Qag,Q0,yC1,Qq,yC2,Qf8,Qc8,frz,Ze,Zp,Nat.reduceAdd,z,Zl]
theorem Qaac {r:Int} (h0:0≤r) (h1:r<10):∃ v:Int,0≤v∧v<7∧atI l10 r=some (.int v):=by
 obtain ⟨t,e,ht⟩:=Qm6 (L:=l10) h0 (by show r<10;exact h1)
 have:∀ t∈l10,∃ v:Int,0≤v∧v<7∧t=.int v:=by
  intro t ht
  simp only [Z9,Zaz,Zbu] at ht
  rcases ht with rfl | rfl | rfl | rfl | rfl | rfl | rfl | rfl | rfl | rfl <;> exact ⟨_,by decide,by decide,rfl⟩
 obtain ⟨v,v0,v7,rfl⟩:=this t ht
 exact ⟨v,v0,v7,e⟩
theorem Qaad (k:Nat) {n:Nat} (h1:1≤n) (h4:n≤4) {M:Tb} (h:Shp n M) {q:T} (hq:Qhb q):∃ t q',gd 3 t=true∧Qhb q'∧cfn (k+2) 20 [.ml q,.fz (Q1 M)]=.ok (.fz t) [q',.non]:=by
 have hl:=h.len
 obtain ⟨a_,q1,a0,a1,p1,e1⟩:=Qeg k (m:=(n:Int)) (by omega) (by omega) hq
 obtain ⟨b_,q2,b0,b1,p2,e2⟩:=Qeg k (m:=(n:Int)) (by omega) (by omega) p1
 obtain ⟨r9,q3,c0,c1,p3,e3⟩:=Qeg k (m:=9) (by decide) (by decide) p2
 obtain ⟨r7,q4,d0,d1,p4,e4⟩:=Qeg k (m:=7) (by decide) (by decide) p3
 obtain ⟨eP,q5,f0,f1,p5,e5⟩:=Qeg k (m:=10) (by decide) (by decide) p4
 obtain ⟨a,rfl⟩:=Int.eq_ofNat_of_zero_le a0
 obtain ⟨u,eu,hu⟩:=Qm6 (L:=l9) c0 (by show r9<9;exact c1)
 have ji:gd 1 u=true:=by
  have:l9.all (gd 1)=true:=by decide +kernel
  exact Zah.mp this u hu
 have am:M.getD a []∈M:=Qeh (by omega)
 have rl:(M.getD a []).length=n:=h.row _ am
 have ar:=Qpz (M:=M) (i:=a) (by omega)
 have hX:atI (M.map Qf) 0=some (Qf (M.getD 0 [])):=Qpz (M:=M) (i:=0) (by omega)
 have kn:(M.getD 0 []).length=n:=h.row _ (Qeh (by omega))
 generalize M.getD 0 []=r0 at hX kn
 generalize M.getD a []=r at am rl ar
 have xr:∀ x∈M.map Qf,gd 2 x=true:=fun x hx=>by
  obtain ⟨s,hs,rfl⟩:=Z7.mp hx
  exact Qp2 (by rw [h.row s hs];omega)
 have lc:=Qdh (r.map T.int) none (some b_)
 have kq:=Qdh (r.map T.int) (some (b_+1)) none
 have j8:=Qdh (r.map T.int) (some 1) none
 rw [Zd] at lc kq j8
 have jx:=Qdh (M.map Qf) none (some (a:Int))
 have j7:=Qdh (M.map Qf) (some ((a:Int)+1)) none
 have jd:=Qdh (M.map Qf) (some 1) none
 have jy:=Qdh (M.map Qf) none (some 1)
 rw [Zd] at jx j7 jd jy
 generalize hL7:[T.tup (Qce (r.map T.int) none (some b_)++[u]++Qce (r.map T.int) (some (b_+1)) none),.tup (Qce (r.map T.int) (some 1) none),.tup (r.map T.int++[.int 0]),.lst (r.map T.int),.non,.int 0,.tup (r.map T.int).reverse]=L7
 obtain ⟨w,ew,hw⟩:=Qm6 (L:=L7) d0 (by rw [←hL7];exact d1)
 have gw:gd 2 w=true:=by
  rw [←hL7] at hw
  simp only [Z9,Zaz,Zbu] at hw
  rcases hw with rfl | rfl | rfl | rfl | rfl | rfl | rfl
  ·refine (Qek (by rw [Zo,Zo,Z4];omega) fun x hx=>?_).1
   simp only [Zad,Zv] at hx
   rcases hx with (hx | rfl) | hx
   ·exact Qfh r x (Qgj hx)
   ·exact ji
   ·exact Qfh r x (Qgj hx)
  ·exact (Qek (by omega) fun x hx=>Qfh r x (Qgj hx)).1
  ·refine (Qek (by rw [Zo,Zd,Z4];omega) fun x hx=>?_).1
   rcases Zad.mp hx with hx | hx
   ·exact Qfh r x hx
   ·rw [Zv.mp hx];rfl
  ·exact (Qek (by rw [Zd];omega) (Qfh r)).2
  ·rfl
  ·rfl
  ·exact (Qek (by rw [List.length_reverse,Zd];omega) fun x hx=>Qfh r x (List.mem_reverse.mp hx)).1
 have ak:∀ {q s2 s3 s4 s5 s6 s7 s8 s9:Slot},evE (cfn (k+1)) Q5t [q,.fz (Q1 M),s2,s3,s4,s5,s6,s7,s8,s9]=.ok (.ow (.lst ((M.map Qf).map lsO))) [q,.fz (Q1 M),s2,s3,s4,s5,s6,s7,s8,s9]:=fun {q s2 s3 s4 s5 s6 s7 s8 s9} =>
  Qco (rest:=[]) rfl rfl rfl rfl (fun x hx=>by
   obtain ⟨s,hs,rfl⟩:=Z7.mp hx
   refine ⟨.ow (.lst (s.map T.int)),?_,rfl⟩
   have ol:Qgq .list [Qf s]=some (.ow (.lst (s.map T.int))):=rfl
   simp only [Qb5,Qk,Qm,Q6,Qb,Q0,yC1,Qq,yC2,yBi,Qb1,Qao,cont,Out.opt,ol]) (by rw [Zd];omega)
 have gc:∀ x∈(M.map Qf).map lsO,gd 2 x=true:=fun x hx=>by
  obtain ⟨y,hy,rfl⟩:=Z7.mp hx
  obtain ⟨s,hs,rfl⟩:=Z7.mp hy
  exact (Qek (by rw [Zd,h.row s hs];omega) (Qfh s)).2
 generalize hL4:[T.tup (Qce (M.map Qf) none (some (a:Int))++[w]++Qce (M.map Qf) (some ((a:Int)+1)) none),.tup (Qce (M.map Qf) (some 1) none),.tup (M.map Qf++Qce (M.map Qf) none (some 1)),.lst (M.map Qf)]=L4
 generalize hL3:[T.tup [Q1 M],Qf r0,.lst ((M.map Qf).map lsO)]=L3
 obtain ⟨v,v0,v7,ev⟩:=Qaac f0 f1
 obtain ⟨t,et,ht⟩:=Qm6 (L:=L4++L3) v0 (by rw [←hL4,←hL3];exact v7)
 refine ⟨t,q5,?_,p5,?_⟩
 ·rw [←hL4,←hL3] at ht
  simp only [Zad,Z9,Zaz,Zbu] at ht
  rcases ht with (rfl | rfl | rfl | rfl) | rfl | rfl | rfl
  ·refine (Qek (by rw [Zo,Zo,Z4];omega) fun x hx=>?_).1
   simp only [Zad,Zv] at hx
   rcases hx with (hx | rfl) | hx
   ·exact xr x (Qgj hx)
   ·exact gw
   ·exact xr x (Qgj hx)
  ·exact (Qek (by omega) fun x hx=>xr x (Qgj hx)).1
  ·refine (Qek (by rw [Zo,Zd];omega) fun x hx=>?_).1
   rcases Zad.mp hx with hx | hx
   ·exact xr x hx
   ·exact xr x (Qgj hx)
  ·exact (Qek (by rw [Zd];omega) xr).2
  ·refine (Qek (by show 1≤1000;decide) fun x hx=>?_).1
   rw [Zv.mp hx]
   refine (Qek (by rw [Zd];omega) fun x hx=>?_).1
   obtain ⟨s,hs,rfl⟩:=Z7.mp hx
   exact Qp2 (by rw [h.row s hs];omega)
  ·exact Qp2 (by omega)
  ·exact (Qek (by rw [Zd,Zd];omega) gc).2
 have z1:(1:Nat)≤100000:=by decide
 have z3:(3:Nat)≤100000:=by decide
 have z4:(4:Nat)≤100000:=by decide
 have z7:(7:Nat)≤100000:=by decide
 have s4:exS (cfn (k+1)) bt4 [.ml q2,.fz (Q1 M),.fz (.int (n:Int)),.fz (.int (a:Int)),.fz (.int b_),.fz (Qf r),.un,.un,.un,.un]=.nx [.ml q3,.fz (Q1 M),.fz (.int (n:Int)),.fz (.int (a:Int)),.fz (.int b_),.fz (Qf r),.fz u,.un,.un,.un]:=by
  have eo:=Qaei (cf:=cfn (k+1)) (ρ:=[.ml q2,.fz (Q1 M),.fz (.int (n:Int)),.fz (.int (a:Int)),.fz (.int b_),.fz (Qf r),.un,.un,.un,.un])
  rw [Qax,Qhv,eo]
  generalize l9=l at *
  simp only [Q0,Qg6,Qab,Qk,Qm,Q6,Qb,yC1,Qag,Qq,yC2,Qx,Qu,Zal,Zcu,Zy,Qaa,Qw,Qak,Q9,e3,Qay,Ql,Qz,L2.Qj,Option.map,Zl,Zaf,Slot.put,Nat.reduceAdd,reduceCtorEq,Za0,Qg5,Qg4,cont,Qg3,ui1,eu,Qae,Qbv,Qaz,frz,Q8,Qba,Ze,Zp,Nat.reduceLT,Qd,List.set]
 have s5:exS (cfn (k+1)) bt5 [.ml q3,.fz (Q1 M),.fz (.int (n:Int)),.fz (.int (a:Int)),.fz (.int b_),.fz (Qf r),.fz u,.un,.un,.un]=.nx [.ml q3,.fz (Q1 M),.fz (.int (n:Int)),.fz (.int (a:Int)),.fz (.int b_),.fz (Qf r),.fz u,.fz (.lst L7),.un,.un]:=by
  have y1:(Qce (r.map T.int) none (some b_)).length+1≤100000:=by omega
  have y2:(Qce (r.map T.int) none (some b_)++[u]).length+(Qce (r.map T.int) (some (b_+1)) none).length≤100000:=by rw [Zo,Z4];omega
  have y3:r.length+1≤100000:=by omega
  have er:∀ {s0 s1 s2 s3 s4 s6 s7 s8 s9:Slot},evE (cfn (k+1)) (.rev (.var 5)) [s0,s1,s2,s3,s4,.fz (Qf r),s6,s7,s8,s9]=.ok (.fz (.tup (r.map T.int).reverse)) [s0,s1,s2,s3,s4,.fz (Qf r),s6,s7,s8,s9]:=rfl
  have el:Qgq .list [.tup (r.map T.int)]=some (.ow (.lst (r.map T.int))):=rfl
  rw [←hL7]
  simp only [Qax,Qdq,Qk,Qcg,Qi9,Qm,Q6,Qd,Qb,Q0,Qni,Qq,Qnh,Qh3,Qgx,yC1,yC2,Qng,Qh2,Qnf,cont,Out.opt,ui4,Qcc,Qi6,Qnd,Qc8,frz,Ze,Zp,Nat.reduceAdd,z1,Zl,Qcb,Qca,uo2,y1,Qag,uo1,y2,Zd,y3,Qb5,yBi,Qb1,Qao,el,Qi5,er,Qf8,z7,Qae,Qbv,Qaz,Q8,Qba,Nat.reduceLT,List.set]
 have s7:exS (cfn (k+1)) bt7 [.ml q4,.fz (Q1 M),.fz (.int (n:Int)),.fz (.int (a:Int)),.fz (.int b_),.fz (Qf r),.fz u,.fz (.lst L7),.fz w,.un]=.nx [.ml q4,.fz (Q1 M),.fz (.int (n:Int)),.fz (.int (a:Int)),.fz (.int b_),.fz (Qf r),.fz u,.fz (.lst L7),.fz w,.fz (.lst L4)]:=by
  have y1:(Qce (M.map Qf) none (some (a:Int))).length+1≤100000:=by omega
  have y2:(Qce (M.map Qf) none (some (a:Int))++[w]).length+(Qce (M.map Qf) (some ((a:Int)+1)) none).length≤100000:=by rw [Zo,Z4];omega
  have y3:M.length+(Qce (M.map Qf) none (some 1)).length≤100000:=by omega
  have el:Qgq .list [.tup (M.map Qf)]=some (.ow (.lst (M.map Qf))):=rfl
  rw [←hL4]
  simp only [Qax,Qdq,Qk,Qcg,Qi9,Qm,Q6,Qd,Qb,Q0,Qni,Qq,Qnh,Qh3,Qgx,yC1,yC2,Qng,Qh2,Qnf,cont,Out.opt,ui4,Qcc,Qi6,Qnd,Qc8,frz,Ze,Zp,Nat.reduceAdd,z1,Zl,Qcb,Qca,uo2,y1,Qag,uo1,y2,Zd,y3,Qb5,yBi,Qb1,Qao,el,Qf8,z4,Qae,Qbv,Qaz,Q8,Qba,Nat.reduceLT,List.set]
 have s8:exS (cfn (k+1)) bt8 [.ml q4,.fz (Q1 M),.fz (.int (n:Int)),.fz (.int (a:Int)),.fz (.int b_),.fz (Qf r),.fz u,.fz (.lst L7),.fz w,.fz (.lst L4)]=.nx [.ml q4,.fz (Q1 M),.fz (.int (n:Int)),.fz (.int (a:Int)),.fz (.int b_),.fz (Qf r),.fz u,.fz (.lst L7),.fz w,.fz (.lst (L4++L3))]:=by
  have y:L4.length+3≤100000:=by rw [←hL4];show 4+3≤100000;decide
  rw [←hL3]
  simp only [Qax,Qcg,Qm,Q6,Qd,Qb,Q0,Qcc,Qdq,Qk,Qi6,yC1,Qq,yC2,Qnd,Qc8,frz,Ze,Zp,Nat.reduceAdd,z1,Zl,Qhv,Qg6,Qag,Qg5,Qg4,cont,Qg3,ui2,hX,ak,Qf8,z3,Qcb,Qca,Out.opt,uo3,y,Qae,Qbv,Qaz,Q8,Qba,Nat.reduceLT,List.set]
 show Qb4 (cfn (k+1)) ⟨2,10,Qmz⟩ _=_
 rw [Qbn rfl]
 show Qcp _ (exS _ (.seq (.setF 2 (.bi .len (.cons (.var 1) .nil))) (.seq (.par 3 4 (.call 15 (.cons (.var 0) (.cons (.var 2) .nil))) (.call 15 (.cons (.var 0) (.cons (.var 2) .nil)))) (.seq (.setF 5 (.ix (.var 1) (.var 3))) (.seq bt4 (.seq bt5 (.seq (.setF 8 (.ix (.var 7) (.call 15 (.cons (.var 0) (.cons (.int 7) .nil))))) (.seq bt7 (.seq bt8 (.ret (.ix (.var 9) (.ix Qp3 (.call 15 (.cons (.var 0) (.cons (.int 10) .nil)))))))))))))) [.ml q,.fz (Q1 M),.un,.un,.un,.un,.un,.un,.un,.un])=_
 generalize bt4=B4 at s4 ⊢
 generalize bt5=B5 at s5 ⊢
 generalize bt7=B7 at s7 ⊢
 generalize bt8=B8 at s8 ⊢
 have eo:=fun ρ=>Qaab (cf:=cfn (k+1)) (ρ:=ρ)
 generalize Qp3=E10 at eo ⊢
 generalize l10=l at eo ev
 generalize L4++L3=L43 at s8 et
 simp only [Qad,Qax,Qb5,Qk,Qm,Q6,Qd,Qb,Q0,yC1,Qq,yC2,yBi,Qb1,Qao,cont,Out.opt,ub2,Zd,hl,Qae,Qbv,Qaz,frz,Q8,Qba,Ze,Zp,Nat.reduceAdd,Nat.reduceLT,List.set,Zl,Qbp,Qzs,Qab,Qx,Qu,Zal,Zcu,Zy,Qaa,Qw,Qak,Q9,e1,Qay,Ql,Qz,L2.Qj,Option.map,Zaf,Slot.put,reduceCtorEq,Za0,Qug,e2,Quf,Qbj,Qhv,Qg6,Qg5,Qg4,Qg3,ui2,ar,s4,s5,Qag,e4,ui1,ew,s7,s8,Qbd,eo,e5,ev,et,Qcj,Qar,Qbc,Qav,Qa0,Q4]
open PySem L2
theorem sq_1 {a:Int} (h:a.natAbs≤1000000000000):Sq 1 [[a]]:=⟨rfl,fun r hr=>by rw [Zv.mp hr];rfl,fun r hr x hx=>by rw [Zv.mp hr] at hx;rw [Zv.mp hx];exact h⟩
theorem sq_2:Sq 2 [[0,1],[1,0]]:=by
 refine ⟨rfl,fun r hr=>?_,fun r hr x hx=>?_⟩
 ·simp only [Z9,Zaz,Zbu] at hr
  rcases hr with rfl | rfl <;> rfl
 ·simp only [Z9,Zaz,Zbu] at hr
  rcases hr with rfl | rfl <;> simp only [Z9,Zaz,Zbu] at hx <;> rcases hx with rfl | rfl <;> decide
theorem Q4g:isF (Qal (evE (cfn 14) Qun (uns 10)))=true:=by
 have z1:(1:Nat)≤100000:=by decide
 have z2:(2:Nat)≤100000:=by decide
 have h1:=Qlk 3 (sq_1 (a:=0) (by decide)) (by decide) (by decide)
 have h2:=Qlk 3 (sq_1 (a:=-7) (by decide)) (by decide) (by decide)
 have h3:=Qlk 3 sq_2 (by decide) (by decide)
 have h1:cfn 14 24 [.fz (.tup [.tup [.int 0]])]=.ok (.fz (.bl true)) [.non]:=h1
 have h2:cfn 14 24 [.fz (.tup [.tup [.int (-7)]])]=.ok (.fz (.bl true)) [.non]:=h2
 have h3:cfn 14 24 [.fz (.tup [.tup [.int 0,.int 1],.tup [.int 1,.int 0]])]=.ok (.fz (.bl true)) [.non]:=h3
 have e:Qal (evE (cfn 14) Qun (uns 10))=.ok false (uns 10):=by
  show Qal (evE (cfn 14) Qun [.un,.un,.un,.un,.un,.un,.un,.un,.un,.un])=.ok false [.un,.un,.un,.un,.un,.un,.un,.un,.un,.un]
  simp only [Qic,Qdc,Qab,Qk,Qi6,Qag,Q0,yC1,Qq,yC2,Qnd,Qc8,frz,Ze,Zp,Nat.reduceAdd,z1,Zl,Qx,Qu,Qaa,Qw,Qak,Q9,h1,Qay,Ql,Qz,L2.Qj,Option.map,Qv,yBl,Qfm,Z3,yOr,Qi7,Qne,Int.reduceNeg,h2,z2,h3,yB]
 rw [e]
 rfl
abbrev Qlm:S:=.ite (.not (.call 24 (.cons (.var 8) .nil))) (.ret (.bl false)) .nil
theorem Q4h {n:Nat} (n1:1≤n) (n4:n≤4) {xs:List Tb} (hx:∀ x∈xs,Sq n x) {a b c d e f g h:Slot}:∃ s,Qas s=true∧Qb0 (.nm 8) (exS (cfn 14) Qlm) (xs.map Q1) [a,b,c,d,e,f,g,h,.un,.un]=.nx [a,b,c,d,e,f,g,h,s,.un]:=by
 obtain ⟨ρ',ef,s,os,rfl⟩:=Qey (fun _ ρ=>∃ s:Slot,Qas s=true∧ρ=[a,b,c,d,e,f,g,h,s,.un]) (tg:=.nm 8) (b:=exS (cfn 14) Qlm) (xs:=xs.map Q1) (n:=0) (ρ:=[a,b,c,d,e,f,g,h,.un,.un]) ⟨.un,rfl,rfl⟩ (by
  rintro j t ρ ht ⟨s,os,rfl⟩
  obtain ⟨N,hN,rfl⟩:=Z7.mp (Z1 ht)
  have q:=Qlk 3 (hx N hN) n1 n4
  refine ⟨[a,b,c,d,e,f,g,h,.fz (Q1 N),.un],_,(by cases s <;> first | rfl | cases os),.inl ?_,.fz (Q1 N),rfl,rfl⟩
  simp only [Qaw,Qdc,Qab,Qk,Qm,Q6,Qd,Qb,Q0,yC1,Qq,yC2,Qx,Qu,Qaa,Qw,Qak,Q9,q,Qay,Ql,Qz,L2.Qj,Option.map,Zl,Qv,yBl,Qfm,Z3,Qae,yIf,Qch])
 exact ⟨s,os,ef⟩
noncomputable abbrev Qp4:S:=.ite (.and (.not (.call 19 (.cons (.var 9) .nil))) (.not (.call 25 (.cons (.var 9) .nil)))) (.ret (.bl false)) .nil
theorem Q4i {xs:List T} (hx:∀ x∈xs,gd 3 x=true) {a b c d e f g h i:Slot}:∃ s,Qb0 (.nm 9) (exS (cfn 14) Qp4) xs [a,b,c,d,e,f,g,h,i,.un]=.nx [a,b,c,d,e,f,g,h,i,s]:=by
 obtain ⟨ρ',ef,s,os,rfl⟩:=Qey (fun _ ρ=>∃ s:Slot,Qas s=true∧ρ=[a,b,c,d,e,f,g,h,i,s]) (tg:=.nm 9) (b:=exS (cfn 14) Qp4) (xs:=xs) (n:=0) (ρ:=[a,b,c,d,e,f,g,h,i,.un]) ⟨.un,rfl,rfl⟩ (by
  rintro j t ρ ht ⟨s,os,rfl⟩
  have hg:=hx t (Z1 ht)
  have q:=Q02 12 hg
  refine ⟨[a,b,c,d,e,f,g,h,i,.fz t],_,(by cases s <;> first | rfl | cases os),.inl ?_,.fz t,rfl,rfl⟩
  cases hb:Qf2 t with
  | true =>
   rw [hb] at q
   simp only [Qaw,Qzq,Qdc,Qab,Qk,Qm,Q6,Qd,Qb,Q0,yC1,Qq,yC2,Qx,Qu,Qaa,Qw,Qak,Q9,q,Qay,Ql,Qz,L2.Qj,Option.map,Zl,Qv,yBl,Qfm,Z3,Q3i,Qae,yIf,Qch]
  | false =>
   rw [hb] at q
   have q2:=Qww 8 hg hb
   simp only [Qaw,Qzq,Qdc,Qab,Qk,Qm,Q6,Qd,Qb,Q0,yC1,Qq,yC2,Qx,Qu,Qaa,Qw,Qak,Q9,q,Qay,Ql,Qz,L2.Qj,Option.map,Zl,Qv,yBl,Qfm,Z8,Q3i,q2,Z3,yB,Qae,yIf,Qch])
 exact ⟨s,ef⟩
def Qk5 (o:Int) (r s:List Int):List Int:=(r.zip s).map fun p=>p.1+o*p.2
theorem Qoq:∀ (xs ys:List Int),Qgy (xs.map T.int) (ys.map T.int)=(xs.zip ys).map fun p=>T.tup [.int p.1,.int p.2]
 | [],_=>rfl
 | _::_,[]=>rfl
 | x::xs,y::ys=>by
  rw [Z6,Z6,Qgy,Qoq xs ys]
  rfl
noncomputable abbrev Qva:E:=.comp (.zip (.ix (.var 5) (.int 0)) (.ix (.var 5) (.neg (.int 1)))) [none,none,some 6] (.tp [0,1]) .nil (.bin .add (.var 0) (.bin .mul (.var 2) (.var 1)))
theorem Qaae {n:Nat} {M:Tb} (h:Sm (n+1) M) (n4:n≤3) {o:Int} (ho:o.natAbs≤2) {a b c d e g i j:Slot}:evE (cfn 14) (.bi .tup (.cons Qva .nil)) [a,b,c,d,e,.fz (Q1 M),.fz (.int o),g,i,j]=.ok (.fz (Qf (Qk5 o (M.getD 0 []) (M.getD n [])))) [a,b,c,d,e,.fz (Q1 M),.fz (.int o),g,i,j]:=by
 have hl:=h.len
 have a0:atI (M.map Qf) 0=some (Qf (M.getD 0 [])):=Qpz (M:=M) (i:=0) (by omega)
 have a1:=Q0x hl
 have r0:=h.row _ (Qeh (i:=0) (by omega))
 have r1:=h.row _ (Qeh (i:=n) (by omega))
 generalize M.getD 0 []=u at a0 r0 ⊢
 generalize M.getD n []=v at a1 r1 ⊢
 have hc:evE (cfn 14) Qva [a,b,c,d,e,.fz (Q1 M),.fz (.int o),g,i,j]=.ok (.ow (.lst ((u.zip v).map fun p=>T.int (p.1+o*p.2)))) [a,b,c,d,e,.fz (Q1 M),.fz (.int o),g,i,j] :=
  Qwg (rest:=[.fz (.int o)]) (a:=fun p=>T.int p.1) (b:=fun p=>T.int p.2) (xs:=u.zip v) (by simp only [Qadv,Qhv,Qm,Q6,Qd,Qb,Q0,Qg6,Qag,Qg5,Qg4,cont,Qg3,ui2,a0,yZip,Qi7,Qne,Int.reduceNeg,a1,Q5k,Qoq]) rfl rfl rfl (fun p hp=>by
   have mo:Qb9 o p.2=true:=Qjn (by omega)
   refine ⟨.fz (.int (p.1+o*p.2)),?_,rfl⟩
   simp only [Qcg,Qm,Q6,Qb,Q0,Qcc,Qd,Qcb,Qca,cont,Out.opt,uo5,mo,Zl,uo1]) (by rw [List.length_zip];omega)
 have em:((u.zip v).map fun p=>T.int (p.1+o*p.2))=(Qk5 o u v).map T.int:=by unfold Qk5;rw [Zb8];rfl
 rw [em] at hc
 simp only [Qb5,Qk,hc,Q0,yC1,Qq,yC2,yBi,Qb1,Qao,cont,Out.opt,ub9]
theorem Q04 {o:Int} {r s:List Int} {n:Nat} (hr:r.length=n) (hs:s.length=n):(Qk5 o r s).length=n:=by
 unfold Qk5
 rw [Zd,List.length_zip,hr,hs,Zdo]
theorem Q4j {o:Int} {r s:List Int} (ho:o.natAbs≤2) (hr:∀ x∈r,(x:Int).natAbs≤100000000000) (hs:∀ x∈s,(x:Int).natAbs≤100000000000):∀ x∈Qk5 o r s,(x:Int).natAbs≤1000000000000:=fun x hx=>by
 unfold Qk5 at hx
 obtain ⟨p,hp,rfl⟩:=Z7.mp hx
 have h1:=hr _ (List.of_mem_zip hp).1
 have h2:=hs _ (List.of_mem_zip hp).2
 have h3:(o*p.2).natAbs≤2*100000000000:=by rw [Int.natAbs_mul];exact Nat.mul_le_mul ho h2
 omega
theorem Sm.sq {n:Nat} {M:Tb} (h:Sm n M):Sq n M:=⟨h.len,h.row,fun r hr x hx=>Zao (h.bd r hr x hx) (by decide)⟩
theorem Q05 {n:Nat} {A B:Tb} {M:Tb} (h:Sq n M) {r:List Int} (hl:(A++r::B).length=n) (hA:∀ x∈A,x∈M) (hB:∀ x∈B,x∈M) (lr:r.length=n) (br:∀ x∈r,(x:Int).natAbs≤1000000000000):Sq n (A++r::B):=by
 refine ⟨hl,fun s hs=>?_,fun s hs=>?_⟩
 ·rcases Zad.mp hs with z | z
  ·exact h.row s (hA s z)
  ·rcases Z9.mp z with rfl | z
   ·exact lr
   ·exact h.row s (hB s z)
 ·rcases Zad.mp hs with z | z
  ·exact h.bd s (hA s z)
  ·rcases Z9.mp z with rfl | z
   ·exact br
   ·exact h.bd s (hB s z)
theorem Qry {t:T}:∀ n:Nat,(List.replicate n [t]).flatten=List.replicate n t
 | 0=>rfl
 | n+1=>by rw [Za2,Za2,List.flatten_cons,Qry n];rfl
theorem Qvb {t:T} {n:Nat} (h1:1≤n) (h4:n≤5):opB .mul (.tup [t]) (.int (n:Int))=some (.fz (.tup (List.replicate n t))):=by
 show (if [t].length*(n:Int).toNat≤100000∧1≤(n:Int)∧(n:Int).natAbs≤100000∧[t]≠[] then some (PV.fz (.tup (List.replicate (n:Int).toNat [t]).flatten)) else none)=_
 rw [Zf ⟨by rw [Int.toNat_natCast,Z4];omega,by omega,by omega,by simp⟩,Int.toNat_natCast,Qry]
theorem Q06 {a b:List T} (h:a.length+b.length≤100000):opB .add (.tup a) (.tup b)=some (.fz (.tup (a++b))):=Zf h
theorem Q07:∀ m:Int,∃ ρ',exS (cfn 14) Qz4 ((uns 10).set 1 (.fz (.int m)))=.nx ρ'∧ρ'.length=10:=by
 intro m
 obtain ⟨q,hq,e0⟩:=Qaec 13 m
 obtain ⟨r,q1,r0,r4,p1,e1⟩:=Qeg 13 (m:=4) (by decide) (by decide) hq
 obtain ⟨w,q2,w0,w3,p2,e2⟩:=Qeg 13 (m:=3) (by decide) (by decide) p1
 obtain ⟨n,hn⟩:=Int.eq_ofNat_of_zero_le (show 0≤r by omega)
 have dO:1+r=((n+1:Nat):Int):=by omega
 obtain ⟨M,q3,hM,p3,e3⟩:=Q4e 12 (n:=n+1) (by omega) (w:=w) p2
 obtain ⟨o_,q4,o0,o5,p4,e4⟩:=Qeg 13 (m:=5) (by decide) (by decide) p3
 obtain ⟨o,bv,ho⟩:∃ o:Int,o_-2=o∧o.natAbs≤2:=⟨o_-2,rfl,by omega⟩
 obtain ⟨td,q5,jD,p5,e5⟩:=Qaef 12 p4
 obtain ⟨tb,q6,kw,p6,e6⟩:=Qaad 12 (n:=n+1) (by omega) (by omega) hM.sq.shp p5
 have hl:=hM.len
 have n3:n≤3:=by omega
 have iP:=hM.row _ (Qeh (i:=0) (by omega))
 have kf:=hM.row _ (Qeh (i:=n) (by omega))
 have j9:=hM.bd _ (Qeh (i:=0) (by omega))
 have jR:=hM.bd _ (Qeh (i:=n) (by omega))
 have el:=fun {a b c d e g i j:Slot}=>Qaae hM n3 ho (a:=a) (b:=b) (c:=c) (d:=d) (e:=e) (g:=g) (i:=i) (j:=j)
 have lL:=Q04 (o:=o) iP kf
 have bL:=Q4j ho j9 jR
 generalize Qk5 o (M.getD 0 []) (M.getD n [])=L at el lL bL
 have sA:Sq (n+1) (M.take n++L::[]):=Q05 hM.sq (by rw [Zo,Za4,Z4];omega) (fun x hx=>Zbe hx) (fun x hx=>by cases hx) lL bL
 have sB:Sq (n+1) ([]++L::M.drop 1):=Q05 hM.sq (by rw [List.nil_append,Ze,Zbc];omega) (fun x hx=>by cases hx) (fun x hx=>Zbn hx) lL bL
 have sC:Sq (n+1) ([]++List.replicate (n+1) 0::M.drop 1):=Q05 hM.sq (by rw [List.nil_append,Ze,Zbc];omega) (fun x hx=>by cases hx) (fun x hx=>Zbn hx) Zag (fun x hx=>by rw [(List.mem_replicate.mp hx).2];decide)
 obtain ⟨s8,kx,f1⟩:=Q4h (n:=n+1) (by omega) (by omega) (xs:=[M,M.take n++[L],L::M.drop 1,List.replicate (n+1) 0::M.drop 1]) (by
  intro x hx
  simp only [Z9,Zaz,Zbu] at hx
  rcases hx with rfl | rfl | rfl | rfl
  ·exact hM.sq
  ·exact sA
  ·exact sB
  ·exact sC) (a:=.un) (b:=.fz (.int m)) (c:=.ow q4) (d:=.fz (.int ((n+1:Nat):Int))) (e:=.fz (.int w)) (f:=.fz (Q1 M)) (g:=.fz (.int o)) (h:=.fz (Qf L))
 have xr:∀ x∈M.map Qf,gd 2 x=true:=fun x hx=>by
  obtain ⟨s,hs,rfl⟩:=Z7.mp hx
  exact Qp2 (by rw [hM.row s hs];omega)
 obtain ⟨s9,f2⟩:=Q4i (xs:=[td,.lst (M.map Qf),.tup ((M.map Qf).drop 1++List.replicate 5 (.tup [.int 0])),.non,tb]) (by
  intro x hx
  simp only [Z9,Zaz,Zbu] at hx
  rcases hx with rfl | rfl | rfl | rfl | rfl
  ·exact jD
  ·exact (Qek (by rw [Zd];omega) xr).2
  ·refine (Qek (by rw [Zo,Zbc,Zd,Zag];omega) fun x hx=>?_).1
   rcases Zad.mp hx with z | z
   ·exact xr x (Zbn z)
   ·rw [(List.mem_replicate.mp z).2];decide +kernel
  ·rfl
  ·exact kw) (a:=.un) (b:=.fz (.int m)) (c:=.ow q6) (d:=.fz (.int ((n+1:Nat):Int))) (e:=.fz (.int w)) (f:=.fz (Q1 M)) (g:=.fz (.int o)) (h:=.fz (Qf L)) (i:=s8)
 refine ⟨[.un,.fz (.int m),.ow q6,.fz (.int ((n+1:Nat):Int)),.fz (.int w),.fz (Q1 M),.fz (.int o),.fz (Qf L),s8,s9],?_,rfl⟩
 have z1:(1:Nat)≤100000:=by decide
 have z4:(4:Nat)≤100000:=by decide
 have z5:(5:Nat)≤100000:=by decide
 have c0:Qce (M.map Qf) none (some (-1))=(M.take n).map Qf:=by rw [Qrv,Zd,hl,Nat.add_sub_cancel,map_take]
 have c1:Qce (M.map Qf) (some 1) none=(M.drop 1).map Qf:=by
  have:=Qrs (M.map Qf) 0
  rw [map_drop]
  exact this
 have k1:opB .mul (.tup [.int 0]) (.int ((n+1:Nat):Int))=some (.fz (Qf (List.replicate (n+1) 0))):=by
  rw [Qvb (by omega) (by omega)]
  show some (PV.fz (T.tup (List.replicate (n+1) (T.int 0))))=some (PV.fz (T.tup ((List.replicate (n+1) (0:Int)).map T.int)))
  rw [List.map_replicate]
 have k5:opB .mul (.tup [.tup [.int 0]]) (.int 5)=some (.fz (.tup (List.replicate 5 (.tup [.int 0])))):=Qvb (n:=5) (by decide) (by decide)
 have k2:opB .add (.tup ((M.take n).map Qf)) (.tup [Qf L])=some (.fz (Q1 (M.take n++[L]))):=by
  rw [Q06 (by rw [Zd,Za4,Z4];omega)]
  show _=some (PV.fz (.tup ((M.take n++[L]).map Qf)))
  rw [Zck]
  rfl
 have k3:∀ X:List Int,opB .add (.tup [Qf X]) (.tup ((M.drop 1).map Qf))=some (.fz (Q1 (X::M.drop 1))):=fun X=>by
  rw [Q06 (by rw [Zd,Zbc,Z4];omega)]
  rfl
 have k4:opB .add (.tup ((M.drop 1).map Qf)) (.tup (List.replicate 5 (.tup [.int 0])))=some (.fz (.tup ((M.map Qf).drop 1++List.replicate 5 (.tup [.int 0])))):=by
  rw [Q06 (by rw [Zd,Zbc,Zag];omega),map_drop]
 have ol:Qgq .list [Q1 M]=some (.ow (.lst (M.map Qf))):=rfl
 have w1:exS (cfn 14) (.set 2 (.call 14 (.cons (.var 1) .nil))) [.un,.fz (.int m),.un,.un,.un,.un,.un,.un,.un,.un]=.nx [.un,.fz (.int m),.ow q,.un,.un,.un,.un,.un,.un,.un]:=by
  simp only [Qmj,Qab,Qk,Qm,Q6,Qd,Qb,Q0,yC1,Qq,yC2,Qx,Qu,Qaa,Qw,Qak,Q9,e0,Qay,Ql,Qz,L2.Qj,Option.map,Zl,Qae,Qnb,Q8,Qba,Ze,Zp,Nat.reduceAdd,Nat.reduceLT,List.set]
 have w2:exS (cfn 14) (.par 3 4 (.bin .add (.int 1) (.call 15 (.cons (.var 2) (.cons (.int 4) .nil)))) (.call 15 (.cons (.var 2) (.cons (.int 3) .nil)))) [.un,.fz (.int m),.ow q,.un,.un,.un,.un,.un,.un,.un]=.nx [.un,.fz (.int m),.ow q2,.fz (.int ((n+1:Nat):Int)),.fz (.int w),.un,.un,.un,.un,.un]:=by
  simp only [Qzs,Qcg,Qag,Q0,Qcc,Qab,Qk,Qm,Q6,Qd,Qb,yC1,Qq,yC2,Qx,Qu,Zal,Zcu,Zy,Qaa,Qw,Qak,Q9,e1,Qay,Ql,Qz,L2.Qj,reduceCtorEq,Option.map,Za0,Nat.reduceAdd,Nat.reduceEqDiff,Zl,Zaf,Slot.put,Qcb,Qca,cont,Out.opt,uo1,dO,Qae,Qug,e2,Quf,Q8,Qbj,Qba,Ze,Zp,Nat.reduceLT,List.set]
 have w3:exS (cfn 14) (.setF 5 (.call 18 (.cons (.var 2) (.cons (.var 3) (.cons (.var 4) .nil))))) [.un,.fz (.int m),.ow q2,.fz (.int ((n+1:Nat):Int)),.fz (.int w),.un,.un,.un,.un,.un]=.nx [.un,.fz (.int m),.ow q3,.fz (.int ((n+1:Nat):Int)),.fz (.int w),.fz (Q1 M),.un,.un,.un,.un]:=by
  simp only [Qax,Qab,Qk,Qm,Q6,Qd,Qb,Q0,yC1,Qq,yC2,Qx,Qu,Zal,Zcu,Zy,Qaa,Qw,Qak,Q9,e3,Qay,Ql,Qz,L2.Qj,reduceCtorEq,Option.map,Za0,Nat.reduceAdd,Nat.reduceEqDiff,Zl,Zaf,Slot.put,Qae,Qbv,Qaz,frz,Q8,Qba,Ze,Zp,Nat.reduceLT,List.set]
 have w4:exS (cfn 14) (.setF 6 (.bin .sub (.call 15 (.cons (.var 2) (.cons (.int 5) .nil))) (.int 2))) [.un,.fz (.int m),.ow q3,.fz (.int ((n+1:Nat):Int)),.fz (.int w),.fz (Q1 M),.un,.un,.un,.un]=.nx [.un,.fz (.int m),.ow q4,.fz (.int ((n+1:Nat):Int)),.fz (.int w),.fz (Q1 M),.fz (.int o),.un,.un,.un]:=by
  simp only [Qax,Qcg,Qab,Qk,Qm,Q6,Qd,Qb,Q0,yC1,Qag,Qq,yC2,Qx,Qu,Zal,Zcu,Zy,Qaa,Qw,Qak,Q9,e4,Qay,Ql,Qz,L2.Qj,reduceCtorEq,Option.map,Za0,Nat.reduceAdd,Nat.reduceEqDiff,Zl,Zaf,Slot.put,Qcc,Qcb,Qca,cont,Out.opt,uo4,bv,Qae,Qbv,Qaz,frz,Q8,Qba,Ze,Zp,Nat.reduceLT,List.set]
 have w5:exS (cfn 14) (.setF 7 (.bi .tup (.cons Qva .nil))) [.un,.fz (.int m),.ow q4,.fz (.int ((n+1:Nat):Int)),.fz (.int w),.fz (Q1 M),.fz (.int o),.un,.un,.un]=.nx [.un,.fz (.int m),.ow q4,.fz (.int ((n+1:Nat):Int)),.fz (.int w),.fz (Q1 M),.fz (.int o),.fz (Qf L),.un,.un]:=by
  rw [Qax,el]
  rfl
 have jY:evW (cfn 14) (.seq (.lst (.cons (.var 5) (.cons (.bin .add (.slc (.var 5) .nil (.cons (.neg (.int 1)) .nil)) (.tup (.cons (.var 7) .nil))) (.cons (.bin .add (.tup (.cons (.var 7) .nil)) (.slc (.var 5) (.cons (.int 1) .nil) .nil)) (.cons (.bin .add (.tup (.cons (.bin .mul (.tup (.cons (.int 0) .nil)) (.var 3)) .nil)) (.slc (.var 5) (.cons (.int 1) .nil) .nil)) .nil)))))) [.un,.fz (.int m),.ow q4,.fz (.int ((n+1:Nat):Int)),.fz (.int w),.fz (Q1 M),.fz (.int o),.fz (Qf L),.un,.un]=.ok ([M,M.take n++[L],L::M.drop 1,List.replicate (n+1) 0::M.drop 1].map Q1,none) [.un,.fz (.int m),.ow q4,.fz (.int ((n+1:Nat):Int)),.fz (.int w),.fz (Q1 M),.fz (.int o),.fz (Qf L),.un,.un]:=by
  have fg:=k3 L
  have eM:=k3 (List.replicate (n+1) 0)
  rw [Z6,Z6,Z6,Z6,Zde]
  generalize Qf (List.replicate (n+1) 0)=Z at k1 eM
  generalize Q1 (L::M.drop 1)=t3 at fg ⊢
  generalize Q1 (List.replicate (n+1) 0::M.drop 1)=t4 at eM ⊢
  generalize Q1 (M.take n++[L])=t2 at k2 ⊢
  generalize (M.take n).map Qf=X1 at c0 k2
  generalize (M.drop 1).map Qf=X2 at c1 fg eM
  generalize Qf L=Y at k2 fg ⊢
  simp only [Qfy,Qdq,Qk,Qm,Q6,Qd,Qb,Q0,yC1,Qcg,Qi9,Qni,Qq,Qnh,Qh3,Qgx,Qi7,Qag,Qne,Int.reduceNeg,yC2,Qng,Qh2,Qnf,cont,Out.opt,ui4,c0,Qcc,Qi6,Qnd,Qc8,frz,Ze,Zp,Nat.reduceAdd,z1,Zl,Qcb,Qca,k2,c1,fg,k1,eM,Qf8,z4,Qja,Qe9,Qe8,Qdj,Qet]
 have w6:exS (cfn 14) (.for_ (.seq (.lst (.cons (.var 5) (.cons (.bin .add (.slc (.var 5) .nil (.cons (.neg (.int 1)) .nil)) (.tup (.cons (.var 7) .nil))) (.cons (.bin .add (.tup (.cons (.var 7) .nil)) (.slc (.var 5) (.cons (.int 1) .nil) .nil)) (.cons (.bin .add (.tup (.cons (.bin .mul (.tup (.cons (.int 0) .nil)) (.var 3)) .nil)) (.slc (.var 5) (.cons (.int 1) .nil) .nil)) .nil)))))) (.nm 8) Qlm) [.un,.fz (.int m),.ow q4,.fz (.int ((n+1:Nat):Int)),.fz (.int w),.fz (Q1 M),.fz (.int o),.fz (Qf L),.un,.un]=.nx [.un,.fz (.int m),.ow q4,.fz (.int ((n+1:Nat):Int)),.fz (.int w),.fz (Q1 M),.fz (.int o),.fz (Qf L),s8,.un]:=by
  rw [Qdd,jY]
  show Qh1 (Qb0 _ _ _ _)=_
  rw [f1]
  rfl
 have fQ:evW (cfn 14) (.seq (.lst (.cons (.call 17 (.cons (.var 2) .nil)) (.cons (.bi .list (.cons (.var 5) .nil)) (.cons (.bin .add (.slc (.var 5) (.cons (.int 1) .nil) .nil) (.bin .mul (.tup (.cons (.tup (.cons (.int 0) .nil)) .nil)) (.int 5))) (.cons .non (.cons (.call 20 (.cons (.var 2) (.cons (.var 5) .nil))) .nil))))))) [.un,.fz (.int m),.ow q4,.fz (.int ((n+1:Nat):Int)),.fz (.int w),.fz (Q1 M),.fz (.int o),.fz (Qf L),s8,.un]=.ok ([td,.lst (M.map Qf),.tup ((M.map Qf).drop 1++List.replicate 5 (.tup [.int 0])),.non,tb],none) [.un,.fz (.int m),.ow q6,.fz (.int ((n+1:Nat):Int)),.fz (.int w),.fz (Q1 M),.fz (.int o),.fz (Qf L),s8,.un]:=by
  generalize T.tup ((M.map Qf).drop 1++List.replicate 5 (.tup [.int 0]))=t3 at k4 ⊢
  generalize T.tup (List.replicate 5 (.tup [.int 0]))=t5 at k4 k5
  generalize (M.drop 1).map Qf=X2 at c1 k4
  generalize T.lst (M.map Qf)=tl at ol ⊢
  simp only [Qfy,Qdq,Qk,Qab,Qm,Q6,Qd,Qb,Q0,yC1,Qq,yC2,Qx,Qu,Zcu,Zy,Qaa,Qw,Qak,Q9,e5,Qay,Ql,Qz,L2.Qj,reduceCtorEq,Option.map,Za0,Nat.reduceAdd,Nat.reduceEqDiff,Zl,Zaf,Slot.put,Qb5,yBi,Qb1,Qao,cont,Out.opt,ol,Qcg,Qi9,Qni,Qag,Qnh,Qh3,Qgx,Qng,Qh2,Qnf,ui4,c1,Qcc,Qi6,Qnd,Qc8,frz,Ze,Zp,z1,Qcb,Qca,k5,k4,Qi5,Zal,e6,Qf8,z5,Qja,Qe9,Qe8,Qdj,Qet]
 show exS (cfn 14) (.seq (.set 2 (.call 14 (.cons (.var 1) .nil))) (.seq (.par 3 4 (.bin .add (.int 1) (.call 15 (.cons (.var 2) (.cons (.int 4) .nil)))) (.call 15 (.cons (.var 2) (.cons (.int 3) .nil)))) (.seq (.setF 5 (.call 18 (.cons (.var 2) (.cons (.var 3) (.cons (.var 4) .nil))))) (.seq (.setF 6 (.bin .sub (.call 15 (.cons (.var 2) (.cons (.int 5) .nil))) (.int 2))) (.seq (.setF 7 (.bi .tup (.cons Qva .nil))) (.seq (.for_ (.seq (.lst (.cons (.var 5) (.cons (.bin .add (.slc (.var 5) .nil (.cons (.neg (.int 1)) .nil)) (.tup (.cons (.var 7) .nil))) (.cons (.bin .add (.tup (.cons (.var 7) .nil)) (.slc (.var 5) (.cons (.int 1) .nil) .nil)) (.cons (.bin .add (.tup (.cons (.bin .mul (.tup (.cons (.int 0) .nil)) (.var 3)) .nil)) (.slc (.var 5) (.cons (.int 1) .nil) .nil)) .nil)))))) (.nm 8) Qlm) (.for_ (.seq (.lst (.cons (.call 17 (.cons (.var 2) .nil)) (.cons (.bi .list (.cons (.var 5) .nil)) (.cons (.bin .add (.slc (.var 5) (.cons (.int 1) .nil) .nil) (.bin .mul (.tup (.cons (.tup (.cons (.int 0) .nil)) .nil)) (.int 5))) (.cons .non (.cons (.call 20 (.cons (.var 2) (.cons (.var 5) .nil))) .nil))))))) (.nm 9) Qp4))))))) [.un,.fz (.int m),.un,.un,.un,.un,.un,.un,.un,.un]=_
 rw [Qad,w1,Qbp,Qad,w2,Qbp,Qad,w3,Qbp,Qad,w4,Qbp,Qad,w5,Qbp,Qad,w6,Qbp,Qdd,fQ]
 show Qh1 (Qb0 _ _ _ _)=_
 rw [f2]
 rfl
open PySem L2
section
variable {P:Fu} {w:Ft} {K:Fz} {mg:Str→Option Fx} {base:Fq}
theorem ok_q {x:Str} {st:Fs} {f:Fw} {fd:FuncData} {N ps:List Str} {k:Nat} {sp:Sp} (F:Fun K x x st f fd) (S:FnScope N ps (Qg st)) (len:∀ vs H Q E,sp vs H Q E→vs.length=ps.length)
  (av:∀ (ae:Fx) (A:Fv) (outer:List Env) (s:Fy) (H:Hp) (vs:List V) (Q:VK) (E:XK),Room k (A.deeper (PyProof.Rows.envOfC x (Qg st) s.heap.objs.size f ae))→sp vs H Q E →
   ∃ t,QB (Qhu (fun _=>true) CX0 P w K mg base N x (Qg st) f ae A outer s H E).nox (Qbi st) t∧t { nx:=fun _ H'=>Q .non H',rt:=Q } (Qbl N vs) H):FnOk P w K mg base CX0 (k+1) f fd ps sp :=
 F.ok S len fun ae A outer s H vs Q E hr hs=>let ⟨t,a,b⟩:=av ae A outer s H vs Q E hr hs;⟨t,a.h,b⟩
theorem Q08 {h:Fq} {x:Str} {st:Fs} {f:Fw} {oc:Fx} {od an:Option Fw} {aQ:Array (Option Fx)} {kV az pm ae ct:Fx} (X:K.In h) (G:h.Ns mainGlobals mg) (a:PySem.W.nsIn K mainGlobals x=some (some (.ref f)))
  (l:K.lookup f=some ⟨oc,od,.func (PySem.W.fnOf x x (Qel st) (Qbi st) (Qg st) .none kV az pm an ae ct),aQ⟩) (c:PySem.W.codeIn K ae x=true) (k:PySem.W.keepIn K (.ref f)=true):Dfn K mg x st:=⟨⟨f,_,Q62 l c k,Zat X G a⟩⟩
theorem Qaaf {h:Fq} {x:Str} {i:Int} {t:Tok} (X:K.In h) (G:h.Ns mainGlobals mg) (a:PySem.W.nsIn K mainGlobals x=some (some (.int i t))):∃ u,mg x=some u∧RelV (.int i) u:=⟨_,Zat X G a,t,rfl⟩
theorem Q4k {lf:Fw} {ip:FuncData} (F:Fun K "law" "law" Qkz lf ip) (s:Fy) (v:Fx):BindsTo s ip ⟨[v],[]⟩ [("_law_script",v)]:=by
 obtain ⟨oc,od,kV,az,pm,an,ae,ct,aQ,rfl,lk,aF⟩:=F.ex
 exact .of_eq (Q9h _ _ _ _ _ _ [v] rfl)
theorem Qbe {xs:List Df} {d:Df} (i:Nat) (h:xs[i]?=some d):d∈xs:=Z1 h
theorem Qaag {l:PySem.W.OpenLaw} {fa:Fw} (jI:mg "law" = some (.ref fa)) (tx:Txt K mg) (dl:Dfn K mg "law" Qkz) (dc:Dfn K mg "_law_cell" Qez) (D:∀ d∈ds,Dfn K mg d.x d.st) :
  ∃ fd:FuncData,(∀ (s:Fy) (v:Fx),BindsTo s fd ⟨[v],[]⟩ [("_law_script",v)])∧∀ base:Fq,K.In base→base.Ns mainGlobals mg→FnOk l.prog w K mg base CX0 30 fa fd ["_law_script"] (Qsv K):=by
 obtain ⟨f,fd,F,m⟩:=dl.ex
 have e:=jI.symm.trans m
 cases e
 refine ⟨fd,Q4k F,fun base _ _=>?_⟩
 have A:Q89 (fun d=>DfOk K mg d∧Qa9 l.prog w K mg base ds d) ds:=⟨⟨⟨D _ (Qbe 0 rfl),Qq7,Qq8,rfl,rfl⟩,Qs8 tx⟩,⟨⟨D _ (Qbe 1 rfl),Qwi,Qwj,rfl,rfl⟩,Qz3 tx⟩,⟨⟨D _ (Qbe 2 rfl),Qsw,Qsx,rfl,rfl⟩,Qwl tx⟩,⟨⟨D _ (Qbe 3 rfl),Qnj,Qnk,rfl,rfl⟩,Qpn tx⟩,⟨⟨D _ (Qbe 4 rfl),Qci,Qjc,rfl,rfl⟩,Qkj tx⟩,⟨⟨D _ (Qbe 5 rfl),Qmn,Qsy,rfl,rfl⟩,Qwm tx⟩,⟨⟨D _ (Qbe 6 rfl),Qdt,Qsz,rfl,rfl⟩,Qwn tx⟩,⟨⟨D _ (Qbe 7 rfl),Qmo,Qs0,rfl,rfl⟩,Qwo tx⟩,⟨⟨D _ (Qbe 8 rfl),Qie,Qs1,rfl,rfl⟩,Qwp tx⟩,⟨⟨D _ (Qbe 9 rfl),Qfa,Qq9,rfl,rfl⟩,Qs9 tx⟩,⟨⟨D _ (Qbe 10 rfl),Q3m,Q3n,rfl,rfl⟩,Q9l tx⟩,⟨⟨D _ (Qbe 11 rfl),Qjd,Qje,rfl,rfl⟩,Qkk tx⟩,⟨⟨D _ (Qbe 12 rfl),Qbf,Qjf,rfl,rfl⟩,Qkl tx⟩,⟨⟨D _ (Qbe 13 rfl),Qmp,Qmq,rfl,rfl⟩,Qnm tx⟩,⟨⟨D _ (Qbe 14 rfl),Qmr,Qs2,rfl,rfl⟩,Qwq tx⟩,⟨⟨D _ (Qbe 15 rfl),Qeb,Qrc,rfl,rfl⟩,Qta tx⟩,⟨⟨D _ (Qbe 16 rfl),Qpg,Qph,rfl,rfl⟩,Qrj tx⟩,⟨⟨D _ (Qbe 17 rfl),Qms,Qs3,rfl,rfl⟩,Qwr tx⟩,⟨⟨D _ (Qbe 18 rfl),Qbw,Qpi,rfl,rfl⟩,Qrk tx⟩,⟨⟨D _ (Qbe 19 rfl),Qf0,Qj6,rfl,rfl⟩,Qla tx⟩,⟨⟨D _ (Qbe 20 rfl),Qbx,Qre,rfl,rfl⟩,Qtb tx⟩,⟨⟨D _ (Qbe 21 rfl),Qb8,Qpj,rfl,rfl⟩,Qrl tx⟩,⟨⟨D _ (Qbe 22 rfl),Qfe,Qrf,rfl,rfl⟩,Qtc tx⟩,⟨⟨D _ (Qbe 23 rfl),Qcq,Qrg,rfl,rfl⟩,Qtd tx⟩,⟨⟨D _ (Qbe 24 rfl),Qjg,Qpk,rfl,rfl⟩,Qrm tx⟩,⟨⟨D _ (Qbe 25 rfl),Qdn,Qmt,rfl,rfl⟩,Qnn tx⟩,trivial⟩
 have hc:=Qoi (Qzo A) 14
 refine ok_q (k:=29) F Qgg (fun vs H Q E h=>?_) (fun ae A outer s H vs Q E hr h=>?_)
 ·obtain ⟨a,ns,rfl,_⟩:=h
  rfl
 ·obtain ⟨ρ1,e1⟩:=Q88 Q4g
  exact ⟨_,Qad6 tx hc (Qpo dc tx) hr,Q3g h (by decide) (by decide) e1 Q07⟩
end
end My
namespace PySem.W.Fast
def tw7645202770028895115:=()
def tw15616472209806388675:=()
def tw8159569434252783499:=()
def tw5192821812522161232:=()
def tw9389819601311026828:=()
def tw234263935683075603:=()
def tw7799214364395438438:=()
def tw303567409806440439:=()
def tw18324677723596554545:=()
def tw1132977718341187698:=()
def tw16012594114838651165:=()
def tw6481883880553374784:=()
def tw13155011624222222527:=()
def tw7692054267683090318:=()
def tw12485642121038019640:=()
def tw15405760186571579190:=()
def tw10443228040913133405:=()
def tw12721333236289987949:=()
def tw4381315717179978161:=()
def tw12226388039489647063:=()
def tw8013005608644738186:=()
def tw6866987627296577315:=()
def tw4895284335865734394:=()
def tw17164081237521180519:=()
def tw14217149370267952475:=()
def tw16705961296138081900:=()
def tw8571704468245419198:=()
def tw15561192501012466576:=()
def tw10408177296438998404:=()
def tw16175844940089101142:=()
def tw13981566477693416149:=()
def tw12457605714918134591:=()
def tw16850763340296070605:=()
def tw5132231912870058772:=()
def tw4098073327924571830:=()
def tw8012486843947365424:=()
def tw10030691149528014961:=()
def tw10899980033022085296:=()
def tw338272478998751535:=()
def tw16012690920346607578:=()
def tw13818016685717295954:=()
def tw18357942622700655509:=()
def tw6648225079785286887:=()
def tw9961055950517974433:=()
def tw5367593959347724663:=()
def tw15391069418009751284:=()
def tw5234705788808565720:=()
def tw14886216965425424161:=()
def tw14956382682112044585:=()
def tw7235720543473286032:=()
def tw12493138400262879642:=()
def tw10025565772241525444:=()
def tw765632407294658539:=()
def tw2985523011629052626:=()
def tw4082610027963599888:=()
def tw2712256292134897664:=()
def tw12329588094359821178:=()
def tw14513269079441917167:=()
def tw6267647409121846667:=()
def tw13571988659391711495:=()
def tw13568552803181435667:=()
def tw3045634223255806748:=()
def tw10030719440538300671:=()
def tw7707043508982855061:=()
def tw17104527500479087543:=()
def tw10967858639913500218:=()
def tw15605252468895558987:=()
def tw4149837570757623026:=()
def tw977633632638311159:=()
def tw6518113422892298764:=()
def tw5664520107647659772:=()
def tw12310004977456865725:=()
def tw15810440767741395773:=()
def tw7964858828973801271:=()
def tw2456859544996030555:=()
def tw3219631290735515933:=()
def tw16269794401212344710:=()
def tw1609310757909694546:=()
def tw4779261859299817538:=()
def tw17918572476949953469:=()
def tw11223431448396052534:=()
def tw5282900893519838417:=()
def tw2709054646744085827:=()
def tw10974120527674416393:=()
def tw4360876035737778633:=()
def tw11521293575425633574:=()
def tw172975523725603067:=()
def tw1410051973762924001:=()
def tw14302929675145783172:=()
def tw7783127170076427380:=()
def tw8127655834911256507:=()
def tw887787275293117583:=()
def tw17392682731411727101:=()
def tw4945003970155797181:=()
def tw14522390905517294688:=()
def tw13754050106745477712:=()
def tw10953577735960624537:=()
def tw2194084682723081142:=()
def tw9951611161345288427:=()
def tw13198649612274987110:=()
def tw2299093707960080142:=()
def tw13643548952460946935:=()
def tw1383934884965340690:=()
def tw3455381195039340428:=()
def tw1828901218581120423:=()
def tw7023001759036913067:=()
def tw10702349488551348104:=()
def tw15567465216130965259:=()
def tw12927036506736000553:=()
def tw10539345831882400349:=()
def tw2491420647239851340:=()
def tw4660311350534701214:=()
def tw7368299160391634465:=()
def tw4178152956391370391:=()
def tw3639445659324714653:=()
def tw3976941816207972858:=()
def tw17302258213342610527:=()
def tw2015765897399015147:=()
def tw374640677237326881:=()
def tw18305502695953202616:=()
def tw18327457292206719059:=()
def tw8379758562165318167:=()
def tw10001266729847256408:=()
def tw8708162125297811162:=()
def tw2465550451681756285:=()
def tw14358987417504090217:=()
def tw15206180585306733671:=()
def tw11366689195659786763:=()
def tw11681205966306558079:=()
def tw2650669423576579453:=()
def tw18088809324006817238:=()
def tw2150574524070057126:=()
def tw6928870529285405877:=()
def tw1305821955864311714:=()
def tw3354044556296400369:=()
def tw9891317855643577980:=()
def tw8118130830029996379:=()
def tw2256441286870913178:=()
def tw5295596450189909666:=()
def tw13982893892730773185:=()
def tw5477132920410630653:=()
def tw15598551014120958731:=()
def tw5660658371102487639:=()
def tw1918025774310973189:=()
def tw17836418504364962664:=()
def tw10150243788863244980:=()
def tw1530671704038085779:=()
def tw2890087763390541799:=()
def tw9504634243330921339:=()
def tw17641302265375829446:=()
def tw10269347834290206749:=()
def tw10087100062581393787:=()
def tw4296557111192066239:=()
def tw17958358654640025011:=()
def tw14983199440447027522:=()
def tw13102878851947940200:=()
def tw1946690622843335880:=()
def tw1102217288149186365:=()
def tw14107544013544462559:=()
def tw11191703515535950448:=()
def tw13272982078404285804:=()
def tw7985378569346789238:=()
def tw3462444849270560586:=()
def tw8234034568983013798:=()
def tw137890367823225741:=()
def tw9154750812632404713:=()
def tw17479625894064780216:=()
def tw1144131492928219368:=()
def tw831865368161771578:=()
def tw6718080763947226736:=()
def tw17297426829018434861:=()
def tw10063978600562054424:=()
def tw15898141514669509382:=()
def tw10903586312052865976:=()
def tw8610092508236584501:=()
def tw11120802443491801301:=()
def tw10416759742524949909:=()
def tw742739089755379977:=()
def tw4675598889630412286:=()
def tw17212675201844997045:=()
def tw14705502274944208253:=()
def tw13313996169641971583:=()
def tw4946207285960607768:=()
def tw2759294448911757989:=()
def tw1396735522333720299:=()
def tw1989308941991834853:=()
def tw11022913230569139776:=()
def tw7773409491688527379:=()
def tw14983460002925254605:=()
def tw11621223193169409651:=()
def tw15528819067901287566:=()
def tw8467868936036382515:=()
def tw16104930192313462673:=()
def tw8570952038567353285:=()
def tw3337558189604755325:=()
def tw3162579751281339690:=()
def tw14615325374685757998:=()
def tw2257876621532954567:=()
def tw18127016865296309937:=()
def tw4252200694743049118:=()
def tw13445706399594211320:=()
def tw11336244200720321610:=()
def tw10423335710091501279:=()
def tw11102577368159076690:=()
def tw7256958784809998041:=()
def tw15362236325643901497:=()
def tw11653263379545114902:=()
def tw540353065897817897:=()
def tw5294305448876923561:=()
def tw15343258064807085628:=()
def tw4018579515173762944:=()
def tw7881667296596628477:=()
def tw6505488072969490916:=()
def tw3931393368288983763:=()
def tw2915253880224295321:=()
def tw17363481871478234018:=()
def tw1989141561385330659:=()
def tw13273783392581837444:=()
def tw14036666370099095754:=()
def tw6371913404038623412:=()
def tw11773753214102046666:=()
def tw2078979448575937016:=()
def tw13315544617707771876:=()
def tw10081049625476526512:=()
end PySem.W.Fast
open PySem PySem.W PyProof.Rows
set_option maxRecDepth 100000 in
set_option maxHeartbeats 0 in
theorem PySem.Challenge.cw_noughtways_k05_ranks_and_determinants_holds : PySem.Challenge.rw_noughtways_k05_ranks_and_determinants.Holds := by
 w_on;o_law;k_head;(case hw=>w_witness2)
 k_fill
 refine L2.Qxm (l:=PySem.Challenge.rw_noughtways_k05_ranks_and_determinants) (n:=63) (k:=30) (x := "_law_script") (CX:=L2.CX0) (sp:=L2.Qsv) rfl (by decide) rfl ⟨rfl,by decide,by decide,rfl⟩ (fun w h Y=>PySem.W.kIn_of Y) ?F ?S ?C ?T
 case F =>
  intro w mg fa h KX G hmg
  have ⟨d0,d1,d2,d3,d4,d5,d6,d7,d8,d9,d10,d11,d12,d13,d14,d15,d16,d17,d18,d19,d20,d21,d22,d23,d24,d25,d26,d27⟩:L2.Dfn (L2.KOf KX) mg "law" My.Qkz∧L2.Dfn (L2.KOf KX) mg "_law_cell" My.Qez∧L2.Dfn (L2.KOf KX) mg "is_whole" My.Qga∧L2.Dfn (L2.KOf KX) mg "is_row" My.Qjb∧L2.Dfn (L2.KOf KX) mg "is_grid" My.Qhj∧L2.Dfn (L2.KOf KX) mg "need_table" My.Qep∧L2.Dfn (L2.KOf KX) mg "shared_divisor" My.Qcv∧L2.Dfn (L2.KOf KX) mg "lead_of" My.Qhk∧L2.Dfn (L2.KOf KX) mg "line_of" My.Qhl∧L2.Dfn (L2.KOf KX) mg "cleared" My.Qhm∧L2.Dfn (L2.KOf KX) mg "left_of" My.Qhn∧L2.Dfn (L2.KOf KX) mg "steps_of" My.Qgb∧L2.Dfn (L2.KOf KX) mg "rank" My.Qpf∧L2.Dfn (L2.KOf KX) mg "without_column" My.Qcw∧L2.Dfn (L2.KOf KX) mg "determinant_of" My.Qcx∧L2.Dfn (L2.KOf KX) mg "determinant" My.Qd2∧L2.Dfn (L2.KOf KX) mg "_law_pen" My.Qho∧L2.Dfn (L2.KOf KX) mg "_law_draw" My.Qgc∧L2.Dfn (L2.KOf KX) mg "_law_whole" My.Qfb∧L2.Dfn (L2.KOf KX) mg "_law_odd" My.Qhp∧L2.Dfn (L2.KOf KX) mg "_law_table" My.Qfc∧L2.Dfn (L2.KOf KX) mg "_law_is_square" My.Qc3∧L2.Dfn (L2.KOf KX) mg "_law_bent" My.Qgd∧L2.Dfn (L2.KOf KX) mg "_law_worth" My.Qfd∧L2.Dfn (L2.KOf KX) mg "_law_sets" My.Qge∧L2.Dfn (L2.KOf KX) mg "_law_rank" My.Qgf∧L2.Dfn (L2.KOf KX) mg "_law_right" My.Qff∧L2.Dfn (L2.KOf KX) mg "_law_refused" My.Qd3:=by
   refine ⟨?_,?_,?_,?_,?_,?_,?_,?_,?_,?_,?_,?_,?_,?_,?_,?_,?_,?_,?_,?_,?_,?_,?_,?_,?_,?_,?_,?_⟩ <;> (dsimp only [L2.KOf];refine' My.Q08 KX G ?a ?l ?c ?k;(case a=>k_is);(case l=>k_is);(case c=>k_is);(case k=>k_is))
  have ⟨z0,z1,z2,z3,z4,z5,z6,z7,z8,z9,z10,z11,z12,z13⟩:mg "ValueError" = none∧mg "abs" = none∧mg "all" = none∧mg "bool" = none∧mg "divmod" = none∧mg "enumerate" = none∧mg "int" = none∧mg "isinstance" = none∧mg "len" = none∧mg "list" = none∧mg "max" = none∧mg "range" = none∧mg "tuple" = none∧mg "zip" = none:=by
   refine ⟨?_,?_,?_,?_,?_,?_,?_,?_,?_,?_,?_,?_,?_,?_⟩ <;> (refine PySem.W.mg_none_of KX G ?_;(try dsimp only [L2.KOf]);k_is)
  have y0:∃ u,mg "MOST_ROWS" = some u∧L2.RelV (L2.V.int (4)) u:=by
   refine' My.Qaaf (K:=L2.KOf KX) KX G ?a
   (case a=>(try dsimp only [L2.KOf]);k_is)
  have zx:L2.Exs (L2.KOf KX) mg:=by
   dsimp only [L2.KOf]
   refine' L2.Q72 KX G ?e0 ?e1 ?e2 ?e3 ?e4 ?e5 ?e6 ?e7 ?e8 ?e9 ?e10 ?ok
   (case e0=>k_is);(case e1=>k_is);(case e2=>k_is);(case e3=>k_is);(case e4=>k_is);(case e5=>k_is);(case e6=>k_is);(case e7=>k_is);(case e8=>k_is);(case e9=>k_is);(case e10=>k_is)
   (case ok=>kernel_rfl)
  have dk:L2.Dfn (L2.KOf KX) mg "_law_kind" My.Qe0:=by
   dsimp only [L2.KOf]
   refine' My.Q08 KX G ?a ?l ?c ?k
   (case a=>k_is);(case l=>k_is);(case c=>k_is);(case k=>k_is)
  have tx:My.Txt (L2.KOf KX) mg:=⟨z0,z1,z2,z3,z4,z5,z6,z7,z8,z9,z10,z11,z12,z13,y0,zx,dk⟩
  refine My.Qaag hmg tx d0 d1 fun d hd=>?_
  simp only [My.ds,mem_cons,not_mem_nil,or_false] at hd
  rcases hd with rfl | rfl | rfl | rfl | rfl | rfl | rfl | rfl | rfl | rfl | rfl | rfl | rfl | rfl | rfl | rfl | rfl | rfl | rfl | rfl | rfl | rfl | rfl | rfl | rfl | rfl
  ·exact d2
  ·exact d3
  ·exact d4
  ·exact d5
  ·exact d6
  ·exact d7
  ·exact d8
  ·exact d9
  ·exact d10
  ·exact d11
  ·exact d12
  ·exact d13
  ·exact d14
  ·exact d15
  ·exact d16
  ·exact d17
  ·exact d18
  ·exact d19
  ·exact d20
  ·exact d21
  ·exact d22
  ·exact d23
  ·exact d24
  ·exact d25
  ·exact d26
  ·exact d27
 case S=>exact fun K H a ns hl _ hS=>⟨a,ns,rfl,hS,hl,fun _=>rfl⟩
 case C=>exact fun _ _ _ _ z=>z
 case T=>exact fun w a q=>L2.Qad2 (by first | kernel_rfl | exact rfl | decide) a q
